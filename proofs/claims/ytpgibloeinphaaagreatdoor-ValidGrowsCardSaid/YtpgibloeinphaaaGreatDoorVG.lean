/- Plain: a chart with one final state more at its end is as valid. No program. -/
import Derived.Test.YtpgibloeinphaaaGreatDoorV5
import Derived.Test.YtpgibloeinphaaaGreatDoorY6
import Derived.Test.YtpgibloeinphaaaGreatDoorW3
import Derived.Test.YtpgibloeinphaaaGreatDoorQ1
import Derived.Test.YtpgibloeinphaaaGreatDoorP1
namespace Go.Proofs.YtpgibloeinphaaaGreatDoor
theorem linesT_app : ∀ (a b : List UInt8),linesT (a ++ 10 :: b) = linesT a ++ linesT b
 | [],b => by
  show linesT (10 :: b) = [] :: linesT b
  rw [linesT,if_pos rfl]
 | c :: r,b => by
  rw [List.cons_append,linesT,linesT,linesT_app r b]
  split
  ·rfl
  ·cases h : linesT r with
   | nil => exact absurd h (linesT_ne r)
   | cons l ls => rfl
def zzT (nm : List UInt8) : List UInt8 := 10 :: (lwL 5 ++ 32 :: nm) ++ 10 :: lwL 12
def finS (nm : List UInt8) : St := ⟨nm,5,0,[],[],[],[]⟩
def withF (c : Ch) (nm : List UInt8) : Ch := { c with states := c.states ++ [finS nm] }
theorem parse_end : parseL (lwL 12) = .ok (ln0 12) := by kernel_rfl
theorem step_fin {c : Ch} (nm : List UInt8) (hk : (c.states.getD 0 st0).kind = 1) : (∃ e,stepT c 0 { ln0 5 with name := nm } = .error e) ∨ stepT c 0 { ln0 5 with name := nm } = .ok (withF c nm,(c.states.length : Int)) := by
 have hk2 : (c.states.getD (Int.toNat 0) st0).kind = 1 := hk
 have hk5 : ¬ (c.states.getD (Int.toNat 0) st0).kind = 5 := by rw [hk2];decide
 generalize hq : (c.states.getD (Int.toNat 0) st0).kind = q at hk2 hk5
 by_cases h49 : c.states.length = 49
 ·refine .inl ⟨13,?_⟩
  unfold stepT
  show (if (5 : Int) = 1 then _ else if (0 : Int) < 0 then _ else if (5 : Int) = 2 then _ else if (8 : Int) ≤ 5 then _ else _) = _
  rw [if_neg (show ¬ (5 : Int) = 1 by decide),if_neg (show ¬ (0 : Int) < 0 by decide),if_neg (show ¬ (5 : Int) = 2 by decide),if_neg (show ¬ (8 : Int) ≤ 5 by decide),hq,if_neg hk5,if_pos h49]
 ·by_cases hd : deepT c.states 49 0 = 8
  ·refine .inl ⟨23,?_⟩
   unfold stepT
   show (if (5 : Int) = 1 then _ else if (0 : Int) < 0 then _ else if (5 : Int) = 2 then _ else if (8 : Int) ≤ 5 then _ else _) = _
   rw [if_neg (show ¬ (5 : Int) = 1 by decide),if_neg (show ¬ (0 : Int) < 0 by decide),if_neg (show ¬ (5 : Int) = 2 by decide),if_neg (show ¬ (8 : Int) ≤ 5 by decide),hq,if_neg hk5,if_neg h49,if_pos hd]
  ·refine .inr ?_
   unfold stepT
   show (if (5 : Int) = 1 then _ else if (0 : Int) < 0 then _ else if (5 : Int) = 2 then _ else if (8 : Int) ≤ 5 then _ else _) = _
   rw [if_neg (show ¬ (5 : Int) = 1 by decide),if_neg (show ¬ (0 : Int) < 0 by decide),if_neg (show ¬ (5 : Int) = 2 by decide),if_neg (show ¬ (8 : Int) ≤ 5 by decide),hq,if_neg hk5,if_neg h49,if_neg hd]
   rfl
theorem step_end {c : Ch} (nm : List UInt8) (hs : 0 < c.states.length) : stepT (withF c nm) (c.states.length : Int) (ln0 12) = .ok (withF c nm,0) := by
 unfold stepT innerT
 show (if (12 : Int) = 1 then _ else if (c.states.length : Int) < 0 then _ else if (12 : Int) = 2 then _ else if (8 : Int) ≤ 12 then (if (c.states.length : Int) = 0 then _ else if (12 : Int) = 8 then _ else if (12 : Int) = 9 then _ else if (12 : Int) = 12 then _ else _) else _) = _
 rw [if_neg (show ¬ (12 : Int) = 1 by decide),if_neg (show ¬ (c.states.length : Int) < 0 by omega),if_neg (show ¬ (12 : Int) = 2 by decide),if_pos (show (8 : Int) ≤ 12 by decide),if_neg (show ¬ (c.states.length : Int) = 0 by omega),if_neg (show ¬ (12 : Int) = 8 by decide),if_neg (show ¬ (12 : Int) = 9 by decide),if_pos (show (12 : Int) = 12 from rfl)]
 have : ((withF c nm).states.getD c.states.length st0) = finS nm := by
  show (c.states ++ [finS nm]).getD c.states.length st0 = _
  simp
 rw [Int.toNat_natCast,this]
 rfl
theorem grown_text {l nm : List UInt8} {c d : Ch} (h : chartT l = .ok c) (hn : nmB nm = true) (h10 : ∀ x ∈ nm,x ≠ 10) (h2 : chartT (l ++ zzT nm) = .ok d) : d = withF c nm := by
 have sh := shape_chart h
 have g := good_chart h
 unfold chartT at h h2
 have e5 : linesT (lwL 5 ++ 32 :: nm) = [lwL 5 ++ 32 :: nm] := linesT_plain _ fun x hx => by
  rcases List.mem_append.1 hx with hx | hx
  ·exact (show ∀ x ∈ lwL 5,x ≠ 10 by decide) x hx
  ·rcases List.mem_cons.1 hx with rfl | hx
   ·decide
   ·exact h10 x hx
 have e12 : linesT (lwL 12) = [lwL 12] := linesT_plain _ (by decide)
 have el : linesT (l ++ zzT nm) = linesT l ++ [lwL 5 ++ 32 :: nm] ++ [lwL 12] := by
  unfold zzT
  rw [List.cons_append,linesT_app,linesT_app,e5,e12,List.append_assoc]
 rw [el,run_snoc,run_snoc] at h2
 cases hr : runT 0 (linesT l) ch0 (-1) with
 | error x => rw [hr] at h;cases h
 | ok p =>
  obtain ⟨c',o⟩ := p
  rw [hr] at h h2
  simp only at h h2
  split at h
  ·rename_i ho
   cases h
   subst ho
   have hk : (c.states.getD 0 st0).kind = 1 := by
    have := sh.root
    unfold stAt at this
    rw [this]
   have l1 : (∃ e,lineS c 0 (lwL 5 ++ 32 :: nm) = .error e) ∨ lineS c 0 (lwL 5 ++ 32 :: nm) = .ok (withF c nm,(c.states.length : Int)) := by
    unfold lineS
    split
    ·exact .inl ⟨_,rfl⟩
    ·rw [if_neg (show ¬ emptyT (lwL 5 ++ 32 :: nm) = true from fun h => by cases h),line_one (.inr (.inr (.inr rfl))) hn]
     exact step_fin nm hk
   have l2 : lineS (withF c nm) (c.states.length : Int) (lwL 12) = .ok (withF c nm,0) := by
    unfold lineS
    rw [if_neg (by decide),if_neg (by decide),parse_end]
    exact step_end nm g.some
   rcases l1 with ⟨e,l1⟩ | l1
   ·rw [l1] at h2
    by_cases q1 : 0 + (linesT l).length = 400
    ·rw [if_pos q1] at h2
     cases h2
    ·rw [if_neg q1] at h2
     cases h2
   ·rw [l1] at h2
    by_cases q1 : 0 + (linesT l).length = 400
    ·rw [if_pos q1] at h2
     cases h2
    ·rw [if_neg q1] at h2
     simp only [l2] at h2
     by_cases q2 : 0 + (linesT l ++ [lwL 5 ++ 32 :: nm]).length = 400
     ·rw [if_pos q2] at h2
      cases h2
     ·rw [if_neg q2] at h2
      exact (Except.ok.inj h2).symm
  ·cases h
end Go.Proofs.YtpgibloeinphaaaGreatDoor
