/- act.Take. -/
import Derived.Test.YtmdjlngdpjjfiaaGreatDoorAW
import Derived.WalkKit
import Derived.ProofKit
import Derived.OpenShut
import Derived.Handy
import Derived.BigQuiet
import Derived.OwnWalk
import Derived.Deep.AppendLies
import Derived.Lib.Hide
import Derived.WalkSmall
import Derived.WalkLawsBesides
namespace Go.Proofs.YtmdjlngdpjjfiaaGreatDoor
open Go.RowKit
theorem Tryz.infoAct : (Tryz.prog.info? 38).map (fun i => (i.zero, i.size, i.bytes)) = some (some (.agg #[.int .i64 0, .slice none 0 0, .string ⟨#[]⟩, .slice none 0 0, .int .i64 0]), 5, 80) := by kernel_rfl
theorem acRow_keptA {T E t B B' tb : Nat} {w w' : World} {v : Value} {cs : List Ac} {cells : Array Value} {fr : Nat × Nat} (h : AcRow T E B w v cs) (hk : KeptA B' tb tb w w') (hb : w.heap[tb]? = some (.cells cells t fr)) (h1 : t ≠ T) (h2 : t ≠ E) : AcRow T E B w' v cs := by
  obtain ⟨vs, a, b⟩ := h
  exact ⟨vs, acVs_map a fun u n xs hu => owns_keptA hu hk (own_ne hu hb h1) (own_ne hu hb h1), owns_keptA b hk (own_ne b hb h2) (own_ne b hb h2)⟩
def joinA (cs : List Ac) : Except Int (List Ac × Nat) → Except Int (List Ac × Nat)
  | .error x => .error x
  | .ok (ds, q) => .ok (cs ++ ds, q)
theorem joinA_snoc (cs : List Ac) (c : Ac) (z : Except Int (List Ac × Nat)) : joinA cs (match z with | .error x => .error x | .ok (ds, q) => .ok (c :: ds, q)) = joinA (cs ++ [c]) z := by
  cases z with
  | error x => rfl
  | ok p =>
    obtain ⟨ds, q⟩ := p
    simp [joinA]
def lenV : Value → Nat
  | .slice _ n _ => n
  | _ => 0
theorem doA_nz {ts : List Tk} {cond : List Nd} {a : Nat} {x : Int} (h : doA ts cond a = .error x) : (x != 0) = true := by
  rw [doA_rest] at h
  split at h
  · cases h; rfl
  · exact restT_nz h
theorem oneA_nz {ts : List Tk} {a : Nat} {x : Int} (h : oneA ts a = .error x) : (x != 0) = true := by
  unfold oneA at h
  split at h
  · split at h
    · rename_i hp
      cases h
      exact parseT_nz hp
    · split at h
      · exact doA_nz h
      · cases h; rfl
  · exact doA_nz h
def TakeIs (x : Except Int (List Ac × Nat)) (w : World) (e : Ending) (w' : World) : Prop :=
  match x with
  | .error x => e = .returned (.tuple #[.slice none 0 0, .int .i64 0, .int .i64 x]) ∧ Below w.heap.size w w'
  | .ok (cs, n) => ∃ v, e = .returned (.tuple #[v, .int .i64 (n : Int), .int .i64 0]) ∧ AcRow 80 38 w.heap.size w' v cs ∧ Below w.heap.size w w'
set_option maxRecDepth 100000 in
set_option maxHeartbeats 4000000 in
theorem atake_any (ao : Option Addr) (cap : Nat) (ts : List Tk) (from' : Int) (w : World) (hB : Base w ao ts) :
    Calls Tryz.prog 6 #[.slice ao ts.length cap, .int .i64 from'] w (TakeIs (takeT ts from') w) := by
  obtain ⟨x, hx⟩ : ∃ x, takeT ts from' = x := ⟨_, rfl⟩
  rw [hx]
  unfold takeT at hx
  by_cases hf : from' < 0 ∨ (ts.length : Int) < from'
  · rw [if_pos hf] at hx
    subst hx
    rcases hf with hf | hf
    · clear hB
      go_enter Tryz.func6, Tryz.ntmps6
      go_wp2
      go_returns
      exact ⟨rfl, by repeat' (first | (with_reducible exact Below.refl _ _) | (with_reducible assumption) | (with_reducible refine Below.alloc ?_ ?_ _) | (with_reducible refine Below.drew ?_) | (with_reducible refine belowN ?_ _) | (with_reducible refine Below.setCell ?_ ?_ _) | (with_reducible refine belowG ?_ ?_) | (with_reducible exact Nat.le_refl _) | (with_reducible refine le_sizeG ?_) | (with_reducible refine le_sizeA ?_) | (with_reducible refine le_sizeC ?_) | (with_reducible refine le_sizeD ?_) | (with_reducible refine le_sizeN ?_) | go_size | (simp [go_sem]; done))⟩
    · have h2 : ¬ from' < 0 := by omega
      clear hB
      go_enter Tryz.func6, Tryz.ntmps6
      go_wp2
      go_returns
      exact ⟨rfl, by repeat' (first | (with_reducible exact Below.refl _ _) | (with_reducible assumption) | (with_reducible refine Below.alloc ?_ ?_ _) | (with_reducible refine Below.drew ?_) | (with_reducible refine belowN ?_ _) | (with_reducible refine Below.setCell ?_ ?_ _) | (with_reducible refine belowG ?_ ?_) | (with_reducible exact Nat.le_refl _) | (with_reducible refine le_sizeG ?_) | (with_reducible refine le_sizeA ?_) | (with_reducible refine le_sizeC ?_) | (with_reducible refine le_sizeD ?_) | (with_reducible refine le_sizeN ?_) | go_size | (simp [go_sem]; done))⟩
  · rw [if_neg hf] at hx
    obtain ⟨a0, rfl⟩ : ∃ a0 : Nat, from' = (a0 : Int) := ⟨from'.toNat, by omega⟩
    have h1 : ¬ (a0 : Int) < 0 := by omega
    have h2 : ¬ (ts.length : Int) < (a0 : Int) := by omega
    rw [show Int.toNat (a0 : Int) = a0 from rfl] at hx
    replace hx := Lib.hid hx
    obtain ⟨j0, hj, hy1, hy2, hy3⟩ := info_parts Tryz.infoAct
    have A := Lib.hid (fun (b : Nat) x wx (s : TkrAt w w.heap.size ao cap ts b wx) (hb : oneA ts b = x) => (by rw [← hb]; exact tact_any hB wx s : Calls Tryz.prog 14 #[.pointer (some ⟨w.heap.size, 0, none⟩)] wx (ActOneIs w.heap.size w.heap.size ao cap ts x wx)))
    have T := Lib.hid (fun (t : ByteArray) b bb wx (s : TkrAt w w.heap.size ao cap ts b wx) (hb : tkAt ts b t.data.toList = bb) => (by rw [← hb]; exact ttakes_any t hB wx s : Calls Tryz.prog 15 #[.pointer (some ⟨w.heap.size, 0, none⟩), .string t] wx (TookIs w.heap.size bb b wx)))
    have hS0 : TkrAt w w.heap.size ao cap ts a0 (w.alloc (tkrB ao cap ts a0)) := ⟨heap_alloc_new w _, Nat.le_refl _, by omega, by repeat' (first | (with_reducible exact Below.refl _ _) | (with_reducible assumption) | (with_reducible refine Below.alloc ?_ ?_ _) | (with_reducible refine Below.drew ?_) | (with_reducible refine belowN ?_ _) | (with_reducible refine Below.setCell ?_ ?_ _) | (with_reducible refine belowG ?_ ?_) | (with_reducible exact Nat.le_refl _) | (with_reducible refine le_sizeG ?_) | (with_reducible refine le_sizeA ?_) | (with_reducible refine le_sizeC ?_) | (with_reducible refine le_sizeD ?_) | (with_reducible refine le_sizeN ?_) | go_size | (simp [go_sem]; done))⟩
    replace hS0 := Lib.hid hS0
    clear hB hf
    go_enter Tryz.func6, Tryz.ntmps6
    go_wp2
    go_loopw [8] (fun v wr => ∃ (cs : List Ac) (a : Nat) (oa : Option Addr) (oc : Nat), v = .slice oa cs.length oc ∧ AcRow 80 38 w.heap.size wr (.slice oa cs.length oc) cs ∧ TkrAt w w.heap.size ao cap ts a wr ∧ cs.length ≤ 8 ∧ x = joinA cs (takeA (8 - cs.length) ts a)) (fun v _ => 8 - lenV v)
    case atStart =>
      refine ⟨[], a0, none, 0, rfl, acRow_nil _ _ _ _, hS0.out, by decide, ?_⟩
      rw [← hx.out]
      cases takeA 8 ts a0 with
      | error x => simp [joinA, *]
      | ok p => simp [joinA, *]
    case round =>
      clear hS0 hx
      obtain ⟨cs, a, oa, oc, rfl, hrow, hS, h8, hR⟩ := hrel
      rename World => wr
      have hz := hS.env.size
      replace hR := Lib.hid hR
      by_cases h88 : cs.length = 8
      · have hd : ((cs.length : Int) == 8) = true := by rw [beq_iff_eq]; omega
        have hb := hS.env
        clear hrow hS A T
        go_wp2
        go_returns
        have := hR.out
        rw [h88] at this
        rw [this]
        exact ⟨rfl, hb⟩
      · have hd : ((cs.length : Int) == 8) = false := by rw [beq_eq_false_iff_ne]; omega
        obtain ⟨f, hff⟩ : ∃ f, 8 - cs.length = f + 1 := ⟨7 - cs.length, by omega⟩
        have hR2 := hR.out
        rw [hff, takeA] at hR2
        rcases ho : oneA ts a with x1 | ⟨c, n⟩
        · rw [ho] at hR2
          replace hR2 := Lib.hid hR2
          have hnz := oneA_nz ho
          go_wp2_with fail
          refine (A.out a _ wr hS ho).mono ?_
          intro e w1 hr
          obtain ⟨rfl, hK⟩ := hr
          have hb := hS.env.trans hK.below
          clear hK hrow hS A T ho
          go_wp2
          go_returns
          rw [hR2.out]
          exact ⟨rfl, hb.trans (Below.mono (by repeat' (first | (with_reducible exact Below.refl _ _) | (with_reducible assumption) | (with_reducible refine Below.alloc ?_ ?_ _) | (with_reducible refine Below.drew ?_) | (with_reducible refine belowN ?_ _) | (with_reducible refine Below.setCell ?_ ?_ _) | (with_reducible refine belowG ?_ ?_) | (with_reducible exact Nat.le_refl _) | (with_reducible refine le_sizeG ?_) | (with_reducible refine le_sizeA ?_) | (with_reducible refine le_sizeC ?_) | (with_reducible refine le_sizeD ?_) | (with_reducible refine le_sizeN ?_) | go_size | (simp [go_sem]; done))) hb.size)⟩
        · rw [ho] at hR2
          replace hR2 := Lib.hid hR2
          go_wp2_with fail
          refine (A.out a _ wr hS ho).mono ?_
          intro e w1 hr
          obtain ⟨iv, xv, rfl, hK, hT, hI, hX⟩ := hr
          have hn : n ≤ ts.length := oneA_le ho
          have hrow1 := acRow_keptA hrow hK hS.blk (by decide) (by decide)
          have hS1 : TkrAt w w.heap.size ao cap ts n w1 := ⟨hT, Nat.le_refl _, hn, hS.env.trans hK.below⟩
          have hz1 := hS1.env.size
          obtain ⟨io, ic, hi1⟩ := own_form hI
          obtain ⟨xo, xc, hx1⟩ := own_form hX
          subst hi1 hx1
          obtain ⟨vs, hV, hO⟩ := hrow1
          have hc : AcV 80 w.heap.size w1 c [.int .i64 c.kind, .slice io c.cond.length ic, .string ⟨c.name.toArray⟩, .slice xo c.x.length xc, .int .i64 c.n] := ⟨_, _, rfl, owns_base hI hz, owns_base hX hz⟩
          replace hV := Lib.hid hV
          replace hO := Lib.hid hO
          replace hc := Lib.hid hc
          replace hS1 := Lib.hid hS1
          clear hI hX hT hK hrow hS ho
          go_wp2_with (at_builtin; refine wpList_append_lies _ rfl _ _ 27 rfl w.heap.size 38 j0 _ 5 80 Tryz.underlying27 hj hy1 hy2 hy3 rfl (by decide) (.slice oa cs.length oc) cs.length vs rfl (owns_below hO.out (by repeat' (first | (with_reducible exact Below.refl _ _) | (with_reducible assumption) | (with_reducible refine Below.alloc ?_ ?_ _) | (with_reducible refine Below.drew ?_) | (with_reducible refine belowN ?_ _) | (with_reducible refine Below.setCell ?_ ?_ _) | (with_reducible refine belowG ?_ ?_) | (with_reducible exact Nat.le_refl _) | (with_reducible refine le_sizeG ?_) | (with_reducible refine le_sizeA ?_) | (with_reducible refine le_sizeC ?_) | (with_reducible refine le_sizeD ?_) | (with_reducible refine le_sizeN ?_) | go_size | (simp [go_sem]; done)))) ⟨_, 0, none⟩ 1 1 [.int .i64 c.kind, .slice io c.cond.length ic, .string ⟨c.name.toArray⟩, .slice xo c.x.length xc, .int .i64 c.n] rfl rfl (World.news_of_block (new_at (by simp))) (by intro u hu; simp at hu; rcases hu with rfl | rfl | rfl | rfl | rfl <;> rfl) (by decide) (by unfold maxLen; omega) (by omega) (by simp [go_sem]; omega) _ rfl ?_)
          intro g' cap' w2 hown1 hgrow hat1 hg1
          have hl2 : cs.length + 1 = (cs ++ [c]).length := by simp
          have hbW : Below w1.heap.size w1 ((w1.alloc (.cells #[.int .i64 c.kind, .slice io c.cond.length ic, .string ⟨c.name.toArray⟩, .slice xo c.x.length xc, .int .i64 c.n] 38 (0, 0))).alloc (.cells #[.int .i64 c.kind, .slice io c.cond.length ic, .string ⟨c.name.toArray⟩, .slice xo c.x.length xc, .int .i64 c.n] 38 (0, 0))) := by repeat' (first | (with_reducible exact Below.refl _ _) | (with_reducible assumption) | (with_reducible refine Below.alloc ?_ ?_ _) | (with_reducible refine Below.drew ?_) | (with_reducible refine belowN ?_ _) | (with_reducible refine Below.setCell ?_ ?_ _) | (with_reducible refine belowG ?_ ?_) | (with_reducible exact Nat.le_refl _) | (with_reducible refine le_sizeG ?_) | (with_reducible refine le_sizeA ?_) | (with_reducible refine le_sizeC ?_) | (with_reducible refine le_sizeD ?_) | (with_reducible refine le_sizeN ?_) | go_size | (simp [go_sem]; done))
          have hrow2 : AcRow 80 38 w.heap.size w2 (.slice (some ⟨g', 0, none⟩) (cs ++ [c]).length cap') (cs ++ [c]) := by
            rw [← hl2]
            exact acRow_grown (by decide) (acVs_keep hV.out hbW) (owns_below hO.out hbW) (acVs_single (acV_keep hc.out hbW)) hgrow (by simp) hown1
          have hS2 : TkrAt w w.heap.size ao cap ts n w2 := ⟨grown_blk (owns_below hO.out hbW) (blk_keep hS1.out.blk hbW) (by decide) hgrow, Nat.le_refl _, hn, Below.grown (hS1.out.env.trans (hbW.mono hz1)) hgrow (Nat.le_trans hz1 hbW.size) (fun k hk => (hO.out.lt k hk).1)⟩
          clear hV hO hc hS1 hbW hgrow hown1 hat1 hg1 A
          rcases hsc : tkAt ts n [59] with _ | _
          · rw [hsc] at hR2
            go_wp2_with fail
            refine (T.out ⟨#[59]⟩ n false _ hS2 hsc).mono ?_
            intro e w3 hr
            obtain ⟨rfl, hb⟩ := hr
            have hS3 := tkr_keep hS2 (show Below _ _ w3 from hb)
            have hrow3 := Lib.hid (acRow_keep hrow2 (show Below _ _ w3 from hb))
            obtain ⟨t0, t1, t2, t3⟩ := tkr_cells hS3
            have hb3 := hS3.env
            have i1 := InW.mk t2
            clear hb hS2 hrow2 T hS3
            clear hsc
            dsimp only
            go_wp2_with fail
            (refine wp_region_G (by kernel_rfl) (by kernel_rfl) ?_; (repeat (go_big_quiet_step (fail))); refine wpQuiet_nil ?_; intro _ hw'; obtain ⟨pg, hw''⟩ := hw'; subst hw'')
            go_wp2
            go_returns
            have h3 := hR2.out
            rw [if_neg (by decide)] at h3
            rw [h3]
            refine ⟨_, rfl, ?_, hb3.trans (Below.mono (by repeat' (first | (with_reducible exact Below.refl _ _) | (with_reducible assumption) | (with_reducible refine Below.alloc ?_ ?_ _) | (with_reducible refine Below.drew ?_) | (with_reducible refine belowN ?_ _) | (with_reducible refine Below.setCell ?_ ?_ _) | (with_reducible refine belowG ?_ ?_) | (with_reducible exact Nat.le_refl _) | (with_reducible refine le_sizeG ?_) | (with_reducible refine le_sizeA ?_) | (with_reducible refine le_sizeC ?_) | (with_reducible refine le_sizeD ?_) | (with_reducible refine le_sizeN ?_) | go_size | (simp [go_sem]; done))) hb3.size)⟩
            rw [hl2]
            exact acRow_keep hrow3.out (by repeat' (first | (with_reducible exact Below.refl _ _) | (with_reducible assumption) | (with_reducible refine Below.alloc ?_ ?_ _) | (with_reducible refine Below.drew ?_) | (with_reducible refine belowN ?_ _) | (with_reducible refine Below.setCell ?_ ?_ _) | (with_reducible refine belowG ?_ ?_) | (with_reducible exact Nat.le_refl _) | (with_reducible refine le_sizeG ?_) | (with_reducible refine le_sizeA ?_) | (with_reducible refine le_sizeC ?_) | (with_reducible refine le_sizeD ?_) | (with_reducible refine le_sizeN ?_) | go_size | (simp [go_sem]; done)))
          · rw [hsc] at hR2
            go_wp2_with fail
            refine (T.out ⟨#[59]⟩ n true _ hS2 hsc).mono ?_
            intro e w3 hr
            obtain ⟨rfl, hb⟩ := hr
            have hS3 := tkr_move hS2 (tkAt_lt hsc) (show Below _ _ w3 from hb)
            have hrow3 := acRow_keptA hrow2 (keptA_moved (B := w.heap.size) (tb := w.heap.size) (ab := w.heap.size) (Nat.le_refl _) hS2.env.size (show Below _ _ w3 from hb)) hS2.blk (by decide) (by decide)
            clear hb hS2 hrow2 T
            replace hS3 := Lib.hid hS3
            replace hrow3 := Lib.hid hrow3
            clear hsc
            dsimp only
            go_wp2_with fail
            go_roundw
            case rel =>
              refine ⟨cs ++ [c], n + 1, _, cap', by rw [← hl2], hrow3.out, hS3.out, by omega, ?_⟩
              have := hR2.out
              rw [if_pos rfl] at this
              rw [← hl2, show 8 - (cs.length + 1) = f by omega]
              exact this.trans (joinA_snoc cs c (takeA f ts (n + 1)))
            case measure =>
              show 8 - (cs.length + 1) < 8 - cs.length
              omega
end Go.Proofs.YtmdjlngdpjjfiaaGreatDoor
