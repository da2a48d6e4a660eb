/- slices.Clone, slices.Grow and slices.Concat at texts. Written by wip/gen_q.py out of QA.tpl. -/
import Derived.Test.YthpofpndlkhciaaOW
import Derived.Test.YthpofpndlkhciaaQ0
import Derived.Test.YthpofpndlkhciaaChecked
import Derived.WalkKit
import Derived.ProofKit
import Derived.OpenShut
import Derived.Handy
import Derived.BigQuiet
import Derived.OwnWalk
import Derived.Deep.RegionHeld3
import Derived.Deep.AppendLies
import Derived.Laws.OwnMore
import Derived.Lib.Hide
import Derived.WalkSmall
import Derived.WalkLawsBesides
namespace Go.Proofs.Ythpofpndlkhciaa
open Go.RowKit
/-! ### Parts of a row -/
structure Pt where
  ao : Option Addr
  m : Nat
  c : Nat
  cs : List Value
/-- A part's cells, where they lie. -/
def PtOk (s : Nat) (w : World) (p : Pt) : Prop := SrcAt w p.ao p.c p.cs ∧ p.cs.length = p.m * s ∧ ∀ u ∈ p.cs, u.oneCell' = true
def sumM (ps : List Pt) : Nat := (ps.map (·.m)).sum
def cellsP (ps : List Pt) : List Value := ps.flatMap (·.cs)
theorem sum_step (ps : List Pt) (i : Nat) (h : i < ps.length) : sumM (ps.take (i + 1)) = sumM (ps.take i) + ps[i].m := by
  unfold sumM
  rw [List.take_succ_eq_append_getElem h, List.map_append, List.sum_append]
  simp
theorem cells_step (ps : List Pt) (i : Nat) (h : i < ps.length) : cellsP (ps.take (i + 1)) = cellsP (ps.take i) ++ ps[i].cs := by
  unfold cellsP
  rw [List.take_succ_eq_append_getElem h, List.flatMap_append]
  simp
theorem sum_le (ps : List Pt) (i : Nat) : sumM (ps.take i) ≤ sumM ps := by
  unfold sumM
  conv => rhs; rw [← List.take_append_drop i ps, List.map_append, List.sum_append]
  omega
theorem sum_all (ps : List Pt) : sumM (ps.take ps.length) = sumM ps := by rw [List.take_length]
theorem cells_all (ps : List Pt) : cellsP (ps.take ps.length) = cellsP ps := by rw [List.take_length]
theorem Try.infoQs : (Try.prog.info? 9).map (fun i => (i.zero, i.size, i.bytes)) = some (some (.string ⟨#[]⟩), 1, 16) := by kernel_rfl
/-- A row of the call's own. -/
def RowQs (m : Nat) (cs : List Value) (w : World) (e : Ending) (w' : World) : Prop := ∃ ao cap, e = .returned (.slice ao m cap) ∧ w'.ownsRow w.heap.size 9 1 (.slice ao m cap) m cs ∧ Below w.heap.size w w'
set_option maxRecDepth 100000 in
theorem cloneQs_any (ao : Option Addr) (m c : Nat) (cs : List Value) (hm : m ≤ 400) (hl : cs.length = m * 1) (h1 : ∀ u ∈ cs, u.oneCell' = true) (w : World) (h : SrcAt w ao c cs) :
    Calls Try.prog 18 #[.slice ao m c] w (RowQs m cs w) := by
  have he := fun (ao : Option Addr) (n c : Nat) (wx : World) => Lib.run_eql_slice_nil (P := Try.prog) wx 22 9 ao n c 0 0 Try.underlying22
  cases ao with
  | none =>
    obtain ⟨rfl, rfl⟩ := h.1 rfl
    obtain rfl : m = 0 := by simp at hl; omega
    clear h h1
    go_enter Try.func18, Try.ntmps18
    go_wp2
    go_returns
    exact ⟨none, 0, rfl, World.ownsRow_nil _ _ _ _, by (first | exact gwT | exact lzT)⟩
  | some ad =>
    have H := Lib.hid (fun wx (hb : Below w.heap.size w wx) => src_below h hb)
    have O := Lib.hid h1
    obtain ⟨j0, hj, hy1, hy2, hy3⟩ := info_parts Try.infoQs
    clear h h1
    go_enter Try.func18, Try.ntmps18
    go_wp2_with (at_builtin; refine wpList_append_src rfl _ _ 22 rfl w.heap.size 9 j0 _ 1 16 Try.underlying22 hj hy1 hy2 hy3 rfl (by decide) (.slice (some ⟨w.heap.size, 0, none⟩) 0 0) 0 [] rfl (own_empty (Nat.le_refl _) (heap_alloc_new w _)) (some ad) m c cs rfl (H.out _ (by (first | exact gwT | exact lzT))) hl O.out (by unfold maxLen; omega) (by omega) (by simp) ?_)
    intro v' w2 hown2 hgrow
    have hb2 : Below w.heap.size w w2 := Below.grown (by (first | exact gwT | exact lzT)) hgrow (by simp) (fun k hk => by cases hk; simp)
    obtain ⟨oa2, oc2, rfl⟩ := own_form hown2
    replace hown2 := Lib.hid hown2
    clear hgrow H O hj hy1 hy2 hy3
    go_wp2
    go_returns
    exact ⟨oa2, oc2, rfl, by simpa using hown2.out, hb2⟩
set_option maxRecDepth 100000 in
set_option maxHeartbeats 4000000 in
theorem growQs_any (n : Nat) (hn : n ≤ 400) (w : World) : Calls Try.prog 26 #[.slice none 0 0, .int .i64 (n : Int)] w (RowQs 0 [] w) := by
  have hw : IntKind.i64.wrap (n : Int) = (n : Int) := by rw [IntKind.wrap_i64]; omega
  have h1 : ¬ (n : Int) < 0 := by omega
  rcases Nat.eq_zero_or_pos n with rfl | h0
  · go_enter Try.func26, Try.ntmps26
    go_wp2
    go_returns
    exact ⟨none, 0, rfl, World.ownsRow_nil _ _ _ _, by (first | exact gwT | exact lzT)⟩
  · have h2 : (0 : Int) < (n : Int) := by omega
    have hby : Try.t9.bytes = 16 := rfl
    have h48 : ¬ (281474976710656 < Builtin.nextslicecap n 0 * Try.t9.bytes) := by rw [nextslicecap_zero h0, hby]; omega
    have h4 : (n : Int) * (Try.t9.bytes : Int) ≤ 281474976710656 := by rw [hby]; omega
    have h5 : (0 : Int) ≤ (n : Int) := by omega
    have hge := grownCap_ge w n 0 9
    have hle := grownCap_le_maxLen w n 0 9 (by unfold maxLen; omega)
    replace hge := Lib.hid hge
    replace hle := Lib.hid hle
    clear hby
    go_enter Try.func26, Try.ntmps26
    go_wp2
    go_returns
    refine ⟨_, grownCap w n 0 9, rfl, World.ownsRow_made _ _ _ (Nat.le_refl _) hle.out ?_, by (first | exact gwT | exact lzT)⟩
    have := hge.out
    unfold grownCap at this ⊢
    simp [Builtin.zeroCells]
    try omega
set_option maxRecDepth 100000 in
set_option maxHeartbeats 4000000 in
theorem concatQs_any (g c : Nat) (ps : List Pt) (hm : sumM ps ≤ 400) (w : World) (hg : g < w.heap.size) (hk : ∀ i (h : i < ps.length), w.cell? ⟨g, i, none⟩ = some (.slice ps[i].ao ps[i].m ps[i].c)) (hp : ∀ i (h : i < ps.length), PtOk 1 w ps[i]) (hn : ps.length ≤ 9) :
    Calls Try.prog 19 #[.slice (some ⟨g, 0, none⟩) ps.length c] w (RowQs (sumM ps) (cellsP ps) w) := by
  have Gr := Lib.hid (fun wx => growQs_any (sumM ps) hm wx)
  have C := Lib.hid (fun wx (hb : Below w.heap.size w wx) i (h : i < ps.length) => (hb.cell (p := ⟨g, i, none⟩) hg).trans (hk i h))
  have S := Lib.hid (fun i (h : i < ps.length) => hp i h)
  have T1 := Lib.hid (fun i (h : i < ps.length) => sum_step ps i h)
  have T2 := Lib.hid (fun i (h : i < ps.length) => cells_step ps i h)
  have T3 := Lib.hid (fun i => sum_le ps i)
  have T4 := Lib.hid (And.intro (sum_all ps) (cells_all ps))
  obtain ⟨j0, hj, hy1, hy2, hy3⟩ := info_parts Try.infoQs
  clear hk hp
  generalize hM : sumM ps = M at *
  generalize hL : cellsP ps = L at *
  clear hM hL
  go_enter Try.func19, Try.ntmps19
  go_wp2
  go_loopw [3, 11] (fun x y wr => ∃ i : Nat, i ≤ ps.length ∧ y = .int .i64 (i : Int) ∧ x = .int .i64 (sumM (ps.take i) : Int) ∧ Below w.heap.size w wr) (fun _ y _ => ps.length - (intOf y).toNat)
  case atStart => exact ⟨0, Nat.zero_le _, rfl, rfl, by (first | exact gwT | exact lzT)⟩
  case round =>
    obtain ⟨i, hi, rfl, rfl, hb⟩ := hrel
    rename World => wr
    have hwz := hb.size
    have i1 : InW g wr := ⟨by omega⟩
    by_cases hlt : i < ps.length
    · have k0 := C.out wr hb i hlt
      have t1 := T1.out i hlt
      have t3 := T3.out i
      have t3' := T3.out (i + 1)
      have hI : (i : Int) < (ps.length : Int) := by omega
      generalize ps[i] = p at *
      obtain ⟨ao, m, pc, pcs⟩ := p
      dsimp only at k0 t1
      generalize hs0 : sumM (ps.take i) = s0 at *
      generalize hs1 : sumM (ps.take (i + 1)) = s1 at *
      have t1' := Lib.hid t1
      replace hs1 := Lib.hid hs1
      have hw : ¬ ((s0 : Int) + (m : Int)) < 0 := by omega
      have hb1 : s0 + m ≤ 400 := by omega
      clear t1 t3 t3' hs0 T2 T1 T3 T4 Gr C S
      go_wp2
      go_roundw
      case rel => exact ⟨i + 1, by omega, by go_num, by rw [hs1.out, t1'.out]; go_num, by (first | exact gwT | exact lzT)⟩
      case measure => simp [intOf]; omega
    · obtain rfl : i = ps.length := by omega
      have hI : ¬ ((ps.length : Nat) : Int) < (ps.length : Int) := by omega
      rw [T4.out.1]
      go_wp2_with fail
      refine (Gr.out _).mono ?_
      rintro e w1 ⟨oa, oc, rfl, hown, hb1⟩
      have hbW : Below w.heap.size w w1 := hb.trans (hb1.mono hwz)
      have hO := Lib.hid (owns_base hown hwz)
      clear Gr hown hb1 i1 T1
      dsimp only
      go_wp2
      go_loopw [6, 27] (fun x y wq => ∃ (i : Nat) (oa : Option Addr) (oc : Nat), i ≤ ps.length ∧ y = .int .i64 (i : Int) ∧ x = .slice oa (sumM (ps.take i)) oc ∧ wq.ownsRow w.heap.size 9 1 (.slice oa (sumM (ps.take i)) oc) (sumM (ps.take i)) (cellsP (ps.take i)) ∧ Below w.heap.size w wq) (fun _ y _ => ps.length - (intOf y).toNat)
      case atStart => exact ⟨0, oa, oc, Nat.zero_le _, rfl, rfl, hO.out, hbW⟩
      case round =>
        obtain ⟨i, oa, oc, hi, rfl, rfl, hown, hb⟩ := hrel
        rename World => wq
        have hwz := hb.size
        have i1 : InW g wq := ⟨by omega⟩
        have hK := Lib.hid hown
        clear hO hbW hown
        by_cases hlt : i < ps.length
        · have k0 := C.out wq hb i hlt
          obtain ⟨s1, s2, s3⟩ := S.out i hlt
          have t1 := sum_step ps i hlt
          have t2 := T2.out i hlt
          have t3 := T3.out (i + 1)
          have hI : (i : Int) < (ps.length : Int) := by omega
          generalize ps[i] = p at *
          obtain ⟨ao, m, pc, pcs⟩ := p
          dsimp only at k0 t1 t2 s1 s2 s3
          have t2' := Lib.hid t2
          have t1' := Lib.hid t1
          have hb1 : sumM (ps.take i) + m ≤ 400 := by omega
          generalize sumM (ps.take i) = s0 at *
          have S1 := Lib.hid s1
          clear t1 t2 t3 C S T2 T3 T4 s1
          go_wp2_with (at_builtin; refine wpList_append_src rfl _ _ 22 rfl w.heap.size 9 j0 _ 1 16 Try.underlying22 hj hy1 hy2 hy3 rfl (by decide) (.slice oa s0 oc) s0 _ rfl (owns_below hK.out (by (first | exact gwT | exact lzT))) ao m pc pcs rfl (src_below S1.out (by (first | exact gwT | exact lzT))) s2 s3 (by unfold maxLen; omega) (by omega) hwz ?_)
          intro v' w2 hown2 hgrow
          have hb2 := Below.grown hb hgrow hwz (fun k hk => (hK.out.lt k hk).1)
          obtain ⟨oa2, oc2, rfl⟩ := own_form hown2
          replace hown2 := Lib.hid hown2
          clear hgrow hK i1 s2 s3 S1 k0
          go_wp2
          go_roundw
          case rel => exact ⟨i + 1, oa2, oc2, by omega, by go_num, by rw [t1'.out], by rw [t1'.out, t2'.out]; exact hown2.out, hb2⟩
          case measure => simp [intOf]; omega
        · obtain rfl : i = ps.length := by omega
          have hI : ¬ ((ps.length : Nat) : Int) < (ps.length : Int) := by omega
          rw [T4.out.1] at hK
          rw [T4.out.2] at hK
          rw [T4.out.1]
          go_wp2
          go_returns
          exact ⟨oa, oc, rfl, hK.out, hb⟩
end Go.Proofs.Ythpofpndlkhciaa

