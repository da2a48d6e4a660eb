/- queue.Cancel; the reference's Ahead, Arm, Cancel, Due; the law's refs. -/
import Derived.Test.YthpofpndlkhciaaQF
import Derived.WalkKit
import Derived.ProofKit
import Derived.OpenShut
import Derived.Handy
import Derived.BigQuiet
import Derived.OwnWalk
import Derived.Lib.Hide
import Derived.WalkSmall
import Derived.WalkLawsBesides
namespace Go.Proofs.Ythpofpndlkhciaa
open Go.RowKit
/-- Timers of the call's own. -/
def TmsIs (T : TypeId) (l : List Tm) (w : World) (e : Ending) (w' : World) : Prop := ∃ ao cap, e = .returned (.slice ao l.length cap) ∧ w'.ownsRow w.heap.size T 3 (.slice ao l.length cap) l.length (tmsC l) ∧ Below w.heap.size w w'
set_option maxRecDepth 100000 in
theorem cancel_any (ao : Option Addr) (cap : Nat) (l : List Tm) (nm : ByteArray) (h40 : l.length ≤ 40) (w : World) (h : TmsAt 33 w ao cap l) : Calls Try.prog 15 #[.slice ao l.length cap, .string nm] w (TmsIs 33 (cancelT l nm) w) := by
  have C := Lib.hid (fun wx (hb : Below w.heap.size w wx) => cloneQt_any ao l.length cap (tmsC l) (by omega) (tms_len l) (tms_one l) wx (tms_src (tms_keep h hb)))
  have D := Lib.hid (fun B ao cap nb wx hB hnb h hn => del_any B ao cap l nm nb h40 wx hB hnb h hn)
  clear h
  unfold TmsIs
  go_enter Try.func15, Try.ntmps15
  go_wp2_with fail
  refine (C.out _ (by (first | exact gwT | exact lzT))).mono ?_
  rintro e w1 ⟨oa, oc, rfl, hown, hb1⟩
  have hbx : Below (w.heap.size + 1) (w.alloc (.cells #[.string nm] 9)) w1 := hb1.mono (by simp)
  have hnm : w1.cell? ⟨w.heap.size, 0, none⟩ = some (.string nm) := (hbx.cell (p := ⟨w.heap.size, 0, none⟩) (Nat.lt_succ_self _)).trans (by simp [go_sem])
  have hb : Below w.heap.size w w1 := Below.trans (show Below w.heap.size w _ by (first | exact gwT | exact lzT)) (hb1.mono (by simp))
  have hz : w.heap.size + 1 ≤ w1.heap.size := by have := hbx.size; simpa using this
  have hown' : w1.ownsRow (w.heap.size + 1) 33 3 (.slice oa l.length oc) l.length (tmsC l) := owns_base hown (by simp)
  replace hown := Lib.hid hown'
  replace hnm := Lib.hid hnm
  clear C hb1 hown' hbx
  dsimp only
  go_wp2_with fail
  refine (D.out (w.heap.size + 1) oa oc w.heap.size _ hz (Nat.lt_succ_self _) hown.out hnm.out).mono ?_
  rintro e w2 ⟨oa2, oc2, rfl, hown2, hb2⟩
  have hO := Lib.hid hown2
  have hb3 := hb.trans (hb2.mono (Nat.le_succ _))
  clear D hown hnm hown2 hb2
  dsimp only
  go_wp2
  go_returns
  exact ⟨oa2, oc2, rfl, owns_base hO.out (Nat.le_succ _), hb3⟩
/-! ### The document's -/
theorem Try.infoQx : (Try.prog.info? 38).map (fun i => (i.zero, i.size, i.bytes)) = some (some (.agg #[.int .i64 0, .int .i64 0, .string ⟨#[]⟩]), 3, 32) := by kernel_rfl
set_option maxRecDepth 100000 in
theorem rahd_any (a b : Tm) (w : World) : Calls Try.prog 23 #[tmV a, tmV b] w (Ret (.bool (ahT a b)) w) := by
  unfold ahT
  by_cases h1 : a.due < b.due
  · rw [decide_eq_true h1, Bool.true_or]
    go_enter Try.func23, Try.ntmps23
    go_wp2
    go_returns
    exact ⟨rfl, by (first | exact gwT | exact lzT)⟩
  · rw [decide_eq_false h1, Bool.false_or]
    obtain ⟨q, hq⟩ : ∃ q, (a.due == b.due) = q := ⟨_, rfl⟩
    obtain ⟨r, hr⟩ : ∃ r, decide (a.seq < b.seq) = r := ⟨_, rfl⟩
    rw [hq, hr]
    cases q
    · rw [Bool.false_and]
      go_enter Try.func23, Try.ntmps23
      go_wp2
      go_returns
      exact ⟨rfl, by (first | exact gwT | exact lzT)⟩
    · rw [Bool.true_and]
      go_enter Try.func23, Try.ntmps23
      go_wp2
      go_returns
      exact ⟨rfl, by (first | exact gwT | exact lzT)⟩
set_option maxRecDepth 100000 in
set_option maxHeartbeats 4000000 in
theorem rcancel_any (ao : Option Addr) (cap : Nat) (l : List Tm) (nm : ByteArray) (h40 : l.length ≤ 40) (w : World) (h : TmsAt 38 w ao cap l) : Calls Try.prog 16 #[.slice ao l.length cap, .string nm] w (TmsIs 38 (cancelT l nm) w) := by
  have H := Lib.hid (fun wx (hb : Below w.heap.size w wx) => tms_keep h hb)
  have S := Lib.hid (fun i h => cancel_step l nm i h)
  have Ln := Lib.hid (show ∀ i, (cancelT (l.take i) nm).length ≤ l.length from fun i => by
    have := List.length_filter_le (fun x : Tm => !decide (x.name = nm)) (l.take i)
    rw [List.length_take] at this
    unfold cancelT
    omega)
  have hE : Hid (cancelT (l.take l.length) nm = cancelT l nm) := Lib.hid (by rw [List.take_length])
  obtain ⟨j0, hj, hy1, hy2, hy3⟩ := info_parts Try.infoQx
  unfold TmsIs
  clear h
  go_enter Try.func16, Try.ntmps16
  go_wp2
  go_loopw [5, 6] (fun x v wr => ∃ (i : Nat) (oa : Option Addr) (oc : Nat), v = .int .i64 (i : Int) ∧ i ≤ l.length ∧ x = .slice oa (cancelT (l.take i) nm).length oc ∧ wr.ownsRow w.heap.size 38 3 (.slice oa (cancelT (l.take i) nm).length oc) (cancelT (l.take i) nm).length (tmsC (cancelT (l.take i) nm)) ∧ Below w.heap.size w wr) (fun _ v _ => l.length - (intOf v).toNat)
  case atStart => exact ⟨0, none, 0, rfl, Nat.zero_le _, rfl, World.ownsRow_nil _ _ _ _, by (first | exact gwT | exact lzT)⟩
  case round =>
    obtain ⟨i, oa, oc, rfl, hi, rfl, hown, hb⟩ := hrel
    rename World => wr
    have hwz := hb.size
    have hK := Lib.hid hown
    by_cases hlt : i < l.length
    · obtain ⟨g, rfl, hg, n1, n2, n3⟩ := tm_at (H.out wr hb) i hlt
      have st := S.out i hlt
      have ln := Ln.out i
      have hI : (i : Int) < (l.length : Int) := by omega
      have i1 : InW g wr := ⟨hg⟩
      generalize l[i] = x at *
      generalize cancelT (l.take i) nm = D at *
      obtain ⟨d, hdx⟩ : ∃ d, (x.name.toList == nm.toList) = d := ⟨_, rfl⟩
      have hdd : decide (x.name = nm) = d := by rw [← bytes_eq]; exact hdx
      cases d
      · rw [if_neg (of_decide_eq_false hdd)] at st
        have st' := Lib.hid st
        clear H S Ln hE hown st hdd
        go_wp2_with (at_builtin; refine wpList_append_src rfl _ _ 31 rfl w.heap.size 38 j0 _ 3 32 Try.underlying31 hj hy1 hy2 hy3 rfl (by decide) (.slice oa D.length oc) D.length _ rfl (owns_below hK.out (by (first | exact gwT | exact lzT))) (some ⟨_, 0, none⟩) 1 1 (tmC x) rfl (src_new (new_blk (by simp)) rfl) rfl (by intro u hu; simp [tmC] at hu; rcases hu with rfl | rfl | rfl <;> rfl) (by unfold maxLen; omega) (by omega) (by (first | exact gwT | exact lzT)) ?_)
        intro v' w2 hown2 hgrow
        have hb2 := Below.grown (B := w.heap.size) (show Below w.heap.size w _ by (first | exact gwT | exact lzT)) hgrow (by (first | exact gwT | exact lzT)) (fun k hk => (hK.out.lt k hk).1)
        obtain ⟨oa2, oc2, rfl⟩ := own_form hown2
        replace hown2 := Lib.hid hown2
        clear hgrow i1 hK
        go_wp2
        go_roundw
        case rel => exact ⟨i + 1, oa2, oc2, by go_num, by omega, by rw [st'.out]; simp, by rw [st'.out, tms_snoc]; simpa using hown2.out, hb2⟩
        case measure => simp [intOf]; omega
      · rw [if_pos (of_decide_eq_true hdd)] at st
        have st' := Lib.hid st
        clear H S Ln hE hown st hdd
        go_wp2
        go_roundw
        case rel => exact ⟨i + 1, oa, oc, by go_num, by omega, by rw [st'.out], by rw [st'.out]; exact owns_below hK.out (by (first | exact gwT | exact lzT)), by (first | exact gwT | exact lzT)⟩
        case measure => simp [intOf]; omega
    · obtain rfl : i = l.length := by omega
      have hI : ¬ ((l.length : Nat) : Int) < (l.length : Int) := by omega
      rw [hE.out] at hK ⊢
      clear H S Ln hown
      go_wp2
      go_returns
      exact ⟨oa, oc, rfl, hK.out, hb⟩
end Go.Proofs.Ythpofpndlkhciaa

