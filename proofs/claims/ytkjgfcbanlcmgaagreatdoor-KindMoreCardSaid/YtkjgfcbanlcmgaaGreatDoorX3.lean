/- A reader takes a word, or a sign. -/
import Derived.Test.YtkjgfcbanlcmgaaGreatDoorX2
import Derived.WalkKit
import Derived.ProofKit
import Derived.OpenShut
import Derived.Handy
import Derived.BigQuiet
import Derived.Deep.RegionHeld3
import Derived.Lib.Hide
import Derived.WalkSmall
import Derived.WalkLawsBesides
namespace Go.Proofs.YtkjgfcbanlcmgaaGreatDoor
open Go.RowKit
/-- What a reader's step comes to: it tells whether it was taken; where it wasn't, the reader is as it was. -/
def StepIs (B rb : Nat) (lv : Value) (o : Option Rd) (r : Rd) (w : World) (e : Ending) (w' : World) : Prop := e = .returned (.bool o.isSome) ∧ RdAt B rb lv (o.getD r) w' ∧ Below B w w'
theorem txts_one {w : World} {g : Nat} {x : ByteArray} (h : w.cell? ⟨g, 0, none⟩ = some (.string x)) : Txts w (some ⟨g, 0, none⟩) [x] := by
  intro i hi
  simp only [List.length_cons, List.length_nil] at hi
  obtain rfl : i = 0 := by omega
  exact ⟨_, rfl, by simpa [go_sem, Addr.add] using h⟩
theorem is1_any (k : Int) (s : ByteArray) (n a : Int) (x : ByteArray) (b : Bool) (hb : ((k == 1 || k == 5) && s.data.toList == x.data.toList) = b) (g : Nat) (w : World) (hc : w.cell? ⟨g, 0, none⟩ = some (.string x)) :
    Calls Tryz.prog 74 #[.agg #[.int .i64 k, .string s, .int .i64 n, .int .i64 a], .slice (some ⟨g, 0, none⟩) 1 1] w (Ret (.bool b) w) := by
  refine (is_any k s n a (some ⟨g, 0, none⟩) [x] 1 (by simp) _ (txts_one hc)).mono fun e w' h => ⟨?_, h.2⟩
  rw [h.1, ← hb]
  simp only [hasB, List.any_cons, List.any_nil, Bool.or_false, Lib.toList_data]
  rw [show (x.data.toList == s.data.toList) = (s.data.toList == x.data.toList) by rw [Bool.eq_iff_iff, beq_iff_eq, beq_iff_eq]; exact ⟨Eq.symm, Eq.symm⟩]
theorem takes_some {ts : List Tk} {x : List UInt8} {r : Rd} (h : tkAt ts r.at_ x = true) : takes ts x r = some { r with at_ := r.at_ + 1 } := by unfold takes; rw [if_pos h]
theorem takes_none {ts : List Tk} {x : List UInt8} {r : Rd} (h : tkAt ts r.at_ x = false) : takes ts x r = none := by unfold takes; rw [h]; rfl
set_option maxRecDepth 100000 in
set_option maxHeartbeats 2000000 in
theorem rtakes_any {B rb : Nat} {ao : Option Addr} {cap : Nat} {ts : List Tk} {r : Rd} (x : ByteArray) (hts : ts.length ≤ 1000) (hat : r.at_ ≤ ts.length) (w : World) (h : RdAt B rb (.slice ao ts.length cap) r w) (hl : Sl w ao ts) :
    Calls Tryz.prog 61 #[.pointer (some ⟨rb, 0, none⟩), .string x] w (StepIs B rb (.slice ao ts.length cap) (takes ts x.data.toList r) r w) := by
  obtain ⟨nv, pv, wv, h⟩ := h
  obtain ⟨c0, c1, c2, c3, c4, c5, hrb, hfr⟩ := rd_cells h
  have f1 := hfr 1
  have hbase := h.base
  have i1 : InW rb w := ⟨hrb⟩
  have hsz : B ≤ w.heap.size := by omega
  clear c2 c3 c4 c5 hfr
  have hA := Lib.hid h
  by_cases he : r.at_ = ts.length
  · have hn : tkAt ts r.at_ x.data.toList = false := by unfold tkAt; rw [List.getElem?_eq_none (by omega)]
    rw [takes_none hn]
    have hd : ((r.at_ : Int) == (ts.length : Int)) = true := by rw [beq_iff_eq]; omega
    clear hn h hl he
    go_enter Tryz.func61, Tryz.ntmps61
    go_wp2_with fail
    (refine wp_region_G (by kernel_rfl) (by kernel_rfl) ?_; (repeat (go_big_quiet_step (fail))); refine wpQuiet_nil ?_; intro _ hw'; obtain ⟨pg, hw''⟩ := hw'; subst hw'')
    go_wp2
    go_returns
    exact ⟨rfl, rdat_keep ⟨_, _, _, hA.out⟩ (by repeat' (first | (with_reducible exact Below.refl _ _) | (with_reducible assumption) | (with_reducible refine Below.alloc ?_ ?_ _) | (with_reducible refine Below.drew ?_) | (with_reducible refine belowN ?_ _) | (with_reducible refine Below.setCell ?_ ?_ _) | (with_reducible refine belowG ?_ ?_) | (with_reducible exact Nat.le_refl _) | (with_reducible refine le_sizeG ?_) | (with_reducible refine le_sizeA ?_) | (with_reducible refine le_sizeC ?_) | (with_reducible refine le_sizeD ?_) | (with_reducible refine le_sizeN ?_) | go_size | (simp [go_sem]; done))), by repeat' (first | (with_reducible exact Below.refl _ _) | (with_reducible assumption) | (with_reducible refine Below.alloc ?_ ?_ _) | (with_reducible refine Below.drew ?_) | (with_reducible refine belowN ?_ _) | (with_reducible refine Below.setCell ?_ ?_ _) | (with_reducible refine belowG ?_ ?_) | (with_reducible exact Nat.le_refl _) | (with_reducible refine le_sizeG ?_) | (with_reducible refine le_sizeA ?_) | (with_reducible refine le_sizeC ?_) | (with_reducible refine le_sizeD ?_) | (with_reducible refine le_sizeN ?_) | go_size | (simp [go_sem]; done))⟩
  · have hlt : r.at_ < ts.length := by omega
    obtain ⟨g, rfl, hg, ht⟩ := hl (by omega)
    obtain ⟨a0, a1, a2, a3⟩ := ht r.at_ hlt
    have i2 : InW g w := ⟨hg⟩
    have hd : ((r.at_ : Int) == (ts.length : Int)) = false := by rw [beq_eq_false_iff_ne]; omega
    obtain ⟨b, hb⟩ : ∃ b, tkAt ts r.at_ x.data.toList = b := ⟨_, rfl⟩
    have hb' : ((ts[r.at_].k == 1 || ts[r.at_].k == 5) && (⟨ts[r.at_].s.toArray⟩ : ByteArray).data.toList == x.data.toList) = b := by
      rw [← hb]; unfold tkAt; rw [List.getElem?_eq_getElem hlt]; rfl
    have I := fun g wx hc => Lib.hid (is1_any ts[r.at_].k ⟨ts[r.at_].s.toArray⟩ ts[r.at_].n (ts[r.at_].a : Int) x b hb' g wx hc)
    replace I := Lib.hid I
    have hres : takes ts x.data.toList r = if b then some { r with at_ := r.at_ + 1 } else none := by unfold takes; rw [hb]
    rw [hres]
    clear hb hb' hres h hl ht he
    generalize ts[r.at_].k = tk at *
    generalize (⟨ts[r.at_].s.toArray⟩ : ByteArray) = tx at *
    generalize ts[r.at_].n = tn at *
    generalize (ts[r.at_].a : Int) = ta at *
    have hA1 := fun wx hk => Lib.hid (rdat_keep (w' := wx) ⟨_, _, _, rd_at hA.out (r.at_ + 1) (x := (r.at_ : Int) + 1) rfl⟩ hk)
    replace hA1 := Lib.hid hA1
    cases b
    all_goals
      go_enter Tryz.func61, Tryz.ntmps61
      go_wp2_with fail
      go_region_held3 (fun w' => w'.cell? ⟨rb, 0, none⟩ = some (.slice (some ⟨g, 0, none⟩) ts.length cap) ∧ w'.cell? ⟨rb, 1, none⟩ = some (.int .i64 (r.at_ : Int)) ∧ w'.cell? ⟨g, r.at_ * 4, none⟩ = some (.int .i64 tk) ∧ w'.cell? ⟨g, r.at_ * 4 + 1, none⟩ = some (.string tx) ∧ w'.cell? ⟨g, r.at_ * 4 + 2, none⟩ = some (.int .i64 tn) ∧ w'.cell? ⟨g, r.at_ * 4 + 3, none⟩ = some (.int .i64 ta)) ((refine ⟨?_, ?_, ?_, ?_, ?_, ?_⟩ <;> first | assumption | (simp [go_sem, *]; done))) (first | ((with_reducible refine ((I.out _ _ (by simp [go_sem])).out).mono ?_); intro e w1 hr; obtain ⟨rfl, p, rfl⟩ := hr.out; clear hr))
    · go_wp2
      go_returns
      exact ⟨rfl, rdat_keep ⟨_, _, _, hA.out⟩ (by repeat' (first | (with_reducible exact Below.refl _ _) | (with_reducible assumption) | (with_reducible refine Below.alloc ?_ ?_ _) | (with_reducible refine Below.drew ?_) | (with_reducible refine belowN ?_ _) | (with_reducible refine Below.setCell ?_ ?_ _) | (with_reducible refine belowG ?_ ?_) | (with_reducible exact Nat.le_refl _) | (with_reducible refine le_sizeG ?_) | (with_reducible refine le_sizeA ?_) | (with_reducible refine le_sizeC ?_) | (with_reducible refine le_sizeD ?_) | (with_reducible refine le_sizeN ?_) | go_size | (simp [go_sem]; done))), by repeat' (first | (with_reducible exact Below.refl _ _) | (with_reducible assumption) | (with_reducible refine Below.alloc ?_ ?_ _) | (with_reducible refine Below.drew ?_) | (with_reducible refine belowN ?_ _) | (with_reducible refine Below.setCell ?_ ?_ _) | (with_reducible refine belowG ?_ ?_) | (with_reducible exact Nat.le_refl _) | (with_reducible refine le_sizeG ?_) | (with_reducible refine le_sizeA ?_) | (with_reducible refine le_sizeC ?_) | (with_reducible refine le_sizeD ?_) | (with_reducible refine le_sizeN ?_) | go_size | (simp [go_sem]; done))⟩
    · go_wp2
      go_returns
      exact ⟨rfl, (hA1.out _ (by repeat' (first | (with_reducible exact Below.refl _ _) | (with_reducible assumption) | (with_reducible refine Below.alloc ?_ ?_ _) | (with_reducible refine Below.drew ?_) | (with_reducible refine belowN ?_ _) | (with_reducible refine Below.setCell ?_ ?_ _) | (with_reducible refine belowG ?_ ?_) | (with_reducible exact Nat.le_refl _) | (with_reducible refine le_sizeG ?_) | (with_reducible refine le_sizeA ?_) | (with_reducible refine le_sizeC ?_) | (with_reducible refine le_sizeD ?_) | (with_reducible refine le_sizeN ?_) | go_size | (simp [go_sem]; done)))).out, by repeat' (first | (with_reducible exact Below.refl _ _) | (with_reducible assumption) | (with_reducible refine Below.alloc ?_ ?_ _) | (with_reducible refine Below.drew ?_) | (with_reducible refine belowN ?_ _) | (with_reducible refine Below.setCell ?_ ?_ _) | (with_reducible refine belowG ?_ ?_) | (with_reducible exact Nat.le_refl _) | (with_reducible refine le_sizeG ?_) | (with_reducible refine le_sizeA ?_) | (with_reducible refine le_sizeC ?_) | (with_reducible refine le_sizeD ?_) | (with_reducible refine le_sizeN ?_) | go_size | (simp [go_sem]; done))⟩
end Go.Proofs.YtkjgfcbanlcmgaaGreatDoor

