/- A reader reads a name, a value. -/
import Derived.Test.YtkjgfcbanlcmgaaGreatDoorX4
import Derived.WalkKit
import Derived.ProofKit
import Derived.OpenShut
import Derived.Handy
import Derived.BigQuiet
import Derived.StillTailTactics
import Derived.Deep.RegionHeld3
import Derived.Lib.Hide
import Derived.WalkSmall
import Derived.WalkLawsBesides
namespace Go.Proofs.YtkjgfcbanlcmgaaGreatDoor
open Go.RowKit
theorem step_none {B rb : Nat} {lv : Value} {r : Rd} {w w' : World} (h : RdAt B rb lv r w') (hb : Below B w w') : StepIs B rb lv none r w (.returned (.bool false)) w' := ⟨rfl, h, hb⟩
set_option maxRecDepth 100000 in
set_option maxHeartbeats 4000000 in
theorem rname_any {B rb : Nat} {ao : Option Addr} {cap : Nat} {ts : List Tk} {r : Rd} (op : Int) (hts : ts.length ≤ 1000) (hat : r.at_ ≤ ts.length) (hns : r.nodes.length ≤ 1000) (hps : r.parts.length ≤ 1000) (w : World) (h : RdAt B rb (.slice ao ts.length cap) r w) (hl : Sl w ao ts) :
    Calls Tryz.prog 72 #[.pointer (some ⟨rb, 0, none⟩), .int .i64 op] w (StepIs B rb (.slice ao ts.length cap) (rname op ts r) r w) := by
  have hAt := Lib.hid h
  obtain ⟨nv, pv, wv, h⟩ := h
  obtain ⟨c0, c1, c2, c3, c4, c5, hrb, hfr⟩ := rd_cells h
  have f1 := hfr 1
  have hbase := h.base
  have i1 : InW rb w := ⟨hrb⟩
  have hsz : B ≤ w.heap.size := by omega
  clear c2 c3 c4 c5 hfr
  by_cases he : r.at_ = ts.length
  · have hn : rname op ts r = none := by unfold rname nameAt; rw [List.getElem?_eq_none (by omega)]
    rw [hn]
    have hd : ((r.at_ : Int) == (ts.length : Int)) = true := by rw [beq_iff_eq]; omega
    clear hn h hl he
    go_enter Tryz.func72, Tryz.ntmps72
    go_wp2_with fail
    (refine wp_region_G (by kernel_rfl) (by kernel_rfl) ?_; (repeat (go_big_quiet_step (fail))); refine wpQuiet_nil ?_; intro _ hw'; obtain ⟨pg, hw''⟩ := hw'; subst hw'')
    go_wp2
    go_returns
    exact ⟨rfl, rdat_keep hAt.out (by repeat' (first | (with_reducible exact Below.refl _ _) | (with_reducible assumption) | (with_reducible refine Below.alloc ?_ ?_ _) | (with_reducible refine Below.drew ?_) | (with_reducible refine belowN ?_ _) | (with_reducible refine Below.setCell ?_ ?_ _) | (with_reducible refine belowG ?_ ?_) | (with_reducible exact Nat.le_refl _) | (with_reducible refine le_sizeG ?_) | (with_reducible refine le_sizeA ?_) | (with_reducible refine le_sizeC ?_) | (with_reducible refine le_sizeD ?_) | (with_reducible refine le_sizeN ?_) | go_size | (simp [go_sem]; done))), by repeat' (first | (with_reducible exact Below.refl _ _) | (with_reducible assumption) | (with_reducible refine Below.alloc ?_ ?_ _) | (with_reducible refine Below.drew ?_) | (with_reducible refine belowN ?_ _) | (with_reducible refine Below.setCell ?_ ?_ _) | (with_reducible refine belowG ?_ ?_) | (with_reducible exact Nat.le_refl _) | (with_reducible refine le_sizeG ?_) | (with_reducible refine le_sizeA ?_) | (with_reducible refine le_sizeC ?_) | (with_reducible refine le_sizeD ?_) | (with_reducible refine le_sizeN ?_) | go_size | (simp [go_sem]; done))⟩
  · have hlt : r.at_ < ts.length := by omega
    obtain ⟨g, rfl, hg, ht⟩ := hl (by omega)
    obtain ⟨a0, a1, a2, a3⟩ := ht r.at_ hlt
    have i2 : InW g w := ⟨hg⟩
    have hd : ((r.at_ : Int) == (ts.length : Int)) = false := by rw [beq_eq_false_iff_ne]; omega
    have hres : rname op ts r = if (ts[r.at_].k == 1 && !meansB ts[r.at_].s) then some { r.add ⟨op, 0, 0, [], ts[r.at_].s, 0, 0⟩ with at_ := r.at_ + 1 } else none := by
      unfold rname nameAt
      rw [List.getElem?_eq_getElem hlt]
      simp only
      cases hc : (ts[r.at_].k == 1 && !meansB ts[r.at_].s)
      · rw [if_neg (by simp)]; rfl
      · rw [if_pos rfl]; rfl
    rw [hres]
    have M := fun wx => Lib.hid (tmeans_any ⟨ts[r.at_].s.toArray⟩ wx)
    have Ad := fun wx hk => Lib.hid (radd_any (B := B) (rb := rb) (lv := .slice (some ⟨g, 0, none⟩) ts.length cap) (r := r) ⟨op, 0, 0, [], ts[r.at_].s, 0, 0⟩ hns hps wx hk)
    unfold ndV at Ad
    simp only at Ad M
    replace M := Lib.hid M
    replace Ad := Lib.hid Ad
    clear hres hl ht he h a2 a3
    generalize ts[r.at_].k = tk at *
    generalize hmb : meansB ts[r.at_].s = mb at *
    have hAq := Lib.hid (rfl : (⟨ts[r.at_].s.toArray⟩ : ByteArray) = ⟨ts[r.at_].s.toArray⟩)
    generalize ts[r.at_].s = tx at *
    clear hmb
    cases hk : (tk == 1)
    · have hk2 : (tk != 1) = true := by rw [bne, hk]; rfl
      rw [hk] at *
      go_enter Tryz.func72, Tryz.ntmps72
      go_wp2_with fail
      (refine wp_region_G (by kernel_rfl) (by kernel_rfl) ?_; (repeat (go_big_quiet_step (fail))); refine wpQuiet_nil ?_; intro _ hw'; obtain ⟨pg, hw''⟩ := hw'; subst hw'')
      go_wp2
      go_returns
      exact ⟨rfl, rdat_keep hAt.out (by repeat' (first | (with_reducible exact Below.refl _ _) | (with_reducible assumption) | (with_reducible refine Below.alloc ?_ ?_ _) | (with_reducible refine Below.drew ?_) | (with_reducible refine belowN ?_ _) | (with_reducible refine Below.setCell ?_ ?_ _) | (with_reducible refine belowG ?_ ?_) | (with_reducible exact Nat.le_refl _) | (with_reducible refine le_sizeG ?_) | (with_reducible refine le_sizeA ?_) | (with_reducible refine le_sizeC ?_) | (with_reducible refine le_sizeD ?_) | (with_reducible refine le_sizeN ?_) | go_size | (simp [go_sem]; done))), by repeat' (first | (with_reducible exact Below.refl _ _) | (with_reducible assumption) | (with_reducible refine Below.alloc ?_ ?_ _) | (with_reducible refine Below.drew ?_) | (with_reducible refine belowN ?_ _) | (with_reducible refine Below.setCell ?_ ?_ _) | (with_reducible refine belowG ?_ ?_) | (with_reducible exact Nat.le_refl _) | (with_reducible refine le_sizeG ?_) | (with_reducible refine le_sizeA ?_) | (with_reducible refine le_sizeC ?_) | (with_reducible refine le_sizeD ?_) | (with_reducible refine le_sizeN ?_) | go_size | (simp [go_sem]; done))⟩
    · have hk2 : (tk != 1) = false := by rw [bne, hk]; rfl
      rw [hk] at *
      cases mb
      · go_enter Tryz.func72, Tryz.ntmps72
        go_wp2_with fail
        (refine wp_region_G (by kernel_rfl) (by kernel_rfl) ?_; (repeat (go_big_quiet_step (exact quietGW ((M.out _).out)))); refine wpQuiet_nil ?_; intro _ hw'; obtain ⟨pg, hw''⟩ := hw'; subst hw'')
        go_wp2_with fail
        go_still_tail 14, (by kernel_rfl)
        change wpList _ _ _ _ _ (G pg w).drew
        go_wp2_with fail
        refine ((Ad.out _ (rdat_keep hAt.out (by repeat' (first | (with_reducible exact Below.refl _ _) | (with_reducible assumption) | (with_reducible refine Below.alloc ?_ ?_ _) | (with_reducible refine Below.drew ?_) | (with_reducible refine belowN ?_ _) | (with_reducible refine Below.setCell ?_ ?_ _) | (with_reducible refine belowG ?_ ?_) | (with_reducible exact Nat.le_refl _) | (with_reducible refine le_sizeG ?_) | (with_reducible refine le_sizeA ?_) | (with_reducible refine le_sizeC ?_) | (with_reducible refine le_sizeD ?_) | (with_reducible refine le_sizeN ?_) | go_size | (simp [go_sem]; done))))).out).mono ?_
        intro e w1 hr
        obtain ⟨rfl, ⟨nv1, pv1, wv1, h1⟩, hb1⟩ := hr
        obtain ⟨b0, b1, _, _, _, _, brb, bfr⟩ := rd_cells h1
        replace b1 : w1.cell? ⟨rb, 1, none⟩ = some (.int .i64 (r.at_ : Int)) := b1
        have g1 := bfr 1
        have j1 : InW rb w1 := ⟨brb⟩
        have hq := Lib.hid (rd_at h1 (r.at_ + 1) (x := (r.at_ : Int) + 1) rfl)
        have hb2 : Below B w w1 := Below.trans (by repeat' (first | (with_reducible exact Below.refl _ _) | (with_reducible assumption) | (with_reducible refine Below.alloc ?_ ?_ _) | (with_reducible refine Below.drew ?_) | (with_reducible refine belowN ?_ _) | (with_reducible refine Below.setCell ?_ ?_ _) | (with_reducible refine belowG ?_ ?_) | (with_reducible exact Nat.le_refl _) | (with_reducible refine le_sizeG ?_) | (with_reducible refine le_sizeA ?_) | (with_reducible refine le_sizeC ?_) | (with_reducible refine le_sizeD ?_) | (with_reducible refine le_sizeN ?_) | go_size | (simp [go_sem]; done))) hb1
        clear h1 hb1 Ad M c0 c1 f1 a0 a1 bfr
        go_wp2
        go_returns
        exact ⟨rfl, ⟨_, _, _, hq.out⟩, Below.setCell hb2 hbase _⟩
      · go_enter Tryz.func72, Tryz.ntmps72
        go_wp2_with fail
        (refine wp_region_G (by kernel_rfl) (by kernel_rfl) ?_; (repeat (go_big_quiet_step (exact quietGW ((M.out _).out)))); refine wpQuiet_nil ?_; intro _ hw'; obtain ⟨pg, hw''⟩ := hw'; subst hw'')
        go_wp2
        go_returns
        exact ⟨rfl, rdat_keep hAt.out (by repeat' (first | (with_reducible exact Below.refl _ _) | (with_reducible assumption) | (with_reducible refine Below.alloc ?_ ?_ _) | (with_reducible refine Below.drew ?_) | (with_reducible refine belowN ?_ _) | (with_reducible refine Below.setCell ?_ ?_ _) | (with_reducible refine belowG ?_ ?_) | (with_reducible exact Nat.le_refl _) | (with_reducible refine le_sizeG ?_) | (with_reducible refine le_sizeA ?_) | (with_reducible refine le_sizeC ?_) | (with_reducible refine le_sizeD ?_) | (with_reducible refine le_sizeN ?_) | go_size | (simp [go_sem]; done))), by repeat' (first | (with_reducible exact Below.refl _ _) | (with_reducible assumption) | (with_reducible refine Below.alloc ?_ ?_ _) | (with_reducible refine Below.drew ?_) | (with_reducible refine belowN ?_ _) | (with_reducible refine Below.setCell ?_ ?_ _) | (with_reducible refine belowG ?_ ?_) | (with_reducible exact Nat.le_refl _) | (with_reducible refine le_sizeG ?_) | (with_reducible refine le_sizeA ?_) | (with_reducible refine le_sizeC ?_) | (with_reducible refine le_sizeD ?_) | (with_reducible refine le_sizeN ?_) | go_size | (simp [go_sem]; done))⟩
theorem is2_any (k : Int) (s : ByteArray) (n a : Int) (x y : ByteArray) (b : Bool) (hb : ((k == 1 || k == 5) && (s.data.toList == x.data.toList || s.data.toList == y.data.toList)) = b) (g : Nat) (w : World) (hc : w.cell? ⟨g, 0, none⟩ = some (.string x)) (hd : w.cell? ⟨g, 1, none⟩ = some (.string y)) :
    Calls Tryz.prog 74 #[.agg #[.int .i64 k, .string s, .int .i64 n, .int .i64 a], .slice (some ⟨g, 0, none⟩) 2 2] w (Ret (.bool b) w) := by
  have hz : Txts w (some ⟨g, 0, none⟩) [x, y] := by
    intro i hi
    simp only [List.length_cons, List.length_nil] at hi
    rcases (by omega : i = 0 ∨ i = 1) with rfl | rfl
    · exact ⟨_, rfl, by simpa [go_sem, Addr.add] using hc⟩
    · exact ⟨_, rfl, by simpa [go_sem, Addr.add] using hd⟩
  refine (is_any k s n a (some ⟨g, 0, none⟩) [x, y] 2 (by simp) _ hz).mono fun e w' h => ⟨?_, h.2⟩
  rw [h.1, ← hb]
  have e : ∀ z : ByteArray, (z.data.toList == s.data.toList) = (s.data.toList == z.data.toList) := fun z => by rw [Bool.eq_iff_iff, beq_iff_eq, beq_iff_eq]; exact ⟨Eq.symm, Eq.symm⟩
  simp only [hasB, List.any_cons, List.any_nil, Bool.or_false, Lib.toList_data, e]
def bT : ByteArray := ⟨#[116, 114, 117, 101]⟩
def bF : ByteArray := ⟨#[102, 97, 108, 115, 101]⟩
theorem value_of {ts : List Tk} {r : Rd} (h : r.at_ < ts.length) : rvalue ts r = (if ts[r.at_].k == 3 then some ⟨0, 1, ts[r.at_].n, [], [], 0, 0⟩ else if ts[r.at_].k == 4 then some ⟨0, 3, 0, ts[r.at_].s, [], 0, 0⟩ else if wordB ts[r.at_] [116, 114, 117, 101] then some ⟨0, 2, 1, [], [], 0, 0⟩ else if wordB ts[r.at_] [102, 97, 108, 115, 101] then some ⟨0, 2, 0, [], [], 0, 0⟩ else (none : Option Nd)).map fun n => { r.add n with at_ := r.at_ + 1 } := by
  unfold rvalue valueAt
  rw [List.getElem?_eq_getElem h]
  simp only
  repeat' split
  all_goals first | rfl | simp_all
set_option maxRecDepth 100000 in
set_option maxHeartbeats 4000000 in
theorem rvalue_any {B rb : Nat} {ao : Option Addr} {cap : Nat} {ts : List Tk} {r : Rd} (hts : ts.length ≤ 1000) (hat : r.at_ ≤ ts.length) (hns : r.nodes.length ≤ 1000) (hps : r.parts.length ≤ 1000) (w : World) (h : RdAt B rb (.slice ao ts.length cap) r w) (hl : Sl w ao ts) :
    Calls Tryz.prog 73 #[.pointer (some ⟨rb, 0, none⟩)] w (StepIs B rb (.slice ao ts.length cap) (rvalue ts r) r w) := by
  have hAt := Lib.hid h
  obtain ⟨nv, pv, wv, h⟩ := h
  obtain ⟨c0, c1, c2, c3, c4, c5, hrb, hfr⟩ := rd_cells h
  have f1 := hfr 1
  have hbase := h.base
  have i1 : InW rb w := ⟨hrb⟩
  have hsz : B ≤ w.heap.size := by omega
  clear c2 c3 c4 c5 hfr
  by_cases he : r.at_ = ts.length
  · have hn : rvalue ts r = none := by unfold rvalue valueAt; rw [List.getElem?_eq_none (by omega)]
    rw [hn]
    have hd : ((r.at_ : Int) == (ts.length : Int)) = true := by rw [beq_iff_eq]; omega
    clear hn h hl he
    go_enter Tryz.func73, Tryz.ntmps73
    go_wp2_with fail
    (refine wp_region_G (by kernel_rfl) (by kernel_rfl) ?_; (repeat (go_big_quiet_step (fail))); refine wpQuiet_nil ?_; intro _ hw'; obtain ⟨pg, hw''⟩ := hw'; subst hw'')
    go_wp2
    go_returns
    exact ⟨rfl, rdat_keep hAt.out (by repeat' (first | (with_reducible exact Below.refl _ _) | (with_reducible assumption) | (with_reducible refine Below.alloc ?_ ?_ _) | (with_reducible refine Below.drew ?_) | (with_reducible refine belowN ?_ _) | (with_reducible refine Below.setCell ?_ ?_ _) | (with_reducible refine belowG ?_ ?_) | (with_reducible exact Nat.le_refl _) | (with_reducible refine le_sizeG ?_) | (with_reducible refine le_sizeA ?_) | (with_reducible refine le_sizeC ?_) | (with_reducible refine le_sizeD ?_) | (with_reducible refine le_sizeN ?_) | go_size | (simp [go_sem]; done))), by repeat' (first | (with_reducible exact Below.refl _ _) | (with_reducible assumption) | (with_reducible refine Below.alloc ?_ ?_ _) | (with_reducible refine Below.drew ?_) | (with_reducible refine belowN ?_ _) | (with_reducible refine Below.setCell ?_ ?_ _) | (with_reducible refine belowG ?_ ?_) | (with_reducible exact Nat.le_refl _) | (with_reducible refine le_sizeG ?_) | (with_reducible refine le_sizeA ?_) | (with_reducible refine le_sizeC ?_) | (with_reducible refine le_sizeD ?_) | (with_reducible refine le_sizeN ?_) | go_size | (simp [go_sem]; done))⟩
  · have hlt : r.at_ < ts.length := by omega
    obtain ⟨g, rfl, hg, ht⟩ := hl (by omega)
    obtain ⟨a0, a1, a2, a3⟩ := ht r.at_ hlt
    have i2 : InW g w := ⟨hg⟩
    have hd : ((r.at_ : Int) == (ts.length : Int)) = false := by rw [beq_eq_false_iff_ne]; omega
    rw [value_of hlt]
    have Ad := fun n wx hk => Lib.hid (radd_any (B := B) (rb := rb) (lv := .slice (some ⟨g, 0, none⟩) ts.length cap) (r := r) n hns hps wx hk)
    unfold ndV at Ad
    replace Ad := Lib.hid Ad
    obtain ⟨b1, hb1⟩ : ∃ b, wordB ts[r.at_] [116, 114, 117, 101] = b := ⟨_, rfl⟩
    obtain ⟨b2, hb2⟩ : ∃ b, wordB ts[r.at_] [102, 97, 108, 115, 101] = b := ⟨_, rfl⟩
    rw [hb1, hb2]
    have I1 := fun g wx hc => Lib.hid (is1_any ts[r.at_].k ⟨ts[r.at_].s.toArray⟩ ts[r.at_].n (ts[r.at_].a : Int) bT b1 hb1 g wx hc)
    have I2 := fun g wx hc hd => Lib.hid (is2_any ts[r.at_].k ⟨ts[r.at_].s.toArray⟩ ts[r.at_].n (ts[r.at_].a : Int) bT bF (b1 || b2) (by rw [← hb1, ← hb2, wordB, wordB, ← Bool.and_or_distrib_left]; rfl) g wx hc hd)
    unfold bT at I1 I2
    unfold bF at I2
    replace I1 := Lib.hid I1
    replace I2 := Lib.hid I2
    clear hl ht he h hb1 hb2
    generalize ts[r.at_].k = tk at *
    generalize hn' : ts[r.at_].n = tn at *
    have hAq := Lib.hid (rfl : (⟨ts[r.at_].s.toArray⟩ : ByteArray) = ⟨ts[r.at_].s.toArray⟩)
    generalize ts[r.at_].s = tx at *
    generalize (ts[r.at_].a : Int) = ta at *
    clear hn' hAq
    rcases h3 : (tk == 3)
    · rcases h4 : (tk == 4)
      · cases b1
        · cases b2
          · go_enter Tryz.func73, Tryz.ntmps73
            go_wp2_with fail
            (refine wp_region_G (by kernel_rfl) (by kernel_rfl) ?_; (repeat (go_big_quiet_step (fail))); refine wpQuiet_nil ?_; intro _ hw'; obtain ⟨pg, hw''⟩ := hw'; subst hw'')
            go_wp2_with fail
            go_region_held3 (fun w' => w'.cell? ⟨rb, 0, none⟩ = some (.slice (some ⟨g, 0, none⟩) ts.length cap) ∧ w'.cell? ⟨rb, 1, none⟩ = some (.int .i64 (r.at_ : Int)) ∧ w'.cell? ⟨g, r.at_ * 4, none⟩ = some (.int .i64 tk) ∧ w'.cell? ⟨g, r.at_ * 4 + 1, none⟩ = some (.string ⟨tx.toArray⟩) ∧ w'.cell? ⟨g, r.at_ * 4 + 2, none⟩ = some (.int .i64 tn) ∧ w'.cell? ⟨g, r.at_ * 4 + 3, none⟩ = some (.int .i64 ta)) ((refine ⟨?_, ?_, ?_, ?_, ?_, ?_⟩ <;> first | assumption | (simp [go_sem, *]; done))) (fail)
            go_wp2_with (first | ((with_reducible refine (of_any _ _).mono ?_); intro e w1 hr; obtain ⟨rfl, p, rfl⟩ := hr.out; clear hr) | ((with_reducible refine (word_any _ _).mono ?_); intro e w1 hr; obtain ⟨rfl, p, rfl⟩ := hr.out; clear hr) | ((with_reducible refine (truth_any _ _).mono ?_); intro e w1 hr; obtain ⟨rfl, p, rfl⟩ := hr.out; clear hr) | ((with_reducible refine ((I2.out _ _ (by simp [go_sem]) (by simp [go_sem])).out).mono ?_); intro e w1 hr; obtain ⟨rfl, p, rfl⟩ := hr.out; clear hr) | ((with_reducible refine ((I1.out _ _ (by simp [go_sem])).out).mono ?_); intro e w1 hr; obtain ⟨rfl, p, rfl⟩ := hr.out; clear hr))
            go_returns
            exact ⟨rfl, rdat_keep hAt.out (by repeat' (first | (with_reducible exact Below.refl _ _) | (with_reducible assumption) | (with_reducible refine Below.alloc ?_ ?_ _) | (with_reducible refine Below.drew ?_) | (with_reducible refine belowN ?_ _) | (with_reducible refine Below.setCell ?_ ?_ _) | (with_reducible refine belowG ?_ ?_) | (with_reducible exact Nat.le_refl _) | (with_reducible refine le_sizeG ?_) | (with_reducible refine le_sizeA ?_) | (with_reducible refine le_sizeC ?_) | (with_reducible refine le_sizeD ?_) | (with_reducible refine le_sizeN ?_) | go_size | (simp [go_sem]; done))), by repeat' (first | (with_reducible exact Below.refl _ _) | (with_reducible assumption) | (with_reducible refine Below.alloc ?_ ?_ _) | (with_reducible refine Below.drew ?_) | (with_reducible refine belowN ?_ _) | (with_reducible refine Below.setCell ?_ ?_ _) | (with_reducible refine belowG ?_ ?_) | (with_reducible exact Nat.le_refl _) | (with_reducible refine le_sizeG ?_) | (with_reducible refine le_sizeA ?_) | (with_reducible refine le_sizeC ?_) | (with_reducible refine le_sizeD ?_) | (with_reducible refine le_sizeN ?_) | go_size | (simp [go_sem]; done))⟩
          · go_enter Tryz.func73, Tryz.ntmps73
            go_wp2_with fail
            (refine wp_region_G (by kernel_rfl) (by kernel_rfl) ?_; (repeat (go_big_quiet_step (fail))); refine wpQuiet_nil ?_; intro _ hw'; obtain ⟨pg, hw''⟩ := hw'; subst hw'')
            go_wp2_with fail
            go_region_held3 (fun w' => w'.cell? ⟨rb, 0, none⟩ = some (.slice (some ⟨g, 0, none⟩) ts.length cap) ∧ w'.cell? ⟨rb, 1, none⟩ = some (.int .i64 (r.at_ : Int)) ∧ w'.cell? ⟨g, r.at_ * 4, none⟩ = some (.int .i64 tk) ∧ w'.cell? ⟨g, r.at_ * 4 + 1, none⟩ = some (.string ⟨tx.toArray⟩) ∧ w'.cell? ⟨g, r.at_ * 4 + 2, none⟩ = some (.int .i64 tn) ∧ w'.cell? ⟨g, r.at_ * 4 + 3, none⟩ = some (.int .i64 ta)) ((refine ⟨?_, ?_, ?_, ?_, ?_, ?_⟩ <;> first | assumption | (simp [go_sem, *]; done))) (fail)
            go_wp2_with (first | ((with_reducible refine (of_any _ _).mono ?_); intro e w1 hr; obtain ⟨rfl, p, rfl⟩ := hr.out; clear hr) | ((with_reducible refine (word_any _ _).mono ?_); intro e w1 hr; obtain ⟨rfl, p, rfl⟩ := hr.out; clear hr) | ((with_reducible refine (truth_any _ _).mono ?_); intro e w1 hr; obtain ⟨rfl, p, rfl⟩ := hr.out; clear hr) | ((with_reducible refine ((I2.out _ _ (by simp [go_sem]) (by simp [go_sem])).out).mono ?_); intro e w1 hr; obtain ⟨rfl, p, rfl⟩ := hr.out; clear hr) | ((with_reducible refine ((I1.out _ _ (by simp [go_sem])).out).mono ?_); intro e w1 hr; obtain ⟨rfl, p, rfl⟩ := hr.out; clear hr))
            refine ((Ad.out ⟨0, 2, 0, [], [], 0, 0⟩ _ (rdat_keep hAt.out (by repeat' (first | (with_reducible exact Below.refl _ _) | (with_reducible assumption) | (with_reducible refine Below.alloc ?_ ?_ _) | (with_reducible refine Below.drew ?_) | (with_reducible refine belowN ?_ _) | (with_reducible refine Below.setCell ?_ ?_ _) | (with_reducible refine belowG ?_ ?_) | (with_reducible exact Nat.le_refl _) | (with_reducible refine le_sizeG ?_) | (with_reducible refine le_sizeA ?_) | (with_reducible refine le_sizeC ?_) | (with_reducible refine le_sizeD ?_) | (with_reducible refine le_sizeN ?_) | go_size | (simp [go_sem]; done))))).out).mono ?_
            intro e w1 hr
            obtain ⟨rfl, ⟨nv1, pv1, wv1, h1⟩, hb1⟩ := hr
            obtain ⟨b0, b1, _, _, _, _, brb, bfr⟩ := rd_cells h1
            replace b1 : w1.cell? ⟨rb, 1, none⟩ = some (.int .i64 (r.at_ : Int)) := b1
            have g1 := bfr 1
            have j1 : InW rb w1 := ⟨brb⟩
            have hq := Lib.hid (rd_at h1 (r.at_ + 1) (x := (r.at_ : Int) + 1) rfl)
            have hb2 : Below B w w1 := Below.trans (by repeat' (first | (with_reducible exact Below.refl _ _) | (with_reducible assumption) | (with_reducible refine Below.alloc ?_ ?_ _) | (with_reducible refine Below.drew ?_) | (with_reducible refine belowN ?_ _) | (with_reducible refine Below.setCell ?_ ?_ _) | (with_reducible refine belowG ?_ ?_) | (with_reducible exact Nat.le_refl _) | (with_reducible refine le_sizeG ?_) | (with_reducible refine le_sizeA ?_) | (with_reducible refine le_sizeC ?_) | (with_reducible refine le_sizeD ?_) | (with_reducible refine le_sizeN ?_) | go_size | (simp [go_sem]; done))) hb1
            clear h1 hb1 Ad I1 I2 c0 c1 f1 a0 a1 a2 a3 bfr
            go_wp2
            go_returns
            exact ⟨rfl, ⟨_, _, _, hq.out⟩, Below.setCell hb2 hbase _⟩
        · go_enter Tryz.func73, Tryz.ntmps73
          go_wp2_with fail
          (refine wp_region_G (by kernel_rfl) (by kernel_rfl) ?_; (repeat (go_big_quiet_step (fail))); refine wpQuiet_nil ?_; intro _ hw'; obtain ⟨pg, hw''⟩ := hw'; subst hw'')
          go_wp2_with fail
          go_region_held3 (fun w' => w'.cell? ⟨rb, 0, none⟩ = some (.slice (some ⟨g, 0, none⟩) ts.length cap) ∧ w'.cell? ⟨rb, 1, none⟩ = some (.int .i64 (r.at_ : Int)) ∧ w'.cell? ⟨g, r.at_ * 4, none⟩ = some (.int .i64 tk) ∧ w'.cell? ⟨g, r.at_ * 4 + 1, none⟩ = some (.string ⟨tx.toArray⟩) ∧ w'.cell? ⟨g, r.at_ * 4 + 2, none⟩ = some (.int .i64 tn) ∧ w'.cell? ⟨g, r.at_ * 4 + 3, none⟩ = some (.int .i64 ta)) ((refine ⟨?_, ?_, ?_, ?_, ?_, ?_⟩ <;> first | assumption | (simp [go_sem, *]; done))) (fail)
          go_wp2_with (first | ((with_reducible refine (of_any _ _).mono ?_); intro e w1 hr; obtain ⟨rfl, p, rfl⟩ := hr.out; clear hr) | ((with_reducible refine (word_any _ _).mono ?_); intro e w1 hr; obtain ⟨rfl, p, rfl⟩ := hr.out; clear hr) | ((with_reducible refine (truth_any _ _).mono ?_); intro e w1 hr; obtain ⟨rfl, p, rfl⟩ := hr.out; clear hr) | ((with_reducible refine ((I2.out _ _ (by simp [go_sem]) (by simp [go_sem])).out).mono ?_); intro e w1 hr; obtain ⟨rfl, p, rfl⟩ := hr.out; clear hr) | ((with_reducible refine ((I1.out _ _ (by simp [go_sem])).out).mono ?_); intro e w1 hr; obtain ⟨rfl, p, rfl⟩ := hr.out; clear hr))
          refine ((Ad.out ⟨0, 2, 1, [], [], 0, 0⟩ _ (rdat_keep hAt.out (by repeat' (first | (with_reducible exact Below.refl _ _) | (with_reducible assumption) | (with_reducible refine Below.alloc ?_ ?_ _) | (with_reducible refine Below.drew ?_) | (with_reducible refine belowN ?_ _) | (with_reducible refine Below.setCell ?_ ?_ _) | (with_reducible refine belowG ?_ ?_) | (with_reducible exact Nat.le_refl _) | (with_reducible refine le_sizeG ?_) | (with_reducible refine le_sizeA ?_) | (with_reducible refine le_sizeC ?_) | (with_reducible refine le_sizeD ?_) | (with_reducible refine le_sizeN ?_) | go_size | (simp [go_sem]; done))))).out).mono ?_
          intro e w1 hr
          obtain ⟨rfl, ⟨nv1, pv1, wv1, h1⟩, hb1⟩ := hr
          obtain ⟨b0, b1, _, _, _, _, brb, bfr⟩ := rd_cells h1
          replace b1 : w1.cell? ⟨rb, 1, none⟩ = some (.int .i64 (r.at_ : Int)) := b1
          have g1 := bfr 1
          have j1 : InW rb w1 := ⟨brb⟩
          have hq := Lib.hid (rd_at h1 (r.at_ + 1) (x := (r.at_ : Int) + 1) rfl)
          have hb2 : Below B w w1 := Below.trans (by repeat' (first | (with_reducible exact Below.refl _ _) | (with_reducible assumption) | (with_reducible refine Below.alloc ?_ ?_ _) | (with_reducible refine Below.drew ?_) | (with_reducible refine belowN ?_ _) | (with_reducible refine Below.setCell ?_ ?_ _) | (with_reducible refine belowG ?_ ?_) | (with_reducible exact Nat.le_refl _) | (with_reducible refine le_sizeG ?_) | (with_reducible refine le_sizeA ?_) | (with_reducible refine le_sizeC ?_) | (with_reducible refine le_sizeD ?_) | (with_reducible refine le_sizeN ?_) | go_size | (simp [go_sem]; done))) hb1
          clear h1 hb1 Ad I1 I2 c0 c1 f1 a0 a1 a2 a3 bfr
          go_wp2
          go_returns
          exact ⟨rfl, ⟨_, _, _, hq.out⟩, Below.setCell hb2 hbase _⟩
      · go_enter Tryz.func73, Tryz.ntmps73
        go_wp2_with fail
        (refine wp_region_G (by kernel_rfl) (by kernel_rfl) ?_; (repeat (go_big_quiet_step (fail))); refine wpQuiet_nil ?_; intro _ hw'; obtain ⟨pg, hw''⟩ := hw'; subst hw'')
        go_wp2_with fail
        go_region_held3 (fun w' => w'.cell? ⟨rb, 0, none⟩ = some (.slice (some ⟨g, 0, none⟩) ts.length cap) ∧ w'.cell? ⟨rb, 1, none⟩ = some (.int .i64 (r.at_ : Int)) ∧ w'.cell? ⟨g, r.at_ * 4, none⟩ = some (.int .i64 tk) ∧ w'.cell? ⟨g, r.at_ * 4 + 1, none⟩ = some (.string ⟨tx.toArray⟩) ∧ w'.cell? ⟨g, r.at_ * 4 + 2, none⟩ = some (.int .i64 tn) ∧ w'.cell? ⟨g, r.at_ * 4 + 3, none⟩ = some (.int .i64 ta)) ((refine ⟨?_, ?_, ?_, ?_, ?_, ?_⟩ <;> first | assumption | (simp [go_sem, *]; done))) (fail)
        go_wp2_with (first | ((with_reducible refine (of_any _ _).mono ?_); intro e w1 hr; obtain ⟨rfl, p, rfl⟩ := hr.out; clear hr) | ((with_reducible refine (word_any _ _).mono ?_); intro e w1 hr; obtain ⟨rfl, p, rfl⟩ := hr.out; clear hr) | ((with_reducible refine (truth_any _ _).mono ?_); intro e w1 hr; obtain ⟨rfl, p, rfl⟩ := hr.out; clear hr) | ((with_reducible refine ((I2.out _ _ (by simp [go_sem]) (by simp [go_sem])).out).mono ?_); intro e w1 hr; obtain ⟨rfl, p, rfl⟩ := hr.out; clear hr) | ((with_reducible refine ((I1.out _ _ (by simp [go_sem])).out).mono ?_); intro e w1 hr; obtain ⟨rfl, p, rfl⟩ := hr.out; clear hr))
        refine ((Ad.out ⟨0, 3, 0, tx, [], 0, 0⟩ _ (rdat_keep hAt.out (by repeat' (first | (with_reducible exact Below.refl _ _) | (with_reducible assumption) | (with_reducible refine Below.alloc ?_ ?_ _) | (with_reducible refine Below.drew ?_) | (with_reducible refine belowN ?_ _) | (with_reducible refine Below.setCell ?_ ?_ _) | (with_reducible refine belowG ?_ ?_) | (with_reducible exact Nat.le_refl _) | (with_reducible refine le_sizeG ?_) | (with_reducible refine le_sizeA ?_) | (with_reducible refine le_sizeC ?_) | (with_reducible refine le_sizeD ?_) | (with_reducible refine le_sizeN ?_) | go_size | (simp [go_sem]; done))))).out).mono ?_
        intro e w1 hr
        obtain ⟨rfl, ⟨nv1, pv1, wv1, h1⟩, hb1⟩ := hr
        obtain ⟨b0, b1, _, _, _, _, brb, bfr⟩ := rd_cells h1
        replace b1 : w1.cell? ⟨rb, 1, none⟩ = some (.int .i64 (r.at_ : Int)) := b1
        have g1 := bfr 1
        have j1 : InW rb w1 := ⟨brb⟩
        have hq := Lib.hid (rd_at h1 (r.at_ + 1) (x := (r.at_ : Int) + 1) rfl)
        have hb2 : Below B w w1 := Below.trans (by repeat' (first | (with_reducible exact Below.refl _ _) | (with_reducible assumption) | (with_reducible refine Below.alloc ?_ ?_ _) | (with_reducible refine Below.drew ?_) | (with_reducible refine belowN ?_ _) | (with_reducible refine Below.setCell ?_ ?_ _) | (with_reducible refine belowG ?_ ?_) | (with_reducible exact Nat.le_refl _) | (with_reducible refine le_sizeG ?_) | (with_reducible refine le_sizeA ?_) | (with_reducible refine le_sizeC ?_) | (with_reducible refine le_sizeD ?_) | (with_reducible refine le_sizeN ?_) | go_size | (simp [go_sem]; done))) hb1
        clear h1 hb1 Ad I1 I2 c0 c1 f1 a0 a1 a2 a3 bfr
        go_wp2
        go_returns
        exact ⟨rfl, ⟨_, _, _, hq.out⟩, Below.setCell hb2 hbase _⟩
    · go_enter Tryz.func73, Tryz.ntmps73
      go_wp2_with fail
      (refine wp_region_G (by kernel_rfl) (by kernel_rfl) ?_; (repeat (go_big_quiet_step (fail))); refine wpQuiet_nil ?_; intro _ hw'; obtain ⟨pg, hw''⟩ := hw'; subst hw'')
      go_wp2_with fail
      go_region_held3 (fun w' => w'.cell? ⟨rb, 0, none⟩ = some (.slice (some ⟨g, 0, none⟩) ts.length cap) ∧ w'.cell? ⟨rb, 1, none⟩ = some (.int .i64 (r.at_ : Int)) ∧ w'.cell? ⟨g, r.at_ * 4, none⟩ = some (.int .i64 tk) ∧ w'.cell? ⟨g, r.at_ * 4 + 1, none⟩ = some (.string ⟨tx.toArray⟩) ∧ w'.cell? ⟨g, r.at_ * 4 + 2, none⟩ = some (.int .i64 tn) ∧ w'.cell? ⟨g, r.at_ * 4 + 3, none⟩ = some (.int .i64 ta)) ((refine ⟨?_, ?_, ?_, ?_, ?_, ?_⟩ <;> first | assumption | (simp [go_sem, *]; done))) (fail)
      go_wp2_with (first | ((with_reducible refine (of_any _ _).mono ?_); intro e w1 hr; obtain ⟨rfl, p, rfl⟩ := hr.out; clear hr) | ((with_reducible refine (word_any _ _).mono ?_); intro e w1 hr; obtain ⟨rfl, p, rfl⟩ := hr.out; clear hr) | ((with_reducible refine (truth_any _ _).mono ?_); intro e w1 hr; obtain ⟨rfl, p, rfl⟩ := hr.out; clear hr) | ((with_reducible refine ((I2.out _ _ (by simp [go_sem]) (by simp [go_sem])).out).mono ?_); intro e w1 hr; obtain ⟨rfl, p, rfl⟩ := hr.out; clear hr) | ((with_reducible refine ((I1.out _ _ (by simp [go_sem])).out).mono ?_); intro e w1 hr; obtain ⟨rfl, p, rfl⟩ := hr.out; clear hr))
      refine ((Ad.out ⟨0, 1, tn, [], [], 0, 0⟩ _ (rdat_keep hAt.out (by repeat' (first | (with_reducible exact Below.refl _ _) | (with_reducible assumption) | (with_reducible refine Below.alloc ?_ ?_ _) | (with_reducible refine Below.drew ?_) | (with_reducible refine belowN ?_ _) | (with_reducible refine Below.setCell ?_ ?_ _) | (with_reducible refine belowG ?_ ?_) | (with_reducible exact Nat.le_refl _) | (with_reducible refine le_sizeG ?_) | (with_reducible refine le_sizeA ?_) | (with_reducible refine le_sizeC ?_) | (with_reducible refine le_sizeD ?_) | (with_reducible refine le_sizeN ?_) | go_size | (simp [go_sem]; done))))).out).mono ?_
      intro e w1 hr
      obtain ⟨rfl, ⟨nv1, pv1, wv1, h1⟩, hb1⟩ := hr
      obtain ⟨b0, b1, _, _, _, _, brb, bfr⟩ := rd_cells h1
      replace b1 : w1.cell? ⟨rb, 1, none⟩ = some (.int .i64 (r.at_ : Int)) := b1
      have g1 := bfr 1
      have j1 : InW rb w1 := ⟨brb⟩
      have hq := Lib.hid (rd_at h1 (r.at_ + 1) (x := (r.at_ : Int) + 1) rfl)
      have hb2 : Below B w w1 := Below.trans (by repeat' (first | (with_reducible exact Below.refl _ _) | (with_reducible assumption) | (with_reducible refine Below.alloc ?_ ?_ _) | (with_reducible refine Below.drew ?_) | (with_reducible refine belowN ?_ _) | (with_reducible refine Below.setCell ?_ ?_ _) | (with_reducible refine belowG ?_ ?_) | (with_reducible exact Nat.le_refl _) | (with_reducible refine le_sizeG ?_) | (with_reducible refine le_sizeA ?_) | (with_reducible refine le_sizeC ?_) | (with_reducible refine le_sizeD ?_) | (with_reducible refine le_sizeN ?_) | go_size | (simp [go_sem]; done))) hb1
      clear h1 hb1 Ad I1 I2 c0 c1 f1 a0 a1 a2 a3 bfr
      go_wp2
      go_returns
      exact ⟨rfl, ⟨_, _, _, hq.out⟩, Below.setCell hb2 hbase _⟩
end Go.Proofs.YtkjgfcbanlcmgaaGreatDoor

