/- The operation of two parts whose sign stands at a place. -/
import Derived.Test.YtkjgfcbanlcmgaaGreatDoorX6
import Derived.WalkKit
import Derived.ProofKit
import Derived.OpenShut
import Derived.Handy
import Derived.BigQuiet
import Derived.Deep.RegionHeld3
import Derived.Lib.Hide
import Derived.WalkSmall
import Derived.WalkLawsBesides
namespace Go.Proofs.YtkjgfcbanlcmgaaGreatDoor
open Go.RowKit
def BetwIs (B rb : Nat) (lv : Value) (op : Int) (r : Rd) (w : World) (e : Ending) (w' : World) : Prop := e = .returned (.tuple #[.int .i64 op, .bool (!(op == 0))]) ∧ RdAt B rb lv r w' ∧ Below B w w'
theorem opFrom_hit (t : Tk) (i : Nat) (hi : i ≤ 15) (h : wordB t (signL.getD i []) = true) : opFrom t (16 - i) (i : Int) = i := by
  rw [show 16 - i = (15 - i) + 1 by omega, opFrom, show ((i : Int)).toNat = i from rfl, h]; rfl
theorem opFrom_miss (t : Tk) (i : Nat) (hi : i ≤ 15) (h : wordB t (signL.getD i []) = false) : opFrom t (16 - i) (i : Int) = opFrom t (16 - (i + 1)) ((i + 1 : Nat) : Int) := by
  rw [show 16 - i = (15 - i) + 1 by omega, opFrom, show ((i : Int)).toNat = i from rfl, h, show 16 - (i + 1) = 15 - i by omega]; rfl
set_option maxRecDepth 100000 in
set_option maxHeartbeats 4000000 in
theorem rbetween_any {B rb : Nat} {ao : Option Addr} {cap : Nat} {ts : List Tk} {r : Rd} (hat : r.at_ ≤ ts.length) (w : World) (h : RdAt B rb (.slice ao ts.length cap) r w) (env : Env B ao ts w) :
    Calls Tryz.prog 62 #[.pointer (some ⟨rb, 0, none⟩)] w (BetwIs B rb (.slice ao ts.length cap) (between ts r.at_) r w) := by
  have hAt := Lib.hid h
  have hts := env.few
  obtain ⟨nv, pv, wv, h⟩ := h
  obtain ⟨c0, c1, c2, c3, c4, c5, hrb, hfr⟩ := rd_cells h
  have hbase := h.base
  have i1 : InW rb w := ⟨hrb⟩
  have hsz : B ≤ w.heap.size := by omega
  clear c2 c3 c4 c5 hfr
  by_cases he : r.at_ = ts.length
  · have hn : between ts r.at_ = 0 := by unfold between; rw [List.getElem?_eq_none (by omega)]
    rw [hn]
    have hd : ((r.at_ : Int) == (ts.length : Int)) = true := by rw [beq_iff_eq]; omega
    clear hn h he env
    go_enter Tryz.func62, Tryz.ntmps62
    go_wp2_with fail
    (refine wp_region_G (by kernel_rfl) (by kernel_rfl) ?_; (repeat (go_big_quiet_step (fail))); refine wpQuiet_nil ?_; intro _ hw'; obtain ⟨pg, hw''⟩ := hw'; subst hw'')
    go_wp2
    go_returns
    exact ⟨rfl, rdat_keep hAt.out (by repeat' (first | (with_reducible exact Below.refl _ _) | (with_reducible assumption) | (with_reducible refine Below.alloc ?_ ?_ _) | (with_reducible refine Below.drew ?_) | (with_reducible refine belowN ?_ _) | (with_reducible refine Below.setCell ?_ ?_ _) | (with_reducible refine belowG ?_ ?_) | (with_reducible exact Nat.le_refl _) | (with_reducible refine le_sizeG ?_) | (with_reducible refine le_sizeA ?_) | (with_reducible refine le_sizeC ?_) | (with_reducible refine le_sizeD ?_) | (with_reducible refine le_sizeN ?_) | go_size | (simp [go_sem]; done))), by repeat' (first | (with_reducible exact Below.refl _ _) | (with_reducible assumption) | (with_reducible refine Below.alloc ?_ ?_ _) | (with_reducible refine Below.drew ?_) | (with_reducible refine belowN ?_ _) | (with_reducible refine Below.setCell ?_ ?_ _) | (with_reducible refine belowG ?_ ?_) | (with_reducible exact Nat.le_refl _) | (with_reducible refine le_sizeG ?_) | (with_reducible refine le_sizeA ?_) | (with_reducible refine le_sizeC ?_) | (with_reducible refine le_sizeD ?_) | (with_reducible refine le_sizeN ?_) | go_size | (simp [go_sem]; done))⟩
  · have hlt : r.at_ < ts.length := by omega
    obtain ⟨g, rfl, hgB, ht⟩ := env.sl (by omega)
    have hg : g < w.heap.size := by omega
    have hd : ((r.at_ : Int) == (ts.length : Int)) = false := by rw [beq_eq_false_iff_ne]; omega
    have hb0 : between ts r.at_ = opFrom ts[r.at_] (16 - 3) ((3 : Nat) : Int) := by unfold between; rw [List.getElem?_eq_getElem hlt]; rfl
    rw [hb0]
    have I := fun x b hb g wx hc => Lib.hid (is1_any (ts[r.at_]'hlt).k ⟨(ts[r.at_]'hlt).s.toArray⟩ (ts[r.at_]'hlt).n ((ts[r.at_]'hlt).a : Int) x b hb g wx hc)
    replace I := Lib.hid I
    have hw := fun i => (rfl : wordB ts[r.at_] (signL.getD i []) = _)
    have C := fun wx hk => toks_below (w' := wx) ht hg hk r.at_ hlt
    have D := fun wx hk => rd_cells (rd_keep (w' := wx) h hk)
    have E := fun wx hk => eg_cell (eg_keep (w' := wx) env.eg (eg_lt env.eg) hk)
    have hgl := eg_lt env.eg
    replace C := Lib.hid C
    replace D := Lib.hid D
    replace E := Lib.hid E
    have hit := Lib.hid (opFrom_hit ts[r.at_])
    have miss := Lib.hid (opFrom_miss ts[r.at_])
    have hend : opFrom ts[r.at_] (16 - 16) ((16 : Nat) : Int) = 0 := rfl
    replace hend := Lib.hid hend
    clear hb0 he h ht env
    obtain ⟨a0, a1, a2, a3⟩ := C.out w (Below.refl _ _)
    have i2 : InW g w := ⟨hg⟩
    obtain ⟨p, hp⟩ : ∃ p, opFrom ts[r.at_] (16 - 3) ((3 : Nat) : Int) = p := ⟨_, rfl⟩
    rw [hp]
    generalize ts[r.at_] = t at *
    clear hw
    go_enter Tryz.func62, Tryz.ntmps62
    go_wp2_with fail
    (refine wp_region_G (by kernel_rfl) (by kernel_rfl) ?_; (repeat (go_big_quiet_step (fail))); refine wpQuiet_nil ?_; intro _ hw'; obtain ⟨pg, hw''⟩ := hw'; subst hw'')
    go_wp2
    go_loopw [4] (fun v wr => ∃ i : Nat, 3 ≤ i ∧ i ≤ 16 ∧ v = .int .i64 i ∧ p = opFrom t (16 - i) (i : Int) ∧ Below w.heap.size w wr) (fun v _ => 16 - (intOf v).toNat)
    case atStart => exact ⟨3, Nat.le_refl _, by omega, rfl, hp.symm, by repeat' (first | (with_reducible exact Below.refl _ _) | (with_reducible assumption) | (with_reducible refine Below.alloc ?_ ?_ _) | (with_reducible refine Below.drew ?_) | (with_reducible refine belowN ?_ _) | (with_reducible refine Below.setCell ?_ ?_ _) | (with_reducible refine belowG ?_ ?_) | (with_reducible exact Nat.le_refl _) | (with_reducible refine le_sizeG ?_) | (with_reducible refine le_sizeA ?_) | (with_reducible refine le_sizeC ?_) | (with_reducible refine le_sizeD ?_) | (with_reducible refine le_sizeN ?_) | go_size | (simp [go_sem]; done))⟩
    case round =>
      obtain ⟨i, h3, h16, rfl, hop, hb⟩ := hrel
      rename World => wr
      clear c0 c1 a0 a1 a2 a3 i1 i2
      obtain ⟨a0, a1, a2, a3⟩ := C.out wr hb
      obtain ⟨c0, c1, _, _, _, _, hrb1, _⟩ := D.out wr hb
      have hwz := hb.size
      have hbB : Below B w wr := hb.mono hsz
      have hsz2 : B ≤ wr.heap.size := by omega
      have i1 : InW rb wr := ⟨hrb1⟩
      have i2 : InW g wr := ⟨by omega⟩
      have i3 : InW 1 wr := ⟨by omega⟩
      by_cases hl : i ≤ 15
      · have s0 := E.out wr hb i (by omega)
        rcases hwd : wordB t (signL.getD i [])
        · have hnext := Lib.hid (hop.trans (miss.out i hl hwd))
          have hwd' : ((t.k == 1 || t.k == 5) && (⟨t.s.toArray⟩ : ByteArray).data.toList == (⟨(signL.getD i []).toArray⟩ : ByteArray).data.toList) = false := hwd
          have I1 := fun g wx hc => I.out _ _ hwd' g wx hc
          replace I1 := Lib.hid I1
          clear hwd hwd' hop
          generalize (⟨(signL.getD i []).toArray⟩ : ByteArray) = x at *
          generalize t.k = tk at *
          generalize (⟨t.s.toArray⟩ : ByteArray) = tx at *
          generalize t.n = tn at *
          generalize (t.a : Int) = ta at *
          have hli : (i : Int) < 16 := by omega
          go_wp2_with fail
          go_region_held3 (fun w' => w'.cell? ⟨rb, 0, none⟩ = some (.slice (some ⟨g, 0, none⟩) ts.length cap) ∧ w'.cell? ⟨rb, 1, none⟩ = some (.int .i64 (r.at_ : Int)) ∧ w'.cell? ⟨g, r.at_ * 4, none⟩ = some (.int .i64 tk) ∧ w'.cell? ⟨g, r.at_ * 4 + 1, none⟩ = some (.string tx) ∧ w'.cell? ⟨g, r.at_ * 4 + 2, none⟩ = some (.int .i64 tn) ∧ w'.cell? ⟨g, r.at_ * 4 + 3, none⟩ = some (.int .i64 ta) ∧ w'.cell? ⟨1, i, none⟩ = some (.string x)) ((refine ⟨?_, ?_, ?_, ?_, ?_, ?_, ?_⟩ <;> first | assumption | (simp [go_sem, *]; done))) (first | ((with_reducible refine ((I1.out _ _ (by simp [go_sem])).out).mono ?_); intro e w1 hr; obtain ⟨rfl, p, rfl⟩ := hr.out; clear hr))
          go_wp2
          go_roundw
          case rel => exact ⟨i + 1, by omega, by omega, by go_num, hnext.out, by repeat' (first | (with_reducible exact Below.refl _ _) | (with_reducible assumption) | (with_reducible refine Below.alloc ?_ ?_ _) | (with_reducible refine Below.drew ?_) | (with_reducible refine belowN ?_ _) | (with_reducible refine Below.setCell ?_ ?_ _) | (with_reducible refine belowG ?_ ?_) | (with_reducible exact Nat.le_refl _) | (with_reducible refine le_sizeG ?_) | (with_reducible refine le_sizeA ?_) | (with_reducible refine le_sizeC ?_) | (with_reducible refine le_sizeD ?_) | (with_reducible refine le_sizeN ?_) | go_size | (simp [go_sem]; done))⟩
          case measure => simp [intOf]; omega
        · have hres := Lib.hid (hop.trans (hit.out i hl hwd))
          have hwd' : ((t.k == 1 || t.k == 5) && (⟨t.s.toArray⟩ : ByteArray).data.toList == (⟨(signL.getD i []).toArray⟩ : ByteArray).data.toList) = true := hwd
          have I1 := fun g wx hc => I.out _ _ hwd' g wx hc
          replace I1 := Lib.hid I1
          clear hwd hwd' hop
          generalize (⟨(signL.getD i []).toArray⟩ : ByteArray) = x at *
          generalize t.k = tk at *
          generalize (⟨t.s.toArray⟩ : ByteArray) = tx at *
          generalize t.n = tn at *
          generalize (t.a : Int) = ta at *
          have hli : (i : Int) < 16 := by omega
          have hnz : ((i : Int) == 0) = false := by rw [beq_eq_false_iff_ne]; omega
          go_wp2_with fail
          go_region_held3 (fun w' => w'.cell? ⟨rb, 0, none⟩ = some (.slice (some ⟨g, 0, none⟩) ts.length cap) ∧ w'.cell? ⟨rb, 1, none⟩ = some (.int .i64 (r.at_ : Int)) ∧ w'.cell? ⟨g, r.at_ * 4, none⟩ = some (.int .i64 tk) ∧ w'.cell? ⟨g, r.at_ * 4 + 1, none⟩ = some (.string tx) ∧ w'.cell? ⟨g, r.at_ * 4 + 2, none⟩ = some (.int .i64 tn) ∧ w'.cell? ⟨g, r.at_ * 4 + 3, none⟩ = some (.int .i64 ta) ∧ w'.cell? ⟨1, i, none⟩ = some (.string x)) ((refine ⟨?_, ?_, ?_, ?_, ?_, ?_, ?_⟩ <;> first | assumption | (simp [go_sem, *]; done))) (first | ((with_reducible refine ((I1.out _ _ (by simp [go_sem])).out).mono ?_); intro e w1 hr; obtain ⟨rfl, p, rfl⟩ := hr.out; clear hr))
          go_wp2
          go_returns
          exact ⟨by rw [hres.out, hnz]; rfl, rdat_keep hAt.out (by repeat' (first | (with_reducible exact Below.refl _ _) | (with_reducible assumption) | (with_reducible refine Below.alloc ?_ ?_ _) | (with_reducible refine Below.drew ?_) | (with_reducible refine belowN ?_ _) | (with_reducible refine Below.setCell ?_ ?_ _) | (with_reducible refine belowG ?_ ?_) | (with_reducible exact Nat.le_refl _) | (with_reducible refine le_sizeG ?_) | (with_reducible refine le_sizeA ?_) | (with_reducible refine le_sizeC ?_) | (with_reducible refine le_sizeD ?_) | (with_reducible refine le_sizeN ?_) | go_size | (simp [go_sem]; done))), by repeat' (first | (with_reducible exact Below.refl _ _) | (with_reducible assumption) | (with_reducible refine Below.alloc ?_ ?_ _) | (with_reducible refine Below.drew ?_) | (with_reducible refine belowN ?_ _) | (with_reducible refine Below.setCell ?_ ?_ _) | (with_reducible refine belowG ?_ ?_) | (with_reducible exact Nat.le_refl _) | (with_reducible refine le_sizeG ?_) | (with_reducible refine le_sizeA ?_) | (with_reducible refine le_sizeC ?_) | (with_reducible refine le_sizeD ?_) | (with_reducible refine le_sizeN ?_) | go_size | (simp [go_sem]; done))⟩
      · obtain rfl : i = 16 := by omega
        have hres := Lib.hid (hop.trans hend.out)
        clear hop
        go_wp2
        go_returns
        exact ⟨by rw [hres.out]; rfl, rdat_keep hAt.out (by repeat' (first | (with_reducible exact Below.refl _ _) | (with_reducible assumption) | (with_reducible refine Below.alloc ?_ ?_ _) | (with_reducible refine Below.drew ?_) | (with_reducible refine belowN ?_ _) | (with_reducible refine Below.setCell ?_ ?_ _) | (with_reducible refine belowG ?_ ?_) | (with_reducible exact Nat.le_refl _) | (with_reducible refine le_sizeG ?_) | (with_reducible refine le_sizeA ?_) | (with_reducible refine le_sizeC ?_) | (with_reducible refine le_sizeD ?_) | (with_reducible refine le_sizeN ?_) | go_size | (simp [go_sem]; done))), by repeat' (first | (with_reducible exact Below.refl _ _) | (with_reducible assumption) | (with_reducible refine Below.alloc ?_ ?_ _) | (with_reducible refine Below.drew ?_) | (with_reducible refine belowN ?_ _) | (with_reducible refine Below.setCell ?_ ?_ _) | (with_reducible refine belowG ?_ ?_) | (with_reducible exact Nat.le_refl _) | (with_reducible refine le_sizeG ?_) | (with_reducible refine le_sizeA ?_) | (with_reducible refine le_sizeC ?_) | (with_reducible refine le_sizeD ?_) | (with_reducible refine le_sizeN ?_) | go_size | (simp [go_sem]; done))⟩
end Go.Proofs.YtkjgfcbanlcmgaaGreatDoor

