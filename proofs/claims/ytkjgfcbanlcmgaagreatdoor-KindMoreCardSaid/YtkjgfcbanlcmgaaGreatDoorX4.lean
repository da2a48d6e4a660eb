/- A reader adds a node. -/
import Derived.Test.YtkjgfcbanlcmgaaGreatDoorX3
import Derived.WalkKit
import Derived.ProofKit
import Derived.OpenShut
import Derived.Handy
import Derived.BigQuiet
import Derived.OwnWalk
import Derived.Deep.RegionHeld3
import Derived.Deep.AppendLies
import Derived.Deep.RegionLaw
import Derived.Lib.Hide
import Derived.WalkSmall
import Derived.WalkLawsBesides
namespace Go.Proofs.YtkjgfcbanlcmgaaGreatDoor
open Go.RowKit
theorem Tryz.infoInt : (Tryz.prog.info? 3).map (fun i => (i.zero, i.size, i.bytes)) = some (some (.int .i64 0), 1, 8) := by kernel_rfl
theorem Tryz.infoNode : (Tryz.prog.info? 57).map (fun i => (i.zero, i.size, i.bytes)) = some (some (.agg #[.int .i64 0, .int .i64 0, .int .i64 0, .string ⟨#[]⟩, .string ⟨#[]⟩, .int .i64 0, .int .i64 0]), 7, 72) := by kernel_rfl
/-- A step that only goes on. -/
def DoneIs (B rb : Nat) (lv : Value) (r : Rd) (w : World) (e : Ending) (w' : World) : Prop := e = .returned (.tuple #[]) ∧ RdAt B rb lv r w' ∧ Below B w w'
theorem new_block (w : World) (o : Obj) : (w.alloc o).heap[w.heap.size]? = some o := heap_alloc_new w o
set_option maxRecDepth 100000 in
set_option maxHeartbeats 4000000 in
theorem radd_any {B rb : Nat} {lv : Value} {r : Rd} (n : Nd) (hns : r.nodes.length ≤ 1000) (hps : r.parts.length ≤ 1000) (w : World) (h : RdAt B rb lv r w) :
    Calls Tryz.prog 65 #[.pointer (some ⟨rb, 0, none⟩), ndV n] w (DoneIs B rb lv (r.add n) w) := by
  obtain ⟨nv, pv, wv, h⟩ := h
  obtain ⟨i0, hi, hz1, hz2, hz3⟩ := info_parts Tryz.infoInt
  obtain ⟨j0, hj, hy1, hy2, hy3⟩ := info_parts Tryz.infoNode
  obtain ⟨na, nc, rfl⟩ := own_form h.nodes
  obtain ⟨pa, pc, rfl⟩ := own_form h.parts
  obtain ⟨wa, wc, rfl⟩ := own_form h.wait
  have hb0 := h.base
  have hlt0 := lt_of_block h.blk
  unfold ndV
  go_enter Tryz.func65, Tryz.ntmps65
  go_wp2_with fail
  have hbox := new_block w (.cells #[.int .i64 n.op, .int .i64 n.k, .int .i64 n.n, .string ⟨n.s.toArray⟩, .string ⟨n.name.toArray⟩, .int .i64 n.l, .int .i64 n.r] 57)
  have h1 := rd_keep h (w' := w.alloc (.cells #[.int .i64 n.op, .int .i64 n.k, .int .i64 n.n, .string ⟨n.s.toArray⟩, .string ⟨n.name.toArray⟩, .int .i64 n.l, .int .i64 n.r] 57)) (by repeat' (first | (with_reducible exact Below.refl _ _) | (with_reducible assumption) | (with_reducible refine Below.alloc ?_ ?_ _) | (with_reducible refine Below.drew ?_) | (with_reducible refine belowN ?_ _) | (with_reducible refine Below.setCell ?_ ?_ _) | (with_reducible refine belowG ?_ ?_) | (with_reducible exact Nat.le_refl _) | (with_reducible refine le_sizeG ?_) | (with_reducible refine le_sizeA ?_) | (with_reducible refine le_sizeC ?_) | (with_reducible refine le_sizeD ?_) | (with_reducible refine le_sizeN ?_) | go_size | (simp [go_sem]; done)))
  have hbel : Below B w (w.alloc (.cells #[.int .i64 n.op, .int .i64 n.k, .int .i64 n.n, .string ⟨n.s.toArray⟩, .string ⟨n.name.toArray⟩, .int .i64 n.l, .int .i64 n.r] 57)) := Below.alloc (Below.refl _ _) (by omega) _
  have hne : ¬ w.heap.size = rb := by omega
  generalize w.alloc _ = W at *
  generalize w.heap.size = bx at *
  obtain ⟨c0, c1, c2, c3, c4, c5, hrb, hfr⟩ := rd_cells h1
  have f3 := hfr 3
  have hB : B ≤ W.heap.size := by omega
  clear c0 c1 c4 c5 hfr h
  go_cut [3] (fun v3 wx => ∃ pv', v3 = .pointer (some ⟨bx, 0, none⟩) ∧ wx.heap[bx]? = some (.cells #[.int .i64 n.op, .int .i64 n.k, .int .i64 n.n, .string ⟨n.s.toArray⟩, .string ⟨n.name.toArray⟩, .int .i64 n.l, .int .i64 n.r] 57 (0, 0)) ∧ RdIs B rb lv { r with parts := r.nodes.length :: r.parts } (.slice na r.nodes.length nc) pv' (.slice wa r.wait.length wc) wx ∧ Below B w wx)
  case first =>
    have i1 : InW rb W := ⟨hrb⟩
    have hA := Lib.hid h1
    have hX := Lib.hid hbox
    have hln := Lib.hid h1.parts
    clear h1 hbox
    go_region_law? (refine step_append_lies _ rfl (.tmp 8) (.tmp 14) 53 rfl B 3 i0 _ 1 8 Tryz.underlying53 hi hz1 hz2 hz3 rfl (by decide) (.slice pa r.parts.length pc) r.parts.length (natsC r.parts.reverse) (by simp [Act.eval]) (owns_below hln.out (by repeat' (first | (with_reducible exact Below.refl _ _) | (with_reducible assumption) | (with_reducible refine Below.alloc ?_ ?_ _) | (with_reducible refine Below.drew ?_) | (with_reducible refine belowN ?_ _) | (with_reducible refine Below.setCell ?_ ?_ _) | (with_reducible refine belowG ?_ ?_) | (with_reducible exact Nat.le_refl _) | (with_reducible refine le_sizeG ?_) | (with_reducible refine le_sizeA ?_) | (with_reducible refine le_sizeC ?_) | (with_reducible refine le_sizeD ?_) | (with_reducible refine le_sizeN ?_) | go_size | (simp [go_sem]; done)))) ⟨_, 0, none⟩ 1 1 [.int .i64 (r.nodes.length : Int)] (by simp [Act.eval]) rfl (World.news_of_block (new_block _ _)) (by intro u hu; simp at hu; subst hu; rfl) (by decide) (by unfold maxLen; omega) (by omega) (by simp [go_sem]; omega) _ rfl ?_; intro g cap' w1 hown1 hgrow hat1 hg1; obtain ⟨k2, k3, k4, kf, kl⟩ := grown_cells hgrow hA.out hln.out (by decide) (by repeat' (first | (with_reducible exact Below.refl _ _) | (with_reducible assumption) | (with_reducible refine Below.alloc ?_ ?_ _) | (with_reducible refine Below.drew ?_) | (with_reducible refine belowN ?_ _) | (with_reducible refine Below.setCell ?_ ?_ _) | (with_reducible refine belowG ?_ ?_) | (with_reducible exact Nat.le_refl _) | (with_reducible refine le_sizeG ?_) | (with_reducible refine le_sizeA ?_) | (with_reducible refine le_sizeC ?_) | (with_reducible refine le_sizeD ?_) | (with_reducible refine le_sizeN ?_) | go_size | (simp [go_sem]; done))))
    all_goals
      go_wp2_with fail
      go_meet
      exact ⟨_, rfl, (Below.heap_setCell _ _ _ _ hne).trans (grown_blk (owns_below hln.out (by repeat' (first | (with_reducible exact Below.refl _ _) | (with_reducible assumption) | (with_reducible refine Below.alloc ?_ ?_ _) | (with_reducible refine Below.drew ?_) | (with_reducible refine belowN ?_ _) | (with_reducible refine Below.setCell ?_ ?_ _) | (with_reducible refine belowG ?_ ?_) | (with_reducible exact Nat.le_refl _) | (with_reducible refine le_sizeG ?_) | (with_reducible refine le_sizeA ?_) | (with_reducible refine le_sizeC ?_) | (with_reducible refine le_sizeD ?_) | (with_reducible refine le_sizeN ?_) | go_size | (simp [go_sem]; done)))) ((Below.block (B := W.heap.size) (by repeat' (first | (with_reducible exact Below.refl _ _) | (with_reducible assumption) | (with_reducible refine Below.alloc ?_ ?_ _) | (with_reducible refine Below.drew ?_) | (with_reducible refine belowN ?_ _) | (with_reducible refine Below.setCell ?_ ?_ _) | (with_reducible refine belowG ?_ ?_) | (with_reducible exact Nat.le_refl _) | (with_reducible refine le_sizeG ?_) | (with_reducible refine le_sizeA ?_) | (with_reducible refine le_sizeC ?_) | (with_reducible refine le_sizeD ?_) | (with_reducible refine le_sizeN ?_) | go_size | (simp [go_sem]; done))) bx (lt_of_block hX.out)).trans hX.out) (by decide) hgrow), rd_parts (rd_keep hA.out (by repeat' (first | (with_reducible exact Below.refl _ _) | (with_reducible assumption) | (with_reducible refine Below.alloc ?_ ?_ _) | (with_reducible refine Below.drew ?_) | (with_reducible refine belowN ?_ _) | (with_reducible refine Below.setCell ?_ ?_ _) | (with_reducible refine belowG ?_ ?_) | (with_reducible exact Nat.le_refl _) | (with_reducible refine le_sizeG ?_) | (with_reducible refine le_sizeA ?_) | (with_reducible refine le_sizeC ?_) | (with_reducible refine le_sizeD ?_) | (with_reducible refine le_sizeN ?_) | go_size | (simp [go_sem]; done)))) hgrow hown1 rfl hat1 (Nat.le_refl _), Below.setCell (grown_below hgrow hln.out hbel (by repeat' (first | (with_reducible exact Below.refl _ _) | (with_reducible assumption) | (with_reducible refine Below.alloc ?_ ?_ _) | (with_reducible refine Below.drew ?_) | (with_reducible refine belowN ?_ _) | (with_reducible refine Below.setCell ?_ ?_ _) | (with_reducible refine belowG ?_ ?_) | (with_reducible exact Nat.le_refl _) | (with_reducible refine le_sizeG ?_) | (with_reducible refine le_sizeA ?_) | (with_reducible refine le_sizeC ?_) | (with_reducible refine le_sizeD ?_) | (with_reducible refine le_sizeN ?_) | go_size | (simp [go_sem]; done))) hB) hb0 _⟩
  case rest =>
    clear hbox h1 c2 c3 f3 hrb hne hbel hb0 hlt0
    obtain ⟨pv', rfl, hbox, h1, hbel⟩ := hcut
    rename World => wx
    obtain ⟨c0, c1, c2, c3, c4, c5, hrb, hfr⟩ := rd_cells h1
    have f2 := hfr 2
    have hb0 := h1.base
    have hB1 : B ≤ wx.heap.size := by omega
    have i1 : InW rb wx := ⟨hrb⟩
    have i2 : InW bx wx := ⟨lt_of_block hbox⟩
    have e0 := cell_of_row wx bx 0 _ _ _ hbox
    have e1 := cell_of_row wx bx 1 _ _ _ hbox
    have e2 := cell_of_row wx bx 2 _ _ _ hbox
    have e3 := cell_of_row wx bx 3 _ _ _ hbox
    have e4 := cell_of_row wx bx 4 _ _ _ hbox
    have e5 := cell_of_row wx bx 5 _ _ _ hbox
    have e6 := cell_of_row wx bx 6 _ _ _ hbox
    simp only [List.getElem?_toArray, List.getElem?_cons_zero, List.getElem?_cons_succ] at e0 e1 e2 e3 e4 e5 e6
    clear c0 c1 c3 c4 c5 hfr hbox
    have hA := Lib.hid h1
    have hln := Lib.hid h1.nodes
    clear h1
    go_wp2_with fail
    go_region_law (refine step_append_lies _ rfl (.tmp 22) (.tmp 24) 31 rfl B 57 j0 _ 7 72 Tryz.underlying31 hj hy1 hy2 hy3 rfl (by decide) (.slice na r.nodes.length nc) r.nodes.length (ndsC r.nodes) (by simp [Act.eval]) (owns_below hln.out (by repeat' (first | (with_reducible exact Below.refl _ _) | (with_reducible assumption) | (with_reducible refine Below.alloc ?_ ?_ _) | (with_reducible refine Below.drew ?_) | (with_reducible refine belowN ?_ _) | (with_reducible refine Below.setCell ?_ ?_ _) | (with_reducible refine belowG ?_ ?_) | (with_reducible exact Nat.le_refl _) | (with_reducible refine le_sizeG ?_) | (with_reducible refine le_sizeA ?_) | (with_reducible refine le_sizeC ?_) | (with_reducible refine le_sizeD ?_) | (with_reducible refine le_sizeN ?_) | go_size | (simp [go_sem]; done)))) ⟨_, 0, none⟩ 1 1 (ndC n) (by simp [Act.eval]) rfl (World.news_of_block (new_block _ _)) (by intro u hu; simp [ndC] at hu; rcases hu with rfl | rfl | rfl | rfl | rfl | rfl | rfl <;> rfl) (by decide) (by unfold maxLen; omega) (by omega) (by simp [go_sem]; omega) _ rfl ?_; intro g cap' w1 hown1 hgrow hat1 hg1; obtain ⟨k2, k3, k4, kf, kl⟩ := grown_cells hgrow hA.out hln.out (by decide) (by repeat' (first | (with_reducible exact Below.refl _ _) | (with_reducible assumption) | (with_reducible refine Below.alloc ?_ ?_ _) | (with_reducible refine Below.drew ?_) | (with_reducible refine belowN ?_ _) | (with_reducible refine Below.setCell ?_ ?_ _) | (with_reducible refine belowG ?_ ?_) | (with_reducible exact Nat.le_refl _) | (with_reducible refine le_sizeG ?_) | (with_reducible refine le_sizeA ?_) | (with_reducible refine le_sizeC ?_) | (with_reducible refine le_sizeD ?_) | (with_reducible refine le_sizeN ?_) | go_size | (simp [go_sem]; done))))
    all_goals
      go_wp2_with fail
      go_returns
      exact ⟨rfl, ⟨_, _, _, rd_nodes (rd_keep hA.out (by repeat' (first | (with_reducible exact Below.refl _ _) | (with_reducible assumption) | (with_reducible refine Below.alloc ?_ ?_ _) | (with_reducible refine Below.drew ?_) | (with_reducible refine belowN ?_ _) | (with_reducible refine Below.setCell ?_ ?_ _) | (with_reducible refine belowG ?_ ?_) | (with_reducible exact Nat.le_refl _) | (with_reducible refine le_sizeG ?_) | (with_reducible refine le_sizeA ?_) | (with_reducible refine le_sizeC ?_) | (with_reducible refine le_sizeD ?_) | (with_reducible refine le_sizeN ?_) | go_size | (simp [go_sem]; done)))) hgrow hown1 rfl⟩, Below.setCell (grown_below hgrow hln.out hbel (by repeat' (first | (with_reducible exact Below.refl _ _) | (with_reducible assumption) | (with_reducible refine Below.alloc ?_ ?_ _) | (with_reducible refine Below.drew ?_) | (with_reducible refine belowN ?_ _) | (with_reducible refine Below.setCell ?_ ?_ _) | (with_reducible refine belowG ?_ ?_) | (with_reducible exact Nat.le_refl _) | (with_reducible refine le_sizeG ?_) | (with_reducible refine le_sizeA ?_) | (with_reducible refine le_sizeC ?_) | (with_reducible refine le_sizeD ?_) | (with_reducible refine le_sizeN ?_) | go_size | (simp [go_sem]; done))) hB1) hb0 _⟩
end Go.Proofs.YtkjgfcbanlcmgaaGreatDoor

