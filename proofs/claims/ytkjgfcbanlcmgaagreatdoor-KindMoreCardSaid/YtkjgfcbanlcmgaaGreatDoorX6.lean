/- What may stand ahead of an atom; the operation of two parts that stands at a place. -/
import Derived.Test.YtkjgfcbanlcmgaaGreatDoorX5
import Derived.WalkKit
import Derived.ProofKit
import Derived.OpenShut
import Derived.Handy
import Derived.BigQuiet
import Derived.OwnWalk
import Derived.Deep.RegionHeld3
import Derived.Deep.AppendLies
import Derived.Lib.Hide
import Derived.WalkSmall
import Derived.WalkLawsBesides
namespace Go.Proofs.YtkjgfcbanlcmgaaGreatDoor
open Go.RowKit
def esignsV : Array Value := (signL.map fun l => Value.string ⟨l.toArray⟩).toArray
/-- The program's list of operations' signs is as its text lays it. -/
def Eg (w : World) : Prop := w.var? Tryz.prog "whirligig/expr.signs" = some esignsV
theorem eg_global : Tryz.prog.globalNamed "whirligig/expr.signs" = some 1 := by kernel_rfl
theorem eg_lt {w : World} (h : Eg w) : 1 < w.heap.size := global_lt eg_global h
theorem eg_keep {B : Nat} {w w' : World} (h : Eg w) (hB : 1 < B) (hb : Below B w w') : Eg w' := var?_below hb eg_global hB h
theorem eg_cell {w : World} (h : Eg w) (i : Nat) (hi : i < 16) : w.cell? ⟨1, i, none⟩ = some (.string ⟨(signL.getD i []).toArray⟩) := by
  rw [World.var?_cell eg_global h i]
  have h : ∀ k, k < 16 → k = 0 ∨ k = 1 ∨ k = 2 ∨ k = 3 ∨ k = 4 ∨ k = 5 ∨ k = 6 ∨ k = 7 ∨ k = 8 ∨ k = 9 ∨ k = 10 ∨ k = 11 ∨ k = 12 ∨ k = 13 ∨ k = 14 ∨ k = 15 := by omega
  rcases h i hi with rfl | rfl | rfl | rfl | rfl | rfl | rfl | rfl | rfl | rfl | rfl | rfl | rfl | rfl | rfl | rfl <;> rfl
/-- Where a reader reads: the tokens, and the signs, lie below B. -/
structure Env (B : Nat) (ao : Option Addr) (ts : List Tk) (w : World) : Prop where
  sl : 0 < ts.length → ∃ g, ao = some ⟨g, 0, none⟩ ∧ g < B ∧ Toks w g ts
  gl : 1 < B
  eg : Eg w
  few : ts.length ≤ 120
  size : B ≤ w.heap.size
theorem toks_belowB {B : Nat} {w w' : World} {g : Nat} {ts : List Tk} (h : Toks w g ts) (hg : g < B) (hb : Below B w w') : Toks w' g ts := by
  intro i hi
  obtain ⟨h1, h2, h3, h4⟩ := h i hi
  exact ⟨(hb.cell (p := ⟨g, _, none⟩) hg).trans h1, (hb.cell (p := ⟨g, _, none⟩) hg).trans h2, (hb.cell (p := ⟨g, _, none⟩) hg).trans h3, (hb.cell (p := ⟨g, _, none⟩) hg).trans h4⟩
theorem env_keep {B : Nat} {ao : Option Addr} {ts : List Tk} {w w' : World} (h : Env B ao ts w) (hb : Below B w w') : Env B ao ts w' :=
  ⟨fun h0 => by obtain ⟨g, hg, hgB, ht⟩ := h.sl h0; exact ⟨g, hg, hgB, toks_belowB ht hgB hb⟩, h.gl, eg_keep h.eg h.gl hb, h.few, Nat.le_trans h.size hb.size⟩
theorem env_sl {B : Nat} {ao : Option Addr} {ts : List Tk} {w : World} (h : Env B ao ts w) : Sl w ao ts := fun h0 => by
  obtain ⟨g, hg, hgB, ht⟩ := h.sl h0
  exact ⟨g, hg, Nat.lt_of_lt_of_le hgB h.size, ht⟩
theorem etakes_any {B rb : Nat} {ao : Option Addr} {cap : Nat} {ts : List Tk} {r : Rd} (x : ByteArray) (hat : r.at_ ≤ ts.length) (w : World) (h : RdAt B rb (.slice ao ts.length cap) r w) (env : Env B ao ts w) :
    Calls Tryz.prog 61 #[.pointer (some ⟨rb, 0, none⟩), .string x] w (StepIs B rb (.slice ao ts.length cap) (takes ts x.data.toList r) r w) :=
  rtakes_any x (by have := env.few; omega) hat w h (env_sl env)
set_option maxRecDepth 100000 in
set_option maxHeartbeats 4000000 in
theorem rahead_any {B rb : Nat} {ao : Option Addr} {cap : Nat} {ts : List Tk} {r : Rd} (hat : r.at_ ≤ ts.length) (hws : r.wait.length ≤ 1000) (hwi : r.within ≤ 1000) (w : World) (h : RdAt B rb (.slice ao ts.length cap) r w) (env : Env B ao ts w) :
    Calls Tryz.prog 59 #[.pointer (some ⟨rb, 0, none⟩)] w (StepIs B rb (.slice ao ts.length cap) (ahead ts r) r w) := by
  have hA := Lib.hid h
  obtain ⟨i0, hi, hz1, hz2, hz3⟩ := info_parts Tryz.infoInt
  have sg1 := eg_cell env.eg 1 (by decide)
  simp only [signL, List.getD_cons_zero, List.getD_cons_succ] at sg1
  have hl := eg_lt env.eg
  replace env := Lib.hid env
  clear h
  unfold ahead
  rcases t0 : tkAt ts r.at_ [110, 111, 116]
  · rw [if_neg (by simp)]
    rcases t1 : tkAt ts r.at_ [45]
    · rw [if_neg (by simp)]
      rcases t2 : tkAt ts r.at_ [40]
      · rw [if_neg (by simp)]
        go_enter Tryz.func59, Tryz.ntmps59
        go_wp2_with fail
        refine (etakes_any ⟨#[110, 111, 116]⟩ hat _ hA.out env.out).mono ?_
        intro e w1 hr1
        rw [takes_none t0] at hr1
        obtain ⟨rfl, h1, hb1⟩ := hr1
        have hA1 := Lib.hid h1
        have env1 := Lib.hid (env_keep env.out hb1)
        have sg1_1 := eg_cell env1.out.eg 1 (by decide)
        have sg1_2 := eg_cell env1.out.eg 2 (by decide)
        simp only [signL, List.getD_cons_zero, List.getD_cons_succ] at sg1_1 sg1_2
        go_wp2_with fail
        refine (etakes_any ⟨#[45]⟩ hat _ hA1.out env1.out).mono ?_
        intro e w2 hr2
        rw [takes_none t1] at hr2
        obtain ⟨rfl, h2, hb2⟩ := hr2
        have hA2 := Lib.hid h2
        have env2 := Lib.hid (env_keep env1.out hb2)
        have hb2 := hb1.trans hb2
        have sg2_1 := eg_cell env2.out.eg 1 (by decide)
        have sg2_2 := eg_cell env2.out.eg 2 (by decide)
        simp only [signL, List.getD_cons_zero, List.getD_cons_succ] at sg2_1 sg2_2
        go_wp2_with fail
        refine (etakes_any ⟨#[40]⟩ hat _ hA2.out env2.out).mono ?_
        intro e w3 hr3
        rw [takes_none t2] at hr3
        obtain ⟨rfl, h3, hb3⟩ := hr3
        have hA3 := Lib.hid h3
        have env3 := Lib.hid (env_keep env2.out hb3)
        have hb3 := hb2.trans hb3
        go_wp2
        go_returns
        exact ⟨rfl, hA3.out, hb3⟩
      · rw [if_pos rfl]
        go_enter Tryz.func59, Tryz.ntmps59
        go_wp2_with fail
        refine (etakes_any ⟨#[110, 111, 116]⟩ hat _ hA.out env.out).mono ?_
        intro e w1 hr1
        rw [takes_none t0] at hr1
        obtain ⟨rfl, h1, hb1⟩ := hr1
        have hA1 := Lib.hid h1
        have env1 := Lib.hid (env_keep env.out hb1)
        have sg1_1 := eg_cell env1.out.eg 1 (by decide)
        have sg1_2 := eg_cell env1.out.eg 2 (by decide)
        simp only [signL, List.getD_cons_zero, List.getD_cons_succ] at sg1_1 sg1_2
        go_wp2_with fail
        refine (etakes_any ⟨#[45]⟩ hat _ hA1.out env1.out).mono ?_
        intro e w2 hr2
        rw [takes_none t1] at hr2
        obtain ⟨rfl, h2, hb2⟩ := hr2
        have hA2 := Lib.hid h2
        have env2 := Lib.hid (env_keep env1.out hb2)
        have hb2 := hb1.trans hb2
        have sg2_1 := eg_cell env2.out.eg 1 (by decide)
        have sg2_2 := eg_cell env2.out.eg 2 (by decide)
        simp only [signL, List.getD_cons_zero, List.getD_cons_succ] at sg2_1 sg2_2
        go_wp2_with fail
        refine (etakes_any ⟨#[40]⟩ hat _ hA2.out env2.out).mono ?_
        intro e w3 hr3
        rw [takes_some t2] at hr3
        obtain ⟨rfl, h3, hb3⟩ := hr3
        have hA3 := Lib.hid h3
        have env3 := Lib.hid (env_keep env2.out hb3)
        have hb3 := hb2.trans hb3
        obtain ⟨nv, pv, wv, h3⟩ := h3
        obtain ⟨wa, wc, rfl⟩ := own_form h3.wait
        obtain ⟨c0, c1, c2, c3, c4, c5, hrb, hfr⟩ := rd_cells h3
        have hbase := h3.base
        have f4 := hfr 4
        have f5 := hfr 5
        have i1 : InW rb w3 := ⟨hrb⟩
        have hsz : B ≤ w3.heap.size := by omega
        have hq := Lib.hid h3
        have hwt := Lib.hid h3.wait
        clear h3 c0 c1 c2 c3 hfr
        go_wp2_with (at_builtin; refine wpList_append_lies _ rfl _ _ 53 rfl B 3 i0 _ 1 8 Tryz.underlying53 hi hz1 hz2 hz3 rfl (by decide) (.slice wa r.wait.length wc) r.wait.length (intsC r.wait.reverse) rfl (owns_below hwt.out (by repeat' (first | (with_reducible exact Below.refl _ _) | (with_reducible assumption) | (with_reducible refine Below.alloc ?_ ?_ _) | (with_reducible refine Below.drew ?_) | (with_reducible refine belowN ?_ _) | (with_reducible refine Below.setCell ?_ ?_ _) | (with_reducible refine belowG ?_ ?_) | (with_reducible exact Nat.le_refl _) | (with_reducible refine le_sizeG ?_) | (with_reducible refine le_sizeA ?_) | (with_reducible refine le_sizeC ?_) | (with_reducible refine le_sizeD ?_) | (with_reducible refine le_sizeN ?_) | go_size | (simp [go_sem]; done)))) ⟨_, 0, none⟩ 1 1 [.int .i64 (-1)] rfl rfl (World.news_of_block (new_block _ _)) (by intro u hu; simp at hu; subst hu; rfl) (by decide) (by unfold maxLen; omega) (by omega) (by simp [go_sem]; omega) _ rfl ?_)
        intro g cap' w9 hown1 hgrow hat1 hg1
        obtain ⟨k2, k3, k4, kf, kl⟩ := grown_cells hgrow hq.out hwt.out (by decide) (by repeat' (first | (with_reducible exact Below.refl _ _) | (with_reducible assumption) | (with_reducible refine Below.alloc ?_ ?_ _) | (with_reducible refine Below.drew ?_) | (with_reducible refine belowN ?_ _) | (with_reducible refine Below.setCell ?_ ?_ _) | (with_reducible refine belowG ?_ ?_) | (with_reducible exact Nat.le_refl _) | (with_reducible refine le_sizeG ?_) | (with_reducible refine le_sizeA ?_) | (with_reducible refine le_sizeC ?_) | (with_reducible refine le_sizeD ?_) | (with_reducible refine le_sizeN ?_) | go_size | (simp [go_sem]; done)))
        have kf4 := kf 4
        have kf5 := kf 5
        have k5 : w9.cell? ⟨rb, 5, none⟩ = some (.int .i64 (r.within : Int)) := by rw [cell_of_row _ rb 5 _ _ _ (grown_blk (owns_below hwt.out (by repeat' (first | (with_reducible exact Below.refl _ _) | (with_reducible assumption) | (with_reducible refine Below.alloc ?_ ?_ _) | (with_reducible refine Below.drew ?_) | (with_reducible refine belowN ?_ _) | (with_reducible refine Below.setCell ?_ ?_ _) | (with_reducible refine belowG ?_ ?_) | (with_reducible exact Nat.le_refl _) | (with_reducible refine le_sizeG ?_) | (with_reducible refine le_sizeA ?_) | (with_reducible refine le_sizeC ?_) | (with_reducible refine le_sizeD ?_) | (with_reducible refine le_sizeN ?_) | go_size | (simp [go_sem]; done)))) (rd_keep hq.out (by repeat' (first | (with_reducible exact Below.refl _ _) | (with_reducible assumption) | (with_reducible refine Below.alloc ?_ ?_ _) | (with_reducible refine Below.drew ?_) | (with_reducible refine belowN ?_ _) | (with_reducible refine Below.setCell ?_ ?_ _) | (with_reducible refine belowG ?_ ?_) | (with_reducible exact Nat.le_refl _) | (with_reducible refine le_sizeG ?_) | (with_reducible refine le_sizeA ?_) | (with_reducible refine le_sizeC ?_) | (with_reducible refine le_sizeD ?_) | (with_reducible refine le_sizeN ?_) | go_size | (simp [go_sem]; done)))).blk (by decide) hgrow)]; rfl
        have i9 : InW rb w9 := ⟨kl⟩
        have hz := Lib.hid (rd_wait (rd_keep hq.out (by repeat' (first | (with_reducible exact Below.refl _ _) | (with_reducible assumption) | (with_reducible refine Below.alloc ?_ ?_ _) | (with_reducible refine Below.drew ?_) | (with_reducible refine belowN ?_ _) | (with_reducible refine Below.setCell ?_ ?_ _) | (with_reducible refine belowG ?_ ?_) | (with_reducible exact Nat.le_refl _) | (with_reducible refine le_sizeG ?_) | (with_reducible refine le_sizeA ?_) | (with_reducible refine le_sizeC ?_) | (with_reducible refine le_sizeD ?_) | (with_reducible refine le_sizeN ?_) | go_size | (simp [go_sem]; done)))) hgrow hown1 rfl hat1 (by simp))
        have hbz := grown_below hgrow hwt.out hb3 (by repeat' (first | (with_reducible exact Below.refl _ _) | (with_reducible assumption) | (with_reducible refine Below.alloc ?_ ?_ _) | (with_reducible refine Below.drew ?_) | (with_reducible refine belowN ?_ _) | (with_reducible refine Below.setCell ?_ ?_ _) | (with_reducible refine belowG ?_ ?_) | (with_reducible exact Nat.le_refl _) | (with_reducible refine le_sizeG ?_) | (with_reducible refine le_sizeA ?_) | (with_reducible refine le_sizeC ?_) | (with_reducible refine le_sizeD ?_) | (with_reducible refine le_sizeN ?_) | go_size | (simp [go_sem]; done))) hsz
        clear hown1 hgrow hat1 hg1 kf
        go_wp2
        go_returns
        exact ⟨rfl, ⟨_, _, _, rd_within hz.out (r.within + 1) (x := (r.within : Int) + 1) rfl⟩, Below.setCell (Below.setCell hbz hbase _) hbase _⟩
    · rw [if_pos rfl]
      go_enter Tryz.func59, Tryz.ntmps59
      go_wp2_with fail
      refine (etakes_any ⟨#[110, 111, 116]⟩ hat _ hA.out env.out).mono ?_
      intro e w1 hr1
      rw [takes_none t0] at hr1
      obtain ⟨rfl, h1, hb1⟩ := hr1
      have hA1 := Lib.hid h1
      have env1 := Lib.hid (env_keep env.out hb1)
      have sg1_1 := eg_cell env1.out.eg 1 (by decide)
      have sg1_2 := eg_cell env1.out.eg 2 (by decide)
      simp only [signL, List.getD_cons_zero, List.getD_cons_succ] at sg1_1 sg1_2
      go_wp2_with fail
      refine (etakes_any ⟨#[45]⟩ hat _ hA1.out env1.out).mono ?_
      intro e w2 hr2
      rw [takes_some t1] at hr2
      obtain ⟨rfl, h2, hb2⟩ := hr2
      have hA2 := Lib.hid h2
      have env2 := Lib.hid (env_keep env1.out hb2)
      have hb2 := hb1.trans hb2
      have sg2_1 := eg_cell env2.out.eg 1 (by decide)
      have sg2_2 := eg_cell env2.out.eg 2 (by decide)
      simp only [signL, List.getD_cons_zero, List.getD_cons_succ] at sg2_1 sg2_2
      obtain ⟨nv, pv, wv, h2⟩ := h2
      obtain ⟨wa, wc, rfl⟩ := own_form h2.wait
      obtain ⟨c0, c1, c2, c3, c4, c5, hrb, hfr⟩ := rd_cells h2
      have hbase := h2.base
      have f4 := hfr 4
      have f5 := hfr 5
      have i1 : InW rb w2 := ⟨hrb⟩
      have hsz : B ≤ w2.heap.size := by omega
      have hq := Lib.hid h2
      have hwt := Lib.hid h2.wait
      clear h2 c0 c1 c2 c3 hfr
      go_wp2_with (at_builtin; refine wpList_append_lies _ rfl _ _ 53 rfl B 3 i0 _ 1 8 Tryz.underlying53 hi hz1 hz2 hz3 rfl (by decide) (.slice wa r.wait.length wc) r.wait.length (intsC r.wait.reverse) rfl (owns_below hwt.out (by repeat' (first | (with_reducible exact Below.refl _ _) | (with_reducible assumption) | (with_reducible refine Below.alloc ?_ ?_ _) | (with_reducible refine Below.drew ?_) | (with_reducible refine belowN ?_ _) | (with_reducible refine Below.setCell ?_ ?_ _) | (with_reducible refine belowG ?_ ?_) | (with_reducible exact Nat.le_refl _) | (with_reducible refine le_sizeG ?_) | (with_reducible refine le_sizeA ?_) | (with_reducible refine le_sizeC ?_) | (with_reducible refine le_sizeD ?_) | (with_reducible refine le_sizeN ?_) | go_size | (simp [go_sem]; done)))) ⟨_, 0, none⟩ 1 1 [.int .i64 (2)] rfl rfl (World.news_of_block (new_block _ _)) (by intro u hu; simp at hu; subst hu; rfl) (by decide) (by unfold maxLen; omega) (by omega) (by simp [go_sem]; omega) _ rfl ?_)
      intro g cap' w9 hown1 hgrow hat1 hg1
      obtain ⟨k2, k3, k4, kf, kl⟩ := grown_cells hgrow hq.out hwt.out (by decide) (by repeat' (first | (with_reducible exact Below.refl _ _) | (with_reducible assumption) | (with_reducible refine Below.alloc ?_ ?_ _) | (with_reducible refine Below.drew ?_) | (with_reducible refine belowN ?_ _) | (with_reducible refine Below.setCell ?_ ?_ _) | (with_reducible refine belowG ?_ ?_) | (with_reducible exact Nat.le_refl _) | (with_reducible refine le_sizeG ?_) | (with_reducible refine le_sizeA ?_) | (with_reducible refine le_sizeC ?_) | (with_reducible refine le_sizeD ?_) | (with_reducible refine le_sizeN ?_) | go_size | (simp [go_sem]; done)))
      have kf4 := kf 4
      have i9 : InW rb w9 := ⟨kl⟩
      have hz := Lib.hid (rd_wait (rd_keep hq.out (by repeat' (first | (with_reducible exact Below.refl _ _) | (with_reducible assumption) | (with_reducible refine Below.alloc ?_ ?_ _) | (with_reducible refine Below.drew ?_) | (with_reducible refine belowN ?_ _) | (with_reducible refine Below.setCell ?_ ?_ _) | (with_reducible refine belowG ?_ ?_) | (with_reducible exact Nat.le_refl _) | (with_reducible refine le_sizeG ?_) | (with_reducible refine le_sizeA ?_) | (with_reducible refine le_sizeC ?_) | (with_reducible refine le_sizeD ?_) | (with_reducible refine le_sizeN ?_) | go_size | (simp [go_sem]; done)))) hgrow hown1 rfl hat1 (by simp))
      have hbz := grown_below hgrow hwt.out hb2 (by repeat' (first | (with_reducible exact Below.refl _ _) | (with_reducible assumption) | (with_reducible refine Below.alloc ?_ ?_ _) | (with_reducible refine Below.drew ?_) | (with_reducible refine belowN ?_ _) | (with_reducible refine Below.setCell ?_ ?_ _) | (with_reducible refine belowG ?_ ?_) | (with_reducible exact Nat.le_refl _) | (with_reducible refine le_sizeG ?_) | (with_reducible refine le_sizeA ?_) | (with_reducible refine le_sizeC ?_) | (with_reducible refine le_sizeD ?_) | (with_reducible refine le_sizeN ?_) | go_size | (simp [go_sem]; done))) hsz
      clear hown1 hgrow hat1 hg1 kf
      go_wp2
      go_returns
      exact ⟨rfl, ⟨_, _, _, hz.out⟩, Below.setCell hbz hbase _⟩
  · rw [if_pos rfl]
    go_enter Tryz.func59, Tryz.ntmps59
    go_wp2_with fail
    refine (etakes_any ⟨#[110, 111, 116]⟩ hat _ hA.out env.out).mono ?_
    intro e w1 hr1
    rw [takes_some t0] at hr1
    obtain ⟨rfl, h1, hb1⟩ := hr1
    have hA1 := Lib.hid h1
    have env1 := Lib.hid (env_keep env.out hb1)
    have sg1_1 := eg_cell env1.out.eg 1 (by decide)
    have sg1_2 := eg_cell env1.out.eg 2 (by decide)
    simp only [signL, List.getD_cons_zero, List.getD_cons_succ] at sg1_1 sg1_2
    obtain ⟨nv, pv, wv, h1⟩ := h1
    obtain ⟨wa, wc, rfl⟩ := own_form h1.wait
    obtain ⟨c0, c1, c2, c3, c4, c5, hrb, hfr⟩ := rd_cells h1
    have hbase := h1.base
    have f4 := hfr 4
    have f5 := hfr 5
    have i1 : InW rb w1 := ⟨hrb⟩
    have hsz : B ≤ w1.heap.size := by omega
    have hq := Lib.hid h1
    have hwt := Lib.hid h1.wait
    clear h1 c0 c1 c2 c3 hfr
    go_wp2_with (at_builtin; refine wpList_append_lies _ rfl _ _ 53 rfl B 3 i0 _ 1 8 Tryz.underlying53 hi hz1 hz2 hz3 rfl (by decide) (.slice wa r.wait.length wc) r.wait.length (intsC r.wait.reverse) rfl (owns_below hwt.out (by repeat' (first | (with_reducible exact Below.refl _ _) | (with_reducible assumption) | (with_reducible refine Below.alloc ?_ ?_ _) | (with_reducible refine Below.drew ?_) | (with_reducible refine belowN ?_ _) | (with_reducible refine Below.setCell ?_ ?_ _) | (with_reducible refine belowG ?_ ?_) | (with_reducible exact Nat.le_refl _) | (with_reducible refine le_sizeG ?_) | (with_reducible refine le_sizeA ?_) | (with_reducible refine le_sizeC ?_) | (with_reducible refine le_sizeD ?_) | (with_reducible refine le_sizeN ?_) | go_size | (simp [go_sem]; done)))) ⟨_, 0, none⟩ 1 1 [.int .i64 (1)] rfl rfl (World.news_of_block (new_block _ _)) (by intro u hu; simp at hu; subst hu; rfl) (by decide) (by unfold maxLen; omega) (by omega) (by simp [go_sem]; omega) _ rfl ?_)
    intro g cap' w9 hown1 hgrow hat1 hg1
    obtain ⟨k2, k3, k4, kf, kl⟩ := grown_cells hgrow hq.out hwt.out (by decide) (by repeat' (first | (with_reducible exact Below.refl _ _) | (with_reducible assumption) | (with_reducible refine Below.alloc ?_ ?_ _) | (with_reducible refine Below.drew ?_) | (with_reducible refine belowN ?_ _) | (with_reducible refine Below.setCell ?_ ?_ _) | (with_reducible refine belowG ?_ ?_) | (with_reducible exact Nat.le_refl _) | (with_reducible refine le_sizeG ?_) | (with_reducible refine le_sizeA ?_) | (with_reducible refine le_sizeC ?_) | (with_reducible refine le_sizeD ?_) | (with_reducible refine le_sizeN ?_) | go_size | (simp [go_sem]; done)))
    have kf4 := kf 4
    have i9 : InW rb w9 := ⟨kl⟩
    have hz := Lib.hid (rd_wait (rd_keep hq.out (by repeat' (first | (with_reducible exact Below.refl _ _) | (with_reducible assumption) | (with_reducible refine Below.alloc ?_ ?_ _) | (with_reducible refine Below.drew ?_) | (with_reducible refine belowN ?_ _) | (with_reducible refine Below.setCell ?_ ?_ _) | (with_reducible refine belowG ?_ ?_) | (with_reducible exact Nat.le_refl _) | (with_reducible refine le_sizeG ?_) | (with_reducible refine le_sizeA ?_) | (with_reducible refine le_sizeC ?_) | (with_reducible refine le_sizeD ?_) | (with_reducible refine le_sizeN ?_) | go_size | (simp [go_sem]; done)))) hgrow hown1 rfl hat1 (by simp))
    have hbz := grown_below hgrow hwt.out hb1 (by repeat' (first | (with_reducible exact Below.refl _ _) | (with_reducible assumption) | (with_reducible refine Below.alloc ?_ ?_ _) | (with_reducible refine Below.drew ?_) | (with_reducible refine belowN ?_ _) | (with_reducible refine Below.setCell ?_ ?_ _) | (with_reducible refine belowG ?_ ?_) | (with_reducible exact Nat.le_refl _) | (with_reducible refine le_sizeG ?_) | (with_reducible refine le_sizeA ?_) | (with_reducible refine le_sizeC ?_) | (with_reducible refine le_sizeD ?_) | (with_reducible refine le_sizeN ?_) | go_size | (simp [go_sem]; done))) hsz
    clear hown1 hgrow hat1 hg1 kf
    go_wp2
    go_returns
    exact ⟨rfl, ⟨_, _, _, hz.out⟩, Below.setCell hbz hbase _⟩
end Go.Proofs.YtkjgfcbanlcmgaaGreatDoor

