/- A reader's atom, and what goes on behind a part. -/
import Derived.Test.YtkjgfcbanlcmgaaGreatDoorX8
import Derived.WalkKit
import Derived.ProofKit
import Derived.OpenShut
import Derived.Handy
import Derived.BigQuiet
import Derived.OwnWalk
import Derived.Deep.AppendLies
import Derived.Lib.Hide
import Derived.WalkSmall
import Derived.WalkLawsBesides
namespace Go.Proofs.YtkjgfcbanlcmgaaGreatDoor
open Go.RowKit
/-- What a reader's greater step comes to; where it fails nothing is said of the reader. -/
def GoIs (B rb : Nat) (lv : Value) (o : Option Rd) (w : World) (e : Ending) (w' : World) : Prop := e = .returned (.bool o.isSome) ∧ (∀ r', o = some r' → RdAt B rb lv r' w') ∧ Below B w w'
theorem step_some {B rb : Nat} {lv : Value} {o : Option Rd} {r r' : Rd} {w w' : World} {e : Ending} (h : StepIs B rb lv o r w e w') (ho : o = some r') : e = .returned (.bool true) ∧ RdAt B rb lv r' w' ∧ Below B w w' := by subst ho; exact h
theorem step_not {B rb : Nat} {lv : Value} {o : Option Rd} {r : Rd} {w w' : World} {e : Ending} (h : StepIs B rb lv o r w e w') (ho : o = none) : e = .returned (.bool false) ∧ RdAt B rb lv r w' ∧ Below B w w' := by subst ho; exact h
set_option maxRecDepth 100000 in
set_option maxHeartbeats 4000000 in
theorem ratom_any {B rb : Nat} {ao : Option Addr} {cap : Nat} {ts : List Tk} {r : Rd} (g : Good 0 ts r) (w : World) (h : RdAt B rb (.slice ao ts.length cap) r w) (env : Env B ao ts w) :
    Calls Tryz.prog 60 #[.pointer (some ⟨rb, 0, none⟩)] w (GoIs B rb (.slice ao ts.length cap) (atom ts r) w) := by
  have hA := Lib.hid h
  have hts := env.few
  have hts1 : ts.length ≤ 1000 := by omega
  have gq := Lib.hid g
  replace env := Lib.hid env
  clear h
  unfold atom
  rcases t1 : takes ts [105, 110] r with _ | r1
  · simp only
    rcases n1 : rname 16 ts r with _ | r2
    · simp only
      rcases v1 : rvalue ts r with _ | r3
      · go_enter Tryz.func60, Tryz.ntmps60
        go_wp2_with fail
        refine (etakes_any ⟨#[105, 110]⟩ g.at_ _ hA.out env.out).mono ?_
        intro e w1 hr
        obtain ⟨rfl, h1, hb1⟩ := step_not hr t1
        have hA1 := Lib.hid h1
        have env1 := Lib.hid (env_keep env.out hb1)
        clear hr h1
        go_wp2_with fail
        refine (rname_any 16 hts1 g.at_ (by have := good_few g hts; omega) (by have := good_few g hts; omega) _ hA1.out (env_sl env1.out)).mono ?_
        intro e w2 hr
        obtain ⟨rfl, h2, hb2⟩ := step_not hr n1
        have hA2 := Lib.hid h2
        have env2 := Lib.hid (env_keep env1.out hb2)
        replace hb2 := hb1.trans hb2
        clear hr h2
        go_wp2_with fail
        refine (rvalue_any hts1 g.at_ (by have := good_few g hts; omega) (by have := good_few g hts; omega) _ hA2.out (env_sl env2.out)).mono ?_
        intro e w3 hr
        obtain ⟨rfl, h3, hb3⟩ := step_not hr v1
        have hA3 := Lib.hid h3
        have env3 := Lib.hid (env_keep env2.out hb3)
        replace hb3 := hb2.trans hb3
        clear hr h3
        go_wp2
        go_returns
        exact ⟨rfl, fun r' hr' => (by cases hr'), hb3⟩
      · go_enter Tryz.func60, Tryz.ntmps60
        go_wp2_with fail
        refine (etakes_any ⟨#[105, 110]⟩ g.at_ _ hA.out env.out).mono ?_
        intro e w1 hr
        obtain ⟨rfl, h1, hb1⟩ := step_not hr t1
        have hA1 := Lib.hid h1
        have env1 := Lib.hid (env_keep env.out hb1)
        clear hr h1
        go_wp2_with fail
        refine (rname_any 16 hts1 g.at_ (by have := good_few g hts; omega) (by have := good_few g hts; omega) _ hA1.out (env_sl env1.out)).mono ?_
        intro e w2 hr
        obtain ⟨rfl, h2, hb2⟩ := step_not hr n1
        have hA2 := Lib.hid h2
        have env2 := Lib.hid (env_keep env1.out hb2)
        replace hb2 := hb1.trans hb2
        clear hr h2
        go_wp2_with fail
        refine (rvalue_any hts1 g.at_ (by have := good_few g hts; omega) (by have := good_few g hts; omega) _ hA2.out (env_sl env2.out)).mono ?_
        intro e w3 hr
        obtain ⟨rfl, h3, hb3⟩ := step_some hr v1
        have hA3 := Lib.hid h3
        have env3 := Lib.hid (env_keep env2.out hb3)
        replace hb3 := hb2.trans hb3
        clear hr h3
        go_wp2
        go_returns
        exact ⟨rfl, fun r' hr' => (by cases hr'; exact hA3.out), hb3⟩
    · simp only
      go_enter Tryz.func60, Tryz.ntmps60
      go_wp2_with fail
      refine (etakes_any ⟨#[105, 110]⟩ g.at_ _ hA.out env.out).mono ?_
      intro e w1 hr
      obtain ⟨rfl, h1, hb1⟩ := step_not hr t1
      have hA1 := Lib.hid h1
      have env1 := Lib.hid (env_keep env.out hb1)
      clear hr h1
      go_wp2_with fail
      refine (rname_any 16 hts1 g.at_ (by have := good_few g hts; omega) (by have := good_few g hts; omega) _ hA1.out (env_sl env1.out)).mono ?_
      intro e w2 hr
      obtain ⟨rfl, h2, hb2⟩ := step_some hr n1
      have hA2 := Lib.hid h2
      have env2 := Lib.hid (env_keep env1.out hb2)
      replace hb2 := hb1.trans hb2
      clear hr h2
      go_wp2
      go_returns
      exact ⟨rfl, fun r' hr' => (by cases hr'; exact hA2.out), hb2⟩
  · simp only
    have g1 := (takes_good g t1).1
    rcases t2 : takes ts [40] r1 with _ | r2
    · simp only
      go_enter Tryz.func60, Tryz.ntmps60
      go_wp2_with fail
      refine (etakes_any ⟨#[105, 110]⟩ g.at_ _ hA.out env.out).mono ?_
      intro e w1 hr
      obtain ⟨rfl, h1, hb1⟩ := step_some hr t1
      have hA1 := Lib.hid h1
      have env1 := Lib.hid (env_keep env.out hb1)
      clear hr h1
      go_wp2_with fail
      refine (etakes_any ⟨#[40]⟩ g1.at_ _ hA1.out env1.out).mono ?_
      intro e w2 hr
      obtain ⟨rfl, h2, hb2⟩ := step_not hr t2
      have hA2 := Lib.hid h2
      have env2 := Lib.hid (env_keep env1.out hb2)
      replace hb2 := hb1.trans hb2
      clear hr h2
      go_wp2
      go_returns
      exact ⟨rfl, fun r' hr' => (by cases hr'), hb2⟩
    · simp only
      have g2 := (takes_good g1 t2).1
      rcases t3 : rname 17 ts r2 with _ | r3
      · simp only
        go_enter Tryz.func60, Tryz.ntmps60
        go_wp2_with fail
        refine (etakes_any ⟨#[105, 110]⟩ g.at_ _ hA.out env.out).mono ?_
        intro e w1 hr
        obtain ⟨rfl, h1, hb1⟩ := step_some hr t1
        have hA1 := Lib.hid h1
        have env1 := Lib.hid (env_keep env.out hb1)
        clear hr h1
        go_wp2_with fail
        refine (etakes_any ⟨#[40]⟩ g1.at_ _ hA1.out env1.out).mono ?_
        intro e w2 hr
        obtain ⟨rfl, h2, hb2⟩ := step_some hr t2
        have hA2 := Lib.hid h2
        have env2 := Lib.hid (env_keep env1.out hb2)
        replace hb2 := hb1.trans hb2
        clear hr h2
        go_wp2_with fail
        refine (rname_any 17 hts1 g2.at_ (by have := good_few g2 hts; omega) (by have := good_few g2 hts; omega) _ hA2.out (env_sl env2.out)).mono ?_
        intro e w3 hr
        obtain ⟨rfl, h3, hb3⟩ := step_not hr t3
        have hA3 := Lib.hid h3
        have env3 := Lib.hid (env_keep env2.out hb3)
        replace hb3 := hb2.trans hb3
        clear hr h3
        go_wp2
        go_returns
        exact ⟨rfl, fun r' hr' => (by cases hr'), hb3⟩
      · simp only
        have g3 := (name_good g2 t3).1
        rcases t4 : takes ts [41] r3 with _ | r4
        · go_enter Tryz.func60, Tryz.ntmps60
          go_wp2_with fail
          refine (etakes_any ⟨#[105, 110]⟩ g.at_ _ hA.out env.out).mono ?_
          intro e w1 hr
          obtain ⟨rfl, h1, hb1⟩ := step_some hr t1
          have hA1 := Lib.hid h1
          have env1 := Lib.hid (env_keep env.out hb1)
          clear hr h1
          go_wp2_with fail
          refine (etakes_any ⟨#[40]⟩ g1.at_ _ hA1.out env1.out).mono ?_
          intro e w2 hr
          obtain ⟨rfl, h2, hb2⟩ := step_some hr t2
          have hA2 := Lib.hid h2
          have env2 := Lib.hid (env_keep env1.out hb2)
          replace hb2 := hb1.trans hb2
          clear hr h2
          go_wp2_with fail
          refine (rname_any 17 hts1 g2.at_ (by have := good_few g2 hts; omega) (by have := good_few g2 hts; omega) _ hA2.out (env_sl env2.out)).mono ?_
          intro e w3 hr
          obtain ⟨rfl, h3, hb3⟩ := step_some hr t3
          have hA3 := Lib.hid h3
          have env3 := Lib.hid (env_keep env2.out hb3)
          replace hb3 := hb2.trans hb3
          clear hr h3
          go_wp2_with fail
          refine (etakes_any ⟨#[41]⟩ g3.at_ _ hA3.out env3.out).mono ?_
          intro e w4 hr
          obtain ⟨rfl, h4, hb4⟩ := step_not hr t4
          have hA4 := Lib.hid h4
          have env4 := Lib.hid (env_keep env3.out hb4)
          replace hb4 := hb3.trans hb4
          clear hr h4
          go_wp2
          go_returns
          exact ⟨rfl, fun r' hr' => (by cases hr'), hb4⟩
        · go_enter Tryz.func60, Tryz.ntmps60
          go_wp2_with fail
          refine (etakes_any ⟨#[105, 110]⟩ g.at_ _ hA.out env.out).mono ?_
          intro e w1 hr
          obtain ⟨rfl, h1, hb1⟩ := step_some hr t1
          have hA1 := Lib.hid h1
          have env1 := Lib.hid (env_keep env.out hb1)
          clear hr h1
          go_wp2_with fail
          refine (etakes_any ⟨#[40]⟩ g1.at_ _ hA1.out env1.out).mono ?_
          intro e w2 hr
          obtain ⟨rfl, h2, hb2⟩ := step_some hr t2
          have hA2 := Lib.hid h2
          have env2 := Lib.hid (env_keep env1.out hb2)
          replace hb2 := hb1.trans hb2
          clear hr h2
          go_wp2_with fail
          refine (rname_any 17 hts1 g2.at_ (by have := good_few g2 hts; omega) (by have := good_few g2 hts; omega) _ hA2.out (env_sl env2.out)).mono ?_
          intro e w3 hr
          obtain ⟨rfl, h3, hb3⟩ := step_some hr t3
          have hA3 := Lib.hid h3
          have env3 := Lib.hid (env_keep env2.out hb3)
          replace hb3 := hb2.trans hb3
          clear hr h3
          go_wp2_with fail
          refine (etakes_any ⟨#[41]⟩ g3.at_ _ hA3.out env3.out).mono ?_
          intro e w4 hr
          obtain ⟨rfl, h4, hb4⟩ := step_some hr t4
          have hA4 := Lib.hid h4
          have env4 := Lib.hid (env_keep env3.out hb4)
          replace hb4 := hb3.trans hb4
          clear hr h4
          go_wp2
          go_returns
          exact ⟨rfl, fun r' hr' => (by cases hr'; exact hA4.out), hb4⟩
def MoreIs (B rb : Nat) (lv : Value) (x : Bool × Rd) (w : World) (e : Ending) (w' : World) : Prop := e = .returned (.bool x.1) ∧ RdAt B rb lv x.2 w' ∧ Below B w w'
set_option maxRecDepth 100000 in
set_option maxHeartbeats 8000000 in
theorem rmore_any {B rb : Nat} {ao : Option Addr} {cap : Nat} {ts : List Tk} {r : Rd} (g : Good 1 ts r) (w : World) (h : RdAt B rb (.slice ao ts.length cap) r w) (env : Env B ao ts w) :
    Calls Tryz.prog 42 #[.pointer (some ⟨rb, 0, none⟩)] w (MoreIs B rb (.slice ao ts.length cap) (more ts r) w) := by
  have hts := env.few
  have hsz := env.size
  have hrat := g.at_
  have Bt := rbetween_any g.at_ w h env
  have hbi := between_in ts r.at_
  obtain ⟨i0, hi, hz1, hz2, hz3⟩ := info_parts Tryz.infoInt
  unfold more
  obtain ⟨op, hop⟩ : ∃ op, between ts r.at_ = op := ⟨_, rfl⟩
  rw [hop] at Bt hbi
  rw [hop]
  by_cases h0 : op = 0
  · subst h0
    rw [if_pos (by decide)]
    replace Bt := Lib.hid Bt
    clear h env g
    go_enter Tryz.func42, Tryz.ntmps42
    go_wp2_with fail
    refine (Bt.out).mono ?_
    intro e w1 hr
    obtain ⟨rfl, h1, hb1⟩ := hr
    clear Bt
    go_wp2
    go_returns
    exact ⟨rfl, h1, hb1⟩
  · have h0' : (op == 0) = false := by rw [beq_eq_false_iff_ne]; exact h0
    have hb := hbi.resolve_left h0
    unfold BetwIs at Bt
    rw [h0'] at Bt
    replace Bt := Lib.hid Bt
    rw [h0', if_neg (by simp)]
    have L := fun wx => Lib.hid (left_any op wx)
    have hlp := left_pos hb
    have hl6 : leftI op ≤ 1000 := by
      unfold leftI tightI
      (repeat' split) <;> omega
    obtain ⟨least, hle⟩ : ∃ x, leftI op = x := ⟨_, rfl⟩
    rw [hle] at L hlp hl6
    rw [hle]
    replace L := Lib.hid L
    have F := fun wx hk hs => Lib.hid (rfinish_any (B := B) (rb := rb) (lv := .slice ao ts.length cap) least hlp hl6 hts g wx hk hs)
    replace F := Lib.hid F
    obtain ⟨fg, fa, _, _⟩ := finish_good hlp g
    obtain ⟨q, hqe⟩ : ∃ q, finish least r = q := ⟨_, rfl⟩
    rw [hqe] at F fg fa
    rw [hqe]
    obtain ⟨_, fw, _, _⟩ := good_few fg hts
    have hqa := Lib.hid fa
    have T := fun wx => Lib.hid (tight_any op wx)
    obtain ⟨tt, htt⟩ : ∃ x, tightI op = x := ⟨_, rfl⟩
    rw [htt] at T
    rw [htt]
    replace T := Lib.hid T
    cases hw : q.wait with
    | nil =>
      rw [show topIs [] tt = false from rfl, if_neg (by simp)]
      have hn0 : q.wait.length = 0 := by rw [hw]; rfl
      have hd1 : decide ((0 : Int) < (q.wait.length : Int)) = false := by rw [decide_eq_false_iff_not]; omega
      have hd2 : decide (0 < q.wait.length) = false := by rw [decide_eq_false_iff_not]; omega
      have T2 := T
      replace hn0 := Lib.hid hn0
      rw [← hw]
      have hw' := Lib.hid hw
      clear h env g hbi hle hop htt fg fa hqe hw
      go_enter Tryz.func42, Tryz.ntmps42
      go_wp2_with fail
      refine (Bt.out).mono ?_
      intro e w1 hr
      obtain ⟨rfl, h1, hb1⟩ := hr
      have hA1 := Lib.hid h1
      clear Bt h1
      go_wp2_with ((with_reducible refine ((L.out _).out).mono ?_); rintro e w1 ⟨rfl, rfl⟩)
      refine ((F.out _ hA1.out (Nat.le_trans hsz hb1.size)).out).mono ?_
      intro e w2 hr
      obtain ⟨rfl, h2, hb2⟩ := hr
      replace hb2 := hb1.trans hb2
      have hQ := Lib.hid h2
      obtain ⟨nv, pv, wv, h2⟩ := h2
      obtain ⟨wa, wc, hwe⟩ := own_form h2.wait
      subst hwe
      have hq := Lib.hid h2
      have hwt := Lib.hid h2.wait
      obtain ⟨c0, c1, c2, c3, c4, c5, hrb, hfr⟩ := rd_cells h2
      have f4 := hfr 4
      have i1 : InW rb w2 := ⟨hrb⟩
      have hbase := h2.base
      have hsz2 : B ≤ w2.heap.size := by omega
      clear h2 hfr c0 c1 c2 c3 c5 F L hA1
      go_wp2_with (first | ((with_reducible refine ((T2.out _).out).mono ?_); rintro e w1 ⟨rfl, rfl⟩) | ((with_reducible refine ((T.out _).out).mono ?_); rintro e w1 ⟨rfl, rfl⟩) | (at_builtin; refine wpList_append_lies _ rfl _ _ 53 rfl B 3 i0 _ 1 8 Tryz.underlying53 hi hz1 hz2 hz3 rfl (by decide) (.slice wa q.wait.length wc) q.wait.length (intsC q.wait.reverse) rfl (owns_below hwt.out (by repeat' (first | (with_reducible exact Below.refl _ _) | (with_reducible assumption) | (with_reducible refine Below.alloc ?_ ?_ _) | (with_reducible refine Below.drew ?_) | (with_reducible refine belowN ?_ _) | (with_reducible refine Below.setCell ?_ ?_ _) | (with_reducible refine belowG ?_ ?_) | (with_reducible exact Nat.le_refl _) | (with_reducible refine le_sizeG ?_) | (with_reducible refine le_sizeA ?_) | (with_reducible refine le_sizeC ?_) | (with_reducible refine le_sizeD ?_) | (with_reducible refine le_sizeN ?_) | go_size | (simp [go_sem]; done)))) ⟨_, 0, none⟩ 1 1 [.int .i64 op] rfl rfl (World.news_of_block (new_block _ _)) (by intro u hu; simp at hu; subst hu; rfl) (by decide) (by unfold maxLen; omega) (by omega) (by simp [go_sem]; omega) _ rfl ?_))
      intro g9 cap' w9 hown1 hgrow hat1 hg1
      obtain ⟨k2, k3, k4, kf, kl⟩ := grown_cells hgrow hq.out hwt.out (by decide) (by repeat' (first | (with_reducible exact Below.refl _ _) | (with_reducible assumption) | (with_reducible refine Below.alloc ?_ ?_ _) | (with_reducible refine Below.drew ?_) | (with_reducible refine belowN ?_ _) | (with_reducible refine Below.setCell ?_ ?_ _) | (with_reducible refine belowG ?_ ?_) | (with_reducible exact Nat.le_refl _) | (with_reducible refine le_sizeG ?_) | (with_reducible refine le_sizeA ?_) | (with_reducible refine le_sizeC ?_) | (with_reducible refine le_sizeD ?_) | (with_reducible refine le_sizeN ?_) | go_size | (simp [go_sem]; done)))
      have hk := grown_blk (owns_below hwt.out (by repeat' (first | (with_reducible exact Below.refl _ _) | (with_reducible assumption) | (with_reducible refine Below.alloc ?_ ?_ _) | (with_reducible refine Below.drew ?_) | (with_reducible refine belowN ?_ _) | (with_reducible refine Below.setCell ?_ ?_ _) | (with_reducible refine belowG ?_ ?_) | (with_reducible exact Nat.le_refl _) | (with_reducible refine le_sizeG ?_) | (with_reducible refine le_sizeA ?_) | (with_reducible refine le_sizeC ?_) | (with_reducible refine le_sizeD ?_) | (with_reducible refine le_sizeN ?_) | go_size | (simp [go_sem]; done)))) (rd_keep hq.out (by repeat' (first | (with_reducible exact Below.refl _ _) | (with_reducible assumption) | (with_reducible refine Below.alloc ?_ ?_ _) | (with_reducible refine Below.drew ?_) | (with_reducible refine belowN ?_ _) | (with_reducible refine Below.setCell ?_ ?_ _) | (with_reducible refine belowG ?_ ?_) | (with_reducible exact Nat.le_refl _) | (with_reducible refine le_sizeG ?_) | (with_reducible refine le_sizeA ?_) | (with_reducible refine le_sizeC ?_) | (with_reducible refine le_sizeD ?_) | (with_reducible refine le_sizeN ?_) | go_size | (simp [go_sem]; done)))).blk (by decide) hgrow
      have k1 : w9.cell? ⟨rb, 1, none⟩ = some (.int .i64 (r.at_ : Int)) := by rw [cell_of_row _ rb 1 _ _ _ hk, ← hqa.out]; rfl
      have kf4 := kf 4
      have kf1 := kf 1
      have i9 : InW rb w9 := ⟨kl⟩
      have hz := Lib.hid (rd_wait (rd_keep hq.out (by repeat' (first | (with_reducible exact Below.refl _ _) | (with_reducible assumption) | (with_reducible refine Below.alloc ?_ ?_ _) | (with_reducible refine Below.drew ?_) | (with_reducible refine belowN ?_ _) | (with_reducible refine Below.setCell ?_ ?_ _) | (with_reducible refine belowG ?_ ?_) | (with_reducible exact Nat.le_refl _) | (with_reducible refine le_sizeG ?_) | (with_reducible refine le_sizeA ?_) | (with_reducible refine le_sizeC ?_) | (with_reducible refine le_sizeD ?_) | (with_reducible refine le_sizeN ?_) | go_size | (simp [go_sem]; done)))) hgrow hown1 rfl hat1 (by simp))
      have hbz := grown_below hgrow hwt.out hb2 (by repeat' (first | (with_reducible exact Below.refl _ _) | (with_reducible assumption) | (with_reducible refine Below.alloc ?_ ?_ _) | (with_reducible refine Below.drew ?_) | (with_reducible refine belowN ?_ _) | (with_reducible refine Below.setCell ?_ ?_ _) | (with_reducible refine belowG ?_ ?_) | (with_reducible exact Nat.le_refl _) | (with_reducible refine le_sizeG ?_) | (with_reducible refine le_sizeA ?_) | (with_reducible refine le_sizeC ?_) | (with_reducible refine le_sizeD ?_) | (with_reducible refine le_sizeN ?_) | go_size | (simp [go_sem]; done))) hsz2
      clear hown1 hgrow hat1 hg1 kf hk
      go_wp2
      go_returns
      exact ⟨rfl, ⟨_, _, _, rd_at hz.out (r.at_ + 1) (x := (r.at_ : Int) + 1) rfl⟩, Below.setCell (Below.setCell hbz hbase _) hbase _⟩
    | cons o u =>
      have hn1 : q.wait.length = u.length + 1 := by rw [hw]; rfl
      have T2 := fun wx => Lib.hid (tight_any o wx)
      obtain ⟨tq, hto⟩ : ∃ x, tightI o = x := ⟨_, rfl⟩
      rw [hto] at T2
      rw [show topIs (o :: u) tt = (tq == tt) by rw [← hto]; rfl]
      replace T2 := Lib.hid T2
      have hd1 : decide ((0 : Int) < (q.wait.length : Int)) = true := by rw [decide_eq_true_iff]; omega
      have hd2 : decide (0 < q.wait.length) = true := by rw [decide_eq_true_iff]; omega
      have hm1 : (q.wait.length : Int) - 1 = (u.length : Int) := by omega
      replace hn1 := Lib.hid hn1
      rw [← hw]
      rcases hc : (tq == tt)
      · rw [if_neg (by simp)]
        clear h env g hbi hle hop htt fg fa hqe hto
        go_enter Tryz.func42, Tryz.ntmps42
        go_wp2_with fail
        refine (Bt.out).mono ?_
        intro e w1 hr
        obtain ⟨rfl, h1, hb1⟩ := hr
        have hA1 := Lib.hid h1
        clear Bt h1
        go_wp2_with ((with_reducible refine ((L.out _).out).mono ?_); rintro e w1 ⟨rfl, rfl⟩)
        refine ((F.out _ hA1.out (Nat.le_trans hsz hb1.size)).out).mono ?_
        intro e w2 hr
        obtain ⟨rfl, h2, hb2⟩ := hr
        replace hb2 := hb1.trans hb2
        have hQ := Lib.hid h2
        obtain ⟨nv, pv, wv, h2⟩ := h2
        obtain ⟨gw, wc, hwe, hgw, hwcap, _, hwc⟩ := own_head h2.wait (by rw [hw]; simp)
        subst hwe
        have wcell : w2.cell? ⟨gw, u.length, none⟩ = some (.int .i64 o) := hwc _ _ (by rw [hw]; simp [intsC])
        have i2 : InW gw w2 := ⟨hgw⟩
        have hq := Lib.hid h2
        have hwt := Lib.hid h2.wait
        obtain ⟨c0, c1, c2, c3, c4, c5, hrb, hfr⟩ := rd_cells h2
        have f4 := hfr 4
        have i1 : InW rb w2 := ⟨hrb⟩
        have hbase := h2.base
        have hsz2 : B ≤ w2.heap.size := by omega
        clear hw hwc h2 hfr c0 c1 c2 c3 c5 F L hA1
        go_wp2_with (first | ((with_reducible refine ((T2.out _).out).mono ?_); rintro e w1 ⟨rfl, rfl⟩) | ((with_reducible refine ((T.out _).out).mono ?_); rintro e w1 ⟨rfl, rfl⟩) | (at_builtin; refine wpList_append_lies _ rfl _ _ 53 rfl B 3 i0 _ 1 8 Tryz.underlying53 hi hz1 hz2 hz3 rfl (by decide) (.slice (some ⟨gw, 0, none⟩) q.wait.length wc) q.wait.length (intsC q.wait.reverse) rfl (owns_below hwt.out (by repeat' (first | (with_reducible exact Below.refl _ _) | (with_reducible assumption) | (with_reducible refine Below.alloc ?_ ?_ _) | (with_reducible refine Below.drew ?_) | (with_reducible refine belowN ?_ _) | (with_reducible refine Below.setCell ?_ ?_ _) | (with_reducible refine belowG ?_ ?_) | (with_reducible exact Nat.le_refl _) | (with_reducible refine le_sizeG ?_) | (with_reducible refine le_sizeA ?_) | (with_reducible refine le_sizeC ?_) | (with_reducible refine le_sizeD ?_) | (with_reducible refine le_sizeN ?_) | go_size | (simp [go_sem]; done)))) ⟨_, 0, none⟩ 1 1 [.int .i64 op] rfl rfl (World.news_of_block (new_block _ _)) (by intro u hu; simp at hu; subst hu; rfl) (by decide) (by unfold maxLen; omega) (by omega) (by simp [go_sem]; omega) _ rfl ?_))
        intro g9 cap' w9 hown1 hgrow hat1 hg1
        obtain ⟨k2, k3, k4, kf, kl⟩ := grown_cells hgrow hq.out hwt.out (by decide) (by repeat' (first | (with_reducible exact Below.refl _ _) | (with_reducible assumption) | (with_reducible refine Below.alloc ?_ ?_ _) | (with_reducible refine Below.drew ?_) | (with_reducible refine belowN ?_ _) | (with_reducible refine Below.setCell ?_ ?_ _) | (with_reducible refine belowG ?_ ?_) | (with_reducible exact Nat.le_refl _) | (with_reducible refine le_sizeG ?_) | (with_reducible refine le_sizeA ?_) | (with_reducible refine le_sizeC ?_) | (with_reducible refine le_sizeD ?_) | (with_reducible refine le_sizeN ?_) | go_size | (simp [go_sem]; done)))
        have hk := grown_blk (owns_below hwt.out (by repeat' (first | (with_reducible exact Below.refl _ _) | (with_reducible assumption) | (with_reducible refine Below.alloc ?_ ?_ _) | (with_reducible refine Below.drew ?_) | (with_reducible refine belowN ?_ _) | (with_reducible refine Below.setCell ?_ ?_ _) | (with_reducible refine belowG ?_ ?_) | (with_reducible exact Nat.le_refl _) | (with_reducible refine le_sizeG ?_) | (with_reducible refine le_sizeA ?_) | (with_reducible refine le_sizeC ?_) | (with_reducible refine le_sizeD ?_) | (with_reducible refine le_sizeN ?_) | go_size | (simp [go_sem]; done)))) (rd_keep hq.out (by repeat' (first | (with_reducible exact Below.refl _ _) | (with_reducible assumption) | (with_reducible refine Below.alloc ?_ ?_ _) | (with_reducible refine Below.drew ?_) | (with_reducible refine belowN ?_ _) | (with_reducible refine Below.setCell ?_ ?_ _) | (with_reducible refine belowG ?_ ?_) | (with_reducible exact Nat.le_refl _) | (with_reducible refine le_sizeG ?_) | (with_reducible refine le_sizeA ?_) | (with_reducible refine le_sizeC ?_) | (with_reducible refine le_sizeD ?_) | (with_reducible refine le_sizeN ?_) | go_size | (simp [go_sem]; done)))).blk (by decide) hgrow
        have k1 : w9.cell? ⟨rb, 1, none⟩ = some (.int .i64 (r.at_ : Int)) := by rw [cell_of_row _ rb 1 _ _ _ hk, ← hqa.out]; rfl
        have kf4 := kf 4
        have kf1 := kf 1
        have i9 : InW rb w9 := ⟨kl⟩
        have hz := Lib.hid (rd_wait (rd_keep hq.out (by repeat' (first | (with_reducible exact Below.refl _ _) | (with_reducible assumption) | (with_reducible refine Below.alloc ?_ ?_ _) | (with_reducible refine Below.drew ?_) | (with_reducible refine belowN ?_ _) | (with_reducible refine Below.setCell ?_ ?_ _) | (with_reducible refine belowG ?_ ?_) | (with_reducible exact Nat.le_refl _) | (with_reducible refine le_sizeG ?_) | (with_reducible refine le_sizeA ?_) | (with_reducible refine le_sizeC ?_) | (with_reducible refine le_sizeD ?_) | (with_reducible refine le_sizeN ?_) | go_size | (simp [go_sem]; done)))) hgrow hown1 rfl hat1 (by simp))
        have hbz := grown_below hgrow hwt.out hb2 (by repeat' (first | (with_reducible exact Below.refl _ _) | (with_reducible assumption) | (with_reducible refine Below.alloc ?_ ?_ _) | (with_reducible refine Below.drew ?_) | (with_reducible refine belowN ?_ _) | (with_reducible refine Below.setCell ?_ ?_ _) | (with_reducible refine belowG ?_ ?_) | (with_reducible exact Nat.le_refl _) | (with_reducible refine le_sizeG ?_) | (with_reducible refine le_sizeA ?_) | (with_reducible refine le_sizeC ?_) | (with_reducible refine le_sizeD ?_) | (with_reducible refine le_sizeN ?_) | go_size | (simp [go_sem]; done))) hsz2
        clear hown1 hgrow hat1 hg1 kf hk
        go_wp2
        go_returns
        exact ⟨rfl, ⟨_, _, _, rd_at hz.out (r.at_ + 1) (x := (r.at_ : Int) + 1) rfl⟩, Below.setCell (Below.setCell hbz hbase _) hbase _⟩
      · rw [if_pos rfl]
        clear h env g hbi hle hop htt fg fa hqe hto
        go_enter Tryz.func42, Tryz.ntmps42
        go_wp2_with fail
        refine (Bt.out).mono ?_
        intro e w1 hr
        obtain ⟨rfl, h1, hb1⟩ := hr
        have hA1 := Lib.hid h1
        clear Bt h1
        go_wp2_with ((with_reducible refine ((L.out _).out).mono ?_); rintro e w1 ⟨rfl, rfl⟩)
        refine ((F.out _ hA1.out (Nat.le_trans hsz hb1.size)).out).mono ?_
        intro e w2 hr
        obtain ⟨rfl, h2, hb2⟩ := hr
        replace hb2 := hb1.trans hb2
        have hQ := Lib.hid h2
        obtain ⟨nv, pv, wv, h2⟩ := h2
        obtain ⟨gw, wc, hwe, hgw, hwcap, _, hwc⟩ := own_head h2.wait (by rw [hw]; simp)
        subst hwe
        have wcell : w2.cell? ⟨gw, u.length, none⟩ = some (.int .i64 o) := hwc _ _ (by rw [hw]; simp [intsC])
        have i2 : InW gw w2 := ⟨hgw⟩
        have hq := Lib.hid h2
        have hwt := Lib.hid h2.wait
        obtain ⟨c0, c1, c2, c3, c4, c5, hrb, hfr⟩ := rd_cells h2
        have f4 := hfr 4
        have i1 : InW rb w2 := ⟨hrb⟩
        have hbase := h2.base
        have hsz2 : B ≤ w2.heap.size := by omega
        clear hw hwc h2 hfr c0 c1 c2 c3 c5 F L hA1
        go_wp2_with (first | ((with_reducible refine ((T2.out _).out).mono ?_); rintro e w1 ⟨rfl, rfl⟩) | ((with_reducible refine ((T.out _).out).mono ?_); rintro e w1 ⟨rfl, rfl⟩))
        go_returns
        exact ⟨rfl, rdat_keep hQ.out (by repeat' (first | (with_reducible exact Below.refl _ _) | (with_reducible assumption) | (with_reducible refine Below.alloc ?_ ?_ _) | (with_reducible refine Below.drew ?_) | (with_reducible refine belowN ?_ _) | (with_reducible refine Below.setCell ?_ ?_ _) | (with_reducible refine belowG ?_ ?_) | (with_reducible exact Nat.le_refl _) | (with_reducible refine le_sizeG ?_) | (with_reducible refine le_sizeA ?_) | (with_reducible refine le_sizeC ?_) | (with_reducible refine le_sizeD ?_) | (with_reducible refine le_sizeN ?_) | go_size | (simp [go_sem]; done))), by repeat' (first | (with_reducible exact Below.refl _ _) | (with_reducible assumption) | (with_reducible refine Below.alloc ?_ ?_ _) | (with_reducible refine Below.drew ?_) | (with_reducible refine belowN ?_ _) | (with_reducible refine Below.setCell ?_ ?_ _) | (with_reducible refine belowG ?_ ?_) | (with_reducible exact Nat.le_refl _) | (with_reducible refine le_sizeG ?_) | (with_reducible refine le_sizeA ?_) | (with_reducible refine le_sizeC ?_) | (with_reducible refine le_sizeD ?_) | (with_reducible refine le_sizeN ?_) | go_size | (simp [go_sem]; done))⟩
end Go.Proofs.YtkjgfcbanlcmgaaGreatDoor

