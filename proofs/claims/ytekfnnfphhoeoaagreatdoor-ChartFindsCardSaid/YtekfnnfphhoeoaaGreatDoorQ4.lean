/- Several texts of this proof, joined: MD, ME, MF, MG, MH. -/
import Derived.Test.YtekfnnfphhoeoaaGreatDoorMB
import Derived.Test.YtekfnnfphhoeoaaGreatDoorQ1
import Derived.WalkKit
import Derived.ProofKit
import Derived.OpenShut
import Derived.Handy
import Derived.BigQuiet
import Derived.OwnWalk
import Derived.Deep.AppendLies
import Derived.Deep.RegionLaw
import Derived.Lib.Hide
import Derived.WalkSmall
import Derived.WalkLawsBesides
import Derived.StillTailTactics
import Derived.BigRegion
/- What builds a chart: a state is put. -/
namespace Go.Proofs.YtekfnnfphhoeoaaGreatDoor
open Go.RowKit
theorem Tryz.infoSt : (Tryz.prog.info? 49).map (fun i => (i.zero, i.size, i.bytes)) = some (some (.agg #[.string ⟨#[]⟩, .int .i64 0, .int .i64 0, .string ⟨#[]⟩, .slice none 0 0, .slice none 0 0, .slice none 0 0]), 7, 120) := by kernel_rfl
theorem spast_any (s k p t e x r : Value) (n : Int) (hk : k = .int .i64 n) (w : World) :
    Calls Tryz.prog 18 #[.agg #[s, k, p, t, e, x, r]] w (Ret (.bool (n == 6 || n == 7)) w) := by
  subst hk
  cases h6 : (n == 6)
  · cases h7 : (n == 7)
    all_goals
      go_enter Tryz.func18, Tryz.ntmps18
      go_wp2
      go_returns
      exact ⟨by simp, by repeat' (first | (with_reducible exact Below.refl _ _) | (with_reducible assumption) | (with_reducible refine Below.alloc ?_ ?_ _) | (with_reducible refine Below.drew ?_) | (with_reducible refine belowN ?_ _) | (with_reducible refine Below.setCell ?_ ?_ _) | (with_reducible refine belowG ?_ ?_) | (with_reducible exact Nat.le_refl _) | (with_reducible refine le_sizeG ?_) | (with_reducible refine le_sizeA ?_) | (with_reducible refine le_sizeC ?_) | (with_reducible refine le_sizeD ?_) | (with_reducible refine le_sizeN ?_) | go_size | (simp [go_sem]; done))⟩
  · go_enter Tryz.func18, Tryz.ntmps18
    go_wp2
    go_returns
    exact ⟨by simp, by repeat' (first | (with_reducible exact Below.refl _ _) | (with_reducible assumption) | (with_reducible refine Below.alloc ?_ ?_ _) | (with_reducible refine Below.drew ?_) | (with_reducible refine belowN ?_ _) | (with_reducible refine Below.setCell ?_ ?_ _) | (with_reducible refine belowG ?_ ?_) | (with_reducible exact Nat.le_refl _) | (with_reducible refine le_sizeG ?_) | (with_reducible refine le_sizeA ?_) | (with_reducible refine le_sizeC ?_) | (with_reducible refine le_sizeD ?_) | (with_reducible refine le_sizeN ?_) | go_size | (simp [go_sem]; done))⟩
section
variable {w0 : World} {B bb : Nat} {c : Ch} {op : List Nat} {m : Nat} {rv : Nat → Value} {vv sv ov : Value} {w w' : World}
set_option maxRecDepth 100000 in
set_option maxHeartbeats 2000000 in
theorem bhere_any {pre : List Nat} {i : Nat} (hp : pre.length ≤ 1000) (h : BdIs w0 B bb c (pre ++ [i]) m rv vv sv ov w) :
    Calls Tryz.prog 110 #[.pointer (some ⟨bb, 0, none⟩)] w (Ret (.int .i64 (i : Int)) w) := by
  obtain ⟨c0, c1, c2, c3, c4, hbb, hfr⟩ := five h.blk
  obtain ⟨ob, oc, rfl, hob, hc1, hc2, hcl⟩ := own_head h.opn (by simp)
  have e := hcl pre.length (.int .i64 (i : Int)) (by simp [natsC])
  have i1 : InW bb w := ⟨hbb⟩
  have i2 : InW ob w := ⟨hob⟩
  have hl : (pre ++ [i]).length = pre.length + 1 := by simp
  rw [hl] at c3 hc1
  clear hcl hfr h c0 c1 c2 c4 hl hbb hob
  go_enter Tryz.func110, Tryz.ntmps110
  go_wp2_with fail
  (refine wp_region_G (by kernel_rfl) (by kernel_rfl) ?_; (repeat (go_big_quiet_step (fail))); refine wpQuiet_nil ?_; intro _ hw'; obtain ⟨pg, hw''⟩ := hw'; subst hw'')
  go_wp2
  go_returns
  exact ⟨rfl, by repeat' (first | (with_reducible exact Below.refl _ _) | (with_reducible assumption) | (with_reducible refine Below.alloc ?_ ?_ _) | (with_reducible refine Below.drew ?_) | (with_reducible refine belowN ?_ _) | (with_reducible refine Below.setCell ?_ ?_ _) | (with_reducible refine belowG ?_ ?_) | (with_reducible exact Nat.le_refl _) | (with_reducible refine le_sizeG ?_) | (with_reducible refine le_sizeA ?_) | (with_reducible refine le_sizeC ?_) | (with_reducible refine le_sizeD ?_) | (with_reducible refine le_sizeN ?_) | go_size | (simp [go_sem]; done))⟩
abbrev stB (n : Ln) (p : Int) : Obj := .cells #[str n.name, .int .i64 n.kind, .int .i64 p, str n.start, .slice none 0 0, .slice none 0 0, .slice none 0 0] 49 (0, 0)
/-- A state has been put. -/
def PutIs (w0 : World) (B bb : Nat) (c : Ch) (op : List Nat) (m : Nat) (n : Ln) (p : Int) (e : Ending) (w' : World) : Prop :=
  e = .returned (.tuple #[]) ∧ BdAt w0 B bb { c with states := c.states ++ [⟨n.name, n.kind, p, n.start, [], [], []⟩] } (if (n.kind == 6 || n.kind == 7) = true then op else op ++ [c.states.length]) m w'
set_option maxRecDepth 100000 in
set_option maxHeartbeats 4000000 in
theorem bput_any (n : Ln) (av iv gv tv : Value) (p : Int) (hss : c.states.length ≤ 1000) (hop : op.length ≤ 1000) (h : BdAt w0 B bb c op m w) :
    Calls Tryz.prog 72 #[.pointer (some ⟨bb, 0, none⟩), .agg (lnC n av iv gv tv), .int .i64 p] w (PutIs w0 B bb c op m n p) := by
  obtain ⟨rv, vv, sv, ov, h⟩ := h
  obtain ⟨i0, hi, hz1, hz2, hz3⟩ := info_parts Tryz.infoInt
  obtain ⟨j0, hj, hy1, hy2, hy3⟩ := info_parts Tryz.infoSt
  obtain ⟨sa, sc, rfl⟩ := own_form h.sts
  obtain ⟨oa, oc, rfl⟩ := own_form h.opn
  unfold lnC
  go_enter Tryz.func72, Tryz.ntmps72
  go_wp2_with fail
  refine (spast_any _ _ _ _ _ _ _ n.kind rfl _).mono ?_
  intro e w1 hr
  obtain ⟨rfl, hb1⟩ := hr
  obtain ⟨W, hW⟩ : ∃ W, w.alloc (.cells #[.int .i64 n.kind, str n.name, str n.start, .int .i64 n.vk, .int .i64 n.vn, str n.vs, av, str n.event, iv, gv, .bool n.inner, tv] 77) = W := ⟨_, rfl⟩
  rw [hW] at hb1
  have hsz : W.heap.size = w.heap.size + 1 := by rw [← hW, World.size_alloc]
  have hbw : Below w.heap.size w W := by rw [← hW]; exact (Below.refl _ w).alloc (Nat.le_refl _) _
  have hst : w1.heap[w.heap.size + 1]? = some (stB n p) := by
    rw [← hsz]
    exact blk_keep (heap_alloc_new W _) hb1
  have hbd := bd_keep h (hbw.trans ((((Below.refl _ W).alloc (Nat.le_refl _) _).trans (hb1.mono (by simp))).mono hbw.size))
  have hne : w.heap.size + 1 ≠ bb := by
    have := h.low
    have := h.top
    omega
  clear hb1 hbw hW hsz h
  generalize w.heap.size + 1 = bx at *
  obtain ⟨past, hpast⟩ : ∃ b, (n.kind == 6 || n.kind == 7) = b := ⟨_, rfl⟩
  go_upto_if 17 with (fail)
  go_cut [6] (fun v6 wx => v6 = .pointer (some ⟨bx, 0, none⟩) ∧ wx.heap[bx]? = some (stB n p) ∧ ∃ ov', BdIs w0 B bb c (if past = true then op else op ++ [c.states.length]) m rv vv (.slice sa c.states.length sc) ov' wx)
  case first =>
    cases past
    · obtain ⟨_, _, c2, c3, _, hbb, hfr⟩ := five hbd.blk
      have i1 : InW bb w1 := ⟨hbb⟩
      have f3 := hfr 3
      have htop := hbd.top
      have hA := Lib.hid hbd
      have hln := Lib.hid hbd.opn
      have hX := Lib.hid hst
      clear hbd hst hfr
      go_wp2_with fail
      go_region_law (refine step_append_lies _ rfl (.tmp 22) (.tmp 29) 44 rfl B 3 i0 _ 1 8 Tryz.underlying44 hi hz1 hz2 hz3 rfl (by decide) (.slice oa op.length oc) op.length (natsC op) (by simp [Act.eval]) (owns_below hln.out (by repeat' (first | (with_reducible exact Below.refl _ _) | (with_reducible assumption) | (with_reducible refine Below.alloc ?_ ?_ _) | (with_reducible refine Below.drew ?_) | (with_reducible refine belowN ?_ _) | (with_reducible refine Below.setCell ?_ ?_ _) | (with_reducible refine belowG ?_ ?_) | (with_reducible exact Nat.le_refl _) | (with_reducible refine le_sizeG ?_) | (with_reducible refine le_sizeA ?_) | (with_reducible refine le_sizeC ?_) | (with_reducible refine le_sizeD ?_) | (with_reducible refine le_sizeN ?_) | go_size | (simp [go_sem]; done)))) ⟨_, 0, none⟩ 1 1 [.int .i64 (c.states.length : Int)] (by simp [Act.eval]) rfl (World.news_of_block (new_block _ _)) (by intro u hu; simp at hu; subst hu; rfl) (by decide) (by unfold maxLen; omega) (by omega) (by simp [go_sem]; omega) _ rfl ?_; intro g cap' w2 hown1 hgrow hat1 hg1; obtain ⟨_, _, k3, _, kl, kf⟩ := bd_cells hgrow hA.out hln.out (by decide) (by repeat' (first | (with_reducible exact Below.refl _ _) | (with_reducible assumption) | (with_reducible refine Below.alloc ?_ ?_ _) | (with_reducible refine Below.drew ?_) | (with_reducible refine belowN ?_ _) | (with_reducible refine Below.setCell ?_ ?_ _) | (with_reducible refine belowG ?_ ?_) | (with_reducible exact Nat.le_refl _) | (with_reducible refine le_sizeG ?_) | (with_reducible refine le_sizeA ?_) | (with_reducible refine le_sizeC ?_) | (with_reducible refine le_sizeD ?_) | (with_reducible refine le_sizeN ?_) | go_size | (simp [go_sem]; done))))
      all_goals
        go_wp2_with fail
        go_meet
        exact ⟨rfl, blk_far (grown_blk (owns_below hln.out (by repeat' (first | (with_reducible exact Below.refl _ _) | (with_reducible assumption) | (with_reducible refine Below.alloc ?_ ?_ _) | (with_reducible refine Below.drew ?_) | (with_reducible refine belowN ?_ _) | (with_reducible refine Below.setCell ?_ ?_ _) | (with_reducible refine belowG ?_ ?_) | (with_reducible exact Nat.le_refl _) | (with_reducible refine le_sizeG ?_) | (with_reducible refine le_sizeA ?_) | (with_reducible refine le_sizeC ?_) | (with_reducible refine le_sizeD ?_) | (with_reducible refine le_sizeN ?_) | go_size | (simp [go_sem]; done)))) (blk_keep hX.out (by repeat' (first | (with_reducible exact Below.refl _ _) | (with_reducible assumption) | (with_reducible refine Below.alloc ?_ ?_ _) | (with_reducible refine Below.drew ?_) | (with_reducible refine belowN ?_ _) | (with_reducible refine Below.setCell ?_ ?_ _) | (with_reducible refine belowG ?_ ?_) | (with_reducible exact Nat.le_refl _) | (with_reducible refine le_sizeG ?_) | (with_reducible refine le_sizeA ?_) | (with_reducible refine le_sizeC ?_) | (with_reducible refine le_sizeD ?_) | (with_reducible refine le_sizeN ?_) | go_size | (simp [go_sem]; done)))) (by decide) hgrow) hne, _, bd_open (bd_keep hA.out (by repeat' (first | (with_reducible exact Below.refl _ _) | (with_reducible assumption) | (with_reducible refine Below.alloc ?_ ?_ _) | (with_reducible refine Below.drew ?_) | (with_reducible refine belowN ?_ _) | (with_reducible refine Below.setCell ?_ ?_ _) | (with_reducible refine belowG ?_ ?_) | (with_reducible exact Nat.le_refl _) | (with_reducible refine le_sizeG ?_) | (with_reducible refine le_sizeA ?_) | (with_reducible refine le_sizeC ?_) | (with_reducible refine le_sizeD ?_) | (with_reducible refine le_sizeN ?_) | go_size | (simp [go_sem]; done)))) hgrow hown1 rfl⟩
    · go_wp2_with fail
      go_meet
      exact ⟨rfl, blk_keep hst (by repeat' (first | (with_reducible exact Below.refl _ _) | (with_reducible assumption) | (with_reducible refine Below.alloc ?_ ?_ _) | (with_reducible refine Below.drew ?_) | (with_reducible refine belowN ?_ _) | (with_reducible refine Below.setCell ?_ ?_ _) | (with_reducible refine belowG ?_ ?_) | (with_reducible exact Nat.le_refl _) | (with_reducible refine le_sizeG ?_) | (with_reducible refine le_sizeA ?_) | (with_reducible refine le_sizeC ?_) | (with_reducible refine le_sizeD ?_) | (with_reducible refine le_sizeN ?_) | go_size | (simp [go_sem]; done))), _, bd_keep hbd (by repeat' (first | (with_reducible exact Below.refl _ _) | (with_reducible assumption) | (with_reducible refine Below.alloc ?_ ?_ _) | (with_reducible refine Below.drew ?_) | (with_reducible refine belowN ?_ _) | (with_reducible refine Below.setCell ?_ ?_ _) | (with_reducible refine belowG ?_ ?_) | (with_reducible exact Nat.le_refl _) | (with_reducible refine le_sizeG ?_) | (with_reducible refine le_sizeA ?_) | (with_reducible refine le_sizeC ?_) | (with_reducible refine le_sizeD ?_) | (with_reducible refine le_sizeN ?_) | go_size | (simp [go_sem]; done)))⟩
  case rest =>
    obtain ⟨rfl, hst, ov', hbd⟩ := hcut
    rename World => wx
    obtain ⟨_, _, c2, _, _, hbb, hfr⟩ := five hbd.blk
    have i1 : InW bb wx := ⟨hbb⟩
    have i2 : InW bx wx := ⟨lt_of_block hst⟩
    have f2 := hfr 2
    have htop := hbd.top
    have e0 := cell_of_row wx bx 0 _ _ _ hst
    have e1 := cell_of_row wx bx 1 _ _ _ hst
    have e2 := cell_of_row wx bx 2 _ _ _ hst
    have e3 := cell_of_row wx bx 3 _ _ _ hst
    have e4 := cell_of_row wx bx 4 _ _ _ hst
    have e5 := cell_of_row wx bx 5 _ _ _ hst
    have e6 := cell_of_row wx bx 6 _ _ _ hst
    simp only [List.getElem?_toArray, List.getElem?_cons_zero, List.getElem?_cons_succ] at e0 e1 e2 e3 e4 e5 e6
    have hA := Lib.hid hbd
    have hln := Lib.hid hbd.sts
    clear hbd hst hfr
    go_wp2_with fail
    go_region_law (refine step_append_lies _ rfl (.tmp 38) (.tmp 40) 24 rfl B 49 j0 _ 7 120 Tryz.underlying24 hj hy1 hy2 hy3 rfl (by decide) (.slice sa c.states.length sc) c.states.length (stsC c.states 0 rv) (by simp [Act.eval]) (owns_below hln.out (by repeat' (first | (with_reducible exact Below.refl _ _) | (with_reducible assumption) | (with_reducible refine Below.alloc ?_ ?_ _) | (with_reducible refine Below.drew ?_) | (with_reducible refine belowN ?_ _) | (with_reducible refine Below.setCell ?_ ?_ _) | (with_reducible refine belowG ?_ ?_) | (with_reducible exact Nat.le_refl _) | (with_reducible refine le_sizeG ?_) | (with_reducible refine le_sizeA ?_) | (with_reducible refine le_sizeC ?_) | (with_reducible refine le_sizeD ?_) | (with_reducible refine le_sizeN ?_) | go_size | (simp [go_sem]; done)))) ⟨_, 0, none⟩ 1 1 [str n.name, .int .i64 n.kind, .int .i64 p, str n.start, .slice none 0 0, .slice none 0 0, .slice none 0 0] (by simp [Act.eval]) rfl (World.news_of_block (new_block _ _)) (by intro u hu; simp at hu; rcases hu with rfl | rfl | rfl | rfl | rfl | rfl | rfl <;> rfl) (by decide) (by unfold maxLen; omega) (by omega) (by simp [go_sem]; omega) _ rfl ?_; intro g cap' w2 hown1 hgrow hat1 hg1; obtain ⟨_, k2, _, _, kl, kf⟩ := bd_cells hgrow hA.out hln.out (by decide) (by repeat' (first | (with_reducible exact Below.refl _ _) | (with_reducible assumption) | (with_reducible refine Below.alloc ?_ ?_ _) | (with_reducible refine Below.drew ?_) | (with_reducible refine belowN ?_ _) | (with_reducible refine Below.setCell ?_ ?_ _) | (with_reducible refine belowG ?_ ?_) | (with_reducible exact Nat.le_refl _) | (with_reducible refine le_sizeG ?_) | (with_reducible refine le_sizeA ?_) | (with_reducible refine le_sizeC ?_) | (with_reducible refine le_sizeD ?_) | (with_reducible refine le_sizeN ?_) | go_size | (simp [go_sem]; done))))
    all_goals
      go_wp2_with fail
      go_returns
      unfold PutIs
      rw [hpast]
      exact ⟨rfl, _, _, _, _, bd_sts (bd_keep hA.out (by repeat' (first | (with_reducible exact Below.refl _ _) | (with_reducible assumption) | (with_reducible refine Below.alloc ?_ ?_ _) | (with_reducible refine Below.drew ?_) | (with_reducible refine belowN ?_ _) | (with_reducible refine Below.setCell ?_ ?_ _) | (with_reducible refine belowG ?_ ?_) | (with_reducible exact Nat.le_refl _) | (with_reducible refine le_sizeG ?_) | (with_reducible refine le_sizeA ?_) | (with_reducible refine le_sizeC ?_) | (with_reducible refine le_sizeD ?_) | (with_reducible refine le_sizeN ?_) | go_size | (simp [go_sem]; done)))) hgrow rfl rfl rfl hown1 rfl⟩
end
end Go.Proofs.YtekfnnfphhoeoaaGreatDoor
/- What builds a chart: a further list of acts. -/
namespace Go.Proofs.YtekfnnfphhoeoaaGreatDoor
open Go.RowKit
theorem Tryz.infoBlk : (Tryz.prog.info? 71).map (fun i => (i.zero, i.size, i.bytes)) = some (some (.slice none 0 0), 1, 24) := by kernel_rfl
theorem own_blk {w : World} {B e s g cap n : Nat} {xs : List Value} (h : w.ownsRow B e s (.slice (some ⟨g, 0, none⟩) n cap) n xs) : ∃ cur, w.heap[g]? = some (.cells cur e (0, 0)) := by
  rcases h.2 with ⟨h0, _⟩ | ⟨g', cap', cur, hv, _, hh, _⟩
  · cases h0
  · cases hv
    exact ⟨cur, hh⟩
theorem getD_at {ss : List St} {i : Nat} (h : i < ss.length) : ss.getD i st0 = ss[i] := by simp [List.getD, h]
def lstOf (r : Nat) (s : St) : List (List Ac) := if r = 0 then s.enter else s.exit
def putL (r : Nat) (s : St) (cs : List Ac) : St := if r = 0 then { s with enter := s.enter ++ [cs] } else { s with exit := s.exit ++ [cs] }
theorem putL_same (r : Nat) (s : St) (cs : List Ac) : (putL r s cs).name = s.name ∧ (putL r s cs).kind = s.kind ∧ (putL r s cs).parent = s.parent ∧ (putL r s cs).start = s.start ∧ (putL r s cs).trans = s.trans := by
  unfold putL
  split <;> exact ⟨rfl, rfl, rfl, rfl, rfl⟩
section
variable {w0 : World} {B bb : Nat} {c : Ch} {op : List Nat} {m : Nat} {rv : Nat → Value} {vv sv ov : Value} {w w' : World}
theorem row_cell {i r : Nat} (h : BdIs w0 B bb c op m rv vv sv ov w) (hi : i < c.states.length) (hr : r < 3) : ∃ sb sc cur, sv = .slice (some ⟨sb, 0, none⟩) c.states.length sc ∧ w.cell? ⟨sb, i * 7 + (4 + r), none⟩ = some (rv (3 * i + r)) ∧ w.heap[sb]? = some (.cells cur ct0.st (0, 0)) := by
  obtain ⟨sb, sc, rfl, hsb, _, _, hcl⟩ := own_head h.sts (by omega)
  obtain ⟨cur, hcur⟩ := own_blk h.sts
  refine ⟨sb, sc, cur, rfl, hcl _ _ ?_, hcur⟩
  rw [stsC_at _ _ _ i hi _ (by omega), Nat.zero_add]
  rcases (by omega : r = 0 ∨ r = 1 ∨ r = 2) with rfl | rfl | rfl <;> rfl
theorem rows_list {ss : List St} {i r : Nat} (h : RowsAt ct0 B w ss rv) (hr : r < 2) : BlkRow ct0 B w (rv (3 * i + r)) (lstOf r (ss.getD i st0)) := by
  rcases (by omega : r = 0 ∨ r = 1) with rfl | rfl
  · exact h.ent i
  · exact h.exi i
theorem rows_putL {ss : List St} {i r g cap n H : Nat} {cs : List Ac} (h : RowsAt ct0 B w ss rv) (hi : i < ss.length) (hr : r < 2) (fx : Fx ct0 B B w w') (hg : w.grownBy w' (rv (3 * i + r)).ownBlock) (hn : BlkRow ct0 B w' (.slice (some ⟨g, 0, none⟩) n cap) (lstOf r (ss.getD i st0) ++ [cs]))
    (hat : (rv (3 * i + r)).ownBlock = some g ∨ g = H) (hH : w.heap.size ≤ H) : RowsAt ct0 B w' (ss.set i (putL r (ss.getD i st0) cs)) (updV rv (3 * i + r) (.slice (some ⟨g, 0, none⟩) n cap)) := by
  rcases (by omega : r = 0 ∨ r = 1) with rfl | rfl
  · exact rows_enter h hi fx hg hn rfl rfl hat hH
  · exact rows_exit h hi fx hg hn rfl rfl hat hH
def FurIs (w0 : World) (B bb : Nat) (c : Ch) (op : List Nat) (m i r : Nat) (cs : List Ac) (e : Ending) (w' : World) : Prop :=
  if (lstOf r (c.states.getD i st0)).length = 8 then e = .returned (.int .i64 13) ∧ BdAt w0 B bb c op m w'
  else e = .returned (.int .i64 0) ∧ BdAt w0 B bb { c with states := c.states.set i (putL r (c.states.getD i st0) cs) } op m w'
set_option maxRecDepth 100000 in
set_option maxHeartbeats 4000000 in
theorem bfurther_any {i r o sb sc : Nat} (cs : List Ac) (av : Value) (hi : i < c.states.length) (hr : r < 2) (ho : o = i * 7 + (4 + r)) (hl : (lstOf r (c.states.getD i st0)).length ≤ 8) (h : BdIs w0 B bb c op m rv vv (.slice (some ⟨sb, 0, none⟩) c.states.length sc) ov w) (ha : AcRow ct0.nd ct0.act B w av cs) :
    Calls Tryz.prog 111 #[.pointer (some ⟨sb, o, none⟩), av] w (FurIs w0 B bb c op m i r cs) := by
  obtain ⟨sb', sc', cur, hv, hc, hblk⟩ := row_cell h hi (r := r) (by omega)
  cases hv
  obtain ⟨vs, hV, hO⟩ := rows_list (i := i) h.rows hr
  obtain ⟨eo, ec, he⟩ := own_form hO
  obtain ⟨ao, ac, rfl⟩ := acRow_form ha
  rw [← ho] at hc
  obtain ⟨q, hq⟩ : ∃ q, (lstOf r (c.states.getD i st0)).length = q := ⟨_, rfl⟩
  rw [hq] at he
  rw [he] at hc
  rw [hq] at hl
  replace ho := Lib.hid ho
  replace he := Lib.hid he
  have i1 : InW sb w := ⟨lt_of_block hblk⟩
  have htop := h.top
  by_cases h8 : q = 8
  · subst h8
    have hA := Lib.hid h
    clear h hV hO
    go_enter Tryz.func111, Tryz.ntmps111
    go_wp2
    go_returns
    unfold FurIs
    rw [if_pos hq]
    exact ⟨rfl, _, _, _, _, bd_keep hA.out (by repeat' (first | (with_reducible exact Below.refl _ _) | (with_reducible assumption) | (with_reducible refine Below.alloc ?_ ?_ _) | (with_reducible refine Below.drew ?_) | (with_reducible refine belowN ?_ _) | (with_reducible refine Below.setCell ?_ ?_ _) | (with_reducible refine belowG ?_ ?_) | (with_reducible exact Nat.le_refl _) | (with_reducible refine le_sizeG ?_) | (with_reducible refine le_sizeA ?_) | (with_reducible refine le_sizeC ?_) | (with_reducible refine le_sizeD ?_) | (with_reducible refine le_sizeN ?_) | go_size | (simp [go_sem]; done)))⟩
  · have e8 : ((q : Int) == 8) = false := beq_eq_false_iff_ne.2 (by omega)
    obtain ⟨j0, hj, hy1, hy2, hy3⟩ := info_parts Tryz.infoBlk
    have hA := Lib.hid h
    have hVk := Lib.hid hV
    rw [hq, he.out] at hO
    have hOk := Lib.hid hO
    have hak := Lib.hid ha
    have hbk := Lib.hid hblk
    have hcur := Lib.hid ((cell_of_row w sb o _ _ _ hblk).symm.trans hc)
    have hqk := Lib.hid hq
    clear h hV hO ha hblk hq
    go_enter Tryz.func111, Tryz.ntmps111
    go_wp2_with (at_builtin; refine wpList_append_lies _ rfl _ _ 46 rfl B 71 j0 _ 1 24 Tryz.underlying46 hj hy1 hy2 hy3 rfl (by decide) (.slice eo q ec) q vs rfl (owns_below hOk.out (by repeat' (first | (with_reducible exact Below.refl _ _) | (with_reducible assumption) | (with_reducible refine Below.alloc ?_ ?_ _) | (with_reducible refine Below.drew ?_) | (with_reducible refine belowN ?_ _) | (with_reducible refine Below.setCell ?_ ?_ _) | (with_reducible refine belowG ?_ ?_) | (with_reducible exact Nat.le_refl _) | (with_reducible refine le_sizeG ?_) | (with_reducible refine le_sizeA ?_) | (with_reducible refine le_sizeC ?_) | (with_reducible refine le_sizeD ?_) | (with_reducible refine le_sizeN ?_) | go_size | (simp [go_sem]; done)))) ⟨_, 0, none⟩ 1 1 [.slice ao cs.length ac] rfl rfl (World.news_of_block (new_at (by simp))) (by intro u hu; simp at hu; subst hu; rfl) (by decide) (by unfold maxLen; omega) (by omega) (by simp [go_sem]; omega) _ rfl ?_)
    intro g' cap' w1 hown1 hgrow hat1 hg1
    have hb1 := grown_blk (owns_below hOk.out (by repeat' (first | (with_reducible exact Below.refl _ _) | (with_reducible assumption) | (with_reducible refine Below.alloc ?_ ?_ _) | (with_reducible refine Below.drew ?_) | (with_reducible refine belowN ?_ _) | (with_reducible refine Below.setCell ?_ ?_ _) | (with_reducible refine belowG ?_ ?_) | (with_reducible exact Nat.le_refl _) | (with_reducible refine le_sizeG ?_) | (with_reducible refine le_sizeA ?_) | (with_reducible refine le_sizeC ?_) | (with_reducible refine le_sizeD ?_) | (with_reducible refine le_sizeN ?_) | go_size | (simp [go_sem]; done)))) (blk_keep hbk.out (by repeat' (first | (with_reducible exact Below.refl _ _) | (with_reducible assumption) | (with_reducible refine Below.alloc ?_ ?_ _) | (with_reducible refine Below.drew ?_) | (with_reducible refine belowN ?_ _) | (with_reducible refine Below.setCell ?_ ?_ _) | (with_reducible refine belowG ?_ ?_) | (with_reducible exact Nat.le_refl _) | (with_reducible refine le_sizeG ?_) | (with_reducible refine le_sizeA ?_) | (with_reducible refine le_sizeC ?_) | (with_reducible refine le_sizeD ?_) | (with_reducible refine le_sizeN ?_) | go_size | (simp [go_sem]; done)))) (by decide) hgrow
    have i2 : InW sb w1 := ⟨lt_of_block hb1⟩
    have f1 := frozen_of_row w1 sb o _ _ hb1
    have c1 := (cell_of_row w1 sb o _ _ _ hb1).trans hcur.out
    have hown2 := Lib.hid hown1
    have hgrow2 := Lib.hid hgrow
    have hat2 := Lib.hid hat1
    clear hb1 hown1 hgrow hat1 hg1
    go_wp2
    go_returns
    have hgr := hgrow2.out
    have hrows := (bd_keep hA.out (show Below w.heap.size w (w.alloc (.cells #[.slice ao cs.length ac] 71 (0, 0))) by repeat' (first | (with_reducible exact Below.refl _ _) | (with_reducible assumption) | (with_reducible refine Below.alloc ?_ ?_ _) | (with_reducible refine Below.drew ?_) | (with_reducible refine belowN ?_ _) | (with_reducible refine Below.setCell ?_ ?_ _) | (with_reducible refine belowG ?_ ?_) | (with_reducible exact Nat.le_refl _) | (with_reducible refine le_sizeG ?_) | (with_reducible refine le_sizeA ?_) | (with_reducible refine le_sizeC ?_) | (with_reducible refine le_sizeD ?_) | (with_reducible refine le_sizeN ?_) | go_size | (simp [go_sem]; done)))).rows
    have hO2 := owns_below hOk.out (show Below w.heap.size w (w.alloc (.cells #[.slice ao cs.length ac] 71 (0, 0))) by repeat' (first | (with_reducible exact Below.refl _ _) | (with_reducible assumption) | (with_reducible refine Below.alloc ?_ ?_ _) | (with_reducible refine Below.drew ?_) | (with_reducible refine belowN ?_ _) | (with_reducible refine Below.setCell ?_ ?_ _) | (with_reducible refine belowG ?_ ?_) | (with_reducible exact Nat.le_refl _) | (with_reducible refine le_sizeG ?_) | (with_reducible refine le_sizeA ?_) | (with_reducible refine le_sizeC ?_) | (with_reducible refine le_sizeD ?_) | (with_reducible refine le_sizeN ?_) | go_size | (simp [go_sem]; done)))
    have hfx : Fx ct0 B B w (w.alloc (.cells #[.slice ao cs.length ac] 71 (0, 0))) := fx_below (by repeat' (first | (with_reducible exact Below.refl _ _) | (with_reducible assumption) | (with_reducible refine Below.alloc ?_ ?_ _) | (with_reducible refine Below.drew ?_) | (with_reducible refine belowN ?_ _) | (with_reducible refine Below.setCell ?_ ?_ _) | (with_reducible refine belowG ?_ ?_) | (with_reducible exact Nat.le_refl _) | (with_reducible refine le_sizeG ?_) | (with_reducible refine le_sizeA ?_) | (with_reducible refine le_sizeC ?_) | (with_reducible refine le_sizeD ?_) | (with_reducible refine le_sizeN ?_) | go_size | (simp [go_sem]; done)))
    obtain rfl := hqk.out
    have hfg := fx_grown (τ := ct0) (B := B) hO2 (by decide) (by decide) (by decide) hgr
    have hnew := blkrow_grown hfg (vs_map hVk.out fun _ _ => blkR_tp hfx) (acRow_tp hfx hak.out) hown2.out
    rw [← he.out] at hgr hO2
    have hat3 := hat2.out
    rw [← he.out] at hat3
    obtain ⟨p1, p2, p3, p4, _⟩ := putL_same r (c.states.getD i st0) cs
    have hs := getD_at hi
    unfold FurIs
    rw [if_neg h8, ho.out]
    exact ⟨rfl, _, _, _, _, bd_put (bd_keep hA.out (by repeat' (first | (with_reducible exact Below.refl _ _) | (with_reducible assumption) | (with_reducible refine Below.alloc ?_ ?_ _) | (with_reducible refine Below.drew ?_) | (with_reducible refine belowN ?_ _) | (with_reducible refine Below.setCell ?_ ?_ _) | (with_reducible refine belowG ?_ ?_) | (with_reducible exact Nat.le_refl _) | (with_reducible refine le_sizeG ?_) | (with_reducible refine le_sizeA ?_) | (with_reducible refine le_sizeC ?_) | (with_reducible refine le_sizeD ?_) | (with_reducible refine le_sizeN ?_) | go_size | (simp [go_sem]; done)))) (by omega) hi hO2 (.inl rfl) hgr (by rw [p1, hs]) (by rw [p2, hs]) (by rw [p3, hs]) (by rw [p4, hs]) (rows_putL hrows hi hr hfg hgr hnew hat3 (by simp))⟩
end
end Go.Proofs.YtekfnnfphhoeoaaGreatDoor
/- What builds a chart: what stands in a state. -/
namespace Go.Proofs.YtekfnnfphhoeoaaGreatDoor
open Go.RowKit
theorem Tryz.infoTr : (Tryz.prog.info? 75).map (fun i => (i.zero, i.size, i.bytes)) = some (some (.agg #[.string ⟨#[]⟩, .slice none 0 0, .slice none 0 0, .bool false, .slice none 0 0]), 5, 96) := by kernel_rfl
section
variable {w0 : World} {B bb : Nat} {c : Ch} {op : List Nat} {m : Nat} {w : World}
theorem fur_ret {i r : Nat} {cs : List Ac} {e : Ending} {w' : World} (h : FurIs w0 B bb c op m i r cs e w') : ∃ v, e = .returned (.int .i64 v) := by
  unfold FurIs at h
  split at h <;> exact ⟨_, h.1⟩
theorem fur_keep {i r : Nat} {cs : List Ac} {e : Ending} {w1 w2 : World} (h : FurIs w0 B bb c op m i r cs e w1) (hb : Below w1.heap.size w1 w2) : FurIs w0 B bb c op m i r cs e w2 := by
  unfold FurIs at h ⊢
  split at h
  · rw [if_pos (by assumption)]
    exact ⟨h.1, bdat_keep h.2 hb⟩
  · rw [if_neg (by assumption)]
    exact ⟨h.1, bdat_keep h.2 hb⟩
set_option maxRecDepth 100000 in
set_option maxHeartbeats 4000000 in
theorem binside_list {i r : Nat} {pre : List Nat} (n : Ln) (av iv gv tv : Value) (hr : r < 2) (hk : n.kind = 8 + (r : Int)) (hop : op = pre ++ [i]) (hp : pre.length ≤ 1000) (hi : i < c.states.length) (hl : (lstOf r (c.states.getD i st0)).length ≤ 8) (h : BdAt w0 B bb c op m w) (hn : LnV B w n av iv gv tv) :
    Calls Tryz.prog 75 #[.pointer (some ⟨bb, 0, none⟩), .agg (lnC n av iv gv tv)] w (FurIs w0 B bb c op m i r n.acts) := by
  obtain ⟨rv, vv, sv, ov, h⟩ := h
  obtain ⟨sb, sc, cur, rfl, _, hblk⟩ := row_cell h hi (r := r) (by omega)
  subst hop
  obtain ⟨ao, ac, rfl⟩ : ∃ ao ac, av = .slice ao n.acts.length ac := by
    obtain ⟨_, _, hh⟩ := hn.acts
    exact own_form hh
  obtain ⟨c0, c1, c2, c3, c4, hbb, hfr⟩ := five h.blk
  have i1 : InW bb w := ⟨hbb⟩
  have i2 : InW sb w := ⟨lt_of_block hblk⟩
  have H := Lib.hid (fun wx hb => bhere_any (w := wx) hp (bd_keep h hb))
  have F := Lib.hid (fun wx (hb : Below w.heap.size w wx) => bfurther_any (o := i * 7 + (4 + r)) n.acts _ hi hr rfl hl (bd_keep h hb) (acRow_keep hn.acts hb))
  have hI : (i : Int) < (c.states.length : Int) := by omega
  clear h hn hblk hfr c0 c1 c3 c4 hbb hl
  unfold lnC
  rcases (by omega : r = 0 ∨ r = 1) with rfl | rfl
  · have e8 : (n.kind == 8) = true := by rw [hk]; rfl
    go_enter Tryz.func75, Tryz.ntmps75
    go_wp2_with fail
    (refine wp_region_G (by kernel_rfl) (by kernel_rfl) ?_; (repeat (go_big_quiet_step (exact quietG (H.out _ (by repeat' (first | (with_reducible exact Below.refl _ _) | (with_reducible assumption) | (with_reducible refine Below.alloc ?_ ?_ _) | (with_reducible refine Below.drew ?_) | (with_reducible refine belowN ?_ _) | (with_reducible refine Below.setCell ?_ ?_ _) | (with_reducible refine belowG ?_ ?_) | (with_reducible exact Nat.le_refl _) | (with_reducible refine le_sizeG ?_) | (with_reducible refine le_sizeA ?_) | (with_reducible refine le_sizeC ?_) | (with_reducible refine le_sizeD ?_) | (with_reducible refine le_sizeN ?_) | go_size | (simp [go_sem]; done))))))); refine wpQuiet_nil ?_; intro _ hw'; obtain ⟨pg, hw''⟩ := hw'; subst hw'')
    go_wp2_with fail
    go_still_tail 5, (by kernel_rfl)
    change wpList _ _ _ _ _ (G pg _).drew
    go_wp2_with fail
    refine (F.out _ (by repeat' (first | (with_reducible exact Below.refl _ _) | (with_reducible assumption) | (with_reducible refine Below.alloc ?_ ?_ _) | (with_reducible refine Below.drew ?_) | (with_reducible refine belowN ?_ _) | (with_reducible refine Below.setCell ?_ ?_ _) | (with_reducible refine belowG ?_ ?_) | (with_reducible exact Nat.le_refl _) | (with_reducible refine le_sizeG ?_) | (with_reducible refine le_sizeA ?_) | (with_reducible refine le_sizeC ?_) | (with_reducible refine le_sizeD ?_) | (with_reducible refine le_sizeN ?_) | go_size | (simp [go_sem]; done)))).mono ?_
    intro e w1 hr
    obtain ⟨v, rfl⟩ := fur_ret hr
    replace hr := Lib.hid hr
    clear F H
    go_wp2
    go_returns
    exact fur_keep hr.out (by repeat' (first | (with_reducible exact Below.refl _ _) | (with_reducible assumption) | (with_reducible refine Below.alloc ?_ ?_ _) | (with_reducible refine Below.drew ?_) | (with_reducible refine belowN ?_ _) | (with_reducible refine Below.setCell ?_ ?_ _) | (with_reducible refine belowG ?_ ?_) | (with_reducible exact Nat.le_refl _) | (with_reducible refine le_sizeG ?_) | (with_reducible refine le_sizeA ?_) | (with_reducible refine le_sizeC ?_) | (with_reducible refine le_sizeD ?_) | (with_reducible refine le_sizeN ?_) | go_size | (simp [go_sem]; done)))
  · have e8 : (n.kind == 8) = false := by rw [hk]; rfl
    have e9 : (n.kind == 9) = true := by rw [hk]; rfl
    go_enter Tryz.func75, Tryz.ntmps75
    go_wp2_with fail
    (refine wp_region_G (by kernel_rfl) (by kernel_rfl) ?_; (repeat (go_big_quiet_step (exact quietG (H.out _ (by repeat' (first | (with_reducible exact Below.refl _ _) | (with_reducible assumption) | (with_reducible refine Below.alloc ?_ ?_ _) | (with_reducible refine Below.drew ?_) | (with_reducible refine belowN ?_ _) | (with_reducible refine Below.setCell ?_ ?_ _) | (with_reducible refine belowG ?_ ?_) | (with_reducible exact Nat.le_refl _) | (with_reducible refine le_sizeG ?_) | (with_reducible refine le_sizeA ?_) | (with_reducible refine le_sizeC ?_) | (with_reducible refine le_sizeD ?_) | (with_reducible refine le_sizeN ?_) | go_size | (simp [go_sem]; done))))))); refine wpQuiet_nil ?_; intro _ hw'; obtain ⟨pg, hw''⟩ := hw'; subst hw'')
    go_wp2_with fail
    go_still_tail 5, (by kernel_rfl)
    change wpList _ _ _ _ _ (G pg _).drew
    go_wp2_with fail
    refine (F.out _ (by repeat' (first | (with_reducible exact Below.refl _ _) | (with_reducible assumption) | (with_reducible refine Below.alloc ?_ ?_ _) | (with_reducible refine Below.drew ?_) | (with_reducible refine belowN ?_ _) | (with_reducible refine Below.setCell ?_ ?_ _) | (with_reducible refine belowG ?_ ?_) | (with_reducible exact Nat.le_refl _) | (with_reducible refine le_sizeG ?_) | (with_reducible refine le_sizeA ?_) | (with_reducible refine le_sizeC ?_) | (with_reducible refine le_sizeD ?_) | (with_reducible refine le_sizeN ?_) | go_size | (simp [go_sem]; done)))).mono ?_
    intro e w1 hr
    obtain ⟨v, rfl⟩ := fur_ret hr
    replace hr := Lib.hid hr
    clear F H
    go_wp2
    go_returns
    exact fur_keep hr.out (by repeat' (first | (with_reducible exact Below.refl _ _) | (with_reducible assumption) | (with_reducible refine Below.alloc ?_ ?_ _) | (with_reducible refine Below.drew ?_) | (with_reducible refine belowN ?_ _) | (with_reducible refine Below.setCell ?_ ?_ _) | (with_reducible refine belowG ?_ ?_) | (with_reducible exact Nat.le_refl _) | (with_reducible refine le_sizeG ?_) | (with_reducible refine le_sizeA ?_) | (with_reducible refine le_sizeC ?_) | (with_reducible refine le_sizeD ?_) | (with_reducible refine le_sizeN ?_) | go_size | (simp [go_sem]; done)))
set_option maxRecDepth 100000 in
set_option maxHeartbeats 4000000 in
theorem binside_end {i : Nat} {pre : List Nat} (n : Ln) (av iv gv tv : Value) (hk : n.kind = 12) (hop : op = pre ++ [i]) (hp : pre.length ≤ 1000) (hi : i < c.states.length) (h : BdAt w0 B bb c op m w) :
    Calls Tryz.prog 75 #[.pointer (some ⟨bb, 0, none⟩), .agg (lnC n av iv gv tv)] w fun e w' => e = .returned (.int .i64 0) ∧ BdAt w0 B bb c pre m w' := by
  obtain ⟨rv, vv, sv, ov, h⟩ := h
  obtain ⟨sb, sc, cur, rfl, _, hblk⟩ := row_cell h hi (r := 0) (by omega)
  subst hop
  obtain ⟨ob, oc, rfl, hob, hc1, _, _⟩ := own_head h.opn (by simp)
  obtain ⟨c0, c1, c2, c3, c4, hbb, hfr⟩ := five h.blk
  have f3 := hfr 3
  have i1 : InW bb w := ⟨hbb⟩
  have i2 : InW sb w := ⟨lt_of_block hblk⟩
  have H := Lib.hid (fun wx hb => bhere_any (w := wx) hp (bd_keep h hb))
  have hI : (i : Int) < (c.states.length : Int) := by omega
  have hl : (pre ++ [i]).length = pre.length + 1 := by simp
  rw [hl] at c3 hc1
  have hA := Lib.hid h
  clear h hblk hfr c0 c1 c4 hbb hob hl
  have e8 : (n.kind == 8) = false := by rw [hk]; rfl
  have e9 : (n.kind == 9) = false := by rw [hk]; rfl
  have e12 : (n.kind == 12) = true := by rw [hk]; rfl
  unfold lnC
  go_enter Tryz.func75, Tryz.ntmps75
  go_wp2_with fail
  (refine wp_region_G (by kernel_rfl) (by kernel_rfl) ?_; (repeat (go_big_quiet_step (exact quietG (H.out _ (by repeat' (first | (with_reducible exact Below.refl _ _) | (with_reducible assumption) | (with_reducible refine Below.alloc ?_ ?_ _) | (with_reducible refine Below.drew ?_) | (with_reducible refine belowN ?_ _) | (with_reducible refine Below.setCell ?_ ?_ _) | (with_reducible refine belowG ?_ ?_) | (with_reducible exact Nat.le_refl _) | (with_reducible refine le_sizeG ?_) | (with_reducible refine le_sizeA ?_) | (with_reducible refine le_sizeC ?_) | (with_reducible refine le_sizeD ?_) | (with_reducible refine le_sizeN ?_) | go_size | (simp [go_sem]; done))))))); refine wpQuiet_nil ?_; intro _ hw'; obtain ⟨pg, hw''⟩ := hw'; subst hw'')
  go_wp2_with fail
  go_region
  all_goals
    go_wp2
    go_returns
    have hq := bd_pop (k := pre.length) hA.out (by simp)
    rw [List.take_left] at hq
    exact ⟨rfl, _, _, _, _, bd_keep hq (by repeat' (first | (with_reducible exact Below.refl _ _) | (with_reducible assumption) | (with_reducible refine Below.alloc ?_ ?_ _) | (with_reducible refine Below.drew ?_) | (with_reducible refine belowN ?_ _) | (with_reducible refine Below.setCell ?_ ?_ _) | (with_reducible refine belowG ?_ ?_) | (with_reducible exact Nat.le_refl _) | (with_reducible refine le_sizeG ?_) | (with_reducible refine le_sizeA ?_) | (with_reducible refine le_sizeC ?_) | (with_reducible refine le_sizeD ?_) | (with_reducible refine le_sizeN ?_) | go_size | (simp [go_sem]; done)))⟩
def TranIs (w0 : World) (B bb : Nat) (c : Ch) (op : List Nat) (m i : Nat) (n : Ln) (e : Ending) (w' : World) : Prop :=
  if m = 96 then e = .returned (.int .i64 13) ∧ BdAt w0 B bb c op m w'
  else e = .returned (.int .i64 0) ∧ BdAt w0 B bb { c with states := c.states.set i { c.states.getD i st0 with trans := (c.states.getD i st0).trans ++ [trOf n] } } op (m + 1) w'
/-- A transition more has been laid behind a state's. -/
theorem bd_trans {rv : Nat → Value} {vv ov : Value} {i sb sc q g cap H : Nat} {tr : Tr} {v vs : List Value} {w2 W w3 : World} (h : BdIs w0 B bb c op m rv vv (.slice (some ⟨sb, 0, none⟩) c.states.length sc) ov w2) (hi : i < c.states.length) (hv : TrR ct0 B w2 tr v) (hV : Vs (TrR ct0 B w2) (c.states.getD i st0).trans vs)
    (hO : w2.ownsRow B ct0.tr 5 (rv (3 * i + 2)) q vs) (hq : (c.states.getD i st0).trans.length = q) (hb : Below w2.heap.size w2 W) (hg : W.grownBy w3 (rv (3 * i + 2)).ownBlock) (hown : w3.ownsRow B ct0.tr 5 (.slice (some ⟨g, 0, none⟩) (q + 1) cap) (q + 1) (vs ++ v)) (hat : (rv (3 * i + 2)).ownBlock = some g ∨ g = H) (hH : W.heap.size ≤ H) :
    ∃ rv', BdIs w0 B bb { c with states := c.states.set i { c.states.getD i st0 with trans := (c.states.getD i st0).trans ++ [tr] } } op m rv' vv (.slice (some ⟨sb, 0, none⟩) c.states.length sc) ov (w3.setCell ⟨sb, i * 7 + (4 + 2), none⟩ (.slice (some ⟨g, 0, none⟩) (q + 1) cap)) := by
  subst hq
  have hfx : Fx ct0 B B w2 W := fx_below hb
  have hO2 := owns_below hO hb
  have hfg := fx_grown (τ := ct0) (B := B) hO2 (by decide) (by decide) (by decide) hg
  have hs := getD_at hi
  exact ⟨_, bd_put (bd_keep h hb) (by decide) hi hO2 (.inr rfl) hg (by rw [hs]) (by rw [hs]) (by rw [hs]) (by rw [hs]) (rows_trans (bd_keep h hb).rows hi hfg hg (trow_grown hfg (vs_map hV fun _ _ => trR_tp hfx) (trR_tp hfx hv) hown) rfl rfl hat hH)⟩
set_option maxRecDepth 100000 in
set_option maxHeartbeats 4000000 in
theorem binside_trans {i : Nat} {pre : List Nat} (n : Ln) (av iv gv tv : Value) (h8 : n.kind ≠ 8) (h9 : n.kind ≠ 9) (h12 : n.kind ≠ 12) (hop : op = pre ++ [i]) (hp : pre.length ≤ 1000) (hm : m ≤ 96) (hi : i < c.states.length) (hl : (c.states.getD i st0).trans.length ≤ 96) (h : BdAt w0 B bb c op m w) (hn : LnV B w n av iv gv tv) :
    Calls Tryz.prog 75 #[.pointer (some ⟨bb, 0, none⟩), .agg (lnC n av iv gv tv)] w (TranIs w0 B bb c op m i n) := by
  obtain ⟨rv, vv, sv, ov, h⟩ := h
  obtain ⟨sb, sc, cur, rfl, hc, hblk⟩ := row_cell h hi (r := 2) (by omega)
  subst hop
  obtain ⟨c0, c1, c2, c3, c4, hbb, hfr⟩ := five h.blk
  have f4 := hfr 4
  have i1 : InW bb w := ⟨hbb⟩
  have i2 : InW sb w := ⟨lt_of_block hblk⟩
  have H := Lib.hid (fun wx hb => bhere_any (w := wx) hp (bd_keep h hb))
  have hI : (i : Int) < (c.states.length : Int) := by omega
  have e8 : (n.kind == 8) = false := by simpa using h8
  have e9 : (n.kind == 9) = false := by simpa using h9
  have e12 : (n.kind == 12) = false := by simpa using h12
  have hA := Lib.hid h
  have hnk := Lib.hid hn
  have hbk := Lib.hid hblk
  have hck := Lib.hid hc
  by_cases h96 : m = 96
  · subst h96
    clear h hn hblk hfr hc c0 c1 c3 hbb h8 h9 h12
    unfold lnC
    go_enter Tryz.func75, Tryz.ntmps75
    go_wp2_with fail
    (refine wp_region_G (by kernel_rfl) (by kernel_rfl) ?_; (repeat (go_big_quiet_step (exact quietG (H.out _ (by repeat' (first | (with_reducible exact Below.refl _ _) | (with_reducible assumption) | (with_reducible refine Below.alloc ?_ ?_ _) | (with_reducible refine Below.drew ?_) | (with_reducible refine belowN ?_ _) | (with_reducible refine Below.setCell ?_ ?_ _) | (with_reducible refine belowG ?_ ?_) | (with_reducible exact Nat.le_refl _) | (with_reducible refine le_sizeG ?_) | (with_reducible refine le_sizeA ?_) | (with_reducible refine le_sizeC ?_) | (with_reducible refine le_sizeD ?_) | (with_reducible refine le_sizeN ?_) | go_size | (simp [go_sem]; done))))))); refine wpQuiet_nil ?_; intro _ hw'; obtain ⟨pg, hw''⟩ := hw'; subst hw'')
    go_wp2
    go_returns
    unfold TranIs
    rw [if_pos rfl]
    exact ⟨rfl, _, _, _, _, bd_keep hA.out (by repeat' (first | (with_reducible exact Below.refl _ _) | (with_reducible assumption) | (with_reducible refine Below.alloc ?_ ?_ _) | (with_reducible refine Below.drew ?_) | (with_reducible refine belowN ?_ _) | (with_reducible refine Below.setCell ?_ ?_ _) | (with_reducible refine belowG ?_ ?_) | (with_reducible exact Nat.le_refl _) | (with_reducible refine le_sizeG ?_) | (with_reducible refine le_sizeA ?_) | (with_reducible refine le_sizeC ?_) | (with_reducible refine le_sizeD ?_) | (with_reducible refine le_sizeN ?_) | go_size | (simp [go_sem]; done)))⟩
  · have e96 : ((m : Int) == 96) = false := beq_eq_false_iff_ne.2 (by omega)
    clear h hn hblk hfr hc c0 c1 c3 hbb h8 h9 h12
    unfold lnC
    go_enter Tryz.func75, Tryz.ntmps75
    go_wp2_with fail
    (refine wp_region_G (by kernel_rfl) (by kernel_rfl) ?_; (repeat (go_big_quiet_step (exact quietG (H.out _ (by repeat' (first | (with_reducible exact Below.refl _ _) | (with_reducible assumption) | (with_reducible refine Below.alloc ?_ ?_ _) | (with_reducible refine Below.drew ?_) | (with_reducible refine belowN ?_ _) | (with_reducible refine Below.setCell ?_ ?_ _) | (with_reducible refine belowG ?_ ?_) | (with_reducible exact Nat.le_refl _) | (with_reducible refine le_sizeG ?_) | (with_reducible refine le_sizeA ?_) | (with_reducible refine le_sizeC ?_) | (with_reducible refine le_sizeD ?_) | (with_reducible refine le_sizeN ?_) | go_size | (simp [go_sem]; done))))))); refine wpQuiet_nil ?_; intro _ hw'; obtain ⟨pg, hw''⟩ := hw'; subst hw'')
    go_wp2_with fail
    have hB2 := bd_count (m + 1) hA.out
    have hn2 : LnV B (w.setCell ⟨bb, 4, none⟩ (.int .i64 ((m + 1 : Nat) : Int))) n av iv gv tv := lnV_set hnk.out hA.out.blk (by decide) (by decide) (by decide)
    have hE : (w.setCell ⟨bb, 4, none⟩ (.int .i64 ((m : Int) + 1))) = w.setCell ⟨bb, 4, none⟩ (.int .i64 ((m + 1 : Nat) : Int)) := rfl
    have hz : w.heap.size = (w.setCell ⟨bb, 4, none⟩ (.int .i64 ((m + 1 : Nat) : Int))).heap.size := (size_set _ _ _ _).symm
    rw [hE, hz]
    clear hE hz H hA hnk hbk hck c2 c4 f4 i1 i2
    generalize w.setCell ⟨bb, 4, none⟩ (.int .i64 ((m + 1 : Nat) : Int)) = w2 at *
    obtain ⟨sb', sc', cur', hv, hc, hblk⟩ := row_cell hB2 hi (r := 2) (by omega)
    cases hv
    obtain ⟨vs, hV, hO⟩ := hB2.rows.trs i
    obtain ⟨to', tc, he⟩ := own_form hO
    obtain ⟨io, ic, rfl⟩ := own_form hn2.cond
    obtain ⟨go, gc, rfl⟩ := own_form hn2.goes
    obtain ⟨uo, uc, rfl⟩ : ∃ ao ac, tv = .slice ao n.thn.length ac := by
      obtain ⟨_, _, hh⟩ := hn2.thn
      exact own_form hh
    obtain ⟨q, hq⟩ : ∃ q, (c.states.getD i st0).trans.length = q := ⟨_, rfl⟩
    rw [hq] at he hO hl
    rw [he] at hc
    obtain ⟨j0, hj, hy1, hy2, hy3⟩ := info_parts Tryz.infoTr
    have i2 : InW sb w2 := ⟨lt_of_block hblk⟩
    have htop := hB2.top
    have hcur := Lib.hid ((cell_of_row w2 sb (i * 7 + (4 + 2)) _ _ _ hblk).symm.trans hc)
    have hTr : TrR ct0 B w2 (trOf n) [str n.event, .slice io n.cond.length ic, .slice go n.goes.length gc, .bool n.inner, .slice uo n.thn.length uc] := ⟨_, _, _, rfl, hn2.cond, hn2.goes, hn2.thn⟩
    have hTk := Lib.hid hTr
    have hOv := hO
    rw [he] at hOv
    have hOk := Lib.hid hOv
    have hOr := Lib.hid hO
    have hVk := Lib.hid hV
    have hBk := Lib.hid hB2
    have hbk := Lib.hid hblk
    have hqk := Lib.hid hq
    replace he := Lib.hid he
    clear hTr hO hOv hV hB2 hblk hn2 hq
    go_region_law (refine step_append_lies _ rfl (.tmp 64) (.tmp 67) 47 rfl B 75 j0 _ 5 96 Tryz.underlying47 hj hy1 hy2 hy3 rfl (by decide) (.slice to' q tc) q vs (by simp [Act.eval]) (owns_below hOk.out (by repeat' (first | (with_reducible exact Below.refl _ _) | (with_reducible assumption) | (with_reducible refine Below.alloc ?_ ?_ _) | (with_reducible refine Below.drew ?_) | (with_reducible refine belowN ?_ _) | (with_reducible refine Below.setCell ?_ ?_ _) | (with_reducible refine belowG ?_ ?_) | (with_reducible exact Nat.le_refl _) | (with_reducible refine le_sizeG ?_) | (with_reducible refine le_sizeA ?_) | (with_reducible refine le_sizeC ?_) | (with_reducible refine le_sizeD ?_) | (with_reducible refine le_sizeN ?_) | go_size | (simp [go_sem]; done)))) ⟨_, 0, none⟩ 1 1 [str n.event, .slice io n.cond.length ic, .slice go n.goes.length gc, .bool n.inner, .slice uo n.thn.length uc] (by simp [Act.eval]) rfl (World.news_of_block (new_block _ _)) (by intro u hu; simp at hu; rcases hu with rfl | rfl | rfl | rfl | rfl <;> rfl) (by decide) (by unfold maxLen; omega) (by omega) (Nat.le_trans htop (Below.size (B := w2.heap.size) (w := w2) (by repeat' (first | (with_reducible exact Below.refl _ _) | (with_reducible assumption) | (with_reducible refine Below.alloc ?_ ?_ _) | (with_reducible refine Below.drew ?_) | (with_reducible refine belowN ?_ _) | (with_reducible refine Below.setCell ?_ ?_ _) | (with_reducible refine belowG ?_ ?_) | (with_reducible exact Nat.le_refl _) | (with_reducible refine le_sizeG ?_) | (with_reducible refine le_sizeA ?_) | (with_reducible refine le_sizeC ?_) | (with_reducible refine le_sizeD ?_) | (with_reducible refine le_sizeN ?_) | go_size | (simp [go_sem]; done))))) _ rfl ?_; intro g cap' w3 hown1 hgrow hat1 hg1; have hb1 := grown_blk (owns_below hOk.out (by repeat' (first | (with_reducible exact Below.refl _ _) | (with_reducible assumption) | (with_reducible refine Below.alloc ?_ ?_ _) | (with_reducible refine Below.drew ?_) | (with_reducible refine belowN ?_ _) | (with_reducible refine Below.setCell ?_ ?_ _) | (with_reducible refine belowG ?_ ?_) | (with_reducible exact Nat.le_refl _) | (with_reducible refine le_sizeG ?_) | (with_reducible refine le_sizeA ?_) | (with_reducible refine le_sizeC ?_) | (with_reducible refine le_sizeD ?_) | (with_reducible refine le_sizeN ?_) | go_size | (simp [go_sem]; done)))) (blk_keep hbk.out (by repeat' (first | (with_reducible exact Below.refl _ _) | (with_reducible assumption) | (with_reducible refine Below.alloc ?_ ?_ _) | (with_reducible refine Below.drew ?_) | (with_reducible refine belowN ?_ _) | (with_reducible refine Below.setCell ?_ ?_ _) | (with_reducible refine belowG ?_ ?_) | (with_reducible exact Nat.le_refl _) | (with_reducible refine le_sizeG ?_) | (with_reducible refine le_sizeA ?_) | (with_reducible refine le_sizeC ?_) | (with_reducible refine le_sizeD ?_) | (with_reducible refine le_sizeN ?_) | go_size | (simp [go_sem]; done)))) (by decide) hgrow; have i3 : InW sb w3 := ⟨lt_of_block hb1⟩; have f1 := frozen_of_row w3 sb (i * 7 + 6) _ _ hb1; have c1 := (cell_of_row w3 sb (i * 7 + 6) _ _ _ hb1).trans hcur.out; clear hb1)
    all_goals
      go_wp2_with fail
      go_returns
      rw [← he.out] at hgrow hat1
      obtain ⟨rv', hq2⟩ := bd_trans hBk.out hi hTk.out hVk.out hOr.out hqk.out (by repeat' (first | (with_reducible exact Below.refl _ _) | (with_reducible assumption) | (with_reducible refine Below.alloc ?_ ?_ _) | (with_reducible refine Below.drew ?_) | (with_reducible refine belowN ?_ _) | (with_reducible refine Below.setCell ?_ ?_ _) | (with_reducible refine belowG ?_ ?_) | (with_reducible exact Nat.le_refl _) | (with_reducible refine le_sizeG ?_) | (with_reducible refine le_sizeA ?_) | (with_reducible refine le_sizeC ?_) | (with_reducible refine le_sizeD ?_) | (with_reducible refine le_sizeN ?_) | go_size | (simp [go_sem]; done))) hgrow hown1 hat1 (Nat.le_refl _)
      unfold TranIs
      rw [if_neg h96]
      exact ⟨rfl, rv', _, _, _, hq2⟩
end
end Go.Proofs.YtekfnnfphhoeoaaGreatDoor
/- What builds a chart: a variable, a state, a line. -/
namespace Go.Proofs.YtekfnnfphhoeoaaGreatDoor
open Go.RowKit
theorem Tryz.infoVr : (Tryz.prog.info? 80).map (fun i => (i.zero, i.size, i.bytes)) = some (some (.agg #[.string ⟨#[]⟩, .int .i64 0, .int .i64 0, .string ⟨#[]⟩]), 4, 48) := by kernel_rfl
def vrOf (n : Ln) : Vr := ⟨n.name, n.vk, n.vn, n.vs⟩
section
variable {w0 : World} {B bb : Nat} {c : Ch} {op : List Nat} {m : Nat} {w : World}
def VarIs (w0 : World) (B bb : Nat) (c : Ch) (op : List Nat) (m : Nat) (n : Ln) (e : Ending) (w' : World) : Prop :=
  if 1 < c.states.length then e = .returned (.int .i64 30) ∧ BdAt w0 B bb c op m w'
  else if c.vars.length = 16 then e = .returned (.int .i64 13) ∧ BdAt w0 B bb c op m w'
  else e = .returned (.int .i64 0) ∧ BdAt w0 B bb { c with vars := c.vars ++ [vrOf n] } op m w'
set_option maxRecDepth 100000 in
set_option maxHeartbeats 4000000 in
theorem bvariable_any (n : Ln) (av iv gv tv : Value) (hss : c.states.length ≤ 1000) (hvs : c.vars.length ≤ 16) (h : BdAt w0 B bb c op m w) :
    Calls Tryz.prog 73 #[.pointer (some ⟨bb, 0, none⟩), .agg (lnC n av iv gv tv)] w (VarIs w0 B bb c op m n) := by
  obtain ⟨rv, vv, sv, ov, h⟩ := h
  obtain ⟨sa, sc, rfl⟩ := own_form h.sts
  obtain ⟨va, vc, rfl⟩ := own_form h.vars
  obtain ⟨c0, c1, c2, c3, c4, hbb, hfr⟩ := five h.blk
  have f1 := hfr 1
  have i1 : InW bb w := ⟨hbb⟩
  have htop := h.top
  have hA := Lib.hid h
  have hO := Lib.hid h.vars
  clear h hfr c0 c3 c4 hbb
  by_cases h1 : 1 < c.states.length
  · have e1 : (1 : Int) < (c.states.length : Int) := by omega
    unfold lnC
    go_enter Tryz.func73, Tryz.ntmps73
    go_wp2
    go_returns
    unfold VarIs
    rw [if_pos h1]
    exact ⟨rfl, _, _, _, _, bd_keep hA.out (by repeat' (first | (with_reducible exact Below.refl _ _) | (with_reducible assumption) | (with_reducible refine Below.alloc ?_ ?_ _) | (with_reducible refine Below.drew ?_) | (with_reducible refine belowN ?_ _) | (with_reducible refine Below.setCell ?_ ?_ _) | (with_reducible refine belowG ?_ ?_) | (with_reducible exact Nat.le_refl _) | (with_reducible refine le_sizeG ?_) | (with_reducible refine le_sizeA ?_) | (with_reducible refine le_sizeC ?_) | (with_reducible refine le_sizeD ?_) | (with_reducible refine le_sizeN ?_) | go_size | (simp [go_sem]; done)))⟩
  · have e1 : ¬ (1 : Int) < (c.states.length : Int) := by omega
    by_cases h16 : c.vars.length = 16
    · have e16 : ((c.vars.length : Int) == 16) = true := by rw [beq_iff_eq]; omega
      unfold lnC
      replace h16 := Lib.hid h16
      go_enter Tryz.func73, Tryz.ntmps73
      go_wp2
      go_returns
      unfold VarIs
      rw [if_neg h1, if_pos h16.out]
      exact ⟨rfl, _, _, _, _, bd_keep hA.out (by repeat' (first | (with_reducible exact Below.refl _ _) | (with_reducible assumption) | (with_reducible refine Below.alloc ?_ ?_ _) | (with_reducible refine Below.drew ?_) | (with_reducible refine belowN ?_ _) | (with_reducible refine Below.setCell ?_ ?_ _) | (with_reducible refine belowG ?_ ?_) | (with_reducible exact Nat.le_refl _) | (with_reducible refine le_sizeG ?_) | (with_reducible refine le_sizeA ?_) | (with_reducible refine le_sizeC ?_) | (with_reducible refine le_sizeD ?_) | (with_reducible refine le_sizeN ?_) | go_size | (simp [go_sem]; done)))⟩
    · have e16 : ((c.vars.length : Int) == 16) = false := beq_eq_false_iff_ne.2 (by omega)
      obtain ⟨j0, hj, hy1, hy2, hy3⟩ := info_parts Tryz.infoVr
      unfold lnC
      go_enter Tryz.func73, Tryz.ntmps73
      go_wp2_with fail
      go_region_law (refine step_append_lies _ rfl (.tmp 26) (.tmp 32) 23 rfl B 80 j0 _ 4 48 Tryz.underlying23 hj hy1 hy2 hy3 rfl (by decide) (.slice va c.vars.length vc) c.vars.length (vrsC c.vars) (by simp [Act.eval]) (owns_below hO.out (by repeat' (first | (with_reducible exact Below.refl _ _) | (with_reducible assumption) | (with_reducible refine Below.alloc ?_ ?_ _) | (with_reducible refine Below.drew ?_) | (with_reducible refine belowN ?_ _) | (with_reducible refine Below.setCell ?_ ?_ _) | (with_reducible refine belowG ?_ ?_) | (with_reducible exact Nat.le_refl _) | (with_reducible refine le_sizeG ?_) | (with_reducible refine le_sizeA ?_) | (with_reducible refine le_sizeC ?_) | (with_reducible refine le_sizeD ?_) | (with_reducible refine le_sizeN ?_) | go_size | (simp [go_sem]; done)))) ⟨_, 0, none⟩ 1 1 [str n.name, .int .i64 n.vk, .int .i64 n.vn, str n.vs] (by simp [Act.eval]) rfl (World.news_of_block (new_block _ _)) (by intro u hu; simp at hu; rcases hu with rfl | rfl | rfl | rfl <;> rfl) (by decide) (by unfold maxLen; omega) (by omega) (Nat.le_trans htop (Below.size (B := w.heap.size) (w := w) (by repeat' (first | (with_reducible exact Below.refl _ _) | (with_reducible assumption) | (with_reducible refine Below.alloc ?_ ?_ _) | (with_reducible refine Below.drew ?_) | (with_reducible refine belowN ?_ _) | (with_reducible refine Below.setCell ?_ ?_ _) | (with_reducible refine belowG ?_ ?_) | (with_reducible exact Nat.le_refl _) | (with_reducible refine le_sizeG ?_) | (with_reducible refine le_sizeA ?_) | (with_reducible refine le_sizeC ?_) | (with_reducible refine le_sizeD ?_) | (with_reducible refine le_sizeN ?_) | go_size | (simp [go_sem]; done))))) _ rfl ?_; intro g cap' w2 hown1 hgrow hat1 hg1; obtain ⟨k1, _, _, _, kl, kf⟩ := bd_cells hgrow hA.out hO.out (by decide) (by repeat' (first | (with_reducible exact Below.refl _ _) | (with_reducible assumption) | (with_reducible refine Below.alloc ?_ ?_ _) | (with_reducible refine Below.drew ?_) | (with_reducible refine belowN ?_ _) | (with_reducible refine Below.setCell ?_ ?_ _) | (with_reducible refine belowG ?_ ?_) | (with_reducible exact Nat.le_refl _) | (with_reducible refine le_sizeG ?_) | (with_reducible refine le_sizeA ?_) | (with_reducible refine le_sizeC ?_) | (with_reducible refine le_sizeD ?_) | (with_reducible refine le_sizeN ?_) | go_size | (simp [go_sem]; done))))
      all_goals
        go_wp2_with fail
        go_returns
        unfold VarIs
        rw [if_neg h1, if_neg h16]
        exact ⟨rfl, _, _, _, _, bd_vars (v := vrOf n) (bd_keep hA.out (by repeat' (first | (with_reducible exact Below.refl _ _) | (with_reducible assumption) | (with_reducible refine Below.alloc ?_ ?_ _) | (with_reducible refine Below.drew ?_) | (with_reducible refine belowN ?_ _) | (with_reducible refine Below.setCell ?_ ?_ _) | (with_reducible refine belowG ?_ ?_) | (with_reducible exact Nat.le_refl _) | (with_reducible refine le_sizeG ?_) | (with_reducible refine le_sizeA ?_) | (with_reducible refine le_sizeC ?_) | (with_reducible refine le_sizeD ?_) | (with_reducible refine le_sizeN ?_) | go_size | (simp [go_sem]; done)))) hgrow hown1 rfl⟩
def StaIs (w0 : World) (B bb : Nat) (c : Ch) (op : List Nat) (m i : Nat) (n : Ln) (e : Ending) (w' : World) : Prop :=
  if (c.states.getD i st0).kind = 5 then e = .returned (.int .i64 30) ∧ BdAt w0 B bb c op m w'
  else if 48 < c.states.length then e = .returned (.int .i64 13) ∧ BdAt w0 B bb c op m w'
  else if 8 < op.length then e = .returned (.int .i64 23) ∧ BdAt w0 B bb c op m w'
  else e = .returned (.int .i64 0) ∧ BdAt w0 B bb { c with states := c.states ++ [⟨n.name, n.kind, (i : Int), n.start, [], [], []⟩] } (if (n.kind == 6 || n.kind == 7) = true then op else op ++ [c.states.length]) m w'
set_option maxRecDepth 100000 in
set_option maxHeartbeats 4000000 in
theorem bstate_any {i : Nat} {pre : List Nat} (n : Ln) (av iv gv tv : Value) (hop : op = pre ++ [i]) (hp : pre.length ≤ 900) (hi : i < c.states.length) (hss : c.states.length ≤ 1000) (h : BdAt w0 B bb c op m w) :
    Calls Tryz.prog 74 #[.pointer (some ⟨bb, 0, none⟩), .agg (lnC n av iv gv tv)] w (StaIs w0 B bb c op m i n) := by
  have hol : op.length ≤ 1000 := by rw [hop]; simp; omega
  have P := Lib.hid (fun wx (hb : Below w.heap.size w wx) => bput_any n av iv gv tv (i : Int) hss hol (bdat_keep h hb))
  obtain ⟨rv, vv, sv, ov, h⟩ := h
  obtain ⟨sb, sc, rfl, hsb, _, _, hcl⟩ := own_head h.sts (by omega)
  have hk := hcl (i * 7 + 1) (.int .i64 (c.states.getD i st0).kind) (by rw [stsC_at _ _ _ i hi 1 (by decide), getD_at hi]; rfl)
  obtain ⟨oa, oc, rfl⟩ := own_form h.opn
  obtain ⟨c0, c1, c2, c3, c4, hbb, hfr⟩ := five h.blk
  have i1 : InW bb w := ⟨hbb⟩
  have i2 : InW sb w := ⟨hsb⟩
  have hA := Lib.hid h
  have H := Lib.hid (fun wx (hb : Below w.heap.size w wx) => bhere_any (w := wx) (pre := pre) (i := i) (by omega) (hop ▸ bd_keep h hb))
  have hI : (i : Int) < (c.states.length : Int) := by omega
  replace hop := Lib.hid hop
  clear h hfr c0 c1 c4 hbb hcl hsb
  obtain ⟨kk, hkk⟩ : ∃ k, (c.states.getD i st0).kind = k := ⟨_, rfl⟩
  rw [hkk] at hk
  replace hkk := Lib.hid hkk
  by_cases h5 : kk = 5
  · have e5 : (kk == 5) = true := by rw [beq_iff_eq]; exact h5
    replace h5 := Lib.hid h5
    unfold lnC
    go_enter Tryz.func74, Tryz.ntmps74
    go_wp2_with ((refine (H.out _ (by repeat' (first | (with_reducible exact Below.refl _ _) | (with_reducible assumption) | (with_reducible refine Below.alloc ?_ ?_ _) | (with_reducible refine Below.drew ?_) | (with_reducible refine belowN ?_ _) | (with_reducible refine Below.setCell ?_ ?_ _) | (with_reducible refine belowG ?_ ?_) | (with_reducible exact Nat.le_refl _) | (with_reducible refine le_sizeG ?_) | (with_reducible refine le_sizeA ?_) | (with_reducible refine le_sizeC ?_) | (with_reducible refine le_sizeD ?_) | (with_reducible refine le_sizeN ?_) | go_size | (simp [go_sem]; done)))).mono ?_); intro e w1 hr; obtain ⟨rfl, p, rfl⟩ := hr.out; clear hr)
    go_returns
    unfold StaIs
    rw [if_pos (hkk.out.trans h5.out)]
    exact ⟨rfl, _, _, _, _, bd_keep hA.out (by repeat' (first | (with_reducible exact Below.refl _ _) | (with_reducible assumption) | (with_reducible refine Below.alloc ?_ ?_ _) | (with_reducible refine Below.drew ?_) | (with_reducible refine belowN ?_ _) | (with_reducible refine Below.setCell ?_ ?_ _) | (with_reducible refine belowG ?_ ?_) | (with_reducible exact Nat.le_refl _) | (with_reducible refine le_sizeG ?_) | (with_reducible refine le_sizeA ?_) | (with_reducible refine le_sizeC ?_) | (with_reducible refine le_sizeD ?_) | (with_reducible refine le_sizeN ?_) | go_size | (simp [go_sem]; done)))⟩
  · have e5 : (kk == 5) = false := by simpa using h5
    replace h5 := Lib.hid h5
    by_cases h48 : 48 < c.states.length
    · have e48 : (48 : Int) < (c.states.length : Int) := by omega
      unfold lnC
      go_enter Tryz.func74, Tryz.ntmps74
      go_wp2_with ((refine (H.out _ (by repeat' (first | (with_reducible exact Below.refl _ _) | (with_reducible assumption) | (with_reducible refine Below.alloc ?_ ?_ _) | (with_reducible refine Below.drew ?_) | (with_reducible refine belowN ?_ _) | (with_reducible refine Below.setCell ?_ ?_ _) | (with_reducible refine belowG ?_ ?_) | (with_reducible exact Nat.le_refl _) | (with_reducible refine le_sizeG ?_) | (with_reducible refine le_sizeA ?_) | (with_reducible refine le_sizeC ?_) | (with_reducible refine le_sizeD ?_) | (with_reducible refine le_sizeN ?_) | go_size | (simp [go_sem]; done)))).mono ?_); intro e w1 hr; obtain ⟨rfl, p, rfl⟩ := hr.out; clear hr)
      go_returns
      unfold StaIs
      rw [if_neg (hkk.out ▸ h5.out), if_pos h48]
      exact ⟨rfl, _, _, _, _, bd_keep hA.out (by repeat' (first | (with_reducible exact Below.refl _ _) | (with_reducible assumption) | (with_reducible refine Below.alloc ?_ ?_ _) | (with_reducible refine Below.drew ?_) | (with_reducible refine belowN ?_ _) | (with_reducible refine Below.setCell ?_ ?_ _) | (with_reducible refine belowG ?_ ?_) | (with_reducible exact Nat.le_refl _) | (with_reducible refine le_sizeG ?_) | (with_reducible refine le_sizeA ?_) | (with_reducible refine le_sizeC ?_) | (with_reducible refine le_sizeD ?_) | (with_reducible refine le_sizeN ?_) | go_size | (simp [go_sem]; done)))⟩
    · have e48 : ¬ (48 : Int) < (c.states.length : Int) := by omega
      by_cases h8 : 8 < op.length
      · have e8 : (8 : Int) < (op.length : Int) := by omega
        unfold lnC
        go_enter Tryz.func74, Tryz.ntmps74
        go_wp2_with ((refine (H.out _ (by repeat' (first | (with_reducible exact Below.refl _ _) | (with_reducible assumption) | (with_reducible refine Below.alloc ?_ ?_ _) | (with_reducible refine Below.drew ?_) | (with_reducible refine belowN ?_ _) | (with_reducible refine Below.setCell ?_ ?_ _) | (with_reducible refine belowG ?_ ?_) | (with_reducible exact Nat.le_refl _) | (with_reducible refine le_sizeG ?_) | (with_reducible refine le_sizeA ?_) | (with_reducible refine le_sizeC ?_) | (with_reducible refine le_sizeD ?_) | (with_reducible refine le_sizeN ?_) | go_size | (simp [go_sem]; done)))).mono ?_); intro e w1 hr; obtain ⟨rfl, p, rfl⟩ := hr.out; clear hr)
        go_returns
        unfold StaIs
        rw [if_neg (hkk.out ▸ h5.out), if_neg h48, if_pos h8]
        exact ⟨rfl, _, _, _, _, bd_keep hA.out (by repeat' (first | (with_reducible exact Below.refl _ _) | (with_reducible assumption) | (with_reducible refine Below.alloc ?_ ?_ _) | (with_reducible refine Below.drew ?_) | (with_reducible refine belowN ?_ _) | (with_reducible refine Below.setCell ?_ ?_ _) | (with_reducible refine belowG ?_ ?_) | (with_reducible exact Nat.le_refl _) | (with_reducible refine le_sizeG ?_) | (with_reducible refine le_sizeA ?_) | (with_reducible refine le_sizeC ?_) | (with_reducible refine le_sizeD ?_) | (with_reducible refine le_sizeN ?_) | go_size | (simp [go_sem]; done)))⟩
      · have e8 : ¬ (8 : Int) < (op.length : Int) := by omega
        unfold lnC
        go_enter Tryz.func74, Tryz.ntmps74
        go_wp2_with fail
        refine (H.out _ (by repeat' (first | (with_reducible exact Below.refl _ _) | (with_reducible assumption) | (with_reducible refine Below.alloc ?_ ?_ _) | (with_reducible refine Below.drew ?_) | (with_reducible refine belowN ?_ _) | (with_reducible refine Below.setCell ?_ ?_ _) | (with_reducible refine belowG ?_ ?_) | (with_reducible exact Nat.le_refl _) | (with_reducible refine le_sizeG ?_) | (with_reducible refine le_sizeA ?_) | (with_reducible refine le_sizeC ?_) | (with_reducible refine le_sizeD ?_) | (with_reducible refine le_sizeN ?_) | go_size | (simp [go_sem]; done)))).mono ?_
        intro e w1 hr
        obtain ⟨rfl, p, rfl⟩ := hr.out
        clear hr H
        go_wp2_with fail
        refine (P.out _ (by repeat' (first | (with_reducible exact Below.refl _ _) | (with_reducible assumption) | (with_reducible refine Below.alloc ?_ ?_ _) | (with_reducible refine Below.drew ?_) | (with_reducible refine belowN ?_ _) | (with_reducible refine Below.setCell ?_ ?_ _) | (with_reducible refine belowG ?_ ?_) | (with_reducible exact Nat.le_refl _) | (with_reducible refine le_sizeG ?_) | (with_reducible refine le_sizeA ?_) | (with_reducible refine le_sizeC ?_) | (with_reducible refine le_sizeD ?_) | (with_reducible refine le_sizeN ?_) | go_size | (simp [go_sem]; done)))).mono ?_
        intro e w2 hr
        obtain ⟨rfl, hr⟩ := hr
        replace hr := Lib.hid hr
        clear P
        go_wp2
        go_returns
        unfold StaIs
        rw [if_neg (hkk.out ▸ h5.out), if_neg h48, if_neg h8]
        exact ⟨rfl, bdat_keep hr.out (by repeat' (first | (with_reducible exact Below.refl _ _) | (with_reducible assumption) | (with_reducible refine Below.alloc ?_ ?_ _) | (with_reducible refine Below.drew ?_) | (with_reducible refine belowN ?_ _) | (with_reducible refine Below.setCell ?_ ?_ _) | (with_reducible refine belowG ?_ ?_) | (with_reducible exact Nat.le_refl _) | (with_reducible refine le_sizeG ?_) | (with_reducible refine le_sizeA ?_) | (with_reducible refine le_sizeC ?_) | (with_reducible refine le_sizeD ?_) | (with_reducible refine le_sizeN ?_) | go_size | (simp [go_sem]; done)))⟩
end
end Go.Proofs.YtekfnnfphhoeoaaGreatDoor
/- What builds a chart: a line is added. -/
namespace Go.Proofs.YtekfnnfphhoeoaaGreatDoor
open Go.RowKit
/-- A chart that is being built: the state o is open (-1: there is no chart yet). -/
def BSt (w0 : World) (B bb : Nat) (c : Ch) (o : Int) (w : World) : Prop := ∃ op, BdAt w0 B bb c op (manyT c.states) w ∧ ((o = -1 ∧ c = ch0 ∧ op = []) ∨ (GoodC c o ∧ Opn c.states op o ∧ op.length ≤ 9))
def AddIs (w0 : World) (B bb : Nat) (x : Except Int (Ch × Int)) (e : Ending) (w' : World) : Prop :=
  match x with
  | .error y => e = .returned (.int .i64 y) ∧ (y == 0) = false ∧ Fr B bb w0 w' ∧ B ≤ w'.heap.size
  | .ok (d, p) => e = .returned (.int .i64 0) ∧ BSt w0 B bb d p w'
section
variable {w0 : World} {B bb : Nat} {c : Ch} {o : Int} {w : World}
theorem bd_out {op : List Nat} {m : Nat} {rv : Nat → Value} {vv sv ov : Value} (h : BdIs w0 B bb c op m rv vv sv ov w) : Fr B bb w0 w ∧ B ≤ w.heap.size := ⟨h.env, h.top⟩
theorem bdat_out {op : List Nat} {m : Nat} (h : BdAt w0 B bb c op m w) : Fr B bb w0 w ∧ B ≤ w.heap.size := by
  obtain ⟨_, _, _, _, h⟩ := h
  exact ⟨h.env, h.top⟩
theorem addIs_keep {x : Except Int (Ch × Int)} {e : Ending} {w1 w2 : World} (h : AddIs w0 B bb x e w1) (hb : Below w1.heap.size w1 w2) (hB : B ≤ w1.heap.size) : AddIs w0 B bb x e w2 := by
  cases x with
  | error y => exact ⟨h.1, h.2.1, fr_trans h.2.2.1 (fr_below hb hB), Nat.le_trans hB hb.size⟩
  | ok p =>
    obtain ⟨h1, op, h2, h3⟩ := h
    exact ⟨h1, op, bdat_keep h2 hb, h3⟩
/-- Where no chart is there yet. -/
theorem badd_none (n : Ln) (av iv gv tv : Value) (h : BdAt w0 B bb ch0 [] 0 w) : Calls Tryz.prog 39 #[.pointer (some ⟨bb, 0, none⟩), .agg (lnC n av iv gv tv)] w (AddIs w0 B bb (stepT ch0 (-1) n)) := by
  by_cases h1 : n.kind = 1
  · have e1 : (n.kind == 1) = true := by rw [h1]; rfl
    obtain ⟨rv, vv, sv, ov, h⟩ := h
    obtain ⟨c0, c1, c2, c3, c4, hbb, hfr⟩ := five h.blk
    obtain ⟨sa, sc, hsv⟩ := own_form h.sts
    rw [hsv] at c2
    replace c2 : w.cell? ⟨bb, 2, none⟩ = some (.slice sa 0 sc) := c2
    have f0 := hfr 0
    have i1 : InW bb w := ⟨hbb⟩
    have hN : BdAt w0 B bb { ch0 with name := n.name } [] 0 (w.setCell ⟨bb, 0, none⟩ (str n.name)) := ⟨_, _, _, _, bd_name n.name h⟩
    have P := Lib.hid (fun wx hb => bput_any (c := { ch0 with name := n.name }) n av iv gv tv (-1) (by show 0 ≤ 1000; decide) (by decide) (bdat_keep (w' := wx) hN hb))
    have hst : stepT ch0 (-1) n = .ok (⟨n.name, [], [⟨n.name, 1, -1, n.start, [], [], []⟩]⟩, 0) := by
      unfold stepT
      rw [if_pos h1, if_neg (by decide)]
    have hgood := good_step (o := -1) (.inl (by decide)) hst
    rw [hst]
    replace h1 := Lib.hid h1
    clear hfr h c1 c3 c4 hN hst
    unfold lnC
    go_enter Tryz.func39, Tryz.ntmps39
    go_wp2_with fail
    refine (P.out _ (by repeat' (first | (with_reducible exact Below.refl _ _) | (with_reducible assumption) | (with_reducible refine Below.alloc ?_ ?_ _) | (with_reducible refine Below.drew ?_) | (with_reducible refine belowN ?_ _) | (with_reducible refine Below.setCell ?_ ?_ _) | (with_reducible refine belowG ?_ ?_) | (with_reducible exact Nat.le_refl _) | (with_reducible refine le_sizeG ?_) | (with_reducible refine le_sizeA ?_) | (with_reducible refine le_sizeC ?_) | (with_reducible refine le_sizeD ?_) | (with_reducible refine le_sizeN ?_) | go_size | (simp [go_sem]; done)))).mono ?_
    intro e w2 hr
    obtain ⟨rfl, hr⟩ := hr
    replace hr := Lib.hid hr
    clear P
    go_wp2
    go_returns
    have hr2 := hr.out
    rw [h1.out, if_neg (by decide)] at hr2
    exact ⟨rfl, [0], bdat_keep hr2 (by repeat' (first | (with_reducible exact Below.refl _ _) | (with_reducible assumption) | (with_reducible refine Below.alloc ?_ ?_ _) | (with_reducible refine Below.drew ?_) | (with_reducible refine belowN ?_ _) | (with_reducible refine Below.setCell ?_ ?_ _) | (with_reducible refine belowG ?_ ?_) | (with_reducible exact Nat.le_refl _) | (with_reducible refine le_sizeG ?_) | (with_reducible refine le_sizeA ?_) | (with_reducible refine le_sizeC ?_) | (with_reducible refine le_sizeD ?_) | (with_reducible refine le_sizeN ?_) | go_size | (simp [go_sem]; done))), .inr ⟨hgood, .root, by decide⟩⟩
  · have e1 : (n.kind == 1) = false := by simpa using h1
    obtain ⟨rv, vv, sv, ov, h⟩ := h
    obtain ⟨c0, c1, c2, c3, c4, hbb, hfr⟩ := five h.blk
    obtain ⟨sa, sc, hsv⟩ := own_form h.sts
    rw [hsv] at c2
    replace c2 : w.cell? ⟨bb, 2, none⟩ = some (.slice sa 0 sc) := c2
    have i1 : InW bb w := ⟨hbb⟩
    have hst : stepT ch0 (-1) n = .error 30 := by
      unfold stepT
      rw [if_neg h1, if_pos (by decide)]
    rw [hst]
    have hA := Lib.hid h
    clear h hfr c0 c1 c3 c4 hst h1
    unfold lnC
    go_enter Tryz.func39, Tryz.ntmps39
    go_wp2
    go_returns
    exact ⟨rfl, rfl, bd_out (bd_keep hA.out (by repeat' (first | (with_reducible exact Below.refl _ _) | (with_reducible assumption) | (with_reducible refine Below.alloc ?_ ?_ _) | (with_reducible refine Below.drew ?_) | (with_reducible refine belowN ?_ _) | (with_reducible refine Below.setCell ?_ ?_ _) | (with_reducible refine belowG ?_ ?_) | (with_reducible exact Nat.le_refl _) | (with_reducible refine le_sizeG ?_) | (with_reducible refine le_sizeA ?_) | (with_reducible refine le_sizeC ?_) | (with_reducible refine le_sizeD ?_) | (with_reducible refine le_sizeN ?_) | go_size | (simp [go_sem]; done))))⟩
theorem badd_first (n : Ln) (av iv gv tv : Value) {op : List Nat} (h : BdAt w0 B bb c op (manyT c.states) w) (g : GoodC c o) (hk : n.kind = 1) : Calls Tryz.prog 39 #[.pointer (some ⟨bb, 0, none⟩), .agg (lnC n av iv gv tv)] w (AddIs w0 B bb (stepT c o n)) := by
  have hst : stepT c o n = .error 30 := by
    unfold stepT
    rw [if_pos hk, if_pos g.lo]
  rw [hst]
  have e1 : (n.kind == 1) = true := by rw [hk]; rfl
  have hlen : ((c.states.length : Int) == 0) = false := beq_eq_false_iff_ne.2 (by have := g.some; omega)
  obtain ⟨rv, vv, sv, ov, h⟩ := h
  obtain ⟨c0, c1, c2, c3, c4, hbb, hfr⟩ := five h.blk
  obtain ⟨sa, sc, hsv⟩ := own_form h.sts
  rw [hsv] at c2
  have i1 : InW bb w := ⟨hbb⟩
  have hA := Lib.hid h
  clear h hfr c0 c1 c3 c4 hst hk g
  unfold lnC
  go_enter Tryz.func39, Tryz.ntmps39
  go_wp2
  go_returns
  exact ⟨rfl, rfl, bd_out (bd_keep hA.out (by repeat' (first | (with_reducible exact Below.refl _ _) | (with_reducible assumption) | (with_reducible refine Below.alloc ?_ ?_ _) | (with_reducible refine Below.drew ?_) | (with_reducible refine belowN ?_ _) | (with_reducible refine Below.setCell ?_ ?_ _) | (with_reducible refine belowG ?_ ?_) | (with_reducible exact Nat.le_refl _) | (with_reducible refine le_sizeG ?_) | (with_reducible refine le_sizeA ?_) | (with_reducible refine le_sizeC ?_) | (with_reducible refine le_sizeD ?_) | (with_reducible refine le_sizeN ?_) | go_size | (simp [go_sem]; done))))⟩
theorem badd_var (n : Ln) (av iv gv tv : Value) {op : List Nat} (h : BdAt w0 B bb c op (manyT c.states) w) (g : GoodC c o) (hop : Opn c.states op o ∧ op.length ≤ 9) (hk : n.kind = 2) : Calls Tryz.prog 39 #[.pointer (some ⟨bb, 0, none⟩), .agg (lnC n av iv gv tv)] w (AddIs w0 B bb (stepT c o n)) := by
  obtain ⟨x, hx⟩ : ∃ x, stepT c o n = x := ⟨_, rfl⟩
  rw [hx]
  have hgood : ∀ d p, x = .ok (d, p) → GoodC d p := fun d p he => good_step (.inr g) (hx.trans he)
  unfold stepT at hx
  rw [if_neg (by omega), if_neg (by have := g.lo; omega), if_pos hk] at hx
  have V := Lib.hid (fun wx (hb : Below w.heap.size w wx) => bvariable_any n av iv gv tv (by have := g.few; omega) g.vars (bdat_keep h hb))
  have e1 : (n.kind == 1) = false := by rw [hk]; rfl
  have e2 : (n.kind == 2) = true := by rw [hk]; rfl
  have hlen : ((c.states.length : Int) == 0) = false := beq_eq_false_iff_ne.2 (by have := g.some; omega)
  obtain ⟨rv, vv, sv, ov, h⟩ := h
  obtain ⟨c0, c1, c2, c3, c4, hbb, hfr⟩ := five h.blk
  obtain ⟨sa, sc, hsv⟩ := own_form h.sts
  rw [hsv] at c2
  have i1 : InW bb w := ⟨hbb⟩
  replace hx := Lib.hid hx
  replace hgood := Lib.hid hgood
  replace hop := Lib.hid hop
  clear h hfr c0 c1 c3 c4 hk g
  unfold lnC
  go_enter Tryz.func39, Tryz.ntmps39
  go_wp2_with fail
  refine (V.out _ (by repeat' (first | (with_reducible exact Below.refl _ _) | (with_reducible assumption) | (with_reducible refine Below.alloc ?_ ?_ _) | (with_reducible refine Below.drew ?_) | (with_reducible refine belowN ?_ _) | (with_reducible refine Below.setCell ?_ ?_ _) | (with_reducible refine belowG ?_ ?_) | (with_reducible exact Nat.le_refl _) | (with_reducible refine le_sizeG ?_) | (with_reducible refine le_sizeA ?_) | (with_reducible refine le_sizeC ?_) | (with_reducible refine le_sizeD ?_) | (with_reducible refine le_sizeN ?_) | go_size | (simp [go_sem]; done)))).mono ?_
  intro e w1 hr
  unfold VarIs at hr
  have hx2 := hx.out
  by_cases h1 : 1 < c.states.length
  · rw [if_pos h1] at hr hx2
    obtain ⟨rfl, hr⟩ := hr
    replace hr := Lib.hid hr
    clear V hx h1
    go_wp2
    go_returns
    rw [← hx2]
    exact ⟨rfl, rfl, bdat_out (bdat_keep hr.out (by repeat' (first | (with_reducible exact Below.refl _ _) | (with_reducible assumption) | (with_reducible refine Below.alloc ?_ ?_ _) | (with_reducible refine Below.drew ?_) | (with_reducible refine belowN ?_ _) | (with_reducible refine Below.setCell ?_ ?_ _) | (with_reducible refine belowG ?_ ?_) | (with_reducible exact Nat.le_refl _) | (with_reducible refine le_sizeG ?_) | (with_reducible refine le_sizeA ?_) | (with_reducible refine le_sizeC ?_) | (with_reducible refine le_sizeD ?_) | (with_reducible refine le_sizeN ?_) | go_size | (simp [go_sem]; done))))⟩
  · rw [if_neg h1] at hr hx2
    by_cases h16 : c.vars.length = 16
    · rw [if_pos h16] at hr hx2
      obtain ⟨rfl, hr⟩ := hr
      replace hr := Lib.hid hr
      clear V hx h1 h16
      go_wp2
      go_returns
      rw [← hx2]
      exact ⟨rfl, rfl, bdat_out (bdat_keep hr.out (by repeat' (first | (with_reducible exact Below.refl _ _) | (with_reducible assumption) | (with_reducible refine Below.alloc ?_ ?_ _) | (with_reducible refine Below.drew ?_) | (with_reducible refine belowN ?_ _) | (with_reducible refine Below.setCell ?_ ?_ _) | (with_reducible refine belowG ?_ ?_) | (with_reducible exact Nat.le_refl _) | (with_reducible refine le_sizeG ?_) | (with_reducible refine le_sizeA ?_) | (with_reducible refine le_sizeC ?_) | (with_reducible refine le_sizeD ?_) | (with_reducible refine le_sizeN ?_) | go_size | (simp [go_sem]; done))))⟩
    · rw [if_neg h16] at hr hx2
      obtain ⟨rfl, hr⟩ := hr
      replace hr := Lib.hid hr
      clear V hx h1 h16
      go_wp2
      go_returns
      have hg2 := hgood.out _ _ hx2.symm
      rw [← hx2]
      exact ⟨rfl, op, bdat_keep hr.out (by repeat' (first | (with_reducible exact Below.refl _ _) | (with_reducible assumption) | (with_reducible refine Below.alloc ?_ ?_ _) | (with_reducible refine Below.drew ?_) | (with_reducible refine belowN ?_ _) | (with_reducible refine Below.setCell ?_ ?_ _) | (with_reducible refine belowG ?_ ?_) | (with_reducible exact Nat.le_refl _) | (with_reducible refine le_sizeG ?_) | (with_reducible refine le_sizeA ?_) | (with_reducible refine le_sizeC ?_) | (with_reducible refine le_sizeD ?_) | (with_reducible refine le_sizeN ?_) | go_size | (simp [go_sem]; done))), .inr ⟨hg2, hop.out⟩⟩
/-- What stands behind the call that puts a state. -/
theorem sta_add {n : Ln} {op : List Nat} {i : Nat} {e : Ending} {w' : World} (g : GoodC c o) (hop : Opn c.states op o) (h9 : op.length ≤ 9) (ho : o = (i : Int)) (h3 : 3 ≤ n.kind) (h7 : n.kind ≤ 7) (h : StaIs w0 B bb c op (manyT c.states) i n e w') : AddIs w0 B bb (stepT c o n) e w' := by
  obtain ⟨x, hx⟩ : ∃ x, stepT c o n = x := ⟨_, rfl⟩
  rw [hx]
  have hgood : ∀ d p, x = .ok (d, p) → GoodC d p := fun d p he => good_step (.inr g) (hx.trans he)
  have hlo := g.lo
  have hhi := g.hi
  have hfew := g.few
  have hd := opn_deep hop 49 (by have := opn_few hop fun i h0 hi => (g.par i h0 hi).2; omega)
  unfold stepT at hx
  unfold StaIs at h
  rw [if_neg (by omega), if_neg (by omega), if_neg (by omega), if_neg (by omega), show o.toNat = i by omega] at hx
  by_cases h5 : (c.states.getD i st0).kind = 5
  · rw [if_pos h5] at hx h
    subst hx
    exact ⟨h.1, rfl, bdat_out h.2⟩
  · rw [if_neg h5] at hx h
    by_cases h48 : 48 < c.states.length
    · rw [if_pos (by omega)] at hx
      rw [if_pos h48] at h
      subst hx
      exact ⟨h.1, rfl, bdat_out h.2⟩
    · rw [if_neg (by omega)] at hx
      rw [if_neg h48] at h
      by_cases h8 : 8 < op.length
      · rw [if_pos h8] at h
        have : deepT c.states 49 o = 8 := by omega
        rw [if_pos this] at hx
        subst hx
        exact ⟨h.1, rfl, bdat_out h.2⟩
      · rw [if_neg h8] at h
        rw [if_neg (by omega)] at hx
        obtain ⟨h1, h2⟩ := h
        have hg2 := hgood _ _ hx.symm
        subst hx
        refine ⟨h1, if (n.kind == 6 || n.kind == 7) = true then op else op ++ [c.states.length], ?_, .inr ⟨hg2, ?_, by
          split
          · omega
          · rw [List.length_append]
            simp only [List.length_singleton]
            omega⟩⟩
        · rw [many_snoc, ho]
          exact h2
        · have hs : Opn (c.states ++ [⟨n.name, n.kind, o, n.start, [], [], []⟩]) op o := opn_snoc hop
          by_cases h6 : n.kind ≤ 5
          · have e6 : (n.kind == 6 || n.kind == 7) = false := by simp; omega
            rw [if_pos h6, if_neg (by rw [e6]; decide)]
            refine .more hs g.some (by simp) ?_
            rw [getD_snoc, if_neg (by omega), if_pos rfl]
          · have e6 : (n.kind == 6 || n.kind == 7) = true := by simp; omega
            rw [if_neg h6, if_pos e6]
            exact hs
theorem bdat_top {op : List Nat} {m : Nat} (h : BdAt w0 B bb c op m w) : B ≤ w.heap.size := by
  obtain ⟨_, _, _, _, h⟩ := h
  exact h.top
theorem sta_ret {n : Ln} {op : List Nat} {m i : Nat} {e : Ending} {w' : World} (h : StaIs w0 B bb c op m i n e w') : (∃ v, e = .returned (.int .i64 v)) ∧ B ≤ w'.heap.size := by
  unfold StaIs at h
  split at h
  · exact ⟨⟨_, h.1⟩, bdat_top h.2⟩
  · split at h
    · exact ⟨⟨_, h.1⟩, bdat_top h.2⟩
    · split at h <;> exact ⟨⟨_, h.1⟩, bdat_top h.2⟩
theorem badd_state (n : Ln) (av iv gv tv : Value) {op : List Nat} (h : BdAt w0 B bb c op (manyT c.states) w) (g : GoodC c o) (hop : Opn c.states op o) (h9 : op.length ≤ 9) (h3 : 3 ≤ n.kind) (h7 : n.kind ≤ 7) : Calls Tryz.prog 39 #[.pointer (some ⟨bb, 0, none⟩), .agg (lnC n av iv gv tv)] w (AddIs w0 B bb (stepT c o n)) := by
  obtain ⟨pre, i, hpre, ho⟩ := opn_last hop
  have hhi := g.hi
  have hfew := g.few
  have S := Lib.hid (fun wx (hb : Below w.heap.size w wx) => bstate_any n av iv gv tv hpre (by have := congrArg List.length hpre; simp at this; omega) (show i < c.states.length by omega) (by omega) (bdat_keep h hb))
  have hfin := Lib.hid (fun e w' hr => sta_add (w0 := w0) (B := B) (bb := bb) (e := e) (w' := w') g hop h9 ho h3 h7 hr)
  have hlen : ((c.states.length : Int) == 0) = false := beq_eq_false_iff_ne.2 (by have := g.some; omega)
  have e1 : (n.kind == 1) = false := by simp; omega
  have e2 : (n.kind == 2) = false := by simp; omega
  have hks : n.kind = 3 ∨ n.kind = 4 ∨ n.kind = 5 ∨ n.kind = 6 ∨ n.kind = 7 := by omega
  have htop : B ≤ w.heap.size := by
    obtain ⟨_, _, _, _, h⟩ := h
    exact h.top
  obtain ⟨x, hx⟩ : ∃ x, stepT c o n = x := ⟨_, rfl⟩
  rw [hx] at hfin ⊢
  obtain ⟨rv, vv, sv, ov, h⟩ := h
  obtain ⟨c0, c1, c2, c3, c4, hbb, hfr⟩ := five h.blk
  obtain ⟨sa, sc, hsv⟩ := own_form h.sts
  rw [hsv] at c2
  have i1 : InW bb w := ⟨hbb⟩
  clear h hfr c0 c1 c3 c4 g hop h9 ho hpre hx
  unfold lnC
  rcases hks with hk | hk | hk | hk | hk
  · have e3 : (n.kind == 3) = true := by rw [hk]; rfl
    clear hk h3 h7
    go_enter Tryz.func39, Tryz.ntmps39
    go_wp2_with fail
    refine (S.out _ (by repeat' (first | (with_reducible exact Below.refl _ _) | (with_reducible assumption) | (with_reducible refine Below.alloc ?_ ?_ _) | (with_reducible refine Below.drew ?_) | (with_reducible refine belowN ?_ _) | (with_reducible refine Below.setCell ?_ ?_ _) | (with_reducible refine belowG ?_ ?_) | (with_reducible exact Nat.le_refl _) | (with_reducible refine le_sizeG ?_) | (with_reducible refine le_sizeA ?_) | (with_reducible refine le_sizeC ?_) | (with_reducible refine le_sizeD ?_) | (with_reducible refine le_sizeN ?_) | go_size | (simp [go_sem]; done)))).mono ?_
    intro e w1 hr
    obtain ⟨⟨v, rfl⟩, ht1⟩ := sta_ret hr
    have hq := Lib.hid (hfin.out _ _ hr)
    clear S hfin hr
    go_wp2
    go_returns
    exact addIs_keep hq.out (by repeat' (first | (with_reducible exact Below.refl _ _) | (with_reducible assumption) | (with_reducible refine Below.alloc ?_ ?_ _) | (with_reducible refine Below.drew ?_) | (with_reducible refine belowN ?_ _) | (with_reducible refine Below.setCell ?_ ?_ _) | (with_reducible refine belowG ?_ ?_) | (with_reducible exact Nat.le_refl _) | (with_reducible refine le_sizeG ?_) | (with_reducible refine le_sizeA ?_) | (with_reducible refine le_sizeC ?_) | (with_reducible refine le_sizeD ?_) | (with_reducible refine le_sizeN ?_) | go_size | (simp [go_sem]; done))) ht1
  · have e3 : (n.kind == 3) = false := by rw [hk]; rfl
    have e4 : (n.kind == 4) = true := by rw [hk]; rfl
    clear hk h3 h7
    go_enter Tryz.func39, Tryz.ntmps39
    go_wp2_with fail
    refine (S.out _ (by repeat' (first | (with_reducible exact Below.refl _ _) | (with_reducible assumption) | (with_reducible refine Below.alloc ?_ ?_ _) | (with_reducible refine Below.drew ?_) | (with_reducible refine belowN ?_ _) | (with_reducible refine Below.setCell ?_ ?_ _) | (with_reducible refine belowG ?_ ?_) | (with_reducible exact Nat.le_refl _) | (with_reducible refine le_sizeG ?_) | (with_reducible refine le_sizeA ?_) | (with_reducible refine le_sizeC ?_) | (with_reducible refine le_sizeD ?_) | (with_reducible refine le_sizeN ?_) | go_size | (simp [go_sem]; done)))).mono ?_
    intro e w1 hr
    obtain ⟨⟨v, rfl⟩, ht1⟩ := sta_ret hr
    have hq := Lib.hid (hfin.out _ _ hr)
    clear S hfin hr
    go_wp2
    go_returns
    exact addIs_keep hq.out (by repeat' (first | (with_reducible exact Below.refl _ _) | (with_reducible assumption) | (with_reducible refine Below.alloc ?_ ?_ _) | (with_reducible refine Below.drew ?_) | (with_reducible refine belowN ?_ _) | (with_reducible refine Below.setCell ?_ ?_ _) | (with_reducible refine belowG ?_ ?_) | (with_reducible exact Nat.le_refl _) | (with_reducible refine le_sizeG ?_) | (with_reducible refine le_sizeA ?_) | (with_reducible refine le_sizeC ?_) | (with_reducible refine le_sizeD ?_) | (with_reducible refine le_sizeN ?_) | go_size | (simp [go_sem]; done))) ht1
  · have e3 : (n.kind == 3) = false := by rw [hk]; rfl
    have e4 : (n.kind == 4) = false := by rw [hk]; rfl
    have e5 : (n.kind == 5) = true := by rw [hk]; rfl
    clear hk h3 h7
    go_enter Tryz.func39, Tryz.ntmps39
    go_wp2_with fail
    refine (S.out _ (by repeat' (first | (with_reducible exact Below.refl _ _) | (with_reducible assumption) | (with_reducible refine Below.alloc ?_ ?_ _) | (with_reducible refine Below.drew ?_) | (with_reducible refine belowN ?_ _) | (with_reducible refine Below.setCell ?_ ?_ _) | (with_reducible refine belowG ?_ ?_) | (with_reducible exact Nat.le_refl _) | (with_reducible refine le_sizeG ?_) | (with_reducible refine le_sizeA ?_) | (with_reducible refine le_sizeC ?_) | (with_reducible refine le_sizeD ?_) | (with_reducible refine le_sizeN ?_) | go_size | (simp [go_sem]; done)))).mono ?_
    intro e w1 hr
    obtain ⟨⟨v, rfl⟩, ht1⟩ := sta_ret hr
    have hq := Lib.hid (hfin.out _ _ hr)
    clear S hfin hr
    go_wp2
    go_returns
    exact addIs_keep hq.out (by repeat' (first | (with_reducible exact Below.refl _ _) | (with_reducible assumption) | (with_reducible refine Below.alloc ?_ ?_ _) | (with_reducible refine Below.drew ?_) | (with_reducible refine belowN ?_ _) | (with_reducible refine Below.setCell ?_ ?_ _) | (with_reducible refine belowG ?_ ?_) | (with_reducible exact Nat.le_refl _) | (with_reducible refine le_sizeG ?_) | (with_reducible refine le_sizeA ?_) | (with_reducible refine le_sizeC ?_) | (with_reducible refine le_sizeD ?_) | (with_reducible refine le_sizeN ?_) | go_size | (simp [go_sem]; done))) ht1
  · have e3 : (n.kind == 3) = false := by rw [hk]; rfl
    have e4 : (n.kind == 4) = false := by rw [hk]; rfl
    have e5 : (n.kind == 5) = false := by rw [hk]; rfl
    have e6 : (n.kind == 6) = true := by rw [hk]; rfl
    clear hk h3 h7
    go_enter Tryz.func39, Tryz.ntmps39
    go_wp2_with fail
    refine (S.out _ (by repeat' (first | (with_reducible exact Below.refl _ _) | (with_reducible assumption) | (with_reducible refine Below.alloc ?_ ?_ _) | (with_reducible refine Below.drew ?_) | (with_reducible refine belowN ?_ _) | (with_reducible refine Below.setCell ?_ ?_ _) | (with_reducible refine belowG ?_ ?_) | (with_reducible exact Nat.le_refl _) | (with_reducible refine le_sizeG ?_) | (with_reducible refine le_sizeA ?_) | (with_reducible refine le_sizeC ?_) | (with_reducible refine le_sizeD ?_) | (with_reducible refine le_sizeN ?_) | go_size | (simp [go_sem]; done)))).mono ?_
    intro e w1 hr
    obtain ⟨⟨v, rfl⟩, ht1⟩ := sta_ret hr
    have hq := Lib.hid (hfin.out _ _ hr)
    clear S hfin hr
    go_wp2
    go_returns
    exact addIs_keep hq.out (by repeat' (first | (with_reducible exact Below.refl _ _) | (with_reducible assumption) | (with_reducible refine Below.alloc ?_ ?_ _) | (with_reducible refine Below.drew ?_) | (with_reducible refine belowN ?_ _) | (with_reducible refine Below.setCell ?_ ?_ _) | (with_reducible refine belowG ?_ ?_) | (with_reducible exact Nat.le_refl _) | (with_reducible refine le_sizeG ?_) | (with_reducible refine le_sizeA ?_) | (with_reducible refine le_sizeC ?_) | (with_reducible refine le_sizeD ?_) | (with_reducible refine le_sizeN ?_) | go_size | (simp [go_sem]; done))) ht1
  · have e3 : (n.kind == 3) = false := by rw [hk]; rfl
    have e4 : (n.kind == 4) = false := by rw [hk]; rfl
    have e5 : (n.kind == 5) = false := by rw [hk]; rfl
    have e6 : (n.kind == 6) = false := by rw [hk]; rfl
    have e7 : (n.kind == 7) = true := by rw [hk]; rfl
    clear hk h3 h7
    go_enter Tryz.func39, Tryz.ntmps39
    go_wp2_with fail
    refine (S.out _ (by repeat' (first | (with_reducible exact Below.refl _ _) | (with_reducible assumption) | (with_reducible refine Below.alloc ?_ ?_ _) | (with_reducible refine Below.drew ?_) | (with_reducible refine belowN ?_ _) | (with_reducible refine Below.setCell ?_ ?_ _) | (with_reducible refine belowG ?_ ?_) | (with_reducible exact Nat.le_refl _) | (with_reducible refine le_sizeG ?_) | (with_reducible refine le_sizeA ?_) | (with_reducible refine le_sizeC ?_) | (with_reducible refine le_sizeD ?_) | (with_reducible refine le_sizeN ?_) | go_size | (simp [go_sem]; done)))).mono ?_
    intro e w1 hr
    obtain ⟨⟨v, rfl⟩, ht1⟩ := sta_ret hr
    have hq := Lib.hid (hfin.out _ _ hr)
    clear S hfin hr
    go_wp2
    go_returns
    exact addIs_keep hq.out (by repeat' (first | (with_reducible exact Below.refl _ _) | (with_reducible assumption) | (with_reducible refine Below.alloc ?_ ?_ _) | (with_reducible refine Below.drew ?_) | (with_reducible refine belowN ?_ _) | (with_reducible refine Below.setCell ?_ ?_ _) | (with_reducible refine belowG ?_ ?_) | (with_reducible exact Nat.le_refl _) | (with_reducible refine le_sizeG ?_) | (with_reducible refine le_sizeA ?_) | (with_reducible refine le_sizeC ?_) | (with_reducible refine le_sizeD ?_) | (with_reducible refine le_sizeN ?_) | go_size | (simp [go_sem]; done))) ht1
theorem fur_add {n : Ln} {op : List Nat} {i r : Nat} {e : Ending} {w' : World} (g : GoodC c o) (hop : Opn c.states op o) (h9 : op.length ≤ 9) (ho : o = (i : Int)) (h0 : o ≠ 0) (hr : r < 2) (hk : n.kind = 8 + (r : Int)) (h : FurIs w0 B bb c op (manyT c.states) i r n.acts e w') : AddIs w0 B bb (stepT c o n) e w' := by
  obtain ⟨x, hx⟩ : ∃ x, stepT c o n = x := ⟨_, rfl⟩
  rw [hx]
  have hgood : ∀ d p, x = .ok (d, p) → GoodC d p := fun d p he => good_step (.inr g) (hx.trans he)
  have hlo := g.lo
  have hhi := g.hi
  unfold stepT innerT at hx
  unfold FurIs at h
  rw [if_neg (by omega), if_neg (by omega), if_neg (by omega), if_pos (by omega), if_neg h0, show o.toNat = i by omega] at hx
  have hm := many_set c.states i (putL r (c.states.getD i st0) n.acts) (by omega)
  rw [(putL_same r (c.states.getD i st0) n.acts).2.2.2.2] at hm
  have hw : ∀ s, withT c o s = { c with states := c.states.set i s } := fun s => by
    unfold withT
    rw [show o.toNat = i by omega]
  have fin : ∀ d p, x = .ok (d, p) → d = { c with states := c.states.set i (putL r (c.states.getD i st0) n.acts) } → p = o → e = .returned (.int .i64 0) → BdAt w0 B bb { c with states := c.states.set i (putL r (c.states.getD i st0) n.acts) } op (manyT c.states) w' → AddIs w0 B bb x e w' := fun d p he hd hp h1 h2 => by
    have hg2 := hgood _ _ he
    subst he hd hp
    refine ⟨h1, op, ?_, .inr ⟨hg2, opn_set hop (by omega) (putL_same r (c.states.getD i st0) n.acts).2.2.1, h9⟩⟩
    rw [show manyT (c.states.set i (putL r (c.states.getD i st0) n.acts)) = manyT c.states by omega]
    exact h2
  rcases (by omega : r = 0 ∨ r = 1) with rfl | rfl
  · rw [if_pos (by omega)] at hx
    unfold lstOf at h
    simp only [if_true] at h
    by_cases h8 : (c.states.getD i st0).enter.length = 8
    · rw [if_pos h8] at hx h
      subst hx
      exact ⟨h.1, rfl, bdat_out h.2⟩
    · rw [if_neg h8] at hx h
      exact fin _ _ hx.symm (hw _) rfl h.1 h.2
  · rw [if_neg (by omega), if_pos (by omega)] at hx
    unfold lstOf at h
    rw [if_neg (show ¬ (1 : Nat) = 0 by decide)] at h
    by_cases h8 : (c.states.getD i st0).exit.length = 8
    · rw [if_pos h8] at hx h
      subst hx
      exact ⟨h.1, rfl, bdat_out h.2⟩
    · rw [if_neg h8] at hx h
      exact fin _ _ hx.symm (hw _) rfl h.1 h.2
theorem tran_add {n : Ln} {op : List Nat} {i : Nat} {e : Ending} {w' : World} (g : GoodC c o) (hop : Opn c.states op o) (h9 : op.length ≤ 9) (ho : o = (i : Int)) (h0 : o ≠ 0) (hk : 10 ≤ n.kind) (hk2 : n.kind ≠ 12) (h : TranIs w0 B bb c op (manyT c.states) i n e w') : AddIs w0 B bb (stepT c o n) e w' := by
  obtain ⟨x, hx⟩ : ∃ x, stepT c o n = x := ⟨_, rfl⟩
  rw [hx]
  have hgood : ∀ d p, x = .ok (d, p) → GoodC d p := fun d p he => good_step (.inr g) (hx.trans he)
  have hlo := g.lo
  have hhi := g.hi
  unfold stepT innerT at hx
  unfold TranIs at h
  simp only at hx
  rw [if_neg (by omega), if_neg (by omega), if_neg (by omega), if_pos (by omega), if_neg h0, if_neg (by omega), if_neg (by omega), if_neg hk2, show o.toNat = i by omega] at hx
  by_cases h96 : manyT c.states = 96
  · rw [if_pos h96] at hx h
    subst hx
    exact ⟨h.1, rfl, bdat_out h.2⟩
  · rw [if_neg h96] at hx h
    have hg2 := hgood _ _ hx.symm
    unfold withT at hx hg2
    rw [show o.toNat = i by omega] at hx hg2
    subst hx
    have key : ∀ s : St, s.trans.length = (c.states.getD i st0).trans.length + 1 → manyT (c.states.set i s) = manyT c.states + 1 := fun s hs => by
      have := many_set c.states i s (by omega)
      omega
    refine ⟨h.1, op, ?_, .inr ⟨hg2, opn_set hop (by omega) rfl, h9⟩⟩
    show BdAt w0 B bb _ op (manyT (c.states.set i _)) w'
    rw [key _ (by simp)]
    exact h.2
theorem end_add {n : Ln} {op pre : List Nat} {i : Nat} {e : Ending} {w' : World} (g : GoodC c o) (hop : Opn c.states op o) (h9 : op.length ≤ 9) (hpre : op = pre ++ [i]) (h0 : o ≠ 0) (hk : n.kind = 12) (h : e = .returned (.int .i64 0) ∧ BdAt w0 B bb c pre (manyT c.states) w') : AddIs w0 B bb (stepT c o n) e w' := by
  obtain ⟨x, hx⟩ : ∃ x, stepT c o n = x := ⟨_, rfl⟩
  rw [hx]
  have hgood : ∀ d p, x = .ok (d, p) → GoodC d p := fun d p he => good_step (.inr g) (hx.trans he)
  have hlo := g.lo
  unfold stepT innerT at hx
  simp only at hx
  rw [if_neg (by omega), if_neg (by omega), if_neg (by omega), if_pos (by omega), if_neg h0, if_neg (by omega), if_neg (by omega), if_pos hk] at hx
  have hg2 := hgood _ _ hx.symm
  subst hx
  have hq := opn_pop hop h0
  rw [hpre, List.length_append] at hq
  simp only [List.length_singleton, Nat.add_sub_cancel, List.take_left] at hq
  exact ⟨h.1, pre, h.2, .inr ⟨hg2, hq, by rw [hpre, List.length_append] at h9; omega⟩⟩
theorem tran_ret {n : Ln} {op : List Nat} {m i : Nat} {e : Ending} {w' : World} (h : TranIs w0 B bb c op m i n e w') : ∃ v, e = .returned (.int .i64 v) := by
  unfold TranIs at h
  split at h <;> exact ⟨_, h.1⟩
theorem manyT_at : ∀ (ss : List St) (i : Nat), (ss.getD i st0).trans.length ≤ manyT ss
  | [], i => by simp [st0]
  | s :: ss, 0 => by simp [manyT]
  | s :: ss, i + 1 => by
    have := manyT_at ss i
    unfold manyT at *
    simp at this ⊢
    omega
theorem addIs_top {x : Except Int (Ch × Int)} {e : Ending} {w1 : World} (h : AddIs w0 B bb x e w1) : B ≤ w1.heap.size := by
  cases x with
  | error y => exact h.2.2.2
  | ok p =>
    obtain ⟨_, op, ⟨_, _, _, _, h2⟩, _⟩ := h
    exact h2.top
theorem badd_inside (n : Ln) (av iv gv tv : Value) {op : List Nat} (h : BdAt w0 B bb c op (manyT c.states) w) (hn : LnV B w n av iv gv tv) (g : GoodC c o) (hop : Opn c.states op o) (h9 : op.length ≤ 9) (h8 : 8 ≤ n.kind) (h12 : n.kind ≤ 12) : Calls Tryz.prog 39 #[.pointer (some ⟨bb, 0, none⟩), .agg (lnC n av iv gv tv)] w (AddIs w0 B bb (stepT c o n)) := by
  obtain ⟨pre, i, hpre, ho⟩ := opn_last hop
  have hhi := g.hi
  have hfew := g.few
  have hone := (opn_one hop).2
  have hpl : pre.length ≤ 1000 := by
    have := congrArg List.length hpre
    simp at this
    omega
  have hlen : ((c.states.length : Int) == 0) = false := beq_eq_false_iff_ne.2 (by have := g.some; omega)
  have e1 : (n.kind == 1) = false := by simp; omega
  have e2 : (n.kind == 2) = false := by simp; omega
  have e3 : (n.kind == 3) = false := by simp; omega
  have e4 : (n.kind == 4) = false := by simp; omega
  have e5 : (n.kind == 5) = false := by simp; omega
  have e6 : (n.kind == 6) = false := by simp; omega
  have e7 : (n.kind == 7) = false := by simp; omega
  by_cases h0 : o = 0
  · have hl1 : ((op.length : Int) == 1) = true := by rw [beq_iff_eq]; have := hone.2 h0; omega
    have hst : stepT c o n = .error 30 := by
      unfold stepT innerT
      rw [if_neg (by omega), if_neg (by omega), if_neg (by omega), if_pos h8, if_pos h0]
    rw [hst]
    obtain ⟨rv, vv, sv, ov, h⟩ := h
    obtain ⟨c0, c1, c2, c3, c4, hbb, hfr⟩ := five h.blk
    obtain ⟨sa, sc, hsv⟩ := own_form h.sts
    obtain ⟨oa, oc, hov⟩ := own_form h.opn
    rw [hsv] at c2
    rw [hov] at c3
    have i1 : InW bb w := ⟨hbb⟩
    have hA := Lib.hid h
    clear h hn hfr c0 c1 c4 g hop h9 ho hpre hst h8 h12 hone h0
    unfold lnC
    go_enter Tryz.func39, Tryz.ntmps39
    go_wp2
    go_returns
    exact ⟨rfl, rfl, bd_out (bd_keep hA.out (by repeat' (first | (with_reducible exact Below.refl _ _) | (with_reducible assumption) | (with_reducible refine Below.alloc ?_ ?_ _) | (with_reducible refine Below.drew ?_) | (with_reducible refine belowN ?_ _) | (with_reducible refine Below.setCell ?_ ?_ _) | (with_reducible refine belowG ?_ ?_) | (with_reducible exact Nat.le_refl _) | (with_reducible refine le_sizeG ?_) | (with_reducible refine le_sizeA ?_) | (with_reducible refine le_sizeC ?_) | (with_reducible refine le_sizeD ?_) | (with_reducible refine le_sizeN ?_) | go_size | (simp [go_sem]; done))))⟩
  · have hl1 : ((op.length : Int) == 1) = false := beq_eq_false_iff_ne.2 (by have := fun e => h0 (hone.1 e); omega)
    obtain ⟨x, hx⟩ : ∃ x, stepT c o n = x := ⟨_, rfl⟩
    have key : ∀ wx, Below w.heap.size w wx → Calls Tryz.prog 75 #[.pointer (some ⟨bb, 0, none⟩), .agg (lnC n av iv gv tv)] wx (fun e w' => (∃ v, e = .returned (.int .i64 v)) ∧ AddIs w0 B bb x e w') := fun wx hb => by
      have hi : i < c.states.length := by omega
      have hlists := g.lists i hi
      have hall := manyT_at c.states i
      have htr := g.trans
      have hbx := bdat_keep h hb
      have hnx := lnV_keep hn hb
      rw [← hx]
      by_cases k8 : n.kind = 8
      · exact (binside_list (r := 0) n av iv gv tv (by decide) (by omega) hpre hpl hi hlists.1 hbx hnx).mono fun e w' hr => ⟨fur_ret hr, fur_add g hop h9 ho h0 (by decide) (by omega) hr⟩
      · by_cases k9 : n.kind = 9
        · exact (binside_list (r := 1) n av iv gv tv (by decide) (by omega) hpre hpl hi hlists.2 hbx hnx).mono fun e w' hr => ⟨fur_ret hr, fur_add g hop h9 ho h0 (by decide) (by omega) hr⟩
        · by_cases k12 : n.kind = 12
          · exact (binside_end n av iv gv tv k12 hpre hpl hi hbx).mono fun e w' hr => ⟨⟨_, hr.1⟩, end_add g hop h9 hpre h0 k12 hr⟩
          · exact (binside_trans n av iv gv tv k8 k9 k12 hpre hpl htr hi (by omega) hbx hnx).mono fun e w' hr => ⟨tran_ret hr, tran_add g hop h9 ho h0 (by omega) k12 hr⟩
    rw [hx]
    have hfin : ∀ e w1, AddIs w0 B bb x e w1 → B ≤ w1.heap.size := fun e w1 hr => addIs_top hr
    replace key := Lib.hid key
    replace hfin := Lib.hid hfin
    obtain ⟨rv, vv, sv, ov, h⟩ := h
    obtain ⟨c0, c1, c2, c3, c4, hbb, hfr⟩ := five h.blk
    obtain ⟨sa, sc, hsv⟩ := own_form h.sts
    obtain ⟨oa, oc, hov⟩ := own_form h.opn
    rw [hsv] at c2
    rw [hov] at c3
    have i1 : InW bb w := ⟨hbb⟩
    clear h hn hfr c0 c1 c4 g hop h9 ho hpre hx h8 h12 hone h0
    unfold lnC
    go_enter Tryz.func39, Tryz.ntmps39
    go_wp2_with fail
    refine (key.out _ (by repeat' (first | (with_reducible exact Below.refl _ _) | (with_reducible assumption) | (with_reducible refine Below.alloc ?_ ?_ _) | (with_reducible refine Below.drew ?_) | (with_reducible refine belowN ?_ _) | (with_reducible refine Below.setCell ?_ ?_ _) | (with_reducible refine belowG ?_ ?_) | (with_reducible exact Nat.le_refl _) | (with_reducible refine le_sizeG ?_) | (with_reducible refine le_sizeA ?_) | (with_reducible refine le_sizeC ?_) | (with_reducible refine le_sizeD ?_) | (with_reducible refine le_sizeN ?_) | go_size | (simp [go_sem]; done)))).mono ?_
    intro e w1 hr
    obtain ⟨⟨v, rfl⟩, hr⟩ := hr
    have ht1 := hfin.out _ _ hr
    replace hr := Lib.hid hr
    clear key hfin
    go_wp2
    go_returns
    exact addIs_keep hr.out (by repeat' (first | (with_reducible exact Below.refl _ _) | (with_reducible assumption) | (with_reducible refine Below.alloc ?_ ?_ _) | (with_reducible refine Below.drew ?_) | (with_reducible refine belowN ?_ _) | (with_reducible refine Below.setCell ?_ ?_ _) | (with_reducible refine belowG ?_ ?_) | (with_reducible exact Nat.le_refl _) | (with_reducible refine le_sizeG ?_) | (with_reducible refine le_sizeA ?_) | (with_reducible refine le_sizeC ?_) | (with_reducible refine le_sizeD ?_) | (with_reducible refine le_sizeN ?_) | go_size | (simp [go_sem]; done))) ht1
/-- A line is added. -/
theorem badd_any (n : Ln) (av iv gv tv : Value) (h : BSt w0 B bb c o w) (hn : LnV B w n av iv gv tv) (h1 : 1 ≤ n.kind) (h12 : n.kind ≤ 12) : Calls Tryz.prog 39 #[.pointer (some ⟨bb, 0, none⟩), .agg (lnC n av iv gv tv)] w (AddIs w0 B bb (stepT c o n)) := by
  obtain ⟨op, hb, ⟨rfl, rfl, rfl⟩ | ⟨g, hop, h9⟩⟩ := h
  · exact badd_none n av iv gv tv hb
  · by_cases k1 : n.kind = 1
    · exact badd_first n av iv gv tv hb g k1
    · by_cases k2 : n.kind = 2
      · exact badd_var n av iv gv tv hb g ⟨hop, h9⟩ k2
      · by_cases k8 : 8 ≤ n.kind
        · exact badd_inside n av iv gv tv hb hn g hop h9 k8 h12
        · exact badd_state n av iv gv tv hb g hop h9 (by omega) (by omega)
end
end Go.Proofs.YtekfnnfphhoeoaaGreatDoor
