/- A reader makes nodes of what waits. -/
import Derived.Test.YtkjgfcbanlcmgaaGreatDoorX7
import Derived.WalkKit
import Derived.ProofKit
import Derived.OpenShut
import Derived.Handy
import Derived.BigQuiet
import Derived.BigRegion
import Derived.Lib.Hide
import Derived.WalkSmall
import Derived.WalkLawsBesides
namespace Go.Proofs.YtkjgfcbanlcmgaaGreatDoor
open Go.RowKit
theorem nats_drop (l : List Nat) (c f : Nat) (h : f + c = l.length) : (natsC l.reverse).take (f * 1) = natsC (l.drop c).reverse := by
  have e : l.reverse = (l.drop c).reverse ++ (l.take c).reverse := by rw [← List.reverse_append, List.take_append_drop]
  have hl : (natsC (l.drop c).reverse).length = f := by unfold natsC; simp; omega
  rw [e, Nat.mul_one]
  show (natsC ((l.drop c).reverse ++ (l.take c).reverse)).take f = _
  unfold natsC at *
  rw [List.map_append, List.take_left' hl]
theorem ints_tail (op : Int) (ws : List Int) : (intsC (op :: ws).reverse).take (ws.length * 1) = intsC ws.reverse := by
  unfold intsC
  rw [List.reverse_cons, List.map_append, List.take_left' (by simp)]
theorem rd_pop {B rb gp gw pc wc f c : Nat} {lv nv : Value} {r : Rd} {op : Int} {ws : List Int} {w : World} (hw : r.wait = op :: ws) (h : RdIs B rb lv r nv (.slice (some ⟨gp, 0, none⟩) r.parts.length pc) (.slice (some ⟨gw, 0, none⟩) r.wait.length wc) w) (hf : f + c = r.parts.length) :
    RdIs B rb lv { r with wait := ws, parts := r.parts.drop c } nv (.slice (some ⟨gp, 0, none⟩) f pc) (.slice (some ⟨gw, 0, none⟩) ws.length wc) ((w.setCell ⟨rb, 4, none⟩ (.slice (some ⟨gw, 0, none⟩) ws.length wc)).setCell ⟨rb, 3, none⟩ (.slice (some ⟨gp, 0, none⟩) f pc)) := by
  have hp := owns_take h.parts (k := f) (by omega)
  have hwt := owns_take h.wait (k := ws.length) (by rw [hw]; simp)
  rw [nats_drop _ c f hf] at hp
  rw [hw, ints_tail] at hwt
  have hb := h.blk
  have hd : f = (r.parts.drop c).length := by rw [List.length_drop]; omega
  have h1 := blk_set (i := 4) (u := .slice (some ⟨gw, 0, none⟩) ws.length wc) hb
  have a1 := ownsRow_setCell_other h.nodes (own_ne h.nodes hb (by decide)) (.slice (some ⟨gw, 0, none⟩) ws.length wc) (a := ⟨rb, 4, none⟩)
  have a2 := ownsRow_setCell_other hp (own_ne hp hb (by decide)) (.slice (some ⟨gw, 0, none⟩) ws.length wc) (a := ⟨rb, 4, none⟩)
  have a3 := ownsRow_setCell_other hwt (own_ne hwt hb (by decide)) (.slice (some ⟨gw, 0, none⟩) ws.length wc) (a := ⟨rb, 4, none⟩)
  refine ⟨blk_set h1, ownsRow_setCell_other a1 (own_ne a1 h1 (by decide)) _, ?_, ownsRow_setCell_other a3 (own_ne a3 h1 (by decide)) _, h.apart, h.base⟩
  have := ownsRow_setCell_other a2 (own_ne a2 h1 (by decide)) (.slice (some ⟨gp, 0, none⟩) f pc) (a := ⟨rb, 3, none⟩)
  show World.ownsRow _ _ _ _ _ (r.parts.drop c).length (natsC (r.parts.drop c).reverse)
  rw [← hd]
  exact this
theorem own_head {w : World} {B e s n : Nat} {v : Value} {xs : List Value} (h : w.ownsRow B e s v n xs) (hn : 0 < n) : ∃ g cap, v = .slice (some ⟨g, 0, none⟩) n cap ∧ g < w.heap.size ∧ n ≤ cap ∧ cap ≤ maxLen ∧ ∀ j u, xs[j]? = some u → w.cell? ⟨g, j, none⟩ = some u := by
  rcases h.2 with ⟨_, h0⟩ | ⟨g, cap, cur, hv, hb, hg, hcap, hmax, _⟩
  · omega
  · refine ⟨g, cap, hv, (Array.getElem?_eq_some_iff.1 hg).1, hcap, hmax, fun j u hu => ?_⟩
    have hc := h.cells (g := g) (by rw [hv]; rfl) j u hu
    have hadd : (⟨g, 0, none⟩ : Addr).add j = ⟨g, j, none⟩ := by unfold Addr.add; split <;> simp_all
    rw [hadd] at hc
    exact hc
/-- The last parts, as they lie. -/
theorem parts_lie {w : World} {g : Nat} {l : List Nat} {c f : Nat} (hf : f + c = l.length) (h : ∀ j u, (natsC l.reverse)[j]? = some u → w.cell? ⟨g, j, none⟩ = some u) (hg : g < w.heap.size) :
    Ints w (some ⟨g, f, none⟩) ((l.take c).reverse.map fun (p : Nat) => (p : Int)) := by
  intro i hi
  refine ⟨g, f, rfl, h _ _ ?_, hg⟩
  have e : l.reverse = (l.drop c).reverse ++ (l.take c).reverse := by rw [← List.reverse_append, List.take_append_drop]
  have hl : (l.drop c).reverse.length = f := by rw [List.length_reverse, List.length_drop]; omega
  simp only [List.length_map] at hi
  unfold natsC
  rw [e, List.getElem?_map, List.getElem?_append_right (by omega), hl, Nat.add_sub_cancel_left, List.getElem?_eq_getElem hi]
  simp
theorem good_few {k : Nat} {ts : List Tk} {r : Rd} (g : Good k ts r) (h : ts.length ≤ 120) : r.nodes.length ≤ 120 ∧ r.wait.length ≤ 120 ∧ r.parts.length ≤ 120 + k ∧ r.within ≤ 120 := by
  have h1 := g.sum
  have h2 := g.at_
  have h3 := g.par
  have h4 := g.wth
  have hb : ∀ l : List Int, bins l ≤ l.length ∧ opens l ≤ l.length := by
    intro l
    induction l with
    | nil => exact ⟨Nat.le_refl _, Nat.le_refl _⟩
    | cons o l ih =>
      rw [bins, opens, List.length_cons]
      constructor <;> split <;> omega
  have := hb r.wait
  omega
set_option maxRecDepth 100000 in
set_option maxHeartbeats 8000000 in
theorem rfinish_any {B rb : Nat} {lv : Value} {ts : List Tk} {r : Rd} (least : Int) (hl : 1 ≤ least) (_hl6 : least ≤ 1000) (hts : ts.length ≤ 120) (g : Good 1 ts r) (w : World) (h : RdAt B rb lv r w) (hsz : B ≤ w.heap.size) :
    Calls Tryz.prog 43 #[.pointer (some ⟨rb, 0, none⟩), .int .i64 least] w (DoneIs B rb lv (finish least r) w) := by
  have hA := Lib.hid h
  obtain ⟨nv, pv, wv, h⟩ := h
  obtain ⟨wa, wc, rfl⟩ := own_form h.wait
  obtain ⟨c0, c1, c2, c3, c4, c5, hrb, hfr⟩ := rd_cells h
  have i1 : InW rb w := ⟨hrb⟩
  have hbase := h.base
  have hws := (good_few g hts).2.1
  have gh := Lib.hid g
  clear h c0 c1 c2 c3 c5 hfr g
  go_enter Tryz.func43, Tryz.ntmps43
  go_wp2
  go_loopw [4] (fun v wr => ∃ r' : Rd, v = .int .i64 (r'.wait.length : Int) ∧ RdAt B rb lv r' wr ∧ Good 1 ts r' ∧ finL least r'.wait r' = finish least r ∧ Below B w wr) (fun v _ => (intOf v).toNat)
  case atStart => exact ⟨r, rfl, hA.out, gh.out, rfl, by repeat' (first | (with_reducible exact Below.refl _ _) | (with_reducible assumption) | (with_reducible refine Below.alloc ?_ ?_ _) | (with_reducible refine Below.drew ?_) | (with_reducible refine belowN ?_ _) | (with_reducible refine Below.setCell ?_ ?_ _) | (with_reducible refine belowG ?_ ?_) | (with_reducible exact Nat.le_refl _) | (with_reducible refine le_sizeG ?_) | (with_reducible refine le_sizeA ?_) | (with_reducible refine le_sizeC ?_) | (with_reducible refine le_sizeD ?_) | (with_reducible refine le_sizeN ?_) | go_size | (simp [go_sem]; done))⟩
  case round =>
    obtain ⟨q, rfl, hq, gq, hfin, hb⟩ := hrel
    rename World => wr
    clear c4 i1
    have hqA := Lib.hid hq
    obtain ⟨nv1, pv1, wv1, h1⟩ := hq
    obtain ⟨qn, qw, qp, qi⟩ := good_few gq hts
    have hszr : B ≤ wr.heap.size := Nat.le_trans hsz hb.size
    cases hw : q.wait with
    | nil =>
      have hres := Lib.hid (show q = finish least r from by rw [← hfin, hw]; obtain ⟨a, nodes, parts, wait, within⟩ := q; simp only at hw; subst hw; rfl)
      simp only [List.length_nil]
      clear h1 hfin gq gh hA
      go_wp2
      go_returns
      exact ⟨rfl, by rw [← hres.out]; exact hqA.out, by repeat' (first | (with_reducible exact Below.refl _ _) | (with_reducible assumption) | (with_reducible refine Below.alloc ?_ ?_ _) | (with_reducible refine Below.drew ?_) | (with_reducible refine belowN ?_ _) | (with_reducible refine Below.setCell ?_ ?_ _) | (with_reducible refine belowG ?_ ?_) | (with_reducible exact Nat.le_refl _) | (with_reducible refine le_sizeG ?_) | (with_reducible refine le_sizeA ?_) | (with_reducible refine le_sizeC ?_) | (with_reducible refine le_sizeD ?_) | (with_reducible refine le_sizeN ?_) | go_size | (simp [go_sem]; done))⟩
    | cons op ws =>
      obtain ⟨gw, wc1, e, hgw, hwcap, _, hwc⟩ := own_head h1.wait (by rw [hw]; simp)
      subst e
      obtain ⟨gp, pc, e, hgp, hpc, hpm, hpcells⟩ := own_head h1.parts (by rw [gq.par]; omega)
      subst e
      have wcell : wr.cell? ⟨gw, ws.length, none⟩ = some (.int .i64 op) := hwc _ _ (by rw [hw]; simp [intsC])
      obtain ⟨d0, d1, d2, d3, d4, d5, drb, dfr⟩ := rd_cells h1
      have e3 := dfr 3
      have e4 := dfr 4
      have T := fun wx => Lib.hid (tight_any op wx)
      have hn1 : q.wait.length = ws.length + 1 := by rw [hw]; rfl
      rw [hn1] at d4
      rw [List.length_cons]
      rw [hn1] at qw
      have hn1' := hn1
      have j1 : InW rb wr := ⟨drb⟩
      have j2 : InW gw wr := ⟨hgw⟩
      have j3 : InW gp wr := ⟨hgp⟩
      by_cases hlt : tightI op < least
      · have hres := Lib.hid (show q = finish least r from by rw [← hfin, hw, finL, if_pos hlt]; obtain ⟨a, nodes, parts, wait, within⟩ := q; simp only at hw; subst hw; rfl)
        generalize tightI op = tt at *
        replace T := Lib.hid T
        clear h1 hfin gq gh hA hwc hpcells dfr d0 d1 d2 d5 hw hn1
        generalize ws.length = m at *
        go_wp2_with (first | ((with_reducible refine ((T.out _).out).mono ?_); rintro e w1 ⟨rfl, rfl⟩))
        go_returns
        exact ⟨rfl, by rw [← hres.out]; exact hqA.out, by repeat' (first | (with_reducible exact Below.refl _ _) | (with_reducible assumption) | (with_reducible refine Below.alloc ?_ ?_ _) | (with_reducible refine Below.drew ?_) | (with_reducible refine belowN ?_ _) | (with_reducible refine Below.setCell ?_ ?_ _) | (with_reducible refine belowG ?_ ?_) | (with_reducible exact Nat.le_refl _) | (with_reducible refine le_sizeG ?_) | (with_reducible refine le_sizeA ?_) | (with_reducible refine le_sizeC ?_) | (with_reducible refine le_sizeD ?_) | (with_reducible refine le_sizeN ?_) | go_size | (simp [go_sem]; done))⟩
      · have hop : ¬ op = -1 := tight_open hl hlt
        have hpg := pop_good hw hop gq
        have g2 := hpg.1
        have hcl := hpg.2
        clear hpg
        have hnext := Lib.hid (show finL least (popOp op ws q).wait (popOp op ws q) = finish least r from by rw [← hfin, hw, finL, if_neg hlt]; rfl)
        obtain ⟨f, hf⟩ : ∃ f, f + cnt op = q.parts.length := ⟨q.parts.length - cnt op, by omega⟩
        have hc1 : 1 ≤ cnt op := by rw [cnt_of ((gq.ops op (by rw [hw]; simp)).resolve_left hop)]; omega
        have hc2 : cnt op ≤ 2 := by
          unfold cnt
          (repeat' split) <;> omega
        have C := fun wx => Lib.hid (count_any op wx)
        have hln : ((q.parts.take (cnt op)).reverse.map fun (p : Nat) => (p : Int)).length = cnt op := by simp; omega
        have O := fun wx (hk : Below wr.heap.size wr wx) => Lib.hid (operation_any op (some ⟨gp, f, none⟩) (pc - f) ((q.parts.take (cnt op)).reverse.map fun (p : Nat) => (p : Int)) (by rw [hln]; omega) wx (fun i hi => by
          obtain ⟨g', o', e', hc', hg'⟩ := parts_lie hf hpcells hgp i hi
          exact ⟨g', o', e', (hk.cell (p := ⟨g', _, none⟩) hg').trans hc', Nat.lt_of_lt_of_le hg' hk.size⟩))
        rw [hln, ← opn_I] at O
        have D := fun wx (hk : Below wr.heap.size wr wx) => rd_cells (rd_keep h1 hk)
        rw [hn1] at D
        replace D := Lib.hid D
        have P := fun wx (hk : Below wr.heap.size wr wx) => Lib.hid (rd_pop (w := wx) hw (rd_keep h1 hk) hf)
        have Ad := fun wx hk => Lib.hid (radd_any (B := B) (rb := rb) (lv := lv) (r := { q with wait := ws, parts := q.parts.drop (cnt op) }) (opn op (q.parts.take (cnt op)).reverse) (by show q.nodes.length ≤ 1000; omega) (by show (q.parts.drop (cnt op)).length ≤ 1000; rw [List.length_drop]; omega) wx hk)
        have hrel2 := Lib.hid (show popOp op ws q = Rd.add { q with wait := ws, parts := q.parts.drop (cnt op) } (opn op (q.parts.take (cnt op)).reverse) from rfl)
        have g3 := Lib.hid g2
        unfold ndV at O Ad
        generalize tightI op = tt at *
        replace T := Lib.hid T
        replace O := Lib.hid O
        replace P := Lib.hid P
        replace Ad := Lib.hid Ad
        replace C := Lib.hid C
        clear h1 hfin gq gh hA hwc hpcells dfr d0 d1 d2 d5 hw hn1 hln g2 hqA
        generalize opn op (q.parts.take (cnt op)).reverse = nd at *
        generalize cnt op = c at *
        generalize q.parts.length = L at *
        subst hf
        have hmm := Lib.hid (rfl : ws.length = ws.length)
        go_wp2_with (first | ((with_reducible refine ((T.out _).out).mono ?_); rintro e w1 ⟨rfl, rfl⟩))
        (refine wp_region_G (by kernel_rfl) (by kernel_rfl) ?_; (repeat (go_big_quiet_step (exact quietGW ((C.out _).out)))); refine wpQuiet_nil ?_; intro _ hw'; obtain ⟨pg, hw''⟩ := hw'; subst hw'')
        go_wp2_with ((with_reducible refine ((O.out _ (by repeat' (first | (with_reducible exact Below.refl _ _) | (with_reducible assumption) | (with_reducible refine Below.alloc ?_ ?_ _) | (with_reducible refine Below.drew ?_) | (with_reducible refine belowN ?_ _) | (with_reducible refine Below.setCell ?_ ?_ _) | (with_reducible refine belowG ?_ ?_) | (with_reducible exact Nat.le_refl _) | (with_reducible refine le_sizeG ?_) | (with_reducible refine le_sizeA ?_) | (with_reducible refine le_sizeC ?_) | (with_reducible refine le_sizeD ?_) | (with_reducible refine le_sizeN ?_) | go_size | (simp [go_sem]; done)))).out).mono ?_); intro e w1 hr; obtain ⟨rfl, p, rfl⟩ := hr.out; clear hr)
        go_wp2_with fail
        generalize hW : (G (pq p pg) wr).alloc _ = W
        generalize hnb : (G (pq p pg) wr).heap.size = nb
        have hbW : Below wr.heap.size wr W := by rw [← hW]; repeat' (first | (with_reducible exact Below.refl _ _) | (with_reducible assumption) | (with_reducible refine Below.alloc ?_ ?_ _) | (with_reducible refine Below.drew ?_) | (with_reducible refine belowN ?_ _) | (with_reducible refine Below.setCell ?_ ?_ _) | (with_reducible refine belowG ?_ ?_) | (with_reducible exact Nat.le_refl _) | (with_reducible refine le_sizeG ?_) | (with_reducible refine le_sizeA ?_) | (with_reducible refine le_sizeC ?_) | (with_reducible refine le_sizeD ?_) | (with_reducible refine le_sizeN ?_) | go_size | (simp [go_sem]; done))
        have hnW : W.heap[nb]? = some (.cells #[.int .i64 nd.op, .int .i64 nd.k, .int .i64 nd.n, .string ⟨nd.s.toArray⟩, .string ⟨nd.name.toArray⟩, .int .i64 nd.l, .int .i64 nd.r] 57 (0, 0)) := by rw [← hW, ← hnb]; exact new_block _ _
        have hnr : ¬ rb = nb := by have := (belowG0 (pq p pg) wr).size; omega
        clear hW hnb d3 d4 e3 e4 j1 j2 j3 wcell
        obtain ⟨_, _, _, d3, d4, _, drb2, dfr⟩ := D.out W hbW
        have e3 := dfr 3
        have e4 := dfr 4
        have j1 : InW rb W := ⟨drb2⟩
        clear dfr
        have m1 : IntKind.i64.wrap (ws.length : Int) = (ws.length : Int) := by rw [IntKind.wrap_i64]; omega
        have m2 : (ws.length : Int) ≤ (wc1 : Int) := by rw [hn1'] at hwcap; omega
        have m3 : IntKind.i64.wrap (f : Int) = (f : Int) := by rw [IntKind.wrap_i64]; omega
        have m4 : (f : Int) ≤ (pc : Int) := by omega
        go_region
        have hP := P.out W hbW
        have hnz : ((W.setCell ⟨rb, 4, none⟩ (.slice (some ⟨gw, 0, none⟩) ws.length wc1)).setCell ⟨rb, 3, none⟩ (.slice (some ⟨gp, 0, none⟩) f pc)).heap[nb]? = _ := (Below.heap_setCell _ _ _ _ (fun e => hnr e.symm)).trans ((Below.heap_setCell _ _ _ _ (fun e => hnr e.symm)).trans hnW)
        have hbz : Below B w ((W.setCell ⟨rb, 4, none⟩ (.slice (some ⟨gw, 0, none⟩) ws.length wc1)).setCell ⟨rb, 3, none⟩ (.slice (some ⟨gp, 0, none⟩) f pc)) := Below.setCell (Below.setCell (hb.trans (hbW.mono hszr)) hbase _) hbase _
        clear d3 d4 e3 e4 j1 hnW P D O C T m1 m2 m3 m4
        generalize (W.setCell ⟨rb, 4, none⟩ (.slice (some ⟨gw, 0, none⟩) ws.length wc1)).setCell ⟨rb, 3, none⟩ (.slice (some ⟨gp, 0, none⟩) f pc) = wz at *
        have n0 := cell_of_row wz nb 0 _ _ _ hnz
        have n1 := cell_of_row wz nb 1 _ _ _ hnz
        have n2 := cell_of_row wz nb 2 _ _ _ hnz
        have n3 := cell_of_row wz nb 3 _ _ _ hnz
        have n4 := cell_of_row wz nb 4 _ _ _ hnz
        have n5 := cell_of_row wz nb 5 _ _ _ hnz
        have n6 := cell_of_row wz nb 6 _ _ _ hnz
        simp only [List.getElem?_toArray, List.getElem?_cons_zero, List.getElem?_cons_succ] at n0 n1 n2 n3 n4 n5 n6
        go_wp2_with fail
        refine ((Ad.out _ (rdat_keep ⟨_, _, _, hP.out⟩ (by repeat' (first | (with_reducible exact Below.refl _ _) | (with_reducible assumption) | (with_reducible refine Below.alloc ?_ ?_ _) | (with_reducible refine Below.drew ?_) | (with_reducible refine belowN ?_ _) | (with_reducible refine Below.setCell ?_ ?_ _) | (with_reducible refine belowG ?_ ?_) | (with_reducible exact Nat.le_refl _) | (with_reducible refine le_sizeG ?_) | (with_reducible refine le_sizeA ?_) | (with_reducible refine le_sizeC ?_) | (with_reducible refine le_sizeD ?_) | (with_reducible refine le_sizeN ?_) | go_size | (simp [go_sem]; done))))).out).mono ?_
        intro e w9 hr
        obtain ⟨rfl, h9, hb9⟩ := hr
        rw [← hrel2.out] at h9
        have hb10 : Below B w w9 := Below.trans (by repeat' (first | (with_reducible exact Below.refl _ _) | (with_reducible assumption) | (with_reducible refine Below.alloc ?_ ?_ _) | (with_reducible refine Below.drew ?_) | (with_reducible refine belowN ?_ _) | (with_reducible refine Below.setCell ?_ ?_ _) | (with_reducible refine belowG ?_ ?_) | (with_reducible exact Nat.le_refl _) | (with_reducible refine le_sizeG ?_) | (with_reducible refine le_sizeA ?_) | (with_reducible refine le_sizeC ?_) | (with_reducible refine le_sizeD ?_) | (with_reducible refine le_sizeN ?_) | go_size | (simp [go_sem]; done))) hb9
        clear n0 n1 n2 n3 n4 n5 n6 hnz hP Ad
        have hlen := Lib.hid (show (popOp op ws q).wait.length = ws.length from rfl)
        go_wp2
        go_roundw
        case rel => exact ⟨popOp op ws q, by rw [hlen.out], h9, g3.out, hnext.out, hb10⟩
        case measure => simp [intOf]
end Go.Proofs.YtkjgfcbanlcmgaaGreatDoor

