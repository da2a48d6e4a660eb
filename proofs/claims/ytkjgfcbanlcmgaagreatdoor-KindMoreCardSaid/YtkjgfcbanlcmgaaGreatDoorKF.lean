/- Any expression, in any scope, has the document's kind. -/
import Derived.Test.YtkjgfcbanlcmgaaGreatDoorKE
import Derived.Test.YtkjgfcbanlcmgaaGreatDoorKR
import Derived.WalkKit
import Derived.ProofKit
import Derived.OpenShut
import Derived.Handy
import Derived.BigQuiet
import Derived.Deep.RegionHeld3
import Derived.Lib.Hide
import Derived.WalkSmall
import Derived.WalkLawsBesides
namespace Go.Proofs.YtkjgfcbanlcmgaaGreatDoor
open Go.RowKit
/-- Both ways told: what Of answers, and what the document does. -/
theorem both_ways {vs : List (ByteArray × Int)} {ss : List ByteArray} {ns : List Nd} (h : rightT ns = true) :
    (∃ (x : Int) (j : Nat), (x = 24 ∨ x = 20) ∧ ofK (linK (ownR vs ss) [] ns) ns.length = .tuple #[.int .i64 0, .int .i64 x] ∧ ofV (downK (ownR vs ss) ns ns.length (ns.length - 1)) = .tuple #[.int .i64 0, .int .i64 x, .int .i64 (j : Int)]) ∨
    ∃ K : Int, ofK (linK (ownR vs ss) [] ns) ns.length = .tuple #[.int .i64 K, .int .i64 0] ∧ ofV (downK (ownR vs ss) ns ns.length (ns.length - 1)) = .tuple #[.int .i64 K, .int .i64 0, .int .i64 0] := by
  have hd := down_lin (ownR_leaf vs ss) (ownR_one vs ss) h
  have h0 := (right_few h).1
  have herr := fun x j he => downK_err (vs := vs) (ss := ss) (right_ahead h) ns.length (ns.length - 1) (by omega) (by omega) x j he
  rw [hd] at herr ⊢
  rcases hl : linK (ownR vs ss) [] ns with ⟨x, j⟩ | ks
  · rw [hl] at herr
    exact .inl ⟨x, j, herr x j rfl, rfl, rfl⟩
  · exact .inr ⟨_, rfl, rfl⟩
set_option maxRecDepth 100000 in
set_option maxHeartbeats 4000000 in
theorem of_walk_ok (s : ByteArray) (k : Int) (va : Option Addr) (vc : Nat) (vs : List (ByteArray × Int)) (sa : Option Addr) (sc : Nat) (ss : List ByteArray) (ns : List Nd) (hr : readT s.data.toList = .ok ns) (h600 : s.size ≤ 600) (h100 : ss.length ≤ 100) (hks : kindsB vs = true) (hv100 : vs.length ≤ 100) (w : World)
    (hv : VarsAt w va vs) (hss : StrsAt w sa ss) (hl : Lb w) (he : Eg w) : Calls Tryz.prog 3 #[.string s, .agg #[.slice va vs.length vc, .slice sa ss.length sc], .int .i64 k] w (Ret (.bool true) w) := by
  obtain ⟨hright, hok, h32⟩ := read_right hr
  have hgl := eg_lt he
  have A := Lib.hid (fun wx (hb : Below w.heap.size w wx) => anchor4_any wx (lb_below hl hb) (eg_keep he hgl hb))
  have V := Lib.hid (fun wx (hb : Below w.heap.size w wx) => vars_any va vc vs (by unfold maxLen; omega) (by omega) wx (vars_below hv hb))
  have R := fun wx (hb : Below w.heap.size w wx) => read3_any s (by omega) wx (lb_below hl hb) (eg_keep he hgl hb)
  rw [hr] at R
  replace R := Lib.hid R
  have T := fun ao cap wx (hN : NdsAt wx ao ns) (hb : Below w.heap.size w wx) => xright_any ao cap ns (by omega) (fun n hn => ⟨Nat.le_trans (hok n hn).s (by omega), Nat.le_trans (hok n hn).name (by omega)⟩) wx hN (lb_below hl hb)
  rw [hright] at T
  have O := Lib.hid (fun ao cap wx (hN : NdsAt wx ao ns) (hb : Below w.heap.size w wx) => kof_any va vc vs sa sc ss ao cap ns hright (by omega) (by omega) wx hN (vars_below hv hb) (strs_below hss hb) (fun wy hy => T ao cap wy (nds_below hN hy) (hb.trans (hy.mono hb.size))))
  have D := Lib.hid (fun ao cap oa oc wx (hN : NdsAt wx ao ns) (hva : VarsAt wx oa vs) (hb : Below w.heap.size w wx) => rof_any ao cap ns oa oc vs sa sc ss (right_ahead hright) (by omega) (by omega) ns.length (ns.length - 1) (by have := (right_few hright).1; omega) (by have := (right_few hright).1; omega) wx hN hva (strs_below hss hb))
  have h0 := (right_few hright).1
  have F := Lib.hid (fun ao cap wx hN => refs4_any ao cap ns (by omega) wx hN)
  have hfin := Lib.hid (both_ways (vs := vs) (ss := ss) hright)
  have hsI : ¬ (600 : Int) < (s.size : Int) := by omega
  have hssI : ¬ (100 : Int) < (ss.length : Int) := by omega
  have hwr : IntKind.i64.wrap ((ns.length : Int) - 1) = (ns.length : Int) - 1 := by rw [IntKind.wrap_i64]; omega
  have hwr2 : wrap64 ((ns.length : Int) - 1) = (ns.length : Int) - 1 := by unfold wrap64; omega
  have hlast : ((ns.length - 1 : Nat) : Int) = (ns.length : Int) - 1 := by omega
  rw [hlast] at D
  clear hv hss hl he hgl T hright hok h100 hr hlast
  go_enter Tryz.func3, Tryz.ntmps3
  go_wp2_with ((with_reducible refine (A.out _ (by repeat' (first | (with_reducible exact Below.refl _ _) | (with_reducible assumption) | (with_reducible refine Below.alloc ?_ ?_ _) | (with_reducible refine Below.drew ?_) | (with_reducible refine belowN ?_ _) | (with_reducible refine Below.setCell ?_ ?_ _) | (with_reducible refine belowG ?_ ?_) | (with_reducible exact Nat.le_refl _) | (with_reducible refine le_sizeG ?_) | (with_reducible refine le_sizeA ?_) | (with_reducible refine le_sizeC ?_) | (with_reducible refine le_sizeD ?_) | (with_reducible refine le_sizeN ?_) | go_size | (simp [go_sem]; done)))).mono ?_); intro e w1 hr; obtain ⟨rfl, p, rfl⟩ := hr.out; clear hr)
  refine (V.out _ (by repeat' (first | (with_reducible exact Below.refl _ _) | (with_reducible assumption) | (with_reducible refine Below.alloc ?_ ?_ _) | (with_reducible refine Below.drew ?_) | (with_reducible refine belowN ?_ _) | (with_reducible refine Below.setCell ?_ ?_ _) | (with_reducible refine belowG ?_ ?_) | (with_reducible exact Nat.le_refl _) | (with_reducible refine le_sizeG ?_) | (with_reducible refine le_sizeA ?_) | (with_reducible refine le_sizeC ?_) | (with_reducible refine le_sizeD ?_) | (with_reducible refine le_sizeN ?_) | go_size | (simp [go_sem]; done)))).mono ?_
  intro e w1 hr
  unfold VarsIs at hr
  rw [if_pos ⟨hks, hv100⟩] at hr
  obtain ⟨oa, oc, rfl, hva, hb⟩ := hr
  have hbs := hb.size
  have b1 := (hb.cell (p := ⟨w.heap.size, 1, none⟩) (by simp [go_sem])).trans (show _ = some (Value.slice sa ss.length sc) by simp [go_sem])
  have b0 := (hb.cell (p := ⟨w.heap.size, 0, none⟩) (by simp [go_sem])).trans (show _ = some (Value.slice va vs.length vc) by simp [go_sem])
  have hw1 : Below w.heap.size w w1 := Below.trans (by repeat' (first | (with_reducible exact Below.refl _ _) | (with_reducible assumption) | (with_reducible refine Below.alloc ?_ ?_ _) | (with_reducible refine Below.drew ?_) | (with_reducible refine belowN ?_ _) | (with_reducible refine Below.setCell ?_ ?_ _) | (with_reducible refine belowG ?_ ?_) | (with_reducible exact Nat.le_refl _) | (with_reducible refine le_sizeG ?_) | (with_reducible refine le_sizeA ?_) | (with_reducible refine le_sizeC ?_) | (with_reducible refine le_sizeD ?_) | (with_reducible refine le_sizeN ?_) | go_size | (simp [go_sem]; done))) (hb.mono (by first | exact Nat.le_refl _ | repeat' (first | (with_reducible exact Below.refl _ _) | (with_reducible assumption) | (with_reducible refine Below.alloc ?_ ?_ _) | (with_reducible refine Below.drew ?_) | (with_reducible refine belowN ?_ _) | (with_reducible refine Below.setCell ?_ ?_ _) | (with_reducible refine belowG ?_ ?_) | (with_reducible exact Nat.le_refl _) | (with_reducible refine le_sizeG ?_) | (with_reducible refine le_sizeA ?_) | (with_reducible refine le_sizeC ?_) | (with_reducible refine le_sizeD ?_) | (with_reducible refine le_sizeN ?_) | go_size | (simp [go_sem]; done))))
  have i0 : InW w.heap.size w1 := ⟨Nat.lt_of_lt_of_le (by first | exact (inferInstance : InW w.heap.size _).lt | simp [go_sem]) hbs⟩
  have VA := Lib.hid (fun wx hx => vars_below (w' := wx) hva hx)
  clear V A hb hva hks
  go_wp2_with fail
  refine (R.out _ (by repeat' (first | (with_reducible exact Below.refl _ _) | (with_reducible assumption) | (with_reducible refine Below.alloc ?_ ?_ _) | (with_reducible refine Below.drew ?_) | (with_reducible refine belowN ?_ _) | (with_reducible refine Below.setCell ?_ ?_ _) | (with_reducible refine belowG ?_ ?_) | (with_reducible exact Nat.le_refl _) | (with_reducible refine le_sizeG ?_) | (with_reducible refine le_sizeA ?_) | (with_reducible refine le_sizeC ?_) | (with_reducible refine le_sizeD ?_) | (with_reducible refine le_sizeN ?_) | go_size | (simp [go_sem]; done)))).mono ?_
  intro e w2 hr
  obtain ⟨v, rfl, hown, hb2⟩ := hr
  obtain ⟨na, nc, hvn⟩ := own_form hown
  subst hvn
  have N := Lib.hid (fun wx hx => nds_below (w' := wx) (nds_own hown) hx)
  have d0 := (hb2.cell (p := ⟨w.heap.size, 0, none⟩) i0.lt).trans b0
  have d1 := (hb2.cell (p := ⟨w.heap.size, 1, none⟩) i0.lt).trans b1
  have hw2 := hw1.trans (hb2.mono hw1.size)
  have j0 : InW w.heap.size w2 := ⟨Nat.lt_of_lt_of_le i0.lt hb2.size⟩
  have O2 := Lib.hid (fun wx (hx : Below w2.heap.size w2 wx) => O.out na nc wx (N.out wx hx) (hw2.trans (hx.mono hw2.size)))
  have F2 := Lib.hid (fun wx (hx : Below w2.heap.size w2 wx) => F.out na nc wx (N.out wx hx))
  have D2 := Lib.hid (fun ao cap wx (hx : Below w2.heap.size w2 wx) hN => D.out ao cap oa oc wx hN (VA.out wx (hb2.trans (hx.mono hb2.size))) (hw2.trans (hx.mono hw2.size)))
  clear R N O F D VA hown b0 b1 i0
  rcases hfin.out with ⟨x, j, hx, e1, e2⟩ | ⟨K, e1, e2⟩
  · have I2 := fun wx (hy : Below w2.heap.size w2 wx) => kis_any va vc sa sc (.slice na ns.length nc) 0 x k wx vs.length ss.length (fun wy hz => e1 ▸ O2.out wy (hy.trans (hz.mono hy.size)))
    rw [e1] at O2
    rw [e2] at D2
    have hx0 : (x == 0) = false := by rw [beq_eq_false_iff_ne]; omega
    have hx1 : (x != 0) = true := by rw [bne, hx0]; rfl
    have hI : isI 0 x k = x := by unfold isI; rw [if_neg (by omega)]
    rw [hI] at I2
    replace I2 := Lib.hid I2
    have hxx : (x != x) = false := by rw [bne, beq_self_eq_true]; rfl
    have hxe : (x == x) = true := beq_self_eq_true x
    clear e1 e2 hfin hx hI
    go_wp2_with ((with_reducible refine (O2.out _ (by repeat' (first | (with_reducible exact Below.refl _ _) | (with_reducible assumption) | (with_reducible refine Below.alloc ?_ ?_ _) | (with_reducible refine Below.drew ?_) | (with_reducible refine belowN ?_ _) | (with_reducible refine Below.setCell ?_ ?_ _) | (with_reducible refine belowG ?_ ?_) | (with_reducible exact Nat.le_refl _) | (with_reducible refine le_sizeG ?_) | (with_reducible refine le_sizeA ?_) | (with_reducible refine le_sizeC ?_) | (with_reducible refine le_sizeD ?_) | (with_reducible refine le_sizeN ?_) | go_size | (simp [go_sem]; done)))).mono ?_); intro e w1 hr; obtain ⟨rfl, p, rfl⟩ := hr.out; clear hr)
    go_wp2_with fail
    go_region_held3 (fun w' => w'.cell? ⟨w.heap.size, 0, none⟩ = some (.slice va vs.length vc) ∧ w'.cell? ⟨w.heap.size, 1, none⟩ = some (.slice sa ss.length sc)) ((refine ⟨?_, ?_⟩ <;> first | assumption | (rw [cell_GI]; assumption) | (simp [go_sem, *]; done))) (first | ((with_reducible refine (F2.out _ (by repeat' (first | (with_reducible exact Below.refl _ _) | (with_reducible assumption) | (with_reducible refine Below.alloc ?_ ?_ _) | (with_reducible refine Below.drew ?_) | (with_reducible refine belowN ?_ _) | (with_reducible refine Below.setCell ?_ ?_ _) | (with_reducible refine belowG ?_ ?_) | (with_reducible exact Nat.le_refl _) | (with_reducible refine le_sizeG ?_) | (with_reducible refine le_sizeA ?_) | (with_reducible refine le_sizeC ?_) | (with_reducible refine le_sizeD ?_) | (with_reducible refine le_sizeN ?_) | go_size | (simp [go_sem]; done)))).mono ?_); intro e w3 hr; obtain ⟨co, cc, rfl, hco, hb3⟩ := hr; have hq := Below.trans (show Below w2.heap.size w2 _ by repeat' (first | (with_reducible exact Below.refl _ _) | (with_reducible assumption) | (with_reducible refine Below.alloc ?_ ?_ _) | (with_reducible refine Below.drew ?_) | (with_reducible refine belowN ?_ _) | (with_reducible refine Below.setCell ?_ ?_ _) | (with_reducible refine belowG ?_ ?_) | (with_reducible exact Nat.le_refl _) | (with_reducible refine le_sizeG ?_) | (with_reducible refine le_sizeA ?_) | (with_reducible refine le_sizeC ?_) | (with_reducible refine le_sizeD ?_) | (with_reducible refine le_sizeN ?_) | go_size | (simp [go_sem]; done))) (hb3.mono (by repeat' (first | (with_reducible exact Below.refl _ _) | (with_reducible assumption) | (with_reducible refine Below.alloc ?_ ?_ _) | (with_reducible refine Below.drew ?_) | (with_reducible refine belowN ?_ _) | (with_reducible refine Below.setCell ?_ ?_ _) | (with_reducible refine belowG ?_ ?_) | (with_reducible exact Nat.le_refl _) | (with_reducible refine le_sizeG ?_) | (with_reducible refine le_sizeA ?_) | (with_reducible refine le_sizeC ?_) | (with_reducible refine le_sizeD ?_) | (with_reducible refine le_sizeN ?_) | go_size | (simp [go_sem]; done)))); have k0 : InW w.heap.size w3 := ⟨Nat.lt_of_lt_of_le j0.lt hq.size⟩; have q0 := (hq.cell (p := ⟨w.heap.size, 0, none⟩) j0.lt).trans d0; have q1 := (hq.cell (p := ⟨w.heap.size, 1, none⟩) j0.lt).trans d1; clear hb3) | ((with_reducible refine (D2.out _ _ _ hq hco).mono ?_); intro e w4 hr; obtain ⟨rfl, p4, rfl⟩ := hr.out; clear hr; skip))
    have hq2 := hw2.trans (hq.mono hw2.size)
    have hqz := hq.size
    go_wp2_with ((with_reducible refine (I2.out _ (by repeat' (first | (with_reducible exact Below.refl _ _) | (with_reducible assumption) | (with_reducible refine Below.alloc ?_ ?_ _) | (with_reducible refine Below.drew ?_) | (with_reducible refine belowN ?_ _) | (with_reducible refine Below.setCell ?_ ?_ _) | (with_reducible refine belowG ?_ ?_) | (with_reducible exact Nat.le_refl _) | (with_reducible refine le_sizeG ?_) | (with_reducible refine le_sizeA ?_) | (with_reducible refine le_sizeC ?_) | (with_reducible refine le_sizeD ?_) | (with_reducible refine le_sizeN ?_) | go_size | (simp [go_sem]; done)))).mono ?_); intro e w1 hr; obtain ⟨rfl, p, rfl⟩ := hr.out; clear hr)
    go_returns
    exact ⟨rfl, by repeat' (first | (with_reducible exact Below.refl _ _) | (with_reducible assumption) | (with_reducible refine Below.alloc ?_ ?_ _) | (with_reducible refine Below.drew ?_) | (with_reducible refine belowN ?_ _) | (with_reducible refine Below.setCell ?_ ?_ _) | (with_reducible refine belowG ?_ ?_) | (with_reducible exact Nat.le_refl _) | (with_reducible refine le_sizeG ?_) | (with_reducible refine le_sizeA ?_) | (with_reducible refine le_sizeC ?_) | (with_reducible refine le_sizeD ?_) | (with_reducible refine le_sizeN ?_) | go_size | (simp [go_sem]; done))⟩
  · have I2 := fun wx (hy : Below w2.heap.size w2 wx) => kis_any va vc sa sc (.slice na ns.length nc) K 0 k wx vs.length ss.length (fun wy hz => e1 ▸ O2.out wy (hy.trans (hz.mono hy.size)))
    rw [e1] at O2
    rw [e2] at D2
    have hKK : (K != K) = false := by rw [bne, beq_self_eq_true]; rfl
    clear e1 e2 hfin
    by_cases hk : k = K
    · subst hk
      have hI : isI k 0 k = 0 := by unfold isI; rw [if_pos rfl, if_pos rfl]
      rw [hI] at I2
      replace I2 := Lib.hid I2
      have hke : (k == k) = true := beq_self_eq_true k
      clear hI
      go_wp2_with ((with_reducible refine (O2.out _ (by repeat' (first | (with_reducible exact Below.refl _ _) | (with_reducible assumption) | (with_reducible refine Below.alloc ?_ ?_ _) | (with_reducible refine Below.drew ?_) | (with_reducible refine belowN ?_ _) | (with_reducible refine Below.setCell ?_ ?_ _) | (with_reducible refine belowG ?_ ?_) | (with_reducible exact Nat.le_refl _) | (with_reducible refine le_sizeG ?_) | (with_reducible refine le_sizeA ?_) | (with_reducible refine le_sizeC ?_) | (with_reducible refine le_sizeD ?_) | (with_reducible refine le_sizeN ?_) | go_size | (simp [go_sem]; done)))).mono ?_); intro e w1 hr; obtain ⟨rfl, p, rfl⟩ := hr.out; clear hr)
      go_wp2_with fail
      go_region_held3 (fun w' => w'.cell? ⟨w.heap.size, 0, none⟩ = some (.slice va vs.length vc) ∧ w'.cell? ⟨w.heap.size, 1, none⟩ = some (.slice sa ss.length sc)) ((refine ⟨?_, ?_⟩ <;> first | assumption | (rw [cell_GI]; assumption) | (simp [go_sem, *]; done))) (first | ((with_reducible refine (F2.out _ (by repeat' (first | (with_reducible exact Below.refl _ _) | (with_reducible assumption) | (with_reducible refine Below.alloc ?_ ?_ _) | (with_reducible refine Below.drew ?_) | (with_reducible refine belowN ?_ _) | (with_reducible refine Below.setCell ?_ ?_ _) | (with_reducible refine belowG ?_ ?_) | (with_reducible exact Nat.le_refl _) | (with_reducible refine le_sizeG ?_) | (with_reducible refine le_sizeA ?_) | (with_reducible refine le_sizeC ?_) | (with_reducible refine le_sizeD ?_) | (with_reducible refine le_sizeN ?_) | go_size | (simp [go_sem]; done)))).mono ?_); intro e w3 hr; obtain ⟨co, cc, rfl, hco, hb3⟩ := hr; have hq := Below.trans (show Below w2.heap.size w2 _ by repeat' (first | (with_reducible exact Below.refl _ _) | (with_reducible assumption) | (with_reducible refine Below.alloc ?_ ?_ _) | (with_reducible refine Below.drew ?_) | (with_reducible refine belowN ?_ _) | (with_reducible refine Below.setCell ?_ ?_ _) | (with_reducible refine belowG ?_ ?_) | (with_reducible exact Nat.le_refl _) | (with_reducible refine le_sizeG ?_) | (with_reducible refine le_sizeA ?_) | (with_reducible refine le_sizeC ?_) | (with_reducible refine le_sizeD ?_) | (with_reducible refine le_sizeN ?_) | go_size | (simp [go_sem]; done))) (hb3.mono (by repeat' (first | (with_reducible exact Below.refl _ _) | (with_reducible assumption) | (with_reducible refine Below.alloc ?_ ?_ _) | (with_reducible refine Below.drew ?_) | (with_reducible refine belowN ?_ _) | (with_reducible refine Below.setCell ?_ ?_ _) | (with_reducible refine belowG ?_ ?_) | (with_reducible exact Nat.le_refl _) | (with_reducible refine le_sizeG ?_) | (with_reducible refine le_sizeA ?_) | (with_reducible refine le_sizeC ?_) | (with_reducible refine le_sizeD ?_) | (with_reducible refine le_sizeN ?_) | go_size | (simp [go_sem]; done)))); have k0 : InW w.heap.size w3 := ⟨Nat.lt_of_lt_of_le j0.lt hq.size⟩; have q0 := (hq.cell (p := ⟨w.heap.size, 0, none⟩) j0.lt).trans d0; have q1 := (hq.cell (p := ⟨w.heap.size, 1, none⟩) j0.lt).trans d1; clear hb3) | ((with_reducible refine (D2.out _ _ _ hq hco).mono ?_); intro e w4 hr; obtain ⟨rfl, p4, rfl⟩ := hr.out; clear hr; skip))
      have hq2 := hw2.trans (hq.mono hw2.size)
      have hqz := hq.size
      go_wp2_with ((with_reducible refine (I2.out _ (by repeat' (first | (with_reducible exact Below.refl _ _) | (with_reducible assumption) | (with_reducible refine Below.alloc ?_ ?_ _) | (with_reducible refine Below.drew ?_) | (with_reducible refine belowN ?_ _) | (with_reducible refine Below.setCell ?_ ?_ _) | (with_reducible refine belowG ?_ ?_) | (with_reducible exact Nat.le_refl _) | (with_reducible refine le_sizeG ?_) | (with_reducible refine le_sizeA ?_) | (with_reducible refine le_sizeC ?_) | (with_reducible refine le_sizeD ?_) | (with_reducible refine le_sizeN ?_) | go_size | (simp [go_sem]; done)))).mono ?_); intro e w1 hr; obtain ⟨rfl, p, rfl⟩ := hr.out; clear hr)
      go_returns
      exact ⟨rfl, by repeat' (first | (with_reducible exact Below.refl _ _) | (with_reducible assumption) | (with_reducible refine Below.alloc ?_ ?_ _) | (with_reducible refine Below.drew ?_) | (with_reducible refine belowN ?_ _) | (with_reducible refine Below.setCell ?_ ?_ _) | (with_reducible refine belowG ?_ ?_) | (with_reducible exact Nat.le_refl _) | (with_reducible refine le_sizeG ?_) | (with_reducible refine le_sizeA ?_) | (with_reducible refine le_sizeC ?_) | (with_reducible refine le_sizeD ?_) | (with_reducible refine le_sizeN ?_) | go_size | (simp [go_sem]; done))⟩
    · have hI : isI K 0 k = 20 := by unfold isI; rw [if_pos rfl, if_neg (fun h => hk h.symm)]
      rw [hI] at I2
      replace I2 := Lib.hid I2
      have hke : (k == K) = false := beq_eq_false_iff_ne.mpr hk
      clear hI hk
      go_wp2_with ((with_reducible refine (O2.out _ (by repeat' (first | (with_reducible exact Below.refl _ _) | (with_reducible assumption) | (with_reducible refine Below.alloc ?_ ?_ _) | (with_reducible refine Below.drew ?_) | (with_reducible refine belowN ?_ _) | (with_reducible refine Below.setCell ?_ ?_ _) | (with_reducible refine belowG ?_ ?_) | (with_reducible exact Nat.le_refl _) | (with_reducible refine le_sizeG ?_) | (with_reducible refine le_sizeA ?_) | (with_reducible refine le_sizeC ?_) | (with_reducible refine le_sizeD ?_) | (with_reducible refine le_sizeN ?_) | go_size | (simp [go_sem]; done)))).mono ?_); intro e w1 hr; obtain ⟨rfl, p, rfl⟩ := hr.out; clear hr)
      go_wp2_with fail
      go_region_held3 (fun w' => w'.cell? ⟨w.heap.size, 0, none⟩ = some (.slice va vs.length vc) ∧ w'.cell? ⟨w.heap.size, 1, none⟩ = some (.slice sa ss.length sc)) ((refine ⟨?_, ?_⟩ <;> first | assumption | (rw [cell_GI]; assumption) | (simp [go_sem, *]; done))) (first | ((with_reducible refine (F2.out _ (by repeat' (first | (with_reducible exact Below.refl _ _) | (with_reducible assumption) | (with_reducible refine Below.alloc ?_ ?_ _) | (with_reducible refine Below.drew ?_) | (with_reducible refine belowN ?_ _) | (with_reducible refine Below.setCell ?_ ?_ _) | (with_reducible refine belowG ?_ ?_) | (with_reducible exact Nat.le_refl _) | (with_reducible refine le_sizeG ?_) | (with_reducible refine le_sizeA ?_) | (with_reducible refine le_sizeC ?_) | (with_reducible refine le_sizeD ?_) | (with_reducible refine le_sizeN ?_) | go_size | (simp [go_sem]; done)))).mono ?_); intro e w3 hr; obtain ⟨co, cc, rfl, hco, hb3⟩ := hr; have hq := Below.trans (show Below w2.heap.size w2 _ by repeat' (first | (with_reducible exact Below.refl _ _) | (with_reducible assumption) | (with_reducible refine Below.alloc ?_ ?_ _) | (with_reducible refine Below.drew ?_) | (with_reducible refine belowN ?_ _) | (with_reducible refine Below.setCell ?_ ?_ _) | (with_reducible refine belowG ?_ ?_) | (with_reducible exact Nat.le_refl _) | (with_reducible refine le_sizeG ?_) | (with_reducible refine le_sizeA ?_) | (with_reducible refine le_sizeC ?_) | (with_reducible refine le_sizeD ?_) | (with_reducible refine le_sizeN ?_) | go_size | (simp [go_sem]; done))) (hb3.mono (by repeat' (first | (with_reducible exact Below.refl _ _) | (with_reducible assumption) | (with_reducible refine Below.alloc ?_ ?_ _) | (with_reducible refine Below.drew ?_) | (with_reducible refine belowN ?_ _) | (with_reducible refine Below.setCell ?_ ?_ _) | (with_reducible refine belowG ?_ ?_) | (with_reducible exact Nat.le_refl _) | (with_reducible refine le_sizeG ?_) | (with_reducible refine le_sizeA ?_) | (with_reducible refine le_sizeC ?_) | (with_reducible refine le_sizeD ?_) | (with_reducible refine le_sizeN ?_) | go_size | (simp [go_sem]; done)))); have k0 : InW w.heap.size w3 := ⟨Nat.lt_of_lt_of_le j0.lt hq.size⟩; have q0 := (hq.cell (p := ⟨w.heap.size, 0, none⟩) j0.lt).trans d0; have q1 := (hq.cell (p := ⟨w.heap.size, 1, none⟩) j0.lt).trans d1; clear hb3) | ((with_reducible refine (D2.out _ _ _ hq hco).mono ?_); intro e w4 hr; obtain ⟨rfl, p4, rfl⟩ := hr.out; clear hr; skip))
      have hq2 := hw2.trans (hq.mono hw2.size)
      have hqz := hq.size
      go_wp2_with ((with_reducible refine (I2.out _ (by repeat' (first | (with_reducible exact Below.refl _ _) | (with_reducible assumption) | (with_reducible refine Below.alloc ?_ ?_ _) | (with_reducible refine Below.drew ?_) | (with_reducible refine belowN ?_ _) | (with_reducible refine Below.setCell ?_ ?_ _) | (with_reducible refine belowG ?_ ?_) | (with_reducible exact Nat.le_refl _) | (with_reducible refine le_sizeG ?_) | (with_reducible refine le_sizeA ?_) | (with_reducible refine le_sizeC ?_) | (with_reducible refine le_sizeD ?_) | (with_reducible refine le_sizeN ?_) | go_size | (simp [go_sem]; done)))).mono ?_); intro e w1 hr; obtain ⟨rfl, p, rfl⟩ := hr.out; clear hr)
      go_returns
      exact ⟨rfl, by repeat' (first | (with_reducible exact Below.refl _ _) | (with_reducible assumption) | (with_reducible refine Below.alloc ?_ ?_ _) | (with_reducible refine Below.drew ?_) | (with_reducible refine belowN ?_ _) | (with_reducible refine Below.setCell ?_ ?_ _) | (with_reducible refine belowG ?_ ?_) | (with_reducible exact Nat.le_refl _) | (with_reducible refine le_sizeG ?_) | (with_reducible refine le_sizeA ?_) | (with_reducible refine le_sizeC ?_) | (with_reducible refine le_sizeD ?_) | (with_reducible refine le_sizeN ?_) | go_size | (simp [go_sem]; done))⟩
end Go.Proofs.YtkjgfcbanlcmgaaGreatDoor

