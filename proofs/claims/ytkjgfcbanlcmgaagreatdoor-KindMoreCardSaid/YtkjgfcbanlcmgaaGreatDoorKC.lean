/- kind.Of, kind.Is. -/
import Derived.Test.YtkjgfcbanlcmgaaGreatDoorKB
import Derived.WalkKit
import Derived.ProofKit
import Derived.OpenShut
import Derived.Handy
import Derived.BigQuiet
import Derived.OwnWalk
import Derived.Laws.MakeOwn
import Derived.Laws.OwnMore
import Derived.Lib.Hide
import Derived.WalkSmall
import Derived.WalkLawsBesides
namespace Go.Proofs.YtkjgfcbanlcmgaaGreatDoor
open Go.RowKit
/-- So many numbers 0. -/
def zeroRow (n : Nat) : Array Value := madeCells #[.int .i64 0] n
theorem ks_new (w : World) (n : Nat) : KsAt (w.alloc (.cells (zeroRow n) 3)) w.heap.size n [] := by
  refine ⟨_, new_block _ _, size_madeCells _ _, fun j h => absurd h (Nat.not_lt_zero _), fun j hj => ⟨0, ?_⟩⟩
  unfold zeroRow
  rw [← Array.getElem?_toList, toList_madeCells_one, List.getElem?_replicate, if_pos hj]
theorem make_ints (n : Nat) (hn : n ≤ 32) (wx : World) : (Instr.makeSlice 53 (.int .i64 (n : Int)) (.int .i64 (n : Int))).run Tryz.prog wx = .ok (.slice (some ⟨wx.heap.size, 0, none⟩) n n) (wx.alloc (.cells (zeroRow n) 3)) := by
  obtain ⟨i0, hi, hz1, hz2, hz3⟩ := info_parts Tryz.infoInt
  have := run_make (P := Tryz.prog) wx 53 3 i0 (.int .i64 0) Tryz.underlying53 hi hz1 .i64 .i64 (n : Int) (n : Int) (by omega) (Int.le_refl _) (by rw [hz3]; omega) (by omega)
  rw [this, hz2]
  simp [zeroRow, Value.cells]
section
variable (va : Option Addr) (vc : Nat) (vs : List (ByteArray × Int)) (sa : Option Addr) (sc : Nat) (ss : List ByteArray)
/-- Nodes that may be no expression have no kind. -/
theorem kof_no (ao : Option Addr) (cap : Nat) (ns : List Nd) (w : World) (vn sn : Nat) (R : ∀ wx, Below w.heap.size w wx → Calls Tryz.prog 13 #[.slice ao ns.length cap] wx (Ret (.bool false) wx)) :
    Calls Tryz.prog 9 #[.slice ao ns.length cap, .agg #[.slice va vn vc, .slice sa sn sc]] w (Ret (.tuple #[.int .i64 0, .int .i64 11]) w) := by
  replace R := Lib.hid R
  go_enter Tryz.func9, Tryz.ntmps9
  go_wp2_with ((with_reducible refine (R.out _ (by repeat' (first | (with_reducible exact Below.refl _ _) | (with_reducible assumption) | (with_reducible refine Below.alloc ?_ ?_ _) | (with_reducible refine Below.drew ?_) | (with_reducible refine belowN ?_ _) | (with_reducible refine Below.setCell ?_ ?_ _) | (with_reducible refine belowG ?_ ?_) | (with_reducible exact Nat.le_refl _) | (with_reducible refine le_sizeG ?_) | (with_reducible refine le_sizeA ?_) | (with_reducible refine le_sizeC ?_) | (with_reducible refine le_sizeD ?_) | (with_reducible refine le_sizeN ?_) | go_size | (simp [go_sem]; done)))).mono ?_); intro e w1 hr; obtain ⟨rfl, p, rfl⟩ := hr.out; clear hr)
  go_returns
  exact ⟨rfl, by repeat' (first | (with_reducible exact Below.refl _ _) | (with_reducible assumption) | (with_reducible refine Below.alloc ?_ ?_ _) | (with_reducible refine Below.drew ?_) | (with_reducible refine belowN ?_ _) | (with_reducible refine Below.setCell ?_ ?_ _) | (with_reducible refine belowG ?_ ?_) | (with_reducible exact Nat.le_refl _) | (with_reducible refine le_sizeG ?_) | (with_reducible refine le_sizeA ?_) | (with_reducible refine le_sizeC ?_) | (with_reducible refine le_sizeD ?_) | (with_reducible refine le_sizeN ?_) | go_size | (simp [go_sem]; done))⟩
set_option maxRecDepth 100000 in
set_option maxHeartbeats 4000000 in
theorem kof_any (ao : Option Addr) (cap : Nat) (ns : List Nd) (hr : rightT ns = true) (hvn : vs.length ≤ 1000000) (hsn : ss.length ≤ 1000) (w : World) (h : NdsAt w ao ns) (hv : VarsAt w va vs) (hs : StrsAt w sa ss)
    (R : ∀ wx, Below w.heap.size w wx → Calls Tryz.prog 13 #[.slice ao ns.length cap] wx (Ret (.bool true) wx)) :
    Calls Tryz.prog 9 #[.slice ao ns.length cap, .agg #[.slice va vs.length vc, .slice sa ss.length sc]] w (Ret (ofK (linK (ownR vs ss) [] ns) ns.length) w) := by
  obtain ⟨h0, h32⟩ := right_few hr
  have hah := Lib.hid (right_ahead hr)
  have hrz := Lib.hid (right_zero hr)
  have hmk := fun wx => make_ints ns.length h32 wx
  replace R := Lib.hid R
  have H := Lib.hid (fun wx hb => nds_below (w' := wx) h hb)
  have NL := Lib.hid (fun kv n a b hc wx (hb : Below w.heap.size w wx) => knode_leaf va vc vs sa sc ss kv n a b hc hvn hsn wx (vars_below hv hb) (strs_below hs hb))
  have NO := Lib.hid (fun n a b x y kb h1 h2 hl hr ha hb wx ca cb => knode_op va vc vs sa sc ss n a b ns.length x y kb h1 h2 hl hr ha hb wx ca cb)
  clear h hv hs hr
  go_enter Tryz.func9, Tryz.ntmps9
  go_wp2_with fail
  refine (R.out _ (by repeat' (first | (with_reducible exact Below.refl _ _) | (with_reducible assumption) | (with_reducible refine Below.alloc ?_ ?_ _) | (with_reducible refine Below.drew ?_) | (with_reducible refine belowN ?_ _) | (with_reducible refine Below.setCell ?_ ?_ _) | (with_reducible refine belowG ?_ ?_) | (with_reducible exact Nat.le_refl _) | (with_reducible refine le_sizeG ?_) | (with_reducible refine le_sizeA ?_) | (with_reducible refine le_sizeC ?_) | (with_reducible refine le_sizeD ?_) | (with_reducible refine le_sizeN ?_) | go_size | (simp [go_sem]; done)))).mono ?_
  intro e w1 hr
  obtain ⟨rfl, hb1⟩ := hr
  have hz1 := hb1.size
  rw [World.size_alloc] at hz1
  have b0 := (hb1.cell (p := ⟨w.heap.size, 0, none⟩) (by simp)).trans (show _ = some (Value.slice va vs.length vc) by simp [go_sem])
  have b1 := (hb1.cell (p := ⟨w.heap.size, 1, none⟩) (by simp)).trans (show _ = some (Value.slice sa ss.length sc) by simp [go_sem])
  have hbw : Below w.heap.size w w1 := Below.trans (by repeat' (first | (with_reducible exact Below.refl _ _) | (with_reducible assumption) | (with_reducible refine Below.alloc ?_ ?_ _) | (with_reducible refine Below.drew ?_) | (with_reducible refine belowN ?_ _) | (with_reducible refine Below.setCell ?_ ?_ _) | (with_reducible refine belowG ?_ ?_) | (with_reducible exact Nat.le_refl _) | (with_reducible refine le_sizeG ?_) | (with_reducible refine le_sizeA ?_) | (with_reducible refine le_sizeC ?_) | (with_reducible refine le_sizeD ?_) | (with_reducible refine le_sizeN ?_) | go_size | (simp [go_sem]; done))) (hb1.mono (by simp))
  have hK0 := Lib.hid (ks_new w1 ns.length)
  obtain ⟨zr, hzr⟩ : ∃ zr, zeroRow ns.length = zr := ⟨_, rfl⟩
  rw [hzr] at hmk hK0
  clear hb1 R hzr
  go_wp2
  go_loopw [19] (fun v wr => ∃ ks : List Int, v = .int .i64 (ks.length : Int) ∧ ks.length ≤ ns.length ∧ KsAt wr w1.heap.size ns.length ks ∧ linK (ownR vs ss) [] ns = linK (ownR vs ss) ks (ns.drop ks.length) ∧ Below w1.heap.size w1 wr) (fun v _ => ns.length - (intOf v).toNat)
  case atStart => exact ⟨[], rfl, Nat.zero_le _, hK0.out, rfl, by repeat' (first | (with_reducible exact Below.refl _ _) | (with_reducible assumption) | (with_reducible refine Below.alloc ?_ ?_ _) | (with_reducible refine Below.drew ?_) | (with_reducible refine belowN ?_ _) | (with_reducible refine Below.setCell ?_ ?_ _) | (with_reducible refine belowG ?_ ?_) | (with_reducible exact Nat.le_refl _) | (with_reducible refine le_sizeG ?_) | (with_reducible refine le_sizeA ?_) | (with_reducible refine le_sizeC ?_) | (with_reducible refine le_sizeD ?_) | (with_reducible refine le_sizeN ?_) | go_size | (simp [go_sem]; done))⟩
  case round =>
    obtain ⟨ks, rfl, hle, hK, hR, hb⟩ := hrel
    rename World => wr
    have hwz := hb.size
    clear hK0 hmk
    have hbr : Below w.heap.size w wr := hbw.trans (hb.mono (by omega))
    have d0 := (hb.cell (p := ⟨w.heap.size, 0, none⟩) (by show w.heap.size < _; omega)).trans b0
    have d1 := (hb.cell (p := ⟨w.heap.size, 1, none⟩) (by show w.heap.size < _; omega)).trans b1
    obtain ⟨k1, k2, k3, k4⟩ := ks_cell hK
    have i0 : InW w.heap.size wr := ⟨by omega⟩
    have i1 : InW w1.heap.size wr := ⟨k1⟩
    by_cases hlt : ks.length < ns.length
    · obtain ⟨g, o, rfl, hg, hc⟩ := H.out wr hbr (by omega)
      obtain ⟨n1, n2, n3, n4, n5, n6, n7⟩ := hc ks.length hlt
      have i2 : InW g wr := ⟨hg⟩
      have hI : (ks.length : Int) < (ns.length : Int) := by omega
      rw [List.drop_eq_getElem_cons hlt] at hR
      have ha := hah.out ks.length hlt
      have hz := hrz.out ks.length hlt
      generalize ns[ks.length] = n at *
      have NN : ∀ wx, Below wr.heap.size wr wx → Calls Tryz.prog 16 #[.agg #[.slice va vs.length vc, .slice sa ss.length sc], ndV n, .slice (some ⟨w1.heap.size, 0, none⟩) ns.length ns.length] wx (Ret (nodeV (ownR vs ss n (ks.getD n.l.toNat 0) (ks.getD n.r.toNat 0))) wx) := by
        intro wx hx
        have hcell : ∀ j, j < ks.length → wx.cell? ⟨w1.heap.size, j, none⟩ = some (.int .i64 (ks.getD j 0)) := fun j hj => (hx.cell (p := ⟨w1.heap.size, j, none⟩) k1).trans (k2 j hj)
        rcases ha.range with hc | hc | hc
        · exact NL.out _ n _ _ (.inl hc) wx (hbr.trans (hx.mono hbr.size))
        · obtain ⟨a, el, hal⟩ := ha.l hc.1 hc.2
          have hrr : ∃ b : Nat, n.r = (b : Int) ∧ b < ks.length := by
            by_cases h3 : 3 ≤ n.op
            · exact ha.r h3 hc.2
            · exact ⟨0, by rw [hz (by omega)]; rfl, by omega⟩
          obtain ⟨b, er, hbl⟩ := hrr
          rw [el, er, Int.toNat_natCast, Int.toNat_natCast]
          exact NO.out n a b _ _ w1.heap.size hc.1 hc.2 el er (by omega) (by omega) wx (hcell a hal) (hcell b hbl)
        · exact NL.out _ n _ _ (.inr hc) wx (hbr.trans (hx.mono hbr.size))
      have hKK := Lib.hid hK
      have hst := k3 ks.length hlt
      have hfr := k4 ks.length
      clear hc ha hz hK k2 k3 k4 NL NO hah hrz
      obtain ⟨r, hrr⟩ : ∃ r, ownR vs ss n (ks.getD n.l.toNat 0) (ks.getD n.r.toNat 0) = r := ⟨_, rfl⟩
      rw [hrr] at NN
      unfold ndV at NN
      cases r with
      | error x =>
        have hx := ownR_err hrr
        have hres := Lib.hid (hR.trans (linK_err hrr))
        have NN := Lib.hid NN
        clear hrr hR
        have hx0 : (x == 0) = false := by rw [beq_eq_false_iff_ne]; omega
        have hx1 : (x != 0) = true := by rw [bne, hx0]; rfl
        simp only [nodeV] at NN
        clear hx
        go_wp2_with ((with_reducible refine (NN.out _ (by repeat' (first | (with_reducible exact Below.refl _ _) | (with_reducible assumption) | (with_reducible refine Below.alloc ?_ ?_ _) | (with_reducible refine Below.drew ?_) | (with_reducible refine belowN ?_ _) | (with_reducible refine Below.setCell ?_ ?_ _) | (with_reducible refine belowG ?_ ?_) | (with_reducible exact Nat.le_refl _) | (with_reducible refine le_sizeG ?_) | (with_reducible refine le_sizeA ?_) | (with_reducible refine le_sizeC ?_) | (with_reducible refine le_sizeD ?_) | (with_reducible refine le_sizeN ?_) | go_size | (simp [go_sem]; done)))).mono ?_); intro e w1 hr; obtain ⟨rfl, p, rfl⟩ := hr.out; clear hr)
        go_returns
        exact ⟨by rw [hres.out]; rfl, by repeat' (first | (with_reducible exact Below.refl _ _) | (with_reducible assumption) | (with_reducible refine Below.alloc ?_ ?_ _) | (with_reducible refine Below.drew ?_) | (with_reducible refine belowN ?_ _) | (with_reducible refine Below.setCell ?_ ?_ _) | (with_reducible refine belowG ?_ ?_) | (with_reducible exact Nat.le_refl _) | (with_reducible refine le_sizeG ?_) | (with_reducible refine le_sizeA ?_) | (with_reducible refine le_sizeC ?_) | (with_reducible refine le_sizeD ?_) | (with_reducible refine le_sizeN ?_) | go_size | (simp [go_sem]; done))⟩
      | ok k =>
        have hnext := Lib.hid (hR.trans (linK_ok hrr))
        have NN := Lib.hid NN
        clear hrr hR
        simp only [nodeV] at NN
        obtain ⟨xo, hxo⟩ := hst
        go_wp2_with ((with_reducible refine (NN.out _ (by repeat' (first | (with_reducible exact Below.refl _ _) | (with_reducible assumption) | (with_reducible refine Below.alloc ?_ ?_ _) | (with_reducible refine Below.drew ?_) | (with_reducible refine belowN ?_ _) | (with_reducible refine Below.setCell ?_ ?_ _) | (with_reducible refine belowG ?_ ?_) | (with_reducible exact Nat.le_refl _) | (with_reducible refine le_sizeG ?_) | (with_reducible refine le_sizeA ?_) | (with_reducible refine le_sizeC ?_) | (with_reducible refine le_sizeD ?_) | (with_reducible refine le_sizeN ?_) | go_size | (simp [go_sem]; done)))).mono ?_); intro e w1 hr; obtain ⟨rfl, p, rfl⟩ := hr.out; clear hr)
        have hlen := Lib.hid (show (ks ++ [k]).length = ks.length + 1 by simp)
        go_roundw
        case rel => exact ⟨ks ++ [k], by rw [hlen.out]; go_num, by rw [hlen.out]; omega, ks_keep (ks_set hKK.out hlt k) (by repeat' (first | (with_reducible exact Below.refl _ _) | (with_reducible assumption) | (with_reducible refine Below.alloc ?_ ?_ _) | (with_reducible refine Below.drew ?_) | (with_reducible refine belowN ?_ _) | (with_reducible refine Below.setCell ?_ ?_ _) | (with_reducible refine belowG ?_ ?_) | (with_reducible exact Nat.le_refl _) | (with_reducible refine le_sizeG ?_) | (with_reducible refine le_sizeA ?_) | (with_reducible refine le_sizeC ?_) | (with_reducible refine le_sizeD ?_) | (with_reducible refine le_sizeN ?_) | go_size | (simp [go_sem]; done))), by rw [hlen.out]; exact hnext.out, by repeat' (first | (with_reducible exact Below.refl _ _) | (with_reducible assumption) | (with_reducible refine Below.alloc ?_ ?_ _) | (with_reducible refine Below.drew ?_) | (with_reducible refine belowN ?_ _) | (with_reducible refine Below.setCell ?_ ?_ _) | (with_reducible refine belowG ?_ ?_) | (with_reducible exact Nat.le_refl _) | (with_reducible refine le_sizeG ?_) | (with_reducible refine le_sizeA ?_) | (with_reducible refine le_sizeC ?_) | (with_reducible refine le_sizeD ?_) | (with_reducible refine le_sizeN ?_) | go_size | (simp [go_sem]; done))⟩
        case measure => simp [intOf]; omega
    · have he : ns.length = ks.length := by omega
      have hdr : ns.drop ks.length = [] := List.drop_of_length_le (by omega)
      rw [hdr] at hR
      have hres := Lib.hid hR
      have hlast := k2 (ns.length - 1) (by omega)
      obtain ⟨last, hlst⟩ : ∃ x, ks.getD (ns.length - 1) 0 = x := ⟨_, rfl⟩
      rw [hlst] at hlast
      have hlK := Lib.hid hlst
      obtain ⟨m, hm⟩ : ∃ m, ns.length = m + 1 := ⟨ns.length - 1, by omega⟩
      have hge : ¬ ((ks.length : Int) < (ns.length : Int)) := by omega
      have hidx : ((ns.length : Int) - 1).toNat = ns.length - 1 := by omega
      clear hR hdr he k2 k3 k4 hlst hm
      go_wp2
      go_returns
      exact ⟨by rw [hres.out, ← hlK.out]; rfl, by repeat' (first | (with_reducible exact Below.refl _ _) | (with_reducible assumption) | (with_reducible refine Below.alloc ?_ ?_ _) | (with_reducible refine Below.drew ?_) | (with_reducible refine belowN ?_ _) | (with_reducible refine Below.setCell ?_ ?_ _) | (with_reducible refine belowG ?_ ?_) | (with_reducible exact Nat.le_refl _) | (with_reducible refine le_sizeG ?_) | (with_reducible refine le_sizeA ?_) | (with_reducible refine le_sizeC ?_) | (with_reducible refine le_sizeD ?_) | (with_reducible refine le_sizeN ?_) | go_size | (simp [go_sem]; done))⟩
/-- Is: Of's error; or whether that is the kind that was asked for. -/
def isI (a x k : Int) : Int := if x = 0 then (if a = k then 0 else 20) else x
theorem kis_any (ev : Value) (a x k : Int) (w : World) (vn sn : Nat) (O : ∀ wx, Below w.heap.size w wx → Calls Tryz.prog 9 #[ev, .agg #[.slice va vn vc, .slice sa sn sc]] wx (Ret (.tuple #[.int .i64 a, .int .i64 x]) wx)) :
    Calls Tryz.prog 12 #[ev, .agg #[.slice va vn vc, .slice sa sn sc], .int .i64 k] w (Ret (.int .i64 (isI a x k)) w) := by
  replace O := Lib.hid O
  unfold isI
  by_cases hx : x = 0
  · subst hx
    rw [if_pos rfl]
    by_cases hk : a = k
    · subst hk
      rw [if_pos rfl]
      go_enter Tryz.func12, Tryz.ntmps12
      go_wp2_with ((with_reducible refine (O.out _ (by repeat' (first | (with_reducible exact Below.refl _ _) | (with_reducible assumption) | (with_reducible refine Below.alloc ?_ ?_ _) | (with_reducible refine Below.drew ?_) | (with_reducible refine belowN ?_ _) | (with_reducible refine Below.setCell ?_ ?_ _) | (with_reducible refine belowG ?_ ?_) | (with_reducible exact Nat.le_refl _) | (with_reducible refine le_sizeG ?_) | (with_reducible refine le_sizeA ?_) | (with_reducible refine le_sizeC ?_) | (with_reducible refine le_sizeD ?_) | (with_reducible refine le_sizeN ?_) | go_size | (simp [go_sem]; done)))).mono ?_); intro e w1 hr; obtain ⟨rfl, p, rfl⟩ := hr.out; clear hr)
      go_returns
      exact ⟨rfl, by repeat' (first | (with_reducible exact Below.refl _ _) | (with_reducible assumption) | (with_reducible refine Below.alloc ?_ ?_ _) | (with_reducible refine Below.drew ?_) | (with_reducible refine belowN ?_ _) | (with_reducible refine Below.setCell ?_ ?_ _) | (with_reducible refine belowG ?_ ?_) | (with_reducible exact Nat.le_refl _) | (with_reducible refine le_sizeG ?_) | (with_reducible refine le_sizeA ?_) | (with_reducible refine le_sizeC ?_) | (with_reducible refine le_sizeD ?_) | (with_reducible refine le_sizeN ?_) | go_size | (simp [go_sem]; done))⟩
    · rw [if_neg hk]
      have h0 : (a == k) = false := beq_eq_false_iff_ne.mpr hk
      have h1 : (a != k) = true := by rw [bne, h0]; rfl
      clear hk
      go_enter Tryz.func12, Tryz.ntmps12
      go_wp2_with ((with_reducible refine (O.out _ (by repeat' (first | (with_reducible exact Below.refl _ _) | (with_reducible assumption) | (with_reducible refine Below.alloc ?_ ?_ _) | (with_reducible refine Below.drew ?_) | (with_reducible refine belowN ?_ _) | (with_reducible refine Below.setCell ?_ ?_ _) | (with_reducible refine belowG ?_ ?_) | (with_reducible exact Nat.le_refl _) | (with_reducible refine le_sizeG ?_) | (with_reducible refine le_sizeA ?_) | (with_reducible refine le_sizeC ?_) | (with_reducible refine le_sizeD ?_) | (with_reducible refine le_sizeN ?_) | go_size | (simp [go_sem]; done)))).mono ?_); intro e w1 hr; obtain ⟨rfl, p, rfl⟩ := hr.out; clear hr)
      go_returns
      exact ⟨rfl, by repeat' (first | (with_reducible exact Below.refl _ _) | (with_reducible assumption) | (with_reducible refine Below.alloc ?_ ?_ _) | (with_reducible refine Below.drew ?_) | (with_reducible refine belowN ?_ _) | (with_reducible refine Below.setCell ?_ ?_ _) | (with_reducible refine belowG ?_ ?_) | (with_reducible exact Nat.le_refl _) | (with_reducible refine le_sizeG ?_) | (with_reducible refine le_sizeA ?_) | (with_reducible refine le_sizeC ?_) | (with_reducible refine le_sizeD ?_) | (with_reducible refine le_sizeN ?_) | go_size | (simp [go_sem]; done))⟩
  · rw [if_neg hx]
    have h0 : (x == 0) = false := beq_eq_false_iff_ne.mpr hx
    have h1 : (x != 0) = true := by rw [bne, h0]; rfl
    clear hx
    go_enter Tryz.func12, Tryz.ntmps12
    go_wp2_with ((with_reducible refine (O.out _ (by repeat' (first | (with_reducible exact Below.refl _ _) | (with_reducible assumption) | (with_reducible refine Below.alloc ?_ ?_ _) | (with_reducible refine Below.drew ?_) | (with_reducible refine belowN ?_ _) | (with_reducible refine Below.setCell ?_ ?_ _) | (with_reducible refine belowG ?_ ?_) | (with_reducible exact Nat.le_refl _) | (with_reducible refine le_sizeG ?_) | (with_reducible refine le_sizeA ?_) | (with_reducible refine le_sizeC ?_) | (with_reducible refine le_sizeD ?_) | (with_reducible refine le_sizeN ?_) | go_size | (simp [go_sem]; done)))).mono ?_); intro e w1 hr; obtain ⟨rfl, p, rfl⟩ := hr.out; clear hr)
    go_returns
    exact ⟨rfl, by repeat' (first | (with_reducible exact Below.refl _ _) | (with_reducible assumption) | (with_reducible refine Below.alloc ?_ ?_ _) | (with_reducible refine Below.drew ?_) | (with_reducible refine belowN ?_ _) | (with_reducible refine Below.setCell ?_ ?_ _) | (with_reducible refine belowG ?_ ?_) | (with_reducible exact Nat.le_refl _) | (with_reducible refine le_sizeG ?_) | (with_reducible refine le_sizeA ?_) | (with_reducible refine le_sizeC ?_) | (with_reducible refine le_sizeD ?_) | (with_reducible refine le_sizeN ?_) | go_size | (simp [go_sem]; done))⟩
end
end Go.Proofs.YtkjgfcbanlcmgaaGreatDoor

