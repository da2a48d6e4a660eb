/- How an expression is shown. -/
import Derived.Test.YtmdjlngdpjjfiaaGreatDoorXS
import Derived.Test.YtmdjlngdpjjfiaaGreatDoorXE
import Derived.WalkKit
import Derived.ProofKit
import Derived.OpenShut
import Derived.Handy
import Derived.BigQuiet
import Derived.OwnWalk
import Derived.Lib.Hide
import Derived.WalkSmall
import Derived.WalkLawsBesides
namespace Go.Proofs.YtmdjlngdpjjfiaaGreatDoor
open Go.RowKit
theorem Tryz.infoStr : (Tryz.prog.info? 9).map (fun i => (i.zero, i.size, i.bytes)) = some (some (.string ⟨#[]⟩), 1, 16) := by kernel_rfl
def showsB (ns : List Nd) : Nat → List ByteArray
  | 0 => []
  | i + 1 => showsB ns i ++ [showB ns (showsB ns i) (ns.getD i nd0)]
theorem showsB_length (ns : List Nd) : ∀ i, (showsB ns i).length = i
  | 0 => rfl
  | i + 1 => by rw [showsB, List.length_append, showsB_length ns i]; rfl
theorem showsB_mem (ns : List Nd) {t : ByteArray} {i : Nat} (h : t ∈ showsB ns i) : ∀ n, i ≤ n → t ∈ showsB ns n := by
  intro n hn
  induction n with
  | zero => obtain rfl : i = 0 := by omega
            exact h
  | succ n ih =>
    by_cases he : i = n + 1
    · subst he; exact h
    · rw [showsB]
      exact List.mem_append_left _ (ih (by omega))
/-- Texts lie at the head of a block of texts. -/
def TxtBlk (w : World) (tg n : Nat) (ts : List ByteArray) : Prop := ∃ cs : Array Value, w.heap[tg]? = some (.cells cs 9 (0, 0)) ∧ cs.size = n ∧ (∀ j (h : j < ts.length), cs[j]? = some (.string ts[j])) ∧ ∀ j, j < n → ∃ z : ByteArray, cs[j]? = some (.string z)
theorem txt_of {w : World} {tg n : Nat} {ts : List ByteArray} (h : TxtBlk w tg n ts) : TxtAt w tg ts := by
  obtain ⟨cs, h1, _, h2, _⟩ := h
  intro j hj
  rw [cell_of_row w tg _ _ _ _ h1]
  exact h2 j hj
theorem txt_set {w : World} {tg n : Nat} {ts : List ByteArray} (h : TxtBlk w tg n ts) (hn : ts.length < n) (t : ByteArray) : TxtBlk (w.setCell ⟨tg, ts.length, none⟩ (.string t)) tg n (ts ++ [t]) := by
  obtain ⟨cs, h1, h2, h3, h4⟩ := h
  refine ⟨_, blk_set h1, by rw [Array.size_setIfInBounds]; exact h2, fun j hj => ?_, fun j hj => ?_⟩
  · rw [List.length_append, List.length_singleton] at hj
    by_cases he : ts.length = j
    · subst he
      rw [Array.getElem?_setIfInBounds_self_of_lt (by omega)]
      simp
    · rw [Array.getElem?_setIfInBounds_ne he, List.getElem_append_left (by omega)]
      exact h3 j (by omega)
  · by_cases he : ts.length = j
    · subst he
      exact ⟨t, Array.getElem?_setIfInBounds_self_of_lt (by omega)⟩
    · rw [Array.getElem?_setIfInBounds_ne he]
      exact h4 j hj
theorem txt_keep {w w' : World} {tg n : Nat} {ts : List ByteArray} (h : TxtBlk w tg n ts) (hb : Below w.heap.size w w') : TxtBlk w' tg n ts := by
  obtain ⟨cs, h1, h2⟩ := h
  exact ⟨cs, (hb.block tg (lt_of_block h1)).trans h1, h2⟩
theorem txt_cell {w : World} {tg n : Nat} {ts : List ByteArray} (h : TxtBlk w tg n ts) (i : Nat) (hi : i < n) : ∃ z : ByteArray, w.cell? ⟨tg, i, none⟩ = some (.string z) ∧ w.frozen? ⟨tg, i, none⟩ = false ∧ tg < w.heap.size := by
  obtain ⟨cs, h1, _, _, h4⟩ := h
  obtain ⟨z, hz⟩ := h4 i hi
  exact ⟨z, by rw [cell_of_row w tg _ _ _ _ h1]; exact hz, frozen_of_row w tg i _ _ h1, lt_of_block h1⟩
theorem txt_made {w : World} {B tg n : Nat} (h : w.ownsRow B 9 1 (.slice (some ⟨tg, 0, none⟩) n n) n (madeCells #[Value.string ⟨#[]⟩] n).toList) : TxtBlk w tg n [] := by
  rcases h.2 with ⟨h0, _⟩ | ⟨g, cap, cur, hv, _, hg, _, _, hs, ht⟩
  · cases h0
  · cases hv
    refine ⟨cur, hg, by omega, fun j hj => absurd hj (Nat.not_lt_zero _), fun j hj => ?_⟩
    have h1 : cur.toList = (madeCells #[Value.string ⟨#[]⟩] n).toList := by rw [← ht, List.take_of_length_le (by simp; omega)]
    have h2 : cur = madeCells #[Value.string ⟨#[]⟩] n := Array.ext' h1
    rw [h2]
    refine ⟨⟨#[]⟩, ?_⟩
    unfold madeCells
    rw [Array.getElem?_map, Array.getElem?_range, if_pos (by omega)]
    show some ((#[Value.string ⟨#[]⟩] : Array Value)[j % 1]!) = _
    rw [Nat.mod_one]
    rfl
set_option maxRecDepth 100000 in
set_option maxHeartbeats 2000000 in
theorem xshow_any (ao : Option Addr) (cap : Nat) (ns : List Nd) (hn : ns.length ≤ 2000000) (hn0 : 0 < ns.length) (hs : ∀ n ∈ ns, n.s.length ≤ 140737488351232 ∧ n.name.length ≤ 140737488351232) (w : World) (h : NdsAt w ao ns) (hw : Lb w) (hT : Tab w) (hE : Eg w) (hR : rightT ns = true)
    (ok : ∀ i, i < ns.length → ShowOk ns (showsB ns i) (ns.getD i nd0)) (hsz : ∀ t ∈ showsB ns ns.length, t.size ≤ 2000000) :
    Calls Tryz.prog 41 #[.slice ao ns.length cap] w (Ret (.string ((showsB ns ns.length).getD (ns.length - 1) ⟨#[]⟩)) w) := by
  have R := Lib.hid (xright_any ao cap ns hn hs w h hw)
  rw [hR] at R
  have H := fun wx hb => nds_below (w' := wx) h hb
  replace H := Lib.hid H
  obtain ⟨i0, hi0, hz1, hz2, hz3⟩ := info_parts Tryz.infoStr
  have hTK := Lib.hid (fun wx hb => tab_below (w' := wx) hT hb)
  have hEK := Lib.hid (fun wx hb => eg_keep (w' := wx) hE (eg_lt hE) hb)
  have hokK := Lib.hid ok
  have hszK := Lib.hid hsz
  clear hw h hT hE ok hsz hR hs
  have hnI : (0 : Int) ≤ (ns.length : Int) := by omega
  obtain ⟨res, hres⟩ : ∃ x, (showsB ns ns.length).getD (ns.length - 1) ⟨#[]⟩ = x := ⟨_, rfl⟩
  rw [hres]
  replace hres := Lib.hid hres
  go_enter Tryz.func41, Tryz.ntmps41
  go_wp2_with (first | ((with_reducible refine (R.out).mono ?_); intro e w1 hr; obtain ⟨rfl, p, rfl⟩ := hr.out; clear hr) | (at_make; refine wpList_make_full _ rfl _ _ 55 rfl w.heap.size 9 i0 _ 1 Tryz.underlying55 hi0 hz1 hz2 _ _ (ns.length : Int) (ns.length : Int) ns.length rfl rfl rfl rfl (by rw [hz3]; omega) (by unfold maxLen; omega) (Below.size (B := w.heap.size) (w := w) (by repeat' (first | (with_reducible exact Below.refl _ _) | (with_reducible assumption) | (with_reducible refine Below.alloc ?_ ?_ _) | (with_reducible refine Below.drew ?_) | (with_reducible refine belowN ?_ _) | (with_reducible refine Below.setCell ?_ ?_ _) | (with_reducible refine belowG ?_ ?_) | (with_reducible exact Nat.le_refl _) | (with_reducible refine le_sizeG ?_) | (with_reducible refine le_sizeA ?_) | (with_reducible refine le_sizeC ?_) | (with_reducible refine le_sizeD ?_) | (with_reducible refine le_sizeN ?_) | go_size | (simp [go_sem]; done)))) ?_))
  intro w1 hown hgrow
  have hbw1 : Below w.heap.size w w1 := Below.grown (by repeat' (first | (with_reducible exact Below.refl _ _) | (with_reducible assumption) | (with_reducible refine Below.alloc ?_ ?_ _) | (with_reducible refine Below.drew ?_) | (with_reducible refine belowN ?_ _) | (with_reducible refine Below.setCell ?_ ?_ _) | (with_reducible refine belowG ?_ ?_) | (with_reducible exact Nat.le_refl _) | (with_reducible refine le_sizeG ?_) | (with_reducible refine le_sizeA ?_) | (with_reducible refine le_sizeC ?_) | (with_reducible refine le_sizeD ?_) | (with_reducible refine le_sizeN ?_) | go_size | (simp [go_sem]; done))) hgrow (Below.size (B := w.heap.size) (w := w) (by repeat' (first | (with_reducible exact Below.refl _ _) | (with_reducible assumption) | (with_reducible refine Below.alloc ?_ ?_ _) | (with_reducible refine Below.drew ?_) | (with_reducible refine belowN ?_ _) | (with_reducible refine Below.setCell ?_ ?_ _) | (with_reducible refine belowG ?_ ?_) | (with_reducible exact Nat.le_refl _) | (with_reducible refine le_sizeG ?_) | (with_reducible refine le_sizeA ?_) | (with_reducible refine le_sizeC ?_) | (with_reducible refine le_sizeD ?_) | (with_reducible refine le_sizeN ?_) | go_size | (simp [go_sem]; done)))) (fun k hk => (by cases hk))
  have hX1 := Lib.hid (txt_made hown)
  have htgw : w.heap.size ≤ (G p w).heap.size := (belowG0 p w).size
  clear R hown hgrow
  generalize (G p w).heap.size = tg at *
  go_wp2
  go_loopw [14] (fun x wr => ∃ i : Nat, x = .int .i64 (i : Int) ∧ i ≤ ns.length ∧ TxtBlk wr tg ns.length (showsB ns i) ∧ Below w.heap.size w wr) (fun x _ => ns.length - (intOf x).toNat)
  case atStart => exact ⟨0, rfl, Nat.zero_le _, hX1.out, by repeat' (first | (with_reducible exact Below.refl _ _) | (with_reducible assumption) | (with_reducible refine Below.alloc ?_ ?_ _) | (with_reducible refine Below.drew ?_) | (with_reducible refine belowN ?_ _) | (with_reducible refine Below.setCell ?_ ?_ _) | (with_reducible refine belowG ?_ ?_) | (with_reducible exact Nat.le_refl _) | (with_reducible refine le_sizeG ?_) | (with_reducible refine le_sizeA ?_) | (with_reducible refine le_sizeC ?_) | (with_reducible refine le_sizeD ?_) | (with_reducible refine le_sizeN ?_) | go_size | (simp [go_sem]; done))⟩
  case round =>
    obtain ⟨i, rfl, hi, hX, hb⟩ := hrel
    rename World => wr
    have hwz := hb.size
    clear hX1 hbw1
    by_cases hlt : i < ns.length
    · have hNd := H.out wr hb
      obtain ⟨g, o, rfl, hg, hc⟩ := hNd (by omega)
      obtain ⟨n1, n2, n3, n4, n5, n6, n7⟩ := hc i hlt
      have hok := hokK.out i hlt
      have hget : ns.getD i nd0 = ns[i] := by rw [List.getD_eq_getElem?_getD, List.getElem?_eq_getElem hlt, Option.getD_some]
      have hnext := Lib.hid (show showsB ns (i + 1) = showsB ns i ++ [showB ns (showsB ns i) ns[i]] by rw [showsB, hget])
      rw [hget] at hok
      have hll := showsB_length ns i
      have E := fun wx hk => Lib.hid (eshow_any (some ⟨g, o, none⟩) cap ns ns[i] wx (nds_below hNd hk) tg ns.length ns.length (showsB ns i) (txt_of (txt_keep hX hk)) (Nat.lt_of_lt_of_le (txt_cell hX i hlt).choose_spec.2.2 hk.size) (by omega) (by omega) (fun t ht => hszK.out t (showsB_mem ns ht _ hi)) hok (hTK.out wx (hb.trans (hk.mono hwz))) (hEK.out wx (hb.trans (hk.mono hwz))))
      obtain ⟨z0, z1, z2, z3⟩ := txt_cell hX i hlt
      have hX2 := Lib.hid (fun wx (hk : Below wr.heap.size wr wx) (t : ByteArray) => txt_set (txt_keep hX hk) (by omega) t)
      rw [hll] at hX2
      obtain ⟨sb, hsb⟩ : ∃ x, showB ns (showsB ns i) ns[i] = x := ⟨_, rfl⟩
      rw [hsb] at E hnext
      unfold ndV at E
      generalize ns[i] = n at *
      replace E := Lib.hid E
      have i1 : InW g wr := ⟨hg⟩
      have i2 : InW tg wr := ⟨z3⟩
      have hI : (i : Int) < (ns.length : Int) := by omega
      clear hc hNd hok hget hX hsb hll
      go_wp2_with ((with_reducible refine ((E.out _ (by repeat' (first | (with_reducible exact Below.refl _ _) | (with_reducible assumption) | (with_reducible refine Below.alloc ?_ ?_ _) | (with_reducible refine Below.drew ?_) | (with_reducible refine belowN ?_ _) | (with_reducible refine Below.setCell ?_ ?_ _) | (with_reducible refine belowG ?_ ?_) | (with_reducible exact Nat.le_refl _) | (with_reducible refine le_sizeG ?_) | (with_reducible refine le_sizeA ?_) | (with_reducible refine le_sizeC ?_) | (with_reducible refine le_sizeD ?_) | (with_reducible refine le_sizeN ?_) | go_size | (simp [go_sem]; done)))).out).mono ?_); intro e w1 hr; obtain ⟨rfl, p, rfl⟩ := hr.out; clear hr)
      go_roundw
      case rel => exact ⟨i + 1, by go_num, by omega, by rw [hnext.out]; exact txt_keep (hX2.out _ (by repeat' (first | (with_reducible exact Below.refl _ _) | (with_reducible assumption) | (with_reducible refine Below.alloc ?_ ?_ _) | (with_reducible refine Below.drew ?_) | (with_reducible refine belowN ?_ _) | (with_reducible refine Below.setCell ?_ ?_ _) | (with_reducible refine belowG ?_ ?_) | (with_reducible exact Nat.le_refl _) | (with_reducible refine le_sizeG ?_) | (with_reducible refine le_sizeA ?_) | (with_reducible refine le_sizeC ?_) | (with_reducible refine le_sizeD ?_) | (with_reducible refine le_sizeN ?_) | go_size | (simp [go_sem]; done))) sb) (by repeat' (first | (with_reducible exact Below.refl _ _) | (with_reducible assumption) | (with_reducible refine Below.alloc ?_ ?_ _) | (with_reducible refine Below.drew ?_) | (with_reducible refine belowN ?_ _) | (with_reducible refine Below.setCell ?_ ?_ _) | (with_reducible refine belowG ?_ ?_) | (with_reducible exact Nat.le_refl _) | (with_reducible refine le_sizeG ?_) | (with_reducible refine le_sizeA ?_) | (with_reducible refine le_sizeC ?_) | (with_reducible refine le_sizeD ?_) | (with_reducible refine le_sizeN ?_) | go_size | (simp [go_sem]; done))), by repeat' (first | (with_reducible exact Below.refl _ _) | (with_reducible assumption) | (with_reducible refine Below.alloc ?_ ?_ _) | (with_reducible refine Below.drew ?_) | (with_reducible refine belowN ?_ _) | (with_reducible refine Below.setCell ?_ ?_ _) | (with_reducible refine belowG ?_ ?_) | (with_reducible exact Nat.le_refl _) | (with_reducible refine le_sizeG ?_) | (with_reducible refine le_sizeA ?_) | (with_reducible refine le_sizeC ?_) | (with_reducible refine le_sizeD ?_) | (with_reducible refine le_sizeN ?_) | go_size | (simp [go_sem]; done))⟩
      case measure => simp [intOf]; omega
    · obtain rfl : i = ns.length := by omega
      have hlast : (showsB ns ns.length).getD (ns.length - 1) ⟨#[]⟩ = (showsB ns ns.length)[ns.length - 1]'(by rw [showsB_length]; omega) := by rw [List.getD_eq_getElem?_getD, List.getElem?_eq_getElem (by rw [showsB_length]; omega), Option.getD_some]
      have hcell := txt_of hX (ns.length - 1) (by rw [showsB_length]; omega)
      rw [← hlast, hres.out] at hcell
      obtain ⟨m, hm⟩ : ∃ m, m + 1 = ns.length := ⟨ns.length - 1, by omega⟩
      have hm1 : ns.length - 1 = m := by omega
      rw [hm1] at hcell
      have hmI : (ns.length : Int) - 1 = (m : Int) := by omega
      have hI : ¬ ((ns.length : Int) < (ns.length : Int)) := by omega
      have hmI2 : (m : Int) < (ns.length : Int) := by omega
      clear hlast hm1 hX
      replace hm := Lib.hid hm
      go_wp2
      go_returns
      exact ⟨rfl, hb⟩
end Go.Proofs.YtmdjlngdpjjfiaaGreatDoor

