/- How great an expression is. -/
import Derived.Test.YtkjgfcbanlcmgaaGreatDoorX4
import Derived.WalkKit
import Derived.ProofKit
import Derived.OpenShut
import Derived.Handy
import Derived.BigQuiet
import Derived.BigRegion
import Derived.Deep.RegionHeld3
import Derived.Lib.Hide
import Derived.WalkSmall
import Derived.WalkLawsBesides
namespace Go.Proofs.YtkjgfcbanlcmgaaGreatDoor
open Go.RowKit
def PartsIs (n : Nd) (w : World) (e : Ending) (w' : World) : Prop := ∃ pb cap, e = .returned (.slice (some ⟨pb, 0, none⟩) (cnt n.op) cap) ∧ w'.heap[pb]? = some (.cells #[.int .i64 n.l, .int .i64 n.r] 3 (0, 0)) ∧ w.heap.size ≤ pb ∧ Below w.heap.size w w'
set_option maxRecDepth 100000 in
set_option maxHeartbeats 4000000 in
theorem parts_any (n : Nd) (w : World) : Calls Tryz.prog 28 #[ndV n] w (PartsIs n w) := by
  have C := fun wx => Lib.hid (count_any n.op wx)
  have hc2 : cnt n.op ≤ 2 := by
    unfold cnt
    (repeat' split) <;> omega
  replace C := Lib.hid C
  unfold ndV
  generalize hcc : cnt n.op = c at *
  replace hcc := Lib.hid hcc
  have hcI : (c : Int) ≤ 2 := by omega
  have hcw : IntKind.i64.wrap (c : Int) = (c : Int) := by rw [IntKind.wrap_i64]; omega
  have hc0 : (0 : Int) ≤ (c : Int) := by omega
  go_enter Tryz.func28, Tryz.ntmps28
  go_wp2_with fail
  go_region_held3 (fun w' => w'.cell? ⟨w.heap.size, 0, none⟩ = some (.int .i64 n.op) ∧ w'.cell? ⟨w.heap.size, 5, none⟩ = some (.int .i64 n.l) ∧ w'.cell? ⟨w.heap.size, 6, none⟩ = some (.int .i64 n.r)) ((refine ⟨?_, ?_, ?_⟩ <;> first | assumption | (simp [go_sem, *]; done))) (first | ((with_reducible refine ((C.out _).out).mono ?_); rintro e w1 ⟨rfl, rfl⟩))
  all_goals
    go_wp2_with fail
    go_returns
    refine ⟨w.heap.size + 1, 2, by rw [hcc.out]; rfl, ?_, by omega, by repeat' (first | (with_reducible exact Below.refl _ _) | (with_reducible assumption) | (with_reducible refine Below.alloc ?_ ?_ _) | (with_reducible refine Below.drew ?_) | (with_reducible refine belowN ?_ _) | (with_reducible refine Below.setCell ?_ ?_ _) | (with_reducible refine belowG ?_ ?_) | (with_reducible exact Nat.le_refl _) | (with_reducible refine le_sizeG ?_) | (with_reducible refine le_sizeA ?_) | (with_reducible refine le_sizeC ?_) | (with_reducible refine le_sizeD ?_) | (with_reducible refine le_sizeN ?_) | go_size | (simp [go_sem]; done))⟩
    have := new_block (w.alloc (.cells #[.int .i64 n.op, .int .i64 n.k, .int .i64 n.n, .string ⟨n.s.toArray⟩, .string ⟨n.name.toArray⟩, .int .i64 n.l, .int .i64 n.r] 57)) (.cells #[.int .i64 n.l, .int .i64 n.r] 3)
    rw [World.size_alloc] at this
    exact this
/-- Nodes lie where a slice says. -/
def NdsAt (w : World) (ao : Option Addr) (ns : List Nd) : Prop := 0 < ns.length → ∃ g o, ao = some ⟨g, o, none⟩ ∧ g < w.heap.size ∧ ∀ i (h : i < ns.length),
  w.cell? ⟨g, o + i * 7, none⟩ = some (.int .i64 ns[i].op) ∧ w.cell? ⟨g, o + i * 7 + 1, none⟩ = some (.int .i64 ns[i].k) ∧ w.cell? ⟨g, o + i * 7 + 2, none⟩ = some (.int .i64 ns[i].n) ∧
  w.cell? ⟨g, o + i * 7 + 3, none⟩ = some (.string ⟨ns[i].s.toArray⟩) ∧ w.cell? ⟨g, o + i * 7 + 4, none⟩ = some (.string ⟨ns[i].name.toArray⟩) ∧ w.cell? ⟨g, o + i * 7 + 5, none⟩ = some (.int .i64 ns[i].l) ∧ w.cell? ⟨g, o + i * 7 + 6, none⟩ = some (.int .i64 ns[i].r)
theorem nds_below {w w' : World} {ao : Option Addr} {ns : List Nd} (h : NdsAt w ao ns) (hb : Below w.heap.size w w') : NdsAt w' ao ns := by
  intro h0
  obtain ⟨g, o, e, hg, hc⟩ := h h0
  refine ⟨g, o, e, Nat.lt_of_lt_of_le hg hb.size, fun i hi => ?_⟩
  obtain ⟨h1, h2, h3, h4, h5, h6, h7⟩ := hc i hi
  exact ⟨(hb.cell (p := ⟨g, _, none⟩) hg).trans h1, (hb.cell (p := ⟨g, _, none⟩) hg).trans h2, (hb.cell (p := ⟨g, _, none⟩) hg).trans h3, (hb.cell (p := ⟨g, _, none⟩) hg).trans h4, (hb.cell (p := ⟨g, _, none⟩) hg).trans h5, (hb.cell (p := ⟨g, _, none⟩) hg).trans h6, (hb.cell (p := ⟨g, _, none⟩) hg).trans h7⟩
/-- The depths of the nodes ahead lie in an array of numbers. -/
def Arr (cs : Array Value) (ds : List Nat) : Prop := cs.size = 32 ∧ (∀ j (h : j < ds.length), cs[j]? = some (.int .i64 (ds[j] : Int))) ∧ ∀ j, j < 32 → ∃ x : Int, cs[j]? = some (.int .i64 x)
def ZeroAt (w : World) (db : Nat) (ds : List Nat) : Prop := ∃ cs : Array Value, w.heap[db]? = some (.cells cs 77 (0, 0)) ∧ Arr cs ds
/-- .. and then d. -/
def DeepAt (w : World) (db : Nat) (ds : List Nat) (d : Nat) : Prop := ∃ cs : Array Value, w.heap[db]? = some (.cells cs 77 (0, 0)) ∧ Arr cs ds ∧ cs[ds.length]? = some (.int .i64 (d : Int))
theorem arr_set {cs : Array Value} {ds : List Nat} (h : Arr cs ds) (hl : ds.length < 32) (x : Int) : Arr (cs.setIfInBounds ds.length (.int .i64 x)) ds ∧ (cs.setIfInBounds ds.length (.int .i64 x))[ds.length]? = some (.int .i64 x) := by
  obtain ⟨h1, h2, h3⟩ := h
  refine ⟨⟨by rw [Array.size_setIfInBounds]; exact h1, fun j hj => ?_, fun j hj => ?_⟩, ?_⟩
  · rw [Array.getElem?_setIfInBounds_ne (by omega)]
    exact h2 j hj
  · by_cases he : ds.length = j
    · subst he
      exact ⟨x, Array.getElem?_setIfInBounds_self_of_lt (by omega)⟩
    · rw [Array.getElem?_setIfInBounds_ne he]
      exact h3 j hj
  · exact Array.getElem?_setIfInBounds_self_of_lt (by omega)
theorem deep_set {w : World} {db : Nat} {ds : List Nat} (h : ZeroAt w db ds) (hl : ds.length < 32) (d : Nat) {x : Int} (hx : x = (d : Int)) : DeepAt (w.setCell ⟨db, ds.length, none⟩ (.int .i64 x)) db ds d := by
  subst hx
  obtain ⟨cs, hb, ha⟩ := h
  obtain ⟨h1, h2⟩ := arr_set ha hl (d : Int)
  exact ⟨_, blk_set hb, h1, h2⟩
theorem zero_of {w : World} {db : Nat} {ds : List Nat} {d : Nat} (h : DeepAt w db ds d) : ZeroAt w db ds := by
  obtain ⟨cs, hb, ha, _⟩ := h
  exact ⟨cs, hb, ha⟩
theorem deep_next {w : World} {db : Nat} {ds : List Nat} {d : Nat} (h : DeepAt w db ds d) : ZeroAt w db (ds ++ [d]) := by
  obtain ⟨cs, hb, ⟨h1, h2, h3⟩, h4⟩ := h
  refine ⟨cs, hb, h1, fun j hj => ?_, h3⟩
  rw [List.length_append, List.length_singleton] at hj
  rcases Nat.lt_or_ge j ds.length with hlt | hge
  · rw [List.getElem_append_left hlt]; exact h2 j hlt
  · obtain rfl : j = ds.length := by omega
    rw [h4]; simp
theorem deep_keep {w w' : World} {db : Nat} {ds : List Nat} {d : Nat} (h : DeepAt w db ds d) (hb : Below w.heap.size w w') : DeepAt w' db ds d := by
  obtain ⟨cs, h1, h2⟩ := h
  exact ⟨cs, (hb.block db (lt_of_block h1)).trans h1, h2⟩
theorem zero_keep {w w' : World} {db : Nat} {ds : List Nat} (h : ZeroAt w db ds) (hb : Below w.heap.size w w') : ZeroAt w' db ds := by
  obtain ⟨cs, h1, h2⟩ := h
  exact ⟨cs, (hb.block db (lt_of_block h1)).trans h1, h2⟩
theorem deep_cell {w : World} {db : Nat} {ds : List Nat} {d : Nat} (h : DeepAt w db ds d) : w.cell? ⟨db, ds.length, none⟩ = some (.int .i64 (d : Int)) ∧ (∀ j (hj : j < ds.length), w.cell? ⟨db, j, none⟩ = some (.int .i64 (ds[j] : Int))) ∧ (∀ i, w.frozen? ⟨db, i, none⟩ = false) ∧ db < w.heap.size := by
  obtain ⟨cs, h1, ⟨_, h2, _⟩, h3⟩ := h
  exact ⟨by rw [cell_of_row w db _ _ _ _ h1]; exact h3, fun j hj => by rw [cell_of_row w db _ _ _ _ h1]; exact h2 j hj, fun i => frozen_of_row w db i _ _ h1, lt_of_block h1⟩
theorem zero_cell {w : World} {db : Nat} {ds : List Nat} (h : ZeroAt w db ds) (i : Nat) (hi : i < 32) : ∃ x : Int, w.cell? ⟨db, i, none⟩ = some (.int .i64 x) ∧ w.frozen? ⟨db, i, none⟩ = false ∧ db < w.heap.size := by
  obtain ⟨cs, h1, _, _, h3⟩ := h
  obtain ⟨x, hx⟩ := h3 i hi
  exact ⟨x, by rw [cell_of_row w db _ _ _ _ h1]; exact hx, frozen_of_row w db i _ _ h1, lt_of_block h1⟩
def stepD (ds : List Nat) (d : Nat) (p : Int) : Nat := if 0 ≤ p ∧ p < (ds.length : Int) then max d (ds.getD p.toNat 0 + 1) else d
theorem stepD_le {ds : List Nat} (h : ∀ x ∈ ds, x ≤ 8) {d : Nat} (hd : d ≤ 9) (p : Int) : stepD ds d p ≤ 9 := by
  unfold stepD
  split
  · rename_i hp
    have hl : p.toNat < ds.length := by omega
    rw [List.getD_eq_getElem?_getD, List.getElem?_eq_getElem hl, Option.getD_some]
    have := h _ (List.getElem_mem hl)
    omega
  · exact hd
theorem fold_le {ds : List Nat} (h : ∀ x ∈ ds, x ≤ 8) : ∀ (ps : List Int) (d : Nat), d ≤ 9 → ps.foldl (stepD ds) d ≤ 9
  | [], _, hd => hd
  | p :: ps, _, hd => fold_le h ps _ (stepD_le h hd p)
theorem stepD_in {ds : List Nat} {m : Nat} (h : m < ds.length) (d : Nat) : stepD ds d (m : Int) = max d (ds[m] + 1) := by
  unfold stepD
  rw [if_pos ⟨by omega, by omega⟩, show ((m : Int)).toNat = m from rfl, List.getD_eq_getElem?_getD, List.getElem?_eq_getElem h, Option.getD_some]
theorem stepD_out {ds : List Nat} {p : Int} (h : ¬ (0 ≤ p ∧ p < (ds.length : Int))) (d : Nat) : stepD ds d p = d := by
  unfold stepD
  rw [if_neg h]
theorem deepOf_fold (ds : List Nat) (n : Nd) : deepOf ds n = ([n.l, n.r].take (cnt n.op)).foldl (stepD ds) 1 := rfl
set_option maxRecDepth 100000 in
set_option maxHeartbeats 8000000 in
theorem size_any (ao : Option Addr) (cap : Nat) (ns : List Nd) (hn : ns.length ≤ 2000000) (w : World) (h : NdsAt w ao ns) : Calls Tryz.prog 18 #[.slice ao ns.length cap] w (Ret (.int .i64 (sizeT ns)) w) := by
  by_cases h32 : 32 < ns.length
  · have e : sizeT ns = 13 := by unfold sizeT; rw [if_pos h32]
    rw [e]
    clear h e
    go_enter Tryz.func18, Tryz.ntmps18
    go_wp2
    go_returns
    exact ⟨rfl, by repeat' (first | (with_reducible exact Below.refl _ _) | (with_reducible assumption) | (with_reducible refine Below.alloc ?_ ?_ _) | (with_reducible refine Below.drew ?_) | (with_reducible refine belowN ?_ _) | (with_reducible refine Below.setCell ?_ ?_ _) | (with_reducible refine belowG ?_ ?_) | (with_reducible exact Nat.le_refl _) | (with_reducible refine le_sizeG ?_) | (with_reducible refine le_sizeA ?_) | (with_reducible refine le_sizeC ?_) | (with_reducible refine le_sizeD ?_) | (with_reducible refine le_sizeN ?_) | go_size | (simp [go_sem]; done))⟩
  · have e : sizeT ns = sizeL [] ns := by unfold sizeT; rw [if_neg h32]
    rw [e]
    replace e := Lib.hid e
    have H := fun wx hb => nds_below (w' := wx) h hb
    replace H := Lib.hid H
    have hz0 : ZeroAt (w.alloc (.cells #[.int .i64 0, .int .i64 0, .int .i64 0, .int .i64 0, .int .i64 0, .int .i64 0, .int .i64 0, .int .i64 0, .int .i64 0, .int .i64 0, .int .i64 0, .int .i64 0, .int .i64 0, .int .i64 0, .int .i64 0, .int .i64 0, .int .i64 0, .int .i64 0, .int .i64 0, .int .i64 0, .int .i64 0, .int .i64 0, .int .i64 0, .int .i64 0, .int .i64 0, .int .i64 0, .int .i64 0, .int .i64 0, .int .i64 0, .int .i64 0, .int .i64 0, .int .i64 0] 77)) w.heap.size [] := by
      refine ⟨_, new_block _ _, rfl, fun j hj => absurd hj (Nat.not_lt_zero _), fun j hj => ?_⟩
      have : ∀ j, j < 32 → j = 0 ∨ j = 1 ∨ j = 2 ∨ j = 3 ∨ j = 4 ∨ j = 5 ∨ j = 6 ∨ j = 7 ∨ j = 8 ∨ j = 9 ∨ j = 10 ∨ j = 11 ∨ j = 12 ∨ j = 13 ∨ j = 14 ∨ j = 15 ∨ j = 16 ∨ j = 17 ∨ j = 18 ∨ j = 19 ∨ j = 20 ∨ j = 21 ∨ j = 22 ∨ j = 23 ∨ j = 24 ∨ j = 25 ∨ j = 26 ∨ j = 27 ∨ j = 28 ∨ j = 29 ∨ j = 30 ∨ j = 31 := by omega
      rcases this j hj with rfl | rfl | rfl | rfl | rfl | rfl | rfl | rfl | rfl | rfl | rfl | rfl | rfl | rfl | rfl | rfl | rfl | rfl | rfl | rfl | rfl | rfl | rfl | rfl | rfl | rfl | rfl | rfl | rfl | rfl | rfl | rfl <;> exact ⟨0, rfl⟩
    replace hz0 := Lib.hid hz0
    clear h
    generalize hdb : w.heap.size = db at hz0
    go_enter Tryz.func18, Tryz.ntmps18
    go_wp2
    go_loopw [13] (fun v wr => ∃ ds : List Nat, v = .int .i64 (ds.length : Int) ∧ ds.length ≤ ns.length ∧ (∀ x ∈ ds, x ≤ 8) ∧ ZeroAt wr db ds ∧ sizeL [] ns = sizeL ds (ns.drop ds.length) ∧ Below w.heap.size w wr) (fun v _ => ns.length - (intOf v).toNat)
    case atStart => exact ⟨[], rfl, Nat.zero_le _, fun x hx => (by cases hx), hz0.out, rfl, by repeat' (first | (with_reducible exact Below.refl _ _) | (with_reducible assumption) | (with_reducible refine Below.alloc ?_ ?_ _) | (with_reducible refine Below.drew ?_) | (with_reducible refine belowN ?_ _) | (with_reducible refine Below.setCell ?_ ?_ _) | (with_reducible refine belowG ?_ ?_) | (with_reducible exact Nat.le_refl _) | (with_reducible refine le_sizeG ?_) | (with_reducible refine le_sizeA ?_) | (with_reducible refine le_sizeC ?_) | (with_reducible refine le_sizeD ?_) | (with_reducible refine le_sizeN ?_) | go_size | (simp [go_sem]; done))⟩
    case round =>
      obtain ⟨ds, rfl, hle, hall, hz, hsz, hb⟩ := hrel
      rename World => wr
      subst hdb
      have hwz := hb.size
      by_cases hlt : ds.length < ns.length
      · obtain ⟨g, o, rfl, hg, hc⟩ := H.out wr hb (by omega)
        obtain ⟨n1, n2, n3, n4, n5, n6, n7⟩ := hc ds.length hlt
        rw [List.drop_eq_getElem_cons hlt, sizeL] at hsz
        generalize ns[ds.length] = n at *
        obtain ⟨x0, z1, z2, z3⟩ := zero_cell hz ds.length (by omega)
        have i1 : InW g wr := ⟨hg⟩
        have i2 : InW w.heap.size wr := ⟨z3⟩
        have hzK := Lib.hid hz
        have hallK := Lib.hid hall
        have hszK := Lib.hid hsz
        have hltI : (ds.length : Int) < 32 := by omega
        have hltN : ds.length < 32 := by omega
        have P := fun wx => Lib.hid (parts_any n wx)
        unfold ndV at P
        replace P := Lib.hid P
        clear hz hall hsz hc hz0
        go_wp2_with fail
        refine ((P.out _).out).mono ?_
        intro e w1 hr
        obtain ⟨pb, pc, rfl, hpb, hpbl, hb1⟩ := hr
        have D1 : DeepAt w1 w.heap.size ds 1 := deep_keep (deep_keep (deep_set hzK.out hltN 1 (x := 1) rfl) (by repeat' (first | (with_reducible exact Below.refl _ _) | (with_reducible assumption) | (with_reducible refine Below.alloc ?_ ?_ _) | (with_reducible refine Below.drew ?_) | (with_reducible refine belowN ?_ _) | (with_reducible refine Below.setCell ?_ ?_ _) | (with_reducible refine belowG ?_ ?_) | (with_reducible exact Nat.le_refl _) | (with_reducible refine le_sizeG ?_) | (with_reducible refine le_sizeA ?_) | (with_reducible refine le_sizeC ?_) | (with_reducible refine le_sizeD ?_) | (with_reducible refine le_sizeN ?_) | go_size | (simp [go_sem]; done)))) hb1
        have hb2 : Below w.heap.size w w1 := Below.trans (by repeat' (first | (with_reducible exact Below.refl _ _) | (with_reducible assumption) | (with_reducible refine Below.alloc ?_ ?_ _) | (with_reducible refine Below.drew ?_) | (with_reducible refine belowN ?_ _) | (with_reducible refine Below.setCell ?_ ?_ _) | (with_reducible refine belowG ?_ ?_) | (with_reducible exact Nat.le_refl _) | (with_reducible refine le_sizeG ?_) | (with_reducible refine le_sizeA ?_) | (with_reducible refine le_sizeC ?_) | (with_reducible refine le_sizeD ?_) | (with_reducible refine le_sizeN ?_) | go_size | (simp [go_sem]; done))) (hb1.mono (by simp [go_sem]))
        have hplt := lt_of_block hpb
        have hpne : ¬ pb = w.heap.size := by simp [go_sem] at hpbl; omega
        have hc2 : cnt n.op ≤ 2 := by
          unfold cnt
          (repeat' split) <;> omega
        have hfold := fold_le hallK.out
        have hdo := deepOf_fold ds n
        generalize cnt n.op = c at *
        have hD1 := Lib.hid D1
        have hdK := Lib.hid hdo
        have hpbK := Lib.hid hpb
        clear hb1 hpbl P x0 z1 z2 z3 n1 n2 n3 n4 n5 n6 n7 i1 i2 D1 hdo hpb
        go_wp2
        go_loopw [23] (fun v wx => ∃ k : Nat, v = .int .i64 (k : Int) ∧ k ≤ c ∧ DeepAt wx w.heap.size ds ((([n.l, n.r].take k)).foldl (stepD ds) 1) ∧ wx.heap[pb]? = some (.cells #[.int .i64 n.l, .int .i64 n.r] 3 (0, 0)) ∧ Below w.heap.size w wx) (fun v _ => c - (intOf v).toNat)
        case atStart => exact ⟨0, rfl, Nat.zero_le _, hD1.out, hpbK.out, hb2⟩
        case round =>
          obtain ⟨k, rfl, hkc, hD, hpx, hbx⟩ := hrel
          rename World => wx
          have hbxz := hbx.size
          have hdle := hfold ([n.l, n.r].take k) 1 (by omega)
          obtain ⟨d1, d2, d3, d4⟩ := deep_cell hD
          have i1 : InW w.heap.size wx := ⟨d4⟩
          have hDK := Lib.hid hD
          have hpK := Lib.hid hpx
          by_cases hk : k < c
          · obtain ⟨p, hp, hnx⟩ : ∃ p : Int, wx.cell? ⟨pb, k, none⟩ = some (.int .i64 p) ∧ ([n.l, n.r].take (k + 1)).foldl (stepD ds) 1 = stepD ds (([n.l, n.r].take k).foldl (stepD ds) 1) p := by
              rcases (by omega : k = 0 ∨ k = 1) with rfl | rfl
              · exact ⟨n.l, by rw [cell_of_row wx pb 0 _ _ _ hpx]; rfl, rfl⟩
              · exact ⟨n.r, by rw [cell_of_row wx pb 1 _ _ _ hpx]; rfl, rfl⟩
            have j1 : InW pb wx := ⟨lt_of_block hpx⟩
            have hnxK := Lib.hid hnx
            generalize ([n.l, n.r].take k).foldl (stepD ds) 1 = d at *
            have f1 := d3 ds.length
            clear hD hpx hnx d3
            by_cases hp0 : 0 ≤ p
            · obtain ⟨m, rfl⟩ : ∃ m : Nat, p = m := ⟨p.toNat, by omega⟩
              by_cases hpi : m < ds.length
              · have hs := hnxK.out.trans (stepD_in hpi d)
                have hx8 := hallK.out _ (List.getElem_mem hpi)
                have hcell := d2 m hpi
                generalize ds[m] = y at *
                have hsK := Lib.hid hs
                clear hs d2 hnxK
                have hm32 : (m : Int) < 32 := by omega
                have hmi : (m : Int) < (ds.length : Int) := by omega
                have hy : (y : Int) ≤ 8 := by omega
                go_wp2_with fail
                go_region
                go_wp2
                have hmx : max (d : Int) ((y : Int) + 1) = ((max d (y + 1) : Nat) : Int) := by omega
                go_roundw
                case rel => exact ⟨k + 1, by go_num, by omega, by rw [hsK.out]; exact deep_keep (deep_set (zero_of hDK.out) hltN (max d (y + 1)) hmx) (by repeat' (first | (with_reducible exact Below.refl _ _) | (with_reducible assumption) | (with_reducible refine Below.alloc ?_ ?_ _) | (with_reducible refine Below.drew ?_) | (with_reducible refine belowN ?_ _) | (with_reducible refine Below.setCell ?_ ?_ _) | (with_reducible refine belowG ?_ ?_) | (with_reducible exact Nat.le_refl _) | (with_reducible refine le_sizeG ?_) | (with_reducible refine le_sizeA ?_) | (with_reducible refine le_sizeC ?_) | (with_reducible refine le_sizeD ?_) | (with_reducible refine le_sizeN ?_) | go_size | (simp [go_sem]; done))), (Below.heap_setCell _ _ _ _ hpne).trans hpK.out, by repeat' (first | (with_reducible exact Below.refl _ _) | (with_reducible assumption) | (with_reducible refine Below.alloc ?_ ?_ _) | (with_reducible refine Below.drew ?_) | (with_reducible refine belowN ?_ _) | (with_reducible refine Below.setCell ?_ ?_ _) | (with_reducible refine belowG ?_ ?_) | (with_reducible exact Nat.le_refl _) | (with_reducible refine le_sizeG ?_) | (with_reducible refine le_sizeA ?_) | (with_reducible refine le_sizeC ?_) | (with_reducible refine le_sizeD ?_) | (with_reducible refine le_sizeN ?_) | go_size | (simp [go_sem]; done))⟩
                case measure => simp [intOf]; omega
              · have hs := hnxK.out.trans (stepD_out (by omega) d)
                have hsK := Lib.hid hs
                clear hs d2 hnxK
                have hmi : ¬ (m : Int) < (ds.length : Int) := by omega
                go_wp2
                go_roundw
                case rel => exact ⟨k + 1, by go_num, by omega, by rw [hsK.out]; exact hDK.out, hpK.out, hbx⟩
                case measure => simp [intOf]; omega
            · have hs := hnxK.out.trans (stepD_out (by omega) d)
              have hsK := Lib.hid hs
              clear hs d2 hnxK
              go_wp2
              go_roundw
              case rel => exact ⟨k + 1, by go_num, by omega, by rw [hsK.out]; exact hDK.out, hpK.out, hbx⟩
              case measure => simp [intOf]; omega
          · obtain rfl : k = c := by omega
            have hde := hdK.out
            have f1 := d3 ds.length
            obtain ⟨d, hd⟩ : ∃ d, ([n.l, n.r].take k).foldl (stepD ds) 1 = d := ⟨_, rfl⟩
            rw [hd] at hde hdle hDK d1
            have hszq := hszK.out
            rw [hde] at hszq
            have hdeK := Lib.hid hde
            clear hd hD hpx d2 d3 hde hdK
            by_cases h8 : 8 < d
            · rw [if_pos h8] at hszq
              have hres := Lib.hid hszq
              have h8' : (8 : Int) < (d : Int) := by omega
              clear hszq hszK
              go_wp2
              go_returns
              exact ⟨by rw [hres.out]; rfl, hbx⟩
            · rw [if_neg h8] at hszq
              have hnext := Lib.hid hszq
              have h8' : ¬ (8 : Int) < (d : Int) := by omega
              clear hszq hszK
              go_wp2
              have hlen := Lib.hid (show (ds ++ [d]).length = ds.length + 1 by simp)
              go_roundw
              case rel => exact ⟨ds ++ [d], by rw [hlen.out]; go_num, by rw [hlen.out]; omega, fun x hx => by
                rcases List.mem_append.1 hx with h | h
                · exact hallK.out x h
                · simp at h; omega, deep_next hDK.out, by rw [hlen.out]; exact hnext.out, hbx⟩
              case measure => simp [intOf]; omega
      · have e : ds.length = ns.length := by omega
        rw [e, List.drop_length, sizeL] at hsz
        have hres := Lib.hid hsz
        clear hsz
        have hge : ¬ ((ds.length : Int) < (ns.length : Int)) := by omega
        replace e := Lib.hid e
        go_wp2
        go_returns
        exact ⟨by rw [hres.out]; rfl, hb⟩
end Go.Proofs.YtkjgfcbanlcmgaaGreatDoor

