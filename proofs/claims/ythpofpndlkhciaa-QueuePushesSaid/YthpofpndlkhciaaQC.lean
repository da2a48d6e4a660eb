/- queue: timers as cells; which comes first; Arm. -/
import Derived.Test.YthpofpndlkhciaaQB
import Derived.Test.YthpofpndlkhciaaE3
import Derived.WalkKit
import Derived.ProofKit
import Derived.OpenShut
import Derived.Handy
import Derived.BigQuiet
import Derived.OwnWalk
import Derived.Deep.RegionHeld3
import Derived.Lib.Hide
import Derived.WalkSmall
import Derived.WalkLawsBesides
namespace Go.Proofs.Ythpofpndlkhciaa
open Go.RowKit
def tmC (t : Tm) : List Value := [.int .i64 t.due, .int .i64 t.seq, .string t.name]
def tmsC (l : List Tm) : List Value := l.flatMap tmC
abbrev tmV (t : Tm) : Value := .agg #[.int .i64 t.due, .int .i64 t.seq, .string t.name]
theorem tms_len (l : List Tm) : (tmsC l).length = l.length * 3 := by
  unfold tmsC
  induction l with
  | nil => rfl
  | cons t r ih => rw [List.flatMap_cons, List.length_append, ih, List.length_cons]; simp [tmC]; omega
theorem tms_one (l : List Tm) : ∀ u ∈ tmsC l, u.oneCell' = true := by
  intro u hu
  obtain ⟨t, _, hu⟩ := List.mem_flatMap.1 hu
  unfold tmC at hu
  simp only [List.mem_cons, List.not_mem_nil, or_false] at hu
  rcases hu with rfl | rfl | rfl <;> rfl
theorem tms_append (l r : List Tm) : tmsC (l ++ r) = tmsC l ++ tmsC r := List.flatMap_append
theorem tmsC_at : ∀ (l : List Tm) (i : Nat) (h : i < l.length) (j : Nat), j < 3 → (tmsC l)[i * 3 + j]? = (tmC l[i])[j]?
  | [], i, h, _, _ => absurd h (Nat.not_lt_zero _)
  | t :: r, 0, _, j, hj => by
    unfold tmsC
    rw [List.flatMap_cons, Nat.zero_mul, Nat.zero_add, List.getElem?_append_left (by simpa [tmC] using hj)]
    rfl
  | t :: r, i + 1, h, j, hj => by
    have ih := tmsC_at r i (by simpa using h) j hj
    unfold tmsC at *
    rw [List.flatMap_cons, List.getElem?_append_right (by simp [tmC]; omega), show (i + 1) * 3 + j - (tmC t).length = i * 3 + j by simp [tmC]; omega, ih]
    rfl
/-- Timers, where they lie. -/
def TmsAt (T : TypeId) (w : World) (ao : Option Addr) (c : Nat) (l : List Tm) : Prop := ∃ B, w.ownsRow B T 3 (.slice ao l.length c) l.length (tmsC l)
theorem tms_keep {T : TypeId} {w w' : World} {ao : Option Addr} {c : Nat} {l : List Tm} (h : TmsAt T w ao c l) (hb : Below w.heap.size w w') : TmsAt T w' ao c l := by
  obtain ⟨B, h⟩ := h
  exact ⟨B, owns_below h hb⟩
theorem tms_src {T : TypeId} {w : World} {ao : Option Addr} {c : Nat} {l : List Tm} (h : TmsAt T w ao c l) : SrcAt w ao c (tmsC l) := by
  obtain ⟨B, h⟩ := h
  exact src_own h
theorem tm_at {T : TypeId} {w : World} {ao : Option Addr} {c : Nat} {l : List Tm} (h : TmsAt T w ao c l) (i : Nat) (hi : i < l.length) : ∃ g, ao = some ⟨g, 0, none⟩ ∧ g < w.heap.size ∧ w.cell? ⟨g, i * 3, none⟩ = some (.int .i64 l[i].due) ∧ w.cell? ⟨g, i * 3 + 1, none⟩ = some (.int .i64 l[i].seq) ∧ w.cell? ⟨g, i * 3 + 2, none⟩ = some (.string l[i].name) := by
  obtain ⟨B, h⟩ := h
  obtain ⟨g, cap', e, hg, _, _, hc⟩ := own_head h (by omega)
  cases e
  exact ⟨g, rfl, hg, hc _ _ (tmsC_at l i hi 0 (by decide)), hc _ _ (tmsC_at l i hi 1 (by decide)), hc _ _ (tmsC_at l i hi 2 (by decide))⟩
theorem tms_form {T : TypeId} {w : World} {ao : Option Addr} {c : Nat} {l : List Tm} (h : TmsAt T w ao c l) : (ao = none ∧ c = 0 ∧ l = []) ∨ ∃ g, ao = some ⟨g, 0, none⟩ ∧ l.length ≤ c ∧ c ≤ maxLen := by
  obtain ⟨B, h⟩ := h
  rcases h.2 with ⟨e, h0⟩ | ⟨g, cap, cur, e, _, _, hc, hm, _⟩
  · obtain ⟨rfl, _, rfl⟩ := Value.slice.inj e
    exact .inl ⟨rfl, rfl, List.eq_nil_of_length_eq_zero h0⟩
  · obtain ⟨rfl, _, rfl⟩ := Value.slice.inj e
    exact .inr ⟨g, rfl, hc, hm⟩
/-! ### What comes first -/
def cmpZ (a b : Int) : Int := if a < b then -1 else if b < a then 1 else 0
def ordT (a b : Tm) : Int := if cmpZ a.due b.due = 0 then cmpZ a.seq b.seq else cmpZ a.due b.due
theorem ord_ah (a b : Tm) : (ordT a b ≤ 0) = (ahT b a = false) := by
  unfold ordT ahT cmpZ
  by_cases h1 : a.due < b.due
  · have : ¬ b.due < a.due := by omega
    have h3 : ¬ b.due = a.due := by omega
    simp [h1, this, h3]
  · by_cases h2 : b.due < a.due
    · simp [h1, h2]
    · have h3 : b.due = a.due := by omega
      by_cases h4 : a.seq < b.seq
      · have : ¬ b.seq < a.seq := by omega
        simp [h3, h4, this]
      · by_cases h5 : b.seq < a.seq
        · simp [h3, h4, h5]
        · simp [h3, h4, h5]
theorem cmp_lt {a b : Int} (h : a < b) : cmpZ a b = -1 := if_pos h
theorem cmp_gt {a b : Int} (h : b < a) : cmpZ a b = 1 := by unfold cmpZ; rw [if_neg (by omega), if_pos h]
theorem cmp_eq {a b : Int} (h : ¬ a < b) (k : ¬ b < a) : cmpZ a b = 0 := by unfold cmpZ; rw [if_neg h, if_neg k]
theorem nan64_any (a : Int) (w : World) : Calls Try.prog 32 #[.int .i64 a] w (RetW (.bool false) w) := by
  go_enter Try.func32, Try.ntmps32
  go_wp2
  go_returns
  exact ⟨by simp, rfl⟩
theorem nan_any (a : Int) (w : World) : Calls Try.prog 33 #[.int .i64 a] w (RetW (.bool false) w) := by
  go_enter Try.func33, Try.ntmps33
  go_wp2
  go_returns
  exact ⟨by simp, rfl⟩
set_option maxRecDepth 100000 in
theorem cmp64_any (a b : Int) (w : World) : Calls Try.prog 28 #[.int .i64 a, .int .i64 b] w (RetW (.int .i64 (cmpZ a b)) w) := by
  have N := Lib.hid (fun c wx => nan64_any c wx)
  by_cases h1 : a < b
  · rw [cmp_lt h1]
    go_enter Try.func28, Try.ntmps28
    go_wp2_with ((with_reducible refine (N.out _ _).mono ?_); rintro e w1 ⟨rfl, rfl⟩)
    go_returns
    exact ⟨rfl, rfl⟩
  · by_cases h2 : b < a
    · rw [cmp_gt h2]
      go_enter Try.func28, Try.ntmps28
      go_wp2_with ((with_reducible refine (N.out _ _).mono ?_); rintro e w1 ⟨rfl, rfl⟩)
      go_returns
      exact ⟨rfl, rfl⟩
    · rw [cmp_eq h1 h2]
      go_enter Try.func28, Try.ntmps28
      go_wp2_with ((with_reducible refine (N.out _ _).mono ?_); rintro e w1 ⟨rfl, rfl⟩)
      go_returns
      exact ⟨rfl, rfl⟩
set_option maxRecDepth 100000 in
theorem cmp_any (a b : Int) (w : World) : Calls Try.prog 29 #[.int .i64 a, .int .i64 b] w (RetW (.int .i64 (cmpZ a b)) w) := by
  have N := Lib.hid (fun c wx => nan_any c wx)
  by_cases h1 : a < b
  · rw [cmp_lt h1]
    go_enter Try.func29, Try.ntmps29
    go_wp2_with ((with_reducible refine (N.out _ _).mono ?_); rintro e w1 ⟨rfl, rfl⟩)
    go_returns
    exact ⟨rfl, rfl⟩
  · by_cases h2 : b < a
    · rw [cmp_gt h2]
      go_enter Try.func29, Try.ntmps29
      go_wp2_with ((with_reducible refine (N.out _ _).mono ?_); rintro e w1 ⟨rfl, rfl⟩)
      go_returns
      exact ⟨rfl, rfl⟩
    · rw [cmp_eq h1 h2]
      go_enter Try.func29, Try.ntmps29
      go_wp2_with ((with_reducible refine (N.out _ _).mono ?_); rintro e w1 ⟨rfl, rfl⟩)
      go_returns
      exact ⟨rfl, rfl⟩
set_option maxRecDepth 100000 in
theorem or_any (x y : Int) (g c : Nat) (w : World) (h0 : w.cell? ⟨g, 0, none⟩ = some (.int .i64 x)) (h1 : w.cell? ⟨g, 1, none⟩ = some (.int .i64 y)) :
    Calls Try.prog 27 #[.slice (some ⟨g, 0, none⟩) 2 c] w (Ret (.int .i64 (if x = 0 then y else x)) w) := by
  have C := Lib.hid (fun wx (hb : Below w.heap.size w wx) => And.intro ((hb.cell (p := ⟨g, 0, none⟩) (World.block_lt_of_cell? _ _ h0)).trans h0) ((hb.cell (p := ⟨g, 1, none⟩) (World.block_lt_of_cell? _ _ h1)).trans h1))
  have hg := World.block_lt_of_cell? _ _ h0
  obtain ⟨R, hR⟩ : ∃ R, (if x = 0 then y else x) = R := ⟨_, rfl⟩
  rw [hR]
  have r0 := Lib.hid (show (x != 0) = true → x = R from fun h => by rw [← hR, if_neg (by simpa using h)])
  have r1 := Lib.hid (show (x != 0) = false → y = R from fun h => by rw [← hR, if_pos (by simpa using h)])
  have r2 := Lib.hid (show (x != 0) = false → (y != 0) = false → 0 = R from fun h k => by rw [← hR, if_pos (by simpa using h)]; symm; simpa using k)
  clear h0 h1 hR
  go_enter Try.func27, Try.ntmps27
  go_wp2
  go_loopw [8] (fun v wr => ∃ i : Nat, v = .int .i64 (i : Int) ∧ (i = 0 ∨ i = 1 ∧ Hid ((x != 0) = false) ∨ i = 2 ∧ Hid ((x != 0) = false ∧ (y != 0) = false)) ∧ Below w.heap.size w wr) (fun v _ => 2 - (intOf v).toNat)
  case atStart => exact ⟨0, rfl, .inl rfl, by (first | exact gwT | exact lzT)⟩
  case round =>
    obtain ⟨i, rfl, hi, hb⟩ := hrel
    rename World => wr
    obtain ⟨k0, k1⟩ := C.out wr hb
    have hwz := hb.size
    have i1 : InW g wr := ⟨by omega⟩
    rcases hi with rfl | ⟨rfl, hx⟩ | ⟨rfl, hx⟩
    · obtain ⟨bz, hz⟩ : ∃ b, (x != 0) = b := ⟨_, rfl⟩
      cases bz
      · have hz' := Lib.hid hz
        go_wp2
        go_roundw
        case rel => exact ⟨1, rfl, .inr (.inl ⟨rfl, hz'⟩), by (first | exact gwT | exact lzT)⟩
        case measure => simp [intOf]
      · have R0 := Lib.hid (r0.out hz)
        go_wp2
        go_returns
        exact ⟨ret_int R0.out, by (first | exact gwT | exact lzT)⟩
    · obtain ⟨bz, hz⟩ : ∃ b, (y != 0) = b := ⟨_, rfl⟩
      cases bz
      · have hz' := Lib.hid (And.intro hx.out hz)
        go_wp2
        go_roundw
        case rel => exact ⟨2, rfl, .inr (.inr ⟨rfl, hz'⟩), by (first | exact gwT | exact lzT)⟩
        case measure => simp [intOf]
      · go_wp2
        go_returns
        exact ⟨ret_int (r1.out hx.out), by (first | exact gwT | exact lzT)⟩
    · go_wp2
      go_returns
      exact ⟨ret_int (r2.out hx.out.1 hx.out.2), by (first | exact gwT | exact lzT)⟩
set_option maxRecDepth 100000 in
theorem order_any (a b : Tm) (w : World) : Calls Try.prog 21 #[tmV a, tmV b] w (Ret (.int .i64 (ordT a b)) w) := by
  have C1 := Lib.hid (fun x y wx => cmp64_any x y wx)
  have C2 := Lib.hid (fun x y wx => cmp_any x y wx)
  unfold ordT
  generalize hx : cmpZ a.due b.due = x at *
  generalize hy : cmpZ a.seq b.seq = y at *
  have O := fun g c wx h0 h1 => or_any x y g c wx h0 h1
  generalize (if x = 0 then y else x) = R at *
  replace O := Lib.hid O
  go_enter Try.func21, Try.ntmps21
  go_wp2
  go_region_held3 (fun w' => w'.cell? ⟨w.heap.size, 0, none⟩ = some (.int .i64 a.due) ∧ w'.cell? ⟨w.heap.size, 1, none⟩ = some (.int .i64 a.seq) ∧ w'.cell? ⟨w.heap.size + 1, 0, none⟩ = some (.int .i64 b.due) ∧ w'.cell? ⟨w.heap.size + 1, 1, none⟩ = some (.int .i64 b.seq)) ((refine ⟨?_, ?_, ?_, ?_⟩ <;> first | assumption | (simp [go_sem, *]; done)))
    (first
      | ((with_reducible refine (C1.out _ _ _).mono ?_); rintro e w1 ⟨rfl, rfl⟩; rw [hx])
      | ((with_reducible refine (C2.out _ _ _).mono ?_); rintro e w1 ⟨rfl, rfl⟩; rw [hy])
      | ((with_reducible refine (O.out _ 2 _ (by simp [go_sem]) (by simp [go_sem])).mono ?_); intro e w1 hr; obtain ⟨rfl, p, rfl⟩ := hr.out; clear hr))
  go_wp2
  go_returns
  exact ⟨rfl, by (first | exact gwT | exact lzT)⟩
end Go.Proofs.Ythpofpndlkhciaa

