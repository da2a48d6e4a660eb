/- Sets of numbers: the document's example, and the law on what is joined, met and taken away. -/
import Derived.Test.YtniecghigmgbnaaDoorB9
namespace Go.Proofs.YtniecghigmgbnaaDoor
open Go.RowKit
/-- A number that a set may be. -/
def U64 (n : Int) : Prop := 0 ≤ n ∧ n < 18446744073709551616
theorem u64_nat {n : Int} (h : U64 n) : ∃ x : Nat, n = (x : Int) ∧ x < 2 ^ 64 := ⟨n.toNat, by unfold U64 at h; omega, by unfold U64 at h; omega⟩
theorem ints_row {w : World} {b : Nat} {T : TypeId} {xs : List Int} (h : w.heap[b]? = some (.cells (xs.map fun x => Value.int .i64 x).toArray T (0, 0))) : IntsRd w (some ⟨b, 0, none⟩) xs := fun i hi => by
  refine ⟨b, 0, rfl, (Array.getElem?_eq_some_iff.1 h).1, ?_⟩
  rw [Nat.zero_add, cell_of_row w b i _ _ _ h]
  simp [hi]
theorem sets_row {w : World} {b : Nat} {T : TypeId} {xs : List Nat} (h : w.heap[b]? = some (.cells (xs.map fun x : Nat => Value.int .u64 (x : Int)).toArray T (0, 0))) : SetsRd w (some ⟨b, 0, none⟩) xs := fun i hi => by
  refine ⟨b, rfl, (Array.getElem?_eq_some_iff.1 h).1, ?_⟩
  rw [cell_of_row w b i _ _ _ h]
  simp [hi]
theorem of_three (b : Nat) (w : World) (h : w.heap[b]? = some (.cells #[.int .i64 5, .int .i64 1, .int .i64 64] 3 (0, 0))) : Calls Tryd.prog 8 #[.slice (some ⟨b, 0, none⟩) 3 3] w (RetW (.int .u64 34) w) :=
  of_set (some ⟨b, 0, none⟩) 3 [5, 1, 64] (by decide) w (ints_row h)
theorem of_seven (b : Nat) (w : World) (h : w.heap[b]? = some (.cells #[.int .i64 7] 3 (0, 0))) : Calls Tryd.prog 8 #[.slice (some ⟨b, 0, none⟩) 1 1] w (RetW (.int .u64 128) w) :=
  of_set (some ⟨b, 0, none⟩) 1 [7] (by decide) w (ints_row h)
theorem show_34 (w : World) (hT : Db w) : Calls Tryd.prog 20 #[.int .u64 34] w (Ret (.string ⟨#[49, 44, 53]⟩) w) := by
  have := showS_any 34 (by decide) w hT
  rw [show (⟨(joinB (digsN (numsS 34)) ⟨#[44]⟩).toArray⟩ : ByteArray) = ⟨#[49, 44, 53]⟩ by decide +kernel] at this
  exact this
theorem first_128 (w : World) (hT : Db w) : Calls Tryd.prog 22 #[.int .u64 128] w (RetW (.int .i64 7) w) := by
  have := first_any 128 (by decide) (by decide) w hT
  rw [show Lib.ctz 64 128 = 7 by decide +kernel] at this
  exact this
set_option maxRecDepth 100000 in
set_option maxHeartbeats 2000000 in
theorem anchor10_any (w : World) (hT : Db w) : Calls Tryd.prog 6 #[] w (Ret (.bool true) w) := by
  have hD := Lib.hid (fun wx (hx : Below w.heap.size w wx) => db_below hT hx)
  clear hT
  go_enter Tryd.func6, Tryd.ntmps6
  go_wp2_with (first | ((with_reducible refine (of_three _ _ (new_at (by simp))).mono ?_); rintro e w1 ⟨rfl, rfl⟩) | ((with_reducible refine (of_seven _ _ (new_at (by simp))).mono ?_); rintro e w1 ⟨rfl, rfl⟩) | ((with_reducible refine (show_34 _ (hD.out _ (by (first | exact gwT | exact lzT)))).mono ?_); intro e w1 hr; obtain ⟨rfl, p, rfl⟩ := hr.out; clear hr) | ((with_reducible refine (first_128 _ (hD.out _ (by (first | exact gwT | exact lzT)))).mono ?_); rintro e w1 ⟨rfl, rfl⟩))
  go_returns
  exact ⟨rfl, by (first | exact gwT | exact lzT)⟩
theorem union_one (s t b : Nat) (hs : s < 2 ^ 64) (ht : t < 2 ^ 64) (w : World) (h : w.heap[b]? = some (.cells #[.int .u64 (t : Int)] 23 (0, 0))) : Calls Tryd.prog 15 #[.int .u64 (s : Int), .slice (some ⟨b, 0, none⟩) 1 1] w (RetW (.int .u64 ((s ||| t : Nat) : Int)) w) :=
  joinS_any (some ⟨b, 0, none⟩) 1 [t] (by simp) (by simpa using ht) s hs w (sets_row h)
theorem union_two (s t u b : Nat) (hs : s < 2 ^ 64) (ht : t < 2 ^ 64) (hu : u < 2 ^ 64) (w : World) (h : w.heap[b]? = some (.cells #[.int .u64 (t : Int), .int .u64 (u : Int)] 23 (0, 0))) : Calls Tryd.prog 15 #[.int .u64 (s : Int), .slice (some ⟨b, 0, none⟩) 2 2] w (RetW (.int .u64 ((s ||| t ||| u : Nat) : Int)) w) :=
  joinS_any (some ⟨b, 0, none⟩) 2 [t, u] (by simp) (by simp [ht, hu]) s hs w (sets_row h)
theorem union_none (s : Nat) (hs : s < 2 ^ 64) (w : World) : Calls Tryd.prog 15 #[.int .u64 (s : Int), .slice none 0 0] w (RetW (.int .u64 (s : Int)) w) :=
  joinS_any none 0 [] (by simp) (by simp) s hs w (fun i hi => absurd hi (Nat.not_lt_zero _))
/-! ### Plain -/
theorem less_union (s t u : Nat) (hs : s < 2 ^ 64) (ht : t < 2 ^ 64) : lessS (s ||| t) u = lessS s u ||| lessS t u := by
  refine bits_eq (lessS_lt _ (Nat.or_lt_two_pow hs ht)) (Nat.or_lt_two_pow (lessS_lt _ hs) (lessS_lt _ ht)) fun k _ => ?_
  simp only [lessS_bit, Nat.testBit_or]
  cases s.testBit k <;> cases t.testBit k <;> cases u.testBit k <;> rfl
theorem meet_less (s t : Nat) (hs : s < 2 ^ 64) : s &&& t ||| lessS s t = s := by
  refine bits_eq (Nat.or_lt_two_pow (Nat.lt_of_le_of_lt Nat.and_le_left hs) (lessS_lt _ hs)) hs fun k _ => ?_
  simp only [lessS_bit, Nat.testBit_or, Nat.testBit_and]
  cases s.testBit k <;> cases t.testBit k <;> rfl
theorem less_none {s t : Nat} (hs : s < 2 ^ 64) (h : ∀ k, k < 64 → s.testBit k = true → t.testBit k = true) : lessS s t = 0 := by
  refine bits_eq (lessS_lt _ hs) (by decide) fun k hk => ?_
  rw [lessS_bit, Nat.zero_testBit]
  cases h1 : s.testBit k
  · rfl
  · rw [h k hk h1]; rfl
theorem meet_in (s t : Nat) (hs : s < 2 ^ 64) : lessS (s &&& t) s = 0 := less_none (Nat.lt_of_le_of_lt Nat.and_le_left hs) fun k _ h => by
  rw [Nat.testBit_and, Bool.and_eq_true] at h
  exact h.1
theorem in_union (s t u : Nat) (hs : s < 2 ^ 64) : lessS s (s ||| t ||| u) = 0 := less_none hs fun k _ h => by
  rw [Nat.testBit_or, Nat.testBit_or, h]
  rfl
theorem sum_wrap (p1 p2 p3 p4 : Nat) (e : p1 + p4 = p2 + p3) (z2 : p2 ≤ 64) (z3 : p3 ≤ 64) (z4 : p4 ≤ 64) : wrap64 ((p2 : Int) + (p3 : Int)) = (p2 : Int) + (p3 : Int) ∧ wrap64 ((p2 : Int) + (p3 : Int) - (p4 : Int)) = (p1 : Int) := by
  unfold wrap64
  omega
set_option maxRecDepth 100000 in
set_option maxHeartbeats 4000000 in
/-- The walk of BitsLaws. -/
theorem laws10_walk (n0 n1 n2 : Int) (h0 : U64 n0) (h1 : U64 n1) (h2 : U64 n2) (w : World) (hT : Db w) : Calls Tryd.prog 5 #[.int .u64 n0, .int .u64 n1, .int .u64 n2] w (Ret (.bool true) w) := by
  obtain ⟨s, rfl, hs⟩ := u64_nat h0
  obtain ⟨t, rfl, ht⟩ := u64_nat h1
  obtain ⟨u, rfl, hu⟩ := u64_nat h2
  have hst := Nat.or_lt_two_pow hs ht
  have hm : s &&& t < 2 ^ 64 := Nat.lt_of_le_of_lt Nat.and_le_left hs
  have hA := Lib.hid (anchor10_any w hT)
  have j1 := Lib.hid (fun b wx => union_one s t b hs ht wx)
  have l1 := Lib.hid (fun wx => lessS_any (s ||| t) u hst hu wx)
  have l2 := Lib.hid (fun wx => lessS_any s u hs hu wx)
  have l3 := Lib.hid (fun wx => lessS_any t u ht hu wx)
  have j2 := Lib.hid (fun b wx => union_one (lessS s u) (lessS t u) b (lessS_lt _ hs) (lessS_lt _ ht) wx)
  have m1 := Lib.hid (fun wx => meet_any s t hs ht wx)
  have l4 := Lib.hid (fun wx => lessS_any s t hs ht wx)
  have j3 := Lib.hid (fun b wx => union_one (s &&& t) (lessS s t) b hm (lessS_lt _ hs) wx)
  have i1 := Lib.hid (fun wx => in_any (s &&& t) s hm hs wx)
  have j4 := Lib.hid (fun b wx => union_two s t u b hs ht hu wx)
  have i2 := Lib.hid (fun wx => in_any s (s ||| t ||| u) hs (Nat.or_lt_two_pow hst hu) wx)
  have c1 := Lib.hid (fun wx => countS_any (s ||| t) hst wx)
  have c2 := Lib.hid (fun wx => countS_any s hs wx)
  have c3 := Lib.hid (fun wx => countS_any t ht wx)
  have c4 := Lib.hid (fun wx => countS_any (s &&& t) hm wx)
  have e1 := less_union s t u hs ht
  have e2 := meet_less s t hs
  have e3 : (lessS (s &&& t) s == 0) = true := by rw [meet_in s t hs]; rfl
  have e4 : (lessS s (s ||| t ||| u) == 0) = true := by rw [in_union s t u hs]; rfl
  have e5 := count_both s t
  have z1 := nums_len (s ||| t)
  have z2 := nums_len s
  have z3 := nums_len t
  have z4 := nums_len (s &&& t)
  rw [e3] at i1
  rw [e4] at i2
  rw [e1] at l1
  rw [e2] at j3
  generalize (numsS (s ||| t)).length = p1 at *
  generalize (numsS s).length = p2 at *
  generalize (numsS t).length = p3 at *
  generalize (numsS (s &&& t)).length = p4 at *
  generalize lessS s u ||| lessS t u = q1 at *
  generalize lessS s u = q2 at *
  generalize lessS t u = q3 at *
  generalize lessS s t = q4 at *
  generalize s ||| t ||| u = q5 at *
  generalize s ||| t = q6 at *
  generalize s &&& t = q7 at *
  obtain ⟨g1, g2⟩ := sum_wrap p1 p2 p3 p4 e5 z2 z3 z4
  clear hT h0 h1 h2 hs ht hu hst hm e1 e2 e3 e4 e5 z1 z2 z3 z4
  go_enter Tryd.func5, Tryd.ntmps5
  go_wp2_with (first | ((with_reducible refine (hA.out).mono ?_); intro e w1 hr; obtain ⟨rfl, p, rfl⟩ := hr.out; clear hr) | ((with_reducible refine (j1.out _ _ (new_at (by simp))).mono ?_); rintro e w1 ⟨rfl, rfl⟩) | ((with_reducible refine (l1.out _).mono ?_); rintro e w1 ⟨rfl, rfl⟩) | ((with_reducible refine (l2.out _).mono ?_); rintro e w1 ⟨rfl, rfl⟩) | ((with_reducible refine (l3.out _).mono ?_); rintro e w1 ⟨rfl, rfl⟩))
  as_aux_lemma =>
    clear hA l1 l2 l3
    go_wp2_with (first | ((with_reducible refine (j2.out _ _ (new_at (by simp))).mono ?_); rintro e w1 ⟨rfl, rfl⟩) | ((with_reducible refine (m1.out _).mono ?_); rintro e w1 ⟨rfl, rfl⟩) | ((with_reducible refine (l4.out _).mono ?_); rintro e w1 ⟨rfl, rfl⟩))
    as_aux_lemma =>
      clear j2 l4
      go_wp2_with (first | ((with_reducible refine (j3.out _ _ (new_at (by simp))).mono ?_); rintro e w1 ⟨rfl, rfl⟩) | ((with_reducible refine (m1.out _).mono ?_); rintro e w1 ⟨rfl, rfl⟩) | ((with_reducible refine (i1.out _).mono ?_); rintro e w1 ⟨rfl, rfl⟩))
      as_aux_lemma =>
        clear j3 i1
        go_wp2_with (first | ((with_reducible refine (j4.out _ _ (new_at (by simp))).mono ?_); rintro e w1 ⟨rfl, rfl⟩) | ((with_reducible refine (i2.out _).mono ?_); rintro e w1 ⟨rfl, rfl⟩) | ((with_reducible refine (j1.out _ _ (new_at (by simp))).mono ?_); rintro e w1 ⟨rfl, rfl⟩))
        as_aux_lemma =>
          clear j4 i2 j1
          go_wp2_with (first | ((with_reducible refine (m1.out _).mono ?_); rintro e w1 ⟨rfl, rfl⟩) | ((with_reducible refine (c1.out _).mono ?_); rintro e w1 ⟨rfl, rfl⟩) | ((with_reducible refine (c2.out _).mono ?_); rintro e w1 ⟨rfl, rfl⟩) | ((with_reducible refine (c3.out _).mono ?_); rintro e w1 ⟨rfl, rfl⟩) | ((with_reducible refine (c4.out _).mono ?_); rintro e w1 ⟨rfl, rfl⟩))
          go_returns
          exact ⟨rfl, by (first | exact gwT | exact lzT)⟩
end Go.Proofs.YtniecghigmgbnaaDoor

