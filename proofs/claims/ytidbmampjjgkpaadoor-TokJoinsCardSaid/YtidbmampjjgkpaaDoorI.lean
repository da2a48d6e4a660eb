import Derived.Test.YtidbmampjjgkpaaDoorA
import Derived.WalkKit
import Derived.ProofKit
import Derived.OpenShut
import Derived.Handy
import Derived.BigQuiet
import Derived.Lib.Hide
import Derived.WalkLawsBesides
namespace Go.Proofs.YtidbmampjjgkpaaDoor
open Go.RowKit
/-- Which of two texts stands ahead: byte by byte. -/
theorem bless_cons (a b : UInt8) (x y : List UInt8) : Op.bytesLess (a :: x) (b :: y) = (decide (a < b) || (a == b && Op.bytesLess x y)) := rfl
theorem bless_same : ∀ (k : Nat) (x y : List UInt8), x.take k = y.take k → k ≤ x.length → k ≤ y.length → Op.bytesLess x y = Op.bytesLess (x.drop k) (y.drop k)
  | 0, _, _, _, _, _ => by simp
  | k + 1, [], _, _, h, _ => by simp at h
  | k + 1, _ :: _, [], _, _, h => by simp at h
  | k + 1, a :: x, b :: y, h, h1, h2 => by
    simp only [List.take_succ_cons, List.cons.injEq] at h
    obtain ⟨rfl, h⟩ := h
    rw [bless_cons, List.drop_succ_cons, List.drop_succ_cons, ← bless_same k x y h (by simpa using h1) (by simpa using h2)]
    have : ¬ a < a := by exact UInt8.lt_irrefl a
    simp [this]
def Pre (a b : ByteArray) (k : Nat) : Prop := k ≤ a.size ∧ k ≤ b.size ∧ a.data.toList.take k = b.data.toList.take k
theorem pre_zero (a b : ByteArray) : Pre a b 0 := ⟨by omega, by omega, by simp⟩
theorem drop_cons (s : ByteArray) (k : Nat) (h : k < s.size) : s.data.toList.drop k = s[k] :: s.data.toList.drop (k + 1) := by
  rw [List.drop_eq_getElem_cons (by simpa using h)]; rfl
theorem take_snoc (s : ByteArray) (k : Nat) (h : k < s.size) : s.data.toList.take (k + 1) = s.data.toList.take k ++ [s[k]] := by
  rw [List.take_succ_eq_append_getElem (by simpa using h)]; rfl
theorem pre_len (s : ByteArray) : s.data.toList.length = s.size := by simp
theorem pre_succ {a b : ByteArray} {k : Nat} (h : Pre a b k) (ha : k < a.size) (hb : k < b.size) (he : a[k] = b[k]) : Pre a b (k + 1) :=
  ⟨by omega, by omega, by rw [take_snoc a k ha, take_snoc b k hb, h.2.2, he]⟩
theorem pre_at {a b : ByteArray} {k : Nat} (h : Pre a b k) (ha : k < a.size) (hb : k < b.size) (he : a[k] ≠ b[k]) : Op.bytesLess a.data.toList b.data.toList = decide (a[k].toNat < b[k].toNat) := by
  rw [bless_same k _ _ h.2.2 (by rw [pre_len]; exact h.1) (by rw [pre_len]; exact h.2.1), drop_cons a k ha, drop_cons b k hb, bless_cons]
  have e : (a[k] == b[k]) = false := by simpa using he
  rw [e, Bool.false_and, Bool.or_false, decide_eq_decide, UInt8.lt_iff_toNat_lt]
theorem pre_end {a b : ByteArray} {k : Nat} (h : Pre a b k) (he : k = a.size ∨ k = b.size) : Op.bytesLess a.data.toList b.data.toList = decide (a.size < b.size) := by
  rw [bless_same k _ _ h.2.2 (by rw [pre_len]; exact h.1) (by rw [pre_len]; exact h.2.1)]
  obtain ⟨h1, h2, _⟩ := h
  by_cases hb : k = b.size
  · have e : b.data.toList.drop k = [] := List.drop_of_length_le (by rw [pre_len]; omega)
    rw [e]
    have : Op.bytesLess (a.data.toList.drop k) [] = false := by cases a.data.toList.drop k <;> rfl
    rw [this]; symm; simp; omega
  · obtain rfl : k = a.size := by omega
    have e : a.data.toList.drop a.size = [] := List.drop_of_length_le (by rw [pre_len]; omega)
    rw [e, drop_cons b _ (by omega)]
    have : Op.bytesLess [] (b[a.size] :: b.data.toList.drop (a.size + 1)) = true := rfl
    rw [this]; symm; simp; omega
theorem before_n (k : Int) (hk : (k == 3) = false) (n : Int) (s : ByteArray) (k2 n2 : Int) (s2 : ByteArray) (w : World) : Calls Tryd.prog 55 #[.agg #[.int .i64 k, .int .i64 n, .string s], .agg #[.int .i64 k2, .int .i64 n2, .string s2]] w (Ret (.bool (decide (n < n2))) w) := by
  go_enter Tryd.func55, Tryd.ntmps55
  go_wp2
  go_returns
  exact ⟨rfl, by repeat' (first | (with_reducible exact Below.refl _ _) | (with_reducible assumption) | (with_reducible refine Below.alloc ?_ ?_ _) | (with_reducible refine Below.drew ?_) | (with_reducible refine belowN ?_ _) | (with_reducible refine Below.setCell ?_ ?_ _) | (with_reducible refine belowG ?_ ?_) | (with_reducible refine le_sizeG ?_) | go_size | (simp [go_sem]; done))⟩
set_option maxHeartbeats 1000000 in
theorem before_s (n : Int) (s : ByteArray) (k2 n2 : Int) (s2 : ByteArray) (w : World) (hs : s.size ≤ maxLen) (_hs2 : s2.size ≤ maxLen) : Calls Tryd.prog 55 #[.agg #[.int .i64 3, .int .i64 n, .string s], .agg #[.int .i64 k2, .int .i64 n2, .string s2]] w (Ret (.bool (Op.bytesLess s.data.toList s2.data.toList)) w) := by
  unfold maxLen at hs _hs2
  go_enter Tryd.func55, Tryd.ntmps55
  go_wp2
  go_loopw [5] (fun i wr => ∃ k : Nat, ∃ m : Nat, i = .int .i64 k ∧ Pre s s2 k ∧ wr = (((w.alloc (.cells #[.int .i64 3, .int .i64 n, .string s] 26)).alloc (.cells #[.int .i64 k2, .int .i64 n2, .string s2] 26))).drewN m) (fun i _ => s.size - (intOf i).toNat)
  case atStart => exact ⟨0, 0, rfl, pre_zero _ _, rfl⟩
  case round =>
    obtain ⟨k, m, rfl, hp, rfl⟩ := hrel
    have hp' := hp
    obtain ⟨q1, q2, -⟩ := hp'
    by_cases h1 : k < s.size
    · by_cases h2 : k < s2.size
      · by_cases h3 : s[k] = s2[k]
        · have hn := pre_succ hp h1 h2 h3
          have h4 : ((s[k].toNat : Int) == (s2[k].toNat : Int)) = true := by rw [h3]; simp
          have h4' : ((s[k].toNat : Int) != (s2[k].toNat : Int)) = false := by rw [h3]; simp
          clear h3 hp
          go_wp2
          go_quiet (fail)
          go_wp2
          go_roundw
          case rel => exact ⟨k + 1, _, by go_num, hn, rfl⟩
          case measure => simp [intOf]; omega
        · have hn := Lib.hid (pre_at hp h1 h2 h3)
          have h4 : ((s[k].toNat : Int) == (s2[k].toNat : Int)) = false := by rw [beq_eq_false_iff_ne]; intro e; exact h3 (UInt8.toNat_inj.1 (by omega))
          have h4' : ((s[k].toNat : Int) != (s2[k].toNat : Int)) = true := by rw [bne, h4]; rfl
          clear h3 hp
          go_wp2
          go_quiet (fail)
          go_wp2
          go_quiet (fail)
          go_wp2
          go_returns
          exact ⟨ret_bl hn.out.symm, by repeat' (first | (with_reducible exact Below.refl _ _) | (with_reducible assumption) | (with_reducible refine Below.alloc ?_ ?_ _) | (with_reducible refine Below.drew ?_) | (with_reducible refine belowN ?_ _) | (with_reducible refine Below.setCell ?_ ?_ _) | (with_reducible refine belowG ?_ ?_) | (with_reducible refine le_sizeG ?_) | go_size | (simp [go_sem]; done))⟩
      · have hn := Lib.hid (pre_end hp (Or.inr (by omega)))
        clear hp
        go_wp2
        go_returns
        exact ⟨ret_bl hn.out.symm, by repeat' (first | (with_reducible exact Below.refl _ _) | (with_reducible assumption) | (with_reducible refine Below.alloc ?_ ?_ _) | (with_reducible refine Below.drew ?_) | (with_reducible refine belowN ?_ _) | (with_reducible refine Below.setCell ?_ ?_ _) | (with_reducible refine belowG ?_ ?_) | (with_reducible refine le_sizeG ?_) | go_size | (simp [go_sem]; done))⟩
    · have hn := Lib.hid (pre_end hp (Or.inl (by omega)))
      clear hp
      go_wp2
      go_returns
      exact ⟨ret_bl hn.out.symm, by repeat' (first | (with_reducible exact Below.refl _ _) | (with_reducible assumption) | (with_reducible refine Below.alloc ?_ ?_ _) | (with_reducible refine Below.drew ?_) | (with_reducible refine belowN ?_ _) | (with_reducible refine Below.setCell ?_ ?_ _) | (with_reducible refine belowG ?_ ?_) | (with_reducible refine le_sizeG ?_) | go_size | (simp [go_sem]; done))⟩
end Go.Proofs.YtidbmampjjgkpaaDoor
