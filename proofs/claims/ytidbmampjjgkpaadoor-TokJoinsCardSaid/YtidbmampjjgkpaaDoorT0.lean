import Derived.Test.YtidbmampjjgkpaaDoorLX
import Derived.Test.YtidbmampjjgkpaaDoorQ0
import Derived.WalkKit
import Derived.ProofKit
import Derived.OpenShut
import Derived.Handy
import Derived.BigQuiet
import Derived.Lib.Hide
import Derived.WalkLawsBesides
namespace Go.Proofs.YtidbmampjjgkpaaDoor
open Go.RowKit
theorem dropK (t : ByteArray) (k : Nat) (h : k < t.size) : t.data.toList.drop k = t[k] :: t.data.toList.drop (k + 1) := by
  rw [List.drop_eq_getElem_cons (by simpa using h)]
  rfl
theorem letter_any (c : UInt8) (w : World) : Calls Tryd.prog 84 #[.int .u8 c.toNat] w (RetW (.bool (letB c)) w) := by
  by_cases h1 : 97 ≤ (c.toNat : Int) <;> by_cases h2 : (c.toNat : Int) ≤ 122
  all_goals
    have e : letB c = (decide (97 ≤ (c.toNat : Int)) && decide ((c.toNat : Int) ≤ 122)) := rfl
    simp [h1, h2] at e
    replace e := Lib.hid e
    go_enter Tryd.func84, Tryd.ntmps84
    go_wp2
    go_returns
    exact ⟨by rw [e.out]; rfl, rfl⟩
theorem digit_any (c : UInt8) (w : World) : Calls Tryd.prog 86 #[.int .u8 c.toNat] w (RetW (.bool (digB c)) w) := by
  by_cases h1 : 48 ≤ (c.toNat : Int) <;> by_cases h2 : (c.toNat : Int) ≤ 57
  all_goals
    have e : digB c = (decide (48 ≤ (c.toNat : Int)) && decide ((c.toNat : Int) ≤ 57)) := rfl
    simp [h1, h2] at e
    replace e := Lib.hid e
    go_enter Tryd.func86, Tryd.ntmps86
    go_wp2
    go_returns
    exact ⟨by rw [e.out]; rfl, rfl⟩
theorem dot_any (s : ByteArray) (k : Nat) (hk : k < s.size) (hs : s.size ≤ 9223372036854775000) (w : World) :
    Calls Tryd.prog 108 #[.string s, .int .i64 k] w (RetW (.bool (((s[k].toNat : Int) == 46) && headL (s.data.toList.drop (k + 1)))) w) := by
  have L := fun c wx => Lib.hid (letter_any c wx)
  have L := Lib.hid L
  rcases h1 : ((s[k].toNat : Int) == 46)
  · go_enter Tryd.func108, Tryd.ntmps108
    go_wp2_with ((with_reducible refine ((L.out _ _).out).mono ?_); rintro e w1 ⟨rfl, rfl⟩)
    go_returns
    exact ⟨rfl, rfl⟩
  · by_cases h2 : k + 1 < s.size
    · have e : headL (s.data.toList.drop (k + 1)) = letB s[k + 1] := by rw [dropK s (k + 1) h2]; rfl
      replace e := Lib.hid e
      go_enter Tryd.func108, Tryd.ntmps108
      go_wp2_with ((with_reducible refine ((L.out _ _).out).mono ?_); rintro e w1 ⟨rfl, rfl⟩)
      go_returns
      exact ⟨by rw [e.out]; rfl, rfl⟩
    · have e : headL (s.data.toList.drop (k + 1)) = false := by rw [List.drop_of_length_le (by simp; omega)]; rfl
      replace e := Lib.hid e
      go_enter Tryd.func108, Tryd.ntmps108
      go_wp2_with ((with_reducible refine ((L.out _ _).out).mono ?_); rintro e w1 ⟨rfl, rfl⟩)
      go_returns
      exact ⟨by rw [e.out]; rfl, rfl⟩
theorem blank_c (s : ByteArray) (k : Nat) (hk : k < s.size) (_hs : s.size ≤ 9223372036854775000) (b : Nat) (w : World) (hb : w.cell? ⟨b, 0, none⟩ = some (.string s)) :
    Calls Tryd.prog 83 #[.int .i64 k, .pointer (some ⟨b, 0, none⟩)] w (RetW (.bool (blankL (s.data.toList.drop k))) w) := by
  have e : blankL (s.data.toList.drop k) = ((s[k].toNat : Int) == 32) := by rw [dropK s k hk]; rfl
  replace e := Lib.hid e
  go_enter Tryd.func83, Tryd.ntmps83
  go_wp2
  go_returns
  exact ⟨by rw [e.out]; rfl, rfl⟩
theorem digit_c (s : ByteArray) (k : Nat) (hk : k < s.size) (_hs : s.size ≤ 9223372036854775000) (b : Nat) (w : World) (hb : w.cell? ⟨b, 0, none⟩ = some (.string s)) :
    Calls Tryd.prog 110 #[.int .i64 k, .pointer (some ⟨b, 0, none⟩)] w (RetW (.bool (digL (s.data.toList.drop k))) w) := by
  have e : digL (s.data.toList.drop k) = digB s[k] := by rw [dropK s k hk]; rfl
  replace e := Lib.hid e
  go_enter Tryd.func110, Tryd.ntmps110
  go_wp2_with ((with_reducible refine (digit_any _ _).mono ?_); rintro e w1 ⟨rfl, rfl⟩)
  go_returns
  exact ⟨by rw [e.out]; rfl, rfl⟩
theorem word_c (s : ByteArray) (k : Nat) (hk : k < s.size) (hs : s.size ≤ 9223372036854775000) (b : Nat) (w : World) (hb : w.cell? ⟨b, 0, none⟩ = some (.string s)) :
    Calls Tryd.prog 107 #[.int .i64 k, .pointer (some ⟨b, 0, none⟩)] w (RetW (.bool (wordL (s.data.toList.drop k))) w) := by
  have e : wordL (s.data.toList.drop k) = (letB s[k] || digB s[k] || (s[k].toNat : Int) == 95 || (((s[k].toNat : Int) == 46) && headL (s.data.toList.drop (k + 1)))) := by rw [dropK s k hk]; rfl
  have D := fun wx => Lib.hid (dot_any s k hk hs wx)
  replace D := Lib.hid D
  have L := fun wx => Lib.hid (letter_any s[k] wx)
  replace L := Lib.hid L
  have I := fun wx => Lib.hid (digit_any s[k] wx)
  replace I := Lib.hid I
  generalize (((s[k].toNat : Int) == 46) && headL (s.data.toList.drop (k + 1))) = d at *
  rcases h1 : letB s[k] <;> rcases h2 : digB s[k] <;> rcases h3 : ((s[k].toNat : Int) == 95)
  all_goals
    rw [h1] at L
    rw [h2] at I
    rw [h1, h2, h3] at e
    simp only [Bool.or_true, Bool.or_false, Bool.true_or, Bool.false_or] at e
    replace e := Lib.hid e
    clear h1 h2
    go_enter Tryd.func107, Tryd.ntmps107
    go_wp2_with (first | ((with_reducible refine ((L.out _).out).mono ?_); rintro e w1 ⟨rfl, rfl⟩) | ((with_reducible refine ((I.out _).out).mono ?_); rintro e w1 ⟨rfl, rfl⟩) | ((with_reducible refine ((D.out _).out).mono ?_); rintro e w1 ⟨rfl, rfl⟩))
    go_returns
    exact ⟨by rw [e.out]; rfl, rfl⟩
def SpanTo (p : List UInt8 → Bool) (s : ByteArray) (a k : Nat) : Prop := a + spanL p (s.data.toList.drop a) = k + spanL p (s.data.toList.drop k)
theorem span_step (p : List UInt8 → Bool) (s : ByteArray) (a k : Nat) (hk : k < s.size) (hp : p (s.data.toList.drop k) = true) (h : SpanTo p s a k) : SpanTo p s a (k + 1) := by
  unfold SpanTo at *
  rw [h]
  rw [dropK s k hk] at hp ⊢
  rw [span_yes hp]
  omega
theorem span_stop (p : List UInt8 → Bool) (s : ByteArray) (a k : Nat) (hk : k < s.size) (hp : p (s.data.toList.drop k) = false) (h : SpanTo p s a k) : a + spanL p (s.data.toList.drop a) = k := by
  unfold SpanTo at *
  rw [h]
  rw [dropK s k hk] at hp ⊢
  rw [span_no hp]
  omega
theorem span_end (p : List UInt8 → Bool) (s : ByteArray) (a k : Nat) (hk : ¬ k < s.size) (h : SpanTo p s a k) : a + spanL p (s.data.toList.drop a) = k := by
  unfold SpanTo at *
  rw [h, List.drop_of_length_le (by simp; omega)]
  rfl
theorem blank_b (s : ByteArray) (a z : Nat) (hz : a + spanL blankL (s.data.toList.drop a) = z) (ha : a ≤ s.size) (hs : s.size ≤ 9223372036854775000) (b : Nat) (w : World) (hb : w.cell? ⟨b, 0, none⟩ = some (.string s)) :
    Calls Tryd.prog 82 #[.string s, .int .i64 a, .func (.func 83) #[] #[.pointer (some ⟨b, 0, none⟩)]] w (RetW (.int .i64 z) w) := by
  have C := fun k hk => Lib.hid (blank_c s k hk hs b w hb)
  replace C := Lib.hid C
  have S := fun k hk hp => Lib.hid (span_step blankL s a k hk hp)
  replace S := Lib.hid S
  have T := fun k hk hp => Lib.hid (fun h => hz.symm.trans (span_stop blankL s a k hk hp h))
  replace T := Lib.hid T
  have U := fun k hk => Lib.hid (fun h => hz.symm.trans (span_end blankL s a k hk h))
  replace U := Lib.hid U
  clear hb hz
  go_enter Tryd.func82, Tryd.ntmps82
  go_wp2
  go_loop [1] (fun i => ∃ k : Nat, k ≤ s.size ∧ i = .int .i64 k ∧ SpanTo blankL s a k) (fun i => s.size - (intOf i).toNat)
  case atStart => exact ⟨a, ha, rfl, rfl⟩
  case round =>
    obtain ⟨k, hk, rfl, hr⟩ := hrel
    by_cases hlt : k < s.size
    · have C := C.out k hlt
      rcases hp : blankL (s.data.toList.drop k)
      · have T := (T.out k hlt hp).out hr
        rw [hp] at C
        go_wp2_with ((with_reducible refine (C.out).mono ?_); rintro e w1 ⟨rfl, rfl⟩)
        go_returns
        exact ⟨by rw [T]; rfl, rfl⟩
      · have S := Lib.hid ((S.out k hlt hp).out hr)
        rw [hp] at C
        go_wp2_with ((with_reducible refine (C.out).mono ?_); rintro e w1 ⟨rfl, rfl⟩)
        go_round
        case rel => exact ⟨k + 1, by omega, by go_num, S.out⟩
        case measure => simp [intOf]; omega
    · have U := Lib.hid ((U.out k hlt).out hr)
      go_wp2
      go_returns
      exact ⟨by rw [U.out]; rfl, rfl⟩
theorem digit_b (s : ByteArray) (a z : Nat) (hz : a + spanL digL (s.data.toList.drop a) = z) (ha : a ≤ s.size) (hs : s.size ≤ 9223372036854775000) (b : Nat) (w : World) (hb : w.cell? ⟨b, 0, none⟩ = some (.string s)) :
    Calls Tryd.prog 82 #[.string s, .int .i64 a, .func (.func 110) #[] #[.pointer (some ⟨b, 0, none⟩)]] w (RetW (.int .i64 z) w) := by
  have C := fun k hk => Lib.hid (digit_c s k hk hs b w hb)
  replace C := Lib.hid C
  have S := fun k hk hp => Lib.hid (span_step digL s a k hk hp)
  replace S := Lib.hid S
  have T := fun k hk hp => Lib.hid (fun h => hz.symm.trans (span_stop digL s a k hk hp h))
  replace T := Lib.hid T
  have U := fun k hk => Lib.hid (fun h => hz.symm.trans (span_end digL s a k hk h))
  replace U := Lib.hid U
  clear hb hz
  go_enter Tryd.func82, Tryd.ntmps82
  go_wp2
  go_loop [1] (fun i => ∃ k : Nat, k ≤ s.size ∧ i = .int .i64 k ∧ SpanTo digL s a k) (fun i => s.size - (intOf i).toNat)
  case atStart => exact ⟨a, ha, rfl, rfl⟩
  case round =>
    obtain ⟨k, hk, rfl, hr⟩ := hrel
    by_cases hlt : k < s.size
    · have C := C.out k hlt
      rcases hp : digL (s.data.toList.drop k)
      · have T := (T.out k hlt hp).out hr
        rw [hp] at C
        go_wp2_with ((with_reducible refine (C.out).mono ?_); rintro e w1 ⟨rfl, rfl⟩)
        go_returns
        exact ⟨by rw [T]; rfl, rfl⟩
      · have S := Lib.hid ((S.out k hlt hp).out hr)
        rw [hp] at C
        go_wp2_with ((with_reducible refine (C.out).mono ?_); rintro e w1 ⟨rfl, rfl⟩)
        go_round
        case rel => exact ⟨k + 1, by omega, by go_num, S.out⟩
        case measure => simp [intOf]; omega
    · have U := Lib.hid ((U.out k hlt).out hr)
      go_wp2
      go_returns
      exact ⟨by rw [U.out]; rfl, rfl⟩
theorem word_b (s : ByteArray) (a z : Nat) (hz : a + spanL wordL (s.data.toList.drop a) = z) (ha : a ≤ s.size) (hs : s.size ≤ 9223372036854775000) (b : Nat) (w : World) (hb : w.cell? ⟨b, 0, none⟩ = some (.string s)) :
    Calls Tryd.prog 82 #[.string s, .int .i64 a, .func (.func 107) #[] #[.pointer (some ⟨b, 0, none⟩)]] w (RetW (.int .i64 z) w) := by
  have C := fun k hk => Lib.hid (word_c s k hk hs b w hb)
  replace C := Lib.hid C
  have S := fun k hk hp => Lib.hid (span_step wordL s a k hk hp)
  replace S := Lib.hid S
  have T := fun k hk hp => Lib.hid (fun h => hz.symm.trans (span_stop wordL s a k hk hp h))
  replace T := Lib.hid T
  have U := fun k hk => Lib.hid (fun h => hz.symm.trans (span_end wordL s a k hk h))
  replace U := Lib.hid U
  clear hb hz
  go_enter Tryd.func82, Tryd.ntmps82
  go_wp2
  go_loop [1] (fun i => ∃ k : Nat, k ≤ s.size ∧ i = .int .i64 k ∧ SpanTo wordL s a k) (fun i => s.size - (intOf i).toNat)
  case atStart => exact ⟨a, ha, rfl, rfl⟩
  case round =>
    obtain ⟨k, hk, rfl, hr⟩ := hrel
    by_cases hlt : k < s.size
    · have C := C.out k hlt
      rcases hp : wordL (s.data.toList.drop k)
      · have T := (T.out k hlt hp).out hr
        rw [hp] at C
        go_wp2_with ((with_reducible refine (C.out).mono ?_); rintro e w1 ⟨rfl, rfl⟩)
        go_returns
        exact ⟨by rw [T]; rfl, rfl⟩
      · have S := Lib.hid ((S.out k hlt hp).out hr)
        rw [hp] at C
        go_wp2_with ((with_reducible refine (C.out).mono ?_); rintro e w1 ⟨rfl, rfl⟩)
        go_round
        case rel => exact ⟨k + 1, by omega, by go_num, S.out⟩
        case measure => simp [intOf]; omega
    · have U := Lib.hid ((U.out k hlt).out hr)
      go_wp2
      go_returns
      exact ⟨by rw [U.out]; rfl, rfl⟩
/-- The place behind all blanks. -/
theorem blanks_any (s : ByteArray) (a z : Nat) (hz : a + spanL blankL (s.data.toList.drop a) = z) (ha : a ≤ s.size) (hs : s.size ≤ 9223372036854775000) (w : World) :
    Calls Tryd.prog 62 #[.string s, .int .i64 a] w (Ret (.int .i64 z) w) := by
  have B := fun b wx hb => Lib.hid (blank_b s a z hz ha hs b wx hb)
  replace B := Lib.hid B
  have hmf : ∀ (fn : Fn) (first cap : Array Value) (w : World), (Instr.makeFunc fn first cap).run Tryd.prog w = .ok (.func fn first cap) w := fun _ _ _ _ => rfl
  clear hz
  go_enter Tryd.func62, Tryd.ntmps62
  go_wp2_with ((with_reducible refine ((B.out _ _ (by simp [go_sem])).out).mono ?_); rintro e w1 ⟨rfl, rfl⟩)
  go_returns
  exact ⟨rfl, by repeat' (first | (with_reducible exact Below.refl _ _) | (with_reducible assumption) | (with_reducible refine Below.alloc ?_ ?_ _) | (with_reducible refine Below.drew ?_) | (with_reducible refine belowN ?_ _) | (with_reducible refine Below.setCell ?_ ?_ _) | (with_reducible refine belowG ?_ ?_) | (with_reducible exact Nat.le_refl _) | (with_reducible refine le_sizeG ?_) | (with_reducible refine le_sizeA ?_) | (with_reducible refine le_sizeC ?_) | (with_reducible refine le_sizeD ?_) | (with_reducible refine le_sizeN ?_) | go_size | (simp [go_sem]; done))⟩
end Go.Proofs.YtidbmampjjgkpaaDoor
