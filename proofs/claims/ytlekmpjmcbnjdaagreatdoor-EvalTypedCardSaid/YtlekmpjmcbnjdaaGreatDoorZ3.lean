/- Several texts of this proof, joined: I, J, L, M0, R0. -/
import Derived.Test.YtlekmpjmcbnjdaaGreatDoorZ1
import Derived.WalkKit
import Derived.ProofKit
import Derived.OpenShut
import Derived.Handy
import Derived.BigQuiet
import Derived.Lib.Hide
import Derived.WalkLawsBesides
import Derived.Test.YtlekmpjmcbnjdaaGreatDoorZ2
import Derived.Lib.Strings
namespace Go.Proofs.YtlekmpjmcbnjdaaGreatDoor
open Go.RowKit
/-- Which of two texts stands ahead: byte by byte. -/
theorem bless_cons (a b : UInt8) (x y : List UInt8) : Op.bytesLess (a :: x) (b :: y) = (decide (a < b) || (a == b && Op.bytesLess x y)) := rfl
theorem bless_same : ∀ (k : Nat) (x y : List UInt8), x.take k = y.take k → k ≤ x.length → k ≤ y.length → Op.bytesLess x y = Op.bytesLess (x.drop k) (y.drop k)
  | 0, _, _, _, _, _ => by simp
  | k + 1, [], _, _, h, _ => by simp at h
  | k + 1, _ :: _, [], _, _, h => by simp at h
  | k + 1, a :: x, b :: y, h, h1, h2 => by
    simp only [List.take_succ_cons, List.cons.injEq] at h
    obtain ⟨rfl, h⟩ := h
    rw [bless_cons, List.drop_succ_cons, List.drop_succ_cons, ← bless_same k x y h (by simpa using h1) (by simpa using h2)]
    have : ¬ a < a := by exact UInt8.lt_irrefl a
    simp [this]
def Pre (a b : ByteArray) (k : Nat) : Prop := k ≤ a.size ∧ k ≤ b.size ∧ a.data.toList.take k = b.data.toList.take k
theorem pre_zero (a b : ByteArray) : Pre a b 0 := ⟨by omega, by omega, by simp⟩
theorem drop_cons (s : ByteArray) (k : Nat) (h : k < s.size) : s.data.toList.drop k = s[k] :: s.data.toList.drop (k + 1) := by
  rw [List.drop_eq_getElem_cons (by simpa using h)]; rfl
theorem take_snoc (s : ByteArray) (k : Nat) (h : k < s.size) : s.data.toList.take (k + 1) = s.data.toList.take k ++ [s[k]] := by
  rw [List.take_succ_eq_append_getElem (by simpa using h)]; rfl
theorem pre_len (s : ByteArray) : s.data.toList.length = s.size := by simp
theorem pre_succ {a b : ByteArray} {k : Nat} (h : Pre a b k) (ha : k < a.size) (hb : k < b.size) (he : a[k] = b[k]) : Pre a b (k + 1) :=
  ⟨by omega, by omega, by rw [take_snoc a k ha, take_snoc b k hb, h.2.2, he]⟩
theorem pre_at {a b : ByteArray} {k : Nat} (h : Pre a b k) (ha : k < a.size) (hb : k < b.size) (he : a[k] ≠ b[k]) : Op.bytesLess a.data.toList b.data.toList = decide (a[k].toNat < b[k].toNat) := by
  rw [bless_same k _ _ h.2.2 (by rw [pre_len]; exact h.1) (by rw [pre_len]; exact h.2.1), drop_cons a k ha, drop_cons b k hb, bless_cons]
  have e : (a[k] == b[k]) = false := by simpa using he
  rw [e, Bool.false_and, Bool.or_false, decide_eq_decide, UInt8.lt_iff_toNat_lt]
theorem pre_end {a b : ByteArray} {k : Nat} (h : Pre a b k) (he : k = a.size ∨ k = b.size) : Op.bytesLess a.data.toList b.data.toList = decide (a.size < b.size) := by
  rw [bless_same k _ _ h.2.2 (by rw [pre_len]; exact h.1) (by rw [pre_len]; exact h.2.1)]
  obtain ⟨h1, h2, _⟩ := h
  by_cases hb : k = b.size
  · have e : b.data.toList.drop k = [] := List.drop_of_length_le (by rw [pre_len]; omega)
    rw [e]
    have : Op.bytesLess (a.data.toList.drop k) [] = false := by cases a.data.toList.drop k <;> rfl
    rw [this]; symm; simp; omega
  · obtain rfl : k = a.size := by omega
    have e : a.data.toList.drop a.size = [] := List.drop_of_length_le (by rw [pre_len]; omega)
    rw [e, drop_cons b _ (by omega)]
    have : Op.bytesLess [] (b[a.size] :: b.data.toList.drop (a.size + 1)) = true := rfl
    rw [this]; symm; simp; omega
theorem before_n (k : Int) (hk : (k == 3) = false) (n : Int) (s : ByteArray) (k2 n2 : Int) (s2 : ByteArray) (w : World) : Calls Tryz.prog 43 #[.agg #[.int .i64 k, .int .i64 n, .string s], .agg #[.int .i64 k2, .int .i64 n2, .string s2]] w (Ret (.bool (decide (n < n2))) w) := by
  go_enter Tryz.func43, Tryz.ntmps43
  go_wp2
  go_returns
  exact ⟨rfl, by repeat' (first | (with_reducible exact Below.refl _ _) | (with_reducible assumption) | (with_reducible refine Below.alloc ?_ ?_ _) | (with_reducible refine Below.drew ?_) | (with_reducible refine belowN ?_ _) | (with_reducible refine Below.setCell ?_ ?_ _) | (with_reducible refine belowG ?_ ?_) | (with_reducible refine le_sizeG ?_) | go_size | (simp [go_sem]; done))⟩
set_option maxHeartbeats 1000000 in
theorem before_s (n : Int) (s : ByteArray) (k2 n2 : Int) (s2 : ByteArray) (w : World) (hs : s.size ≤ maxLen) (_hs2 : s2.size ≤ maxLen) : Calls Tryz.prog 43 #[.agg #[.int .i64 3, .int .i64 n, .string s], .agg #[.int .i64 k2, .int .i64 n2, .string s2]] w (Ret (.bool (Op.bytesLess s.data.toList s2.data.toList)) w) := by
  unfold maxLen at hs _hs2
  go_enter Tryz.func43, Tryz.ntmps43
  go_wp2
  go_loopw [5] (fun i wr => ∃ k : Nat, ∃ m : Nat, i = .int .i64 k ∧ Pre s s2 k ∧ wr = (((w.alloc (.cells #[.int .i64 3, .int .i64 n, .string s] 39)).alloc (.cells #[.int .i64 k2, .int .i64 n2, .string s2] 39))).drewN m) (fun i _ => s.size - (intOf i).toNat)
  case atStart => exact ⟨0, 0, rfl, pre_zero _ _, rfl⟩
  case round =>
    obtain ⟨k, m, rfl, hp, rfl⟩ := hrel
    have hp' := hp
    obtain ⟨q1, q2, -⟩ := hp'
    by_cases h1 : k < s.size
    · by_cases h2 : k < s2.size
      · by_cases h3 : s[k] = s2[k]
        · have hn := pre_succ hp h1 h2 h3
          have h4 : ((s[k].toNat : Int) == (s2[k].toNat : Int)) = true := by rw [h3]; simp
          have h4' : ((s[k].toNat : Int) != (s2[k].toNat : Int)) = false := by rw [h3]; simp
          clear h3 hp
          go_wp2
          go_quiet (fail)
          go_wp2
          go_roundw
          case rel => exact ⟨k + 1, _, by go_num, hn, rfl⟩
          case measure => simp [intOf]; omega
        · have hn := Lib.hid (pre_at hp h1 h2 h3)
          have h4 : ((s[k].toNat : Int) == (s2[k].toNat : Int)) = false := by rw [beq_eq_false_iff_ne]; intro e; exact h3 (UInt8.toNat_inj.1 (by omega))
          have h4' : ((s[k].toNat : Int) != (s2[k].toNat : Int)) = true := by rw [bne, h4]; rfl
          clear h3 hp
          go_wp2
          go_quiet (fail)
          go_wp2
          go_quiet (fail)
          go_wp2
          go_returns
          exact ⟨ret_bl hn.out.symm, by repeat' (first | (with_reducible exact Below.refl _ _) | (with_reducible assumption) | (with_reducible refine Below.alloc ?_ ?_ _) | (with_reducible refine Below.drew ?_) | (with_reducible refine belowN ?_ _) | (with_reducible refine Below.setCell ?_ ?_ _) | (with_reducible refine belowG ?_ ?_) | (with_reducible refine le_sizeG ?_) | go_size | (simp [go_sem]; done))⟩
      · have hn := Lib.hid (pre_end hp (Or.inr (by omega)))
        clear hp
        go_wp2
        go_returns
        exact ⟨ret_bl hn.out.symm, by repeat' (first | (with_reducible exact Below.refl _ _) | (with_reducible assumption) | (with_reducible refine Below.alloc ?_ ?_ _) | (with_reducible refine Below.drew ?_) | (with_reducible refine belowN ?_ _) | (with_reducible refine Below.setCell ?_ ?_ _) | (with_reducible refine belowG ?_ ?_) | (with_reducible refine le_sizeG ?_) | go_size | (simp [go_sem]; done))⟩
    · have hn := Lib.hid (pre_end hp (Or.inl (by omega)))
      clear hp
      go_wp2
      go_returns
      exact ⟨ret_bl hn.out.symm, by repeat' (first | (with_reducible exact Below.refl _ _) | (with_reducible assumption) | (with_reducible refine Below.alloc ?_ ?_ _) | (with_reducible refine Below.drew ?_) | (with_reducible refine belowN ?_ _) | (with_reducible refine Below.setCell ?_ ?_ _) | (with_reducible refine belowG ?_ ?_) | (with_reducible refine le_sizeG ?_) | go_size | (simp [go_sem]; done))⟩
end Go.Proofs.YtlekmpjmcbnjdaaGreatDoor
namespace Go.Proofs.YtlekmpjmcbnjdaaGreatDoor
open Go.RowKit
def aloneB (op : Int) : Bool := op == 1 || op == 2
theorem alone_any (op : Int) (w : World) : Calls Tryz.prog 72 #[.int .i64 op] w (RetW (.bool (aloneB op)) w) := by
  by_cases h1 : op = 1
  · subst h1
    go_enter Tryz.func72, Tryz.ntmps72
    go_wp2
    go_returns
    exact ⟨rfl, rfl⟩
  · have h1' : (op == 1) = false := by simpa using h1
    go_enter Tryz.func72, Tryz.ntmps72
    go_wp2
    go_returns
    exact ⟨ret_bl (by simp [aloneB, h1']), rfl⟩
/-- Which operations take values of which kind. -/
def takesB (op k : Int) : Bool :=
  if op = 2 ∨ op = 3 ∨ op = 4 ∨ op = 5 ∨ op = 7 then k == 1
  else if op = 6 ∨ op = 8 ∨ op = 9 ∨ op = 10 ∨ op = 11 then k == 1 || k == 3
  else if op = 12 ∨ op = 13 then k == 1 || k == 2 || k == 3
  else if op = 1 ∨ op = 14 ∨ op = 15 then k == 2 else false
theorem op_cases (op : Int) : op = 1 ∨ op = 2 ∨ op = 3 ∨ op = 4 ∨ op = 5 ∨ op = 6 ∨ op = 7 ∨ op = 8 ∨ op = 9 ∨ op = 10 ∨ op = 11 ∨ op = 12 ∨ op = 13 ∨ op = 14 ∨ op = 15 ∨ (op ≠ 1 ∧ op ≠ 2 ∧ op ≠ 3 ∧ op ≠ 4 ∧ op ≠ 5 ∧ op ≠ 6 ∧ op ≠ 7 ∧ op ≠ 8 ∧ op ≠ 9 ∧ op ≠ 10 ∧ op ≠ 11 ∧ op ≠ 12 ∧ op ≠ 13 ∧ op ≠ 14 ∧ op ≠ 15) := by omega
theorem takes_other (op k : Int) (h : op ≠ 1 ∧ op ≠ 2 ∧ op ≠ 3 ∧ op ≠ 4 ∧ op ≠ 5 ∧ op ≠ 6 ∧ op ≠ 7 ∧ op ≠ 8 ∧ op ≠ 9 ∧ op ≠ 10 ∧ op ≠ 11 ∧ op ≠ 12 ∧ op ≠ 13 ∧ op ≠ 14 ∧ op ≠ 15) : takesB op k = false := by
  unfold takesB
  repeat rw [if_neg (by omega)]
theorem takes_any (op k : Int) (w : World) : Calls Tryz.prog 71 #[.int .i64 op, .int .i64 k] w (RetW (.bool (takesB op k)) w) := by
  rcases op_cases op with rfl | rfl | rfl | rfl | rfl | rfl | rfl | rfl | rfl | rfl | rfl | rfl | rfl | rfl | rfl | h
  case' inr.inr.inr.inr.inr.inr.inr.inr.inr.inr.inr.inr.inr.inr.inr =>
    have ht := Lib.hid (takes_other op k h)
    have e := fun i (hi : op ≠ i) => (beq_eq_false_iff_ne.2 hi : (op == i) = false)
    obtain ⟨h1, h2, h3, h4, h5, h6, h7, h8, h9, h10, h11, h12, h13, h14, h15⟩ := h
    have e1 := e _ h1; have e2 := e _ h2; have e3 := e _ h3; have e4 := e _ h4; have e5 := e _ h5; have e6 := e _ h6; have e7 := e _ h7; have e8 := e _ h8; have e9 := e _ h9; have e10 := e _ h10; have e11 := e _ h11; have e12 := e _ h12; have e13 := e _ h13; have e14 := e _ h14; have e15 := e _ h15
    clear e
    go_enter Tryz.func71, Tryz.ntmps71
    go_wp2
    all_goals go_returns
    all_goals exact ⟨ret_bl ht.out.symm, rfl⟩
  all_goals
    go_enter Tryz.func71, Tryz.ntmps71
    go_wp2
    all_goals go_returns
    all_goals exact ⟨ret_bl (by simp [takesB]; try simp [*]), rfl⟩
def resB (op a b : Int) : Bool := takesB op a && (aloneB op || a == b)
def resK (op a b : Int) : Int := if resB op a b then (if op = 2 ∨ op = 3 ∨ op = 4 ∨ op = 5 ∨ op = 6 ∨ op = 7 then a else 2) else 0
theorem resK_f {op a b : Int} (h : resB op a b = false) : resK op a b = 0 := by simp [resK, h]
theorem resK_a {op a b : Int} (h : resB op a b = true) (ho : op = 2 ∨ op = 3 ∨ op = 4 ∨ op = 5 ∨ op = 6 ∨ op = 7) : resK op a b = a := by simp only [resK, h, if_true, if_pos ho]
theorem resK_2 {op a b : Int} (h : resB op a b = true) (ho : ¬ (op = 2 ∨ op = 3 ∨ op = 4 ∨ op = 5 ∨ op = 6 ∨ op = 7)) : resK op a b = 2 := by simp only [resK, h, if_true, if_neg ho]
theorem resB_takes {op a b : Int} (h : resB op a b = true) : takesB op a = true := by simp [resB] at h; exact h.1
theorem result_any (op a b : Int) (w : World) : Calls Tryz.prog 47 #[.int .i64 op, .int .i64 a, .int .i64 b] w (RetW (.tuple #[.int .i64 (resK op a b), .bool (resB op a b)]) w) := by
  rcases ht : takesB op a
  · have hr : resB op a b = false := by simp [resB, ht]
    have hk := Lib.hid (resK_f hr)
    have hr' := Lib.hid hr
    have ht' := Lib.hid ht
    clear ht hr
    go_enter Tryz.func47, Tryz.ntmps47
    go_wp2_with ((with_reducible refine (takes_any _ _ _).mono ?_); rintro e w1 ⟨rfl, rfl⟩; rw [ht'.out])
    go_returns
    exact ⟨ret_tup2 (ret_num hk.out.symm) (ret_bool hr'.out.symm), rfl⟩
  · rcases hb : (aloneB op || a == b)
    · have hr : resB op a b = false := by simp only [resB, ht, hb, Bool.and_false]
      have hk := Lib.hid (resK_f hr)
      have hr' := Lib.hid hr
      have ht' := Lib.hid ht
      have ha : Hid (aloneB op = false) := by simp at hb; exact hb.1
      have hn : (a == b) = false := by simp at hb; simpa using hb.2
      have hn' : (a != b) = true := by rw [bne, hn]; rfl
      clear ht hr hb
      go_enter Tryz.func47, Tryz.ntmps47
      go_wp2_with (first | ((with_reducible refine (takes_any _ _ _).mono ?_); rintro e w1 ⟨rfl, rfl⟩; rw [ht'.out]) | ((with_reducible refine (alone_any _ _).mono ?_); rintro e w1 ⟨rfl, rfl⟩; rw [ha.out]))
      go_returns
      exact ⟨ret_tup2 (ret_num hk.out.symm) (ret_bool hr'.out.symm), rfl⟩
    · have hr : resB op a b = true := by simp only [resB, ht, hb, Bool.and_self]
      have hr' := Lib.hid hr
      have ht' := Lib.hid ht
      have hk : (op = 2 ∨ op = 3 ∨ op = 4 ∨ op = 5 ∨ op = 6 ∨ op = 7) → Hid (resK op a b = a) := resK_a hr
      have hk2 : ¬ (op = 2 ∨ op = 3 ∨ op = 4 ∨ op = 5 ∨ op = 6 ∨ op = 7) → Hid (resK op a b = 2) := resK_2 hr
      have hk := Lib.hid hk
      have hk2 := Lib.hid hk2
      have hc : (aloneB op = true) ∨ (aloneB op = false ∧ (a == b) = true) := by
        rcases h : aloneB op
        · rw [h] at hb; exact Or.inr ⟨rfl, by simpa using hb⟩
        · exact Or.inl rfl
      clear ht hr hb
      rcases hc with ha | ⟨ha, hn⟩
      all_goals
        have ha' := Lib.hid ha
        try have hn' : (a != b) = false := by rw [bne, hn]; rfl
        clear ha
        rcases op_cases op with rfl | rfl | rfl | rfl | rfl | rfl | rfl | rfl | rfl | rfl | rfl | rfl | rfl | rfl | rfl | h
        case' inr.inr.inr.inr.inr.inr.inr.inr.inr.inr.inr.inr.inr.inr.inr => have := takes_other op a h; rw [ht'.out] at this; cases this
        all_goals
          go_enter Tryz.func47, Tryz.ntmps47
          go_wp2_with (first | ((with_reducible refine (takes_any _ _ _).mono ?_); rintro e w1 ⟨rfl, rfl⟩; rw [ht'.out]) | ((with_reducible refine (alone_any _ _).mono ?_); rintro e w1 ⟨rfl, rfl⟩; rw [ha'.out]))
          go_returns
          exact ⟨ret_tup2 (ret_num (by first | exact (hk.out (of_decide_eq_true rfl)).out.symm | exact (hk2.out (of_decide_eq_true rfl)).out.symm)) (ret_bool hr'.out.symm), rfl⟩
end Go.Proofs.YtlekmpjmcbnjdaaGreatDoor
namespace Go.Proofs.YtlekmpjmcbnjdaaGreatDoor
open Go.RowKit
theorem order_n (k : Int) (hk : (k == 3) = false) (n : Int) (s : ByteArray) (k2 n2 : Int) (s2 : ByteArray) (w : World) : Calls Tryz.prog 91 #[.agg #[.int .i64 k, .int .i64 n, .string s], .agg #[.int .i64 k2, .int .i64 n2, .string s2]] w (Ret (.int .i64 (cmpI n n2)) w) := by
  go_enter Tryz.func91, Tryz.ntmps91
  go_wp2_with ((with_reducible refine (cmpI_any _ _ _).mono ?_); rintro e w1 ⟨rfl, rfl⟩)
  go_returns
  exact ⟨rfl, by repeat' (first | (with_reducible exact Below.refl _ _) | (with_reducible assumption) | (with_reducible refine Below.alloc ?_ ?_ _) | (with_reducible refine Below.drew ?_) | (with_reducible refine belowN ?_ _) | (with_reducible refine Below.setCell ?_ ?_ _) | (with_reducible refine belowG ?_ ?_) | (with_reducible refine le_sizeG ?_) | go_size | (simp [go_sem]; done))⟩
theorem order_s (n : Int) (s : ByteArray) (k2 n2 : Int) (s2 : ByteArray) (w : World) : Calls Tryz.prog 91 #[.agg #[.int .i64 3, .int .i64 n, .string s], .agg #[.int .i64 k2, .int .i64 n2, .string s2]] w (Ret (.int .i64 (cmpS s s2)) w) := by
  go_enter Tryz.func91, Tryz.ntmps91
  go_wp2_with ((with_reducible refine (cmpS_any _ _ _).mono ?_); rintro e w1 ⟨rfl, rfl⟩)
  go_returns
  exact ⟨rfl, by repeat' (first | (with_reducible exact Below.refl _ _) | (with_reducible assumption) | (with_reducible refine Below.alloc ?_ ?_ _) | (with_reducible refine Below.drew ?_) | (with_reducible refine belowN ?_ _) | (with_reducible refine Below.setCell ?_ ?_ _) | (with_reducible refine belowG ?_ ?_) | (with_reducible refine le_sizeG ?_) | go_size | (simp [go_sem]; done))⟩
/-- How values of such an order stand. -/
def standB (op o : Int) : Bool := if op = 8 then decide (o < 0) else if op = 9 then decide (o ≤ 0) else if op = 10 then decide (0 < o) else decide (0 ≤ o)
theorem stand_any (op o : Int) (h : op = 8 ∨ op = 9 ∨ op = 10 ∨ op = 11) (w : World) : Calls Tryz.prog 90 #[.int .i64 op, .int .i64 o] w (RetW (.bool (standB op o)) w) := by
  have hd : Hid (standB op o = if op = 8 then decide (o < 0) else if op = 9 then decide (o ≤ 0) else if op = 10 then decide (0 < o) else decide (0 ≤ o)) := rfl
  rcases h with rfl | rfl | rfl | rfl
  all_goals
    go_enter Tryz.func90, Tryz.ntmps90
    go_wp2
    go_returns
    exact ⟨ret_bl (by rw [hd.out]; rfl), rfl⟩
/-- A value, or an error. -/
structure Rk where
  k : Int
  n : Int
  s : ByteArray
  e : Int
def rkV (r : Rk) : Value := .tuple #[.agg #[.int .i64 r.k, .int .i64 r.n, .string r.s], .int .i64 r.e]
theorem rkV_def (r : Rk) : rkV r = .tuple #[.agg #[.int .i64 r.k, .int .i64 r.n, .string r.s], .int .i64 r.e] := rfl
def numR (x : Int) : Rk := ⟨nK x, nN x, ⟨#[]⟩, nE x⟩
def errR (e : Int) : Rk := ⟨0, 0, ⟨#[]⟩, e⟩
def trR (b : Bool) : Rk := ⟨2, bI b, ⟨#[]⟩, 0⟩
def joinR (s t : ByteArray) : Rk := if s.size + t.size ≤ 48 then ⟨3, 0, s ++ t, 0⟩ else errR 15
theorem numV_rk (x : Int) : numV x = rkV (numR x) := rfl
theorem join_any (s t : ByteArray) (hs : s.size ≤ 48) (ht : t.size ≤ 48) (w : World) : Calls Tryz.prog 92 #[.string s, .string t] w (Ret (rkV (joinR s t)) w) := by
  by_cases h : s.size + t.size ≤ 48
  · have hd := Lib.hid (show joinR s t = ⟨3, 0, s ++ t, 0⟩ by simp [joinR, h])
    go_enter Tryz.func92, Tryz.ntmps92
    go_wp2_with (first | ((with_reducible refine (word_any _ _).mono ?_); intro e w1 hr; obtain ⟨rfl, p, rfl⟩ := hr.out; clear hr))
    go_returns
    exact ⟨by rw [hd.out]; rfl, by repeat' (first | (with_reducible exact Below.refl _ _) | (with_reducible assumption) | (with_reducible refine Below.alloc ?_ ?_ _) | (with_reducible refine Below.drew ?_) | (with_reducible refine belowN ?_ _) | (with_reducible refine Below.setCell ?_ ?_ _) | (with_reducible refine belowG ?_ ?_) | (with_reducible refine le_sizeG ?_) | go_size | (simp [go_sem]; done))⟩
  · have hd := Lib.hid (show joinR s t = errR 15 by simp [joinR, h])
    have h' : 48 < s.size + t.size := by omega
    go_enter Tryz.func92, Tryz.ntmps92
    go_wp2
    go_returns
    exact ⟨by rw [hd.out]; rfl, by repeat' (first | (with_reducible exact Below.refl _ _) | (with_reducible assumption) | (with_reducible refine Below.alloc ?_ ?_ _) | (with_reducible refine Below.drew ?_) | (with_reducible refine belowN ?_ _) | (with_reducible refine Below.setCell ?_ ?_ _) | (with_reducible refine belowG ?_ ?_) | (with_reducible refine le_sizeG ?_) | go_size | (simp [go_sem]; done))⟩
end Go.Proofs.YtlekmpjmcbnjdaaGreatDoor
namespace Go.Proofs.YtlekmpjmcbnjdaaGreatDoor
open Go.RowKit
theorem alone_f {op : Int} (h : aloneB op = false) (w : World) : Calls Tryz.prog 72 #[.int .i64 op] w (RetW (.bool false) w) := by have := alone_any op w; rw [h] at this; exact this
theorem alone_t {op : Int} (h : aloneB op = true) (w : World) : Calls Tryz.prog 72 #[.int .i64 op] w (RetW (.bool true) w) := by have := alone_any op w; rw [h] at this; exact this
theorem result_t {op a b : Int} (h : resB op a b = true) (w : World) : Calls Tryz.prog 47 #[.int .i64 op, .int .i64 a, .int .i64 b] w (RetW (.tuple #[.int .i64 (resK op a b), .bool true]) w) := by have := result_any op a b w; rw [h] at this; exact this
theorem result_f {op a b : Int} (h : resB op a b = false) (w : World) : Calls Tryz.prog 47 #[.int .i64 op, .int .i64 a, .int .i64 b] w (RetW (.tuple #[.int .i64 (resK op a b), .bool false]) w) := by have := result_any op a b w; rw [h] at this; exact this
/-- Of two texts one is ahead, or they are one. -/
theorem bless_tri : ∀ x y : List UInt8, Op.bytesLess y x = (!(Op.bytesLess x y) && !(x == y))
  | [], [] => by decide
  | [], _ :: _ => by simp [Op.bytesLess]
  | _ :: _, [] => by simp [Op.bytesLess]
  | a :: x, b :: y => by
    rw [bless_cons, bless_cons, bless_tri x y]
    rcases Nat.lt_trichotomy a.toNat b.toNat with h | h | h
    · have h1 : a < b := UInt8.lt_iff_toNat_lt.2 h
      have h2 : ¬ b < a := fun e => by have := UInt8.lt_iff_toNat_lt.1 e; omega
      have h3 : b ≠ a := fun e => by subst e; omega
      simp [h1, h2, h3]
    · obtain rfl : a = b := UInt8.toNat_inj.1 h
      have h2 : ¬ a < a := UInt8.lt_irrefl a
      simp [h2, List.cons_beq_cons]
    · have h1 : b < a := UInt8.lt_iff_toNat_lt.2 h
      have h2 : ¬ a < b := fun e => by have := UInt8.lt_iff_toNat_lt.1 e; omega
      have h3 : a ≠ b := fun e => by subst e; omega
      simp [h1, h2, h3]
theorem stand_n (n n2 : Int) : standB 8 (cmpI n n2) = decide (n < n2) ∧ standB 9 (cmpI n n2) = !decide (n2 < n) ∧ standB 10 (cmpI n n2) = decide (n2 < n) ∧ standB 11 (cmpI n n2) = !decide (n < n2) := by
  rcases Int.lt_trichotomy n n2 with h | h | h
  · have h2 : ¬ n2 < n := by omega
    simp [standB, cmpI, h, h2]
  · subst h; simp [standB, cmpI]
  · have h2 : ¬ n < n2 := by omega
    simp [standB, cmpI, h, h2]
theorem stand_s (s t : ByteArray) : standB 8 (cmpS s t) = Op.bytesLess s.toList t.toList ∧ standB 9 (cmpS s t) = !(Op.bytesLess t.toList s.toList) ∧ standB 10 (cmpS s t) = Op.bytesLess t.toList s.toList ∧ standB 11 (cmpS s t) = !(Op.bytesLess s.toList t.toList) := by
  have h := bless_tri s.toList t.toList
  unfold cmpS
  rw [← h]
  rcases h1 : Op.bytesLess s.toList t.toList
  · rcases h2 : Op.bytesLess t.toList s.toList <;> simp [standB]
  · rw [h1] at h
    simp only [Bool.not_true, Bool.false_and] at h
    rw [h]; simp [standB]
def lessB (k n : Int) (s : ByteArray) (n2 : Int) (s2 : ByteArray) : Bool := if k = 3 then Op.bytesLess s.data.toList s2.data.toList else decide (n < n2)
def eqB (n : Int) (s : ByteArray) (n2 : Int) (s2 : ByteArray) : Bool := n == n2 && s.toList == s2.toList
/-- What is reckoned. -/
def rk (op k n : Int) (s : ByteArray) (n2 : Int) (s2 : ByteArray) : Rk :=
  if op = 1 then trR (n == 0) else if op = 2 then numR (-n) else if op = 3 then numR (n * n2)
  else if op = 4 then (if n2 = 0 then errR 22 else numR (n.tdiv n2)) else if op = 5 then (if n2 = 0 then errR 22 else ⟨1, n.tmod n2, ⟨#[]⟩, 0⟩)
  else if op = 6 then (if k = 1 then numR (n + n2) else joinR s s2) else if op = 7 then numR (n - n2)
  else if op = 8 then trR (lessB k n s n2 s2) else if op = 9 then trR (!lessB k n2 s2 n s) else if op = 10 then trR (lessB k n2 s2 n s) else if op = 11 then trR (!lessB k n s n2 s2)
  else if op = 12 then trR (eqB n s n2 s2) else if op = 13 then trR (!eqB n s n2 s2)
  else if op = 14 then trR (n == 1 && n2 == 1) else trR (n == 1 || n2 == 1)
end Go.Proofs.YtlekmpjmcbnjdaaGreatDoor
namespace Go.Proofs.YtlekmpjmcbnjdaaGreatDoor
open Go.RowKit
theorem nil_of (s : ByteArray) (h : s.toList.isEmpty = true) : s = ⟨#[]⟩ := by
  rw [Lib.toList_data] at h
  obtain ⟨⟨l⟩⟩ := s
  simp at h
  subst h; rfl
/-- What a value has. -/
theorem right_cases (k n : Int) (s : ByteArray) (h : rightB k n s = true) : (k = 1 ∧ s = ⟨#[]⟩) ∨ (k = 2 ∧ s = ⟨#[]⟩ ∧ (n = 0 ∨ n = 1)) ∨ (k = 3 ∧ n = 0 ∧ plainB s.data.toList = true ∧ s.size ≤ 48) := by
  unfold rightB at h
  simp only [Bool.or_eq_true, Bool.and_eq_true, beq_iff_eq] at h
  rcases h with (⟨rfl, h⟩ | ⟨⟨rfl, h⟩, h2⟩) | ⟨⟨rfl, rfl⟩, h⟩
  · exact Or.inl ⟨rfl, nil_of s h⟩
  · exact Or.inr (Or.inl ⟨rfl, nil_of s h, h2⟩)
  · refine Or.inr (Or.inr ⟨rfl, rfl, h, ?_⟩)
    simp [plainB] at h; exact h.1
theorem stand_d (s t : ByteArray) : standB 8 (cmpS s t) = Op.bytesLess s.data.toList t.data.toList ∧ standB 9 (cmpS s t) = !(Op.bytesLess t.data.toList s.data.toList) ∧ standB 10 (cmpS s t) = Op.bytesLess t.data.toList s.data.toList ∧ standB 11 (cmpS s t) = !(Op.bytesLess s.data.toList t.data.toList) := by
  have := stand_s s t
  rwa [Lib.toList_data s, Lib.toList_data t] at this
theorem res_kinds {op a b : Int} (h : resB op a b = true) (ho : aloneB op = false) : a = b := by
  simp only [resB, ho, Bool.false_or, Bool.and_eq_true, beq_iff_eq] at h; exact h.2
end Go.Proofs.YtlekmpjmcbnjdaaGreatDoor
