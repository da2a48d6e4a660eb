import Derived.Test.YtidbmampjjgkpaaDoorNU
import Derived.Test.YtidbmampjjgkpaaDoorRD
import Derived.Test.YtidbmampjjgkpaaDoorE
import Derived.WalkKit
import Derived.ProofKit
import Derived.OpenShut
import Derived.Handy
import Derived.BigQuiet
import Derived.Lib.Hide
import Derived.Lib.Strings
import Derived.WalkSmall
import Derived.WalkLawsBesides
namespace Go.Proofs.YtidbmampjjgkpaaDoor
open Go.RowKit
theorem itoaS_inj {m n : Int} (hm : I64 m) (hn : I64 n) (h : itoaS m = itoaS n) : m = n := by
  have h1 := parse_itoa m hm
  have h2 := parse_itoa n hn
  have e : Lib.itoa m = Lib.itoa n := by
    have := congrArg (fun x : ByteArray => x.data.toList) h
    simpa [itoaS] using this
  rw [e, h2] at h1
  exact (Lib.NumEnd.ok.inj h1).symm
theorem number_shown (n : Int) (hn : I64 n) (s : ByteArray) (hs : s.size ≤ 9223372036854775000) (e : s = itoaS n) (w : World) : Calls Tryd.prog 58 #[.string s] w (Ret (.tuple #[.int .i64 n, .bool true]) w) :=
  (number_any s hs w).mono fun e' w' ⟨v, b, he, hv, ht, hf, hb⟩ => by
    cases b
    · exact absurd e (hf rfl n hn)
    · have h := itoaS_inj hv hn ((ht rfl).trans e)
      subst h
      exact ⟨he, hb⟩
def NoneIs (w : World) (e : Ending) (w' : World) : Prop := ∃ v, e = .returned (.tuple #[.int .i64 v, .bool false]) ∧ Below w.heap.size w w'
theorem NoneIs.out {w : World} {e : Ending} {w' : World} (h : NoneIs w e w') : ∃ v p, e = .returned (.tuple #[.int .i64 v, .bool false]) ∧ w' = G p w := by
  obtain ⟨v, he, hb⟩ := h
  obtain ⟨p, hp⟩ := toG hb
  exact ⟨v, p, he, hp⟩
theorem number_none (s : ByteArray) (hs : s.size ≤ 9223372036854775000) (h : ∀ n, I64 n → s ≠ itoaS n) (w : World) : Calls Tryd.prog 58 #[.string s] w (NoneIs w) :=
  (number_any s hs w).mono fun e' w' ⟨v, b, he, hv, ht, hf, hb⟩ => by
    cases b
    · exact ⟨v, he, hb⟩
    · exact absurd (ht rfl).symm (h v hv)
/-- s shows a value. -/
def Shown (s : ByteArray) (k n : Int) (t : ByteArray) : Prop := rightB k n t = true ∧ I64 n ∧ showS k n t = s
theorem rread_b (b : Bool) (w : World) : Calls Tryd.prog 23 #[.string (boolS b)] w (Ret (.tuple #[.agg #[.int .i64 2, .int .i64 (bI b), .string ⟨#[]⟩], .int .i64 0]) w) := by
  cases b
  · show Calls _ _ #[.string ⟨#[102, 97, 108, 115, 101]⟩] _ _
    go_enter Tryd.func23, Tryd.ntmps23
    go_wp2
    go_returns
    exact ⟨rfl, by repeat' (first | (with_reducible exact Below.refl _ _) | (with_reducible assumption) | (with_reducible refine Below.alloc ?_ ?_ _) | (with_reducible refine Below.drew ?_) | (with_reducible refine belowN ?_ _) | (with_reducible refine Below.setCell ?_ ?_ _) | (with_reducible refine belowG ?_ ?_) | (with_reducible exact Nat.le_refl _) | (with_reducible refine le_sizeG ?_) | (with_reducible refine le_sizeA ?_) | (with_reducible refine le_sizeC ?_) | (with_reducible refine le_sizeD ?_) | (with_reducible refine le_sizeN ?_) | go_size | (simp [go_sem]; done))⟩
  · show Calls _ _ #[.string ⟨#[116, 114, 117, 101]⟩] _ _
    go_enter Tryd.func23, Tryd.ntmps23
    go_wp2
    go_returns
    exact ⟨rfl, by repeat' (first | (with_reducible exact Below.refl _ _) | (with_reducible assumption) | (with_reducible refine Below.alloc ?_ ?_ _) | (with_reducible refine Below.drew ?_) | (with_reducible refine belowN ?_ _) | (with_reducible refine Below.setCell ?_ ?_ _) | (with_reducible refine belowG ?_ ?_) | (with_reducible exact Nat.le_refl _) | (with_reducible refine le_sizeG ?_) | (with_reducible refine le_sizeA ?_) | (with_reducible refine le_sizeC ?_) | (with_reducible refine le_sizeD ?_) | (with_reducible refine le_sizeN ?_) | go_size | (simp [go_sem]; done))⟩
theorem rread_n (s : ByteArray) (n : Int) (h1 : (s.toList == [116, 114, 117, 101]) = false) (h2 : (s.toList == [102, 97, 108, 115, 101]) = false) (h3 : 0 < s.size) (h4 : ((s[0].toNat : Int) == 39) = false)
    (N : ∀ wx, Calls Tryd.prog 58 #[.string s] wx (Ret (.tuple #[.int .i64 n, .bool true]) wx)) (w : World) : Calls Tryd.prog 23 #[.string s] w (Ret (.tuple #[.agg #[.int .i64 1, .int .i64 n, .string ⟨#[]⟩], .int .i64 0]) w) := by
  have N := Lib.hid N
  rcases Nat.lt_or_ge s.size 2 with h5 | h5
  · go_enter Tryd.func23, Tryd.ntmps23
    go_wp2_with ((with_reducible refine ((N.out _)).mono ?_); intro e w1 hr; obtain ⟨rfl, p, rfl⟩ := hr.out; clear hr)
    go_returns
    exact ⟨rfl, by repeat' (first | (with_reducible exact Below.refl _ _) | (with_reducible assumption) | (with_reducible refine Below.alloc ?_ ?_ _) | (with_reducible refine Below.drew ?_) | (with_reducible refine belowN ?_ _) | (with_reducible refine Below.setCell ?_ ?_ _) | (with_reducible refine belowG ?_ ?_) | (with_reducible exact Nat.le_refl _) | (with_reducible refine le_sizeG ?_) | (with_reducible refine le_sizeA ?_) | (with_reducible refine le_sizeC ?_) | (with_reducible refine le_sizeD ?_) | (with_reducible refine le_sizeN ?_) | go_size | (simp [go_sem]; done))⟩
  · go_enter Tryd.func23, Tryd.ntmps23
    go_wp2_with ((with_reducible refine ((N.out _)).mono ?_); intro e w1 hr; obtain ⟨rfl, p, rfl⟩ := hr.out; clear hr)
    go_returns
    exact ⟨rfl, by repeat' (first | (with_reducible exact Below.refl _ _) | (with_reducible assumption) | (with_reducible refine Below.alloc ?_ ?_ _) | (with_reducible refine Below.drew ?_) | (with_reducible refine belowN ?_ _) | (with_reducible refine Below.setCell ?_ ?_ _) | (with_reducible refine belowG ?_ ?_) | (with_reducible exact Nat.le_refl _) | (with_reducible refine le_sizeG ?_) | (with_reducible refine le_sizeA ?_) | (with_reducible refine le_sizeC ?_) | (with_reducible refine le_sizeD ?_) | (with_reducible refine le_sizeN ?_) | go_size | (simp [go_sem]; done))⟩
set_option maxRecDepth 100000 in
theorem rread_q (q s : ByteArray) (h1 : (q.toList == [116, 114, 117, 101]) = false) (h2 : (q.toList == [102, 97, 108, 115, 101]) = false) (h3 : 2 ≤ q.size) (h5 : q.size ≤ 9223372036854775000) (h4 : q[0] = 39) (hl : q[q.size - 1] = 39) (h6 : q.extract 1 (q.size - 1) = s)
    (hp : plainB s.data.toList = true) (w : World) : Calls Tryd.prog 23 #[.string q] w (Ret (.tuple #[.agg #[.int .i64 3, .int .i64 0, .string s], .int .i64 0]) w) := by
  have hz : s.size ≤ maxLen := by
    have : s.size ≤ q.size := by rw [← h6, ByteArray.size_extract]; omega
    unfold maxLen; omega
  have P := fun wx => Lib.hid (rplain_any s wx hz)
  have P := Lib.hid P
  rw [hp] at P
  have hsl : ∀ wx, (Instr.slice 9 (.string q) (some (.int .i64 1)) (some (.int .i64 ((q.size : Int) - 1))) none).run Tryd.prog wx = .ok (.string s) wx := by
    intro wx
    have := run_slice_string (P := Tryd.prog) wx 9 q .i64 .i64 1 ((q.size : Int) - 1) Tryd.underlying9 (by omega) (by omega) (by omega)
    rw [this, show ((1 : Int).toNat) = 1 from rfl, show ((q.size : Int) - 1).toNat = q.size - 1 by omega, h6]
  clear h6 hz hp
  go_enter Tryd.func23, Tryd.ntmps23
  go_wp2_with ((with_reducible refine ((P.out _).out).mono ?_); rintro e w1 ⟨rfl, rfl⟩)
  go_returns
  exact ⟨rfl, by repeat' (first | (with_reducible exact Below.refl _ _) | (with_reducible assumption) | (with_reducible refine Below.alloc ?_ ?_ _) | (with_reducible refine Below.drew ?_) | (with_reducible refine belowN ?_ _) | (with_reducible refine Below.setCell ?_ ?_ _) | (with_reducible refine belowG ?_ ?_) | (with_reducible exact Nat.le_refl _) | (with_reducible refine le_sizeG ?_) | (with_reducible refine le_sizeA ?_) | (with_reducible refine le_sizeC ?_) | (with_reducible refine le_sizeD ?_) | (with_reducible refine le_sizeN ?_) | go_size | (simp [go_sem]; done))⟩
set_option maxRecDepth 100000 in
theorem rread_bad (q s : ByteArray) (h1 : (q.toList == [116, 114, 117, 101]) = false) (h2 : (q.toList == [102, 97, 108, 115, 101]) = false) (h3 : 2 ≤ q.size) (h5 : q.size ≤ 9223372036854775000) (h4 : q[0] = 39) (hl : q[q.size - 1] = 39) (h6 : q.extract 1 (q.size - 1) = s)
    (hp : plainB s.data.toList = false) (w : World) : Calls Tryd.prog 23 #[.string q] w (Ret (.tuple #[.agg #[.int .i64 0, .int .i64 0, .string ⟨#[]⟩], .int .i64 11]) w) := by
  have hz : s.size ≤ maxLen := by
    have : s.size ≤ q.size := by rw [← h6, ByteArray.size_extract]; omega
    unfold maxLen; omega
  have P := fun wx => Lib.hid (rplain_any s wx hz)
  have P := Lib.hid P
  rw [hp] at P
  have hsl : ∀ wx, (Instr.slice 9 (.string q) (some (.int .i64 1)) (some (.int .i64 ((q.size : Int) - 1))) none).run Tryd.prog wx = .ok (.string s) wx := by
    intro wx
    have := run_slice_string (P := Tryd.prog) wx 9 q .i64 .i64 1 ((q.size : Int) - 1) Tryd.underlying9 (by omega) (by omega) (by omega)
    rw [this, show ((1 : Int).toNat) = 1 from rfl, show ((q.size : Int) - 1).toNat = q.size - 1 by omega, h6]
  clear h6 hz hp
  go_enter Tryd.func23, Tryd.ntmps23
  go_wp2_with ((with_reducible refine ((P.out _).out).mono ?_); rintro e w1 ⟨rfl, rfl⟩)
  go_returns
  exact ⟨rfl, by repeat' (first | (with_reducible exact Below.refl _ _) | (with_reducible assumption) | (with_reducible refine Below.alloc ?_ ?_ _) | (with_reducible refine Below.drew ?_) | (with_reducible refine belowN ?_ _) | (with_reducible refine Below.setCell ?_ ?_ _) | (with_reducible refine belowG ?_ ?_) | (with_reducible exact Nat.le_refl _) | (with_reducible refine le_sizeG ?_) | (with_reducible refine le_sizeA ?_) | (with_reducible refine le_sizeC ?_) | (with_reducible refine le_sizeD ?_) | (with_reducible refine le_sizeN ?_) | go_size | (simp [go_sem]; done))⟩
theorem rread_none (q : ByteArray) (h1 : (q.toList == [116, 114, 117, 101]) = false) (h2 : (q.toList == [102, 97, 108, 115, 101]) = false) (h5 : q.size ≤ 9223372036854775000)
    (hq : ¬ ∃ h : 2 ≤ q.size, q[0] = 39 ∧ q[q.size - 1] = 39) (N : ∀ wx, Calls Tryd.prog 58 #[.string q] wx (NoneIs wx)) (w : World) :
    Calls Tryd.prog 23 #[.string q] w (Ret (.tuple #[.agg #[.int .i64 0, .int .i64 0, .string ⟨#[]⟩], .int .i64 11]) w) := by
  have N := Lib.hid N
  rcases Nat.lt_or_ge q.size 2 with h6 | h6
  · clear hq
    go_enter Tryd.func23, Tryd.ntmps23
    go_wp2_with ((with_reducible refine (N.out _).mono ?_); intro e w1 hr; obtain ⟨v, p, rfl, rfl⟩ := hr.out; clear hr; skip)
    go_returns
    exact ⟨rfl, by repeat' (first | (with_reducible exact Below.refl _ _) | (with_reducible assumption) | (with_reducible refine Below.alloc ?_ ?_ _) | (with_reducible refine Below.drew ?_) | (with_reducible refine belowN ?_ _) | (with_reducible refine Below.setCell ?_ ?_ _) | (with_reducible refine belowG ?_ ?_) | (with_reducible exact Nat.le_refl _) | (with_reducible refine le_sizeG ?_) | (with_reducible refine le_sizeA ?_) | (with_reducible refine le_sizeC ?_) | (with_reducible refine le_sizeD ?_) | (with_reducible refine le_sizeN ?_) | go_size | (simp [go_sem]; done))⟩
  · by_cases h7 : q[0] = 39
    · have h8 : ¬ q[q.size - 1] = 39 := fun h => hq ⟨h6, h7, h⟩
      have h8 : ((q[q.size - 1].toNat : Int) == 39) = false := by
        rw [beq_eq_false_iff_ne]; intro h
        exact h8 (UInt8.toNat_inj.1 (by have : (39 : UInt8).toNat = 39 := rfl
                                        omega))
      clear hq
      go_enter Tryd.func23, Tryd.ntmps23
      go_wp2_with ((with_reducible refine (N.out _).mono ?_); intro e w1 hr; obtain ⟨v, p, rfl, rfl⟩ := hr.out; clear hr; skip)
      go_returns
      exact ⟨rfl, by repeat' (first | (with_reducible exact Below.refl _ _) | (with_reducible assumption) | (with_reducible refine Below.alloc ?_ ?_ _) | (with_reducible refine Below.drew ?_) | (with_reducible refine belowN ?_ _) | (with_reducible refine Below.setCell ?_ ?_ _) | (with_reducible refine belowG ?_ ?_) | (with_reducible exact Nat.le_refl _) | (with_reducible refine le_sizeG ?_) | (with_reducible refine le_sizeA ?_) | (with_reducible refine le_sizeC ?_) | (with_reducible refine le_sizeD ?_) | (with_reducible refine le_sizeN ?_) | go_size | (simp [go_sem]; done))⟩
    · have h8 : ((q[0].toNat : Int) == 39) = false := by
        rw [beq_eq_false_iff_ne]; intro h
        exact h7 (UInt8.toNat_inj.1 (by have : (39 : UInt8).toNat = 39 := rfl
                                        omega))
      clear hq h7
      go_enter Tryd.func23, Tryd.ntmps23
      go_wp2_with ((with_reducible refine (N.out _).mono ?_); intro e w1 hr; obtain ⟨v, p, rfl, rfl⟩ := hr.out; clear hr; skip)
      go_returns
      exact ⟨rfl, by repeat' (first | (with_reducible exact Below.refl _ _) | (with_reducible assumption) | (with_reducible refine Below.alloc ?_ ?_ _) | (with_reducible refine Below.drew ?_) | (with_reducible refine belowN ?_ _) | (with_reducible refine Below.setCell ?_ ?_ _) | (with_reducible refine belowG ?_ ?_) | (with_reducible exact Nat.le_refl _) | (with_reducible refine le_sizeG ?_) | (with_reducible refine le_sizeA ?_) | (with_reducible refine le_sizeC ?_) | (with_reducible refine le_sizeD ?_) | (with_reducible refine le_sizeN ?_) | go_size | (simp [go_sem]; done))⟩
end Go.Proofs.YtidbmampjjgkpaaDoor
