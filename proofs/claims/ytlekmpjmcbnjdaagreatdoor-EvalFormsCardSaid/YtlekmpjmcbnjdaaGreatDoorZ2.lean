/- Several texts of this proof, joined: B, H. -/
import Derived.Test.YtlekmpjmcbnjdaaGreatDoorZ1
import Derived.WalkKit
import Derived.ProofKit
import Derived.OpenShut
import Derived.Handy
import Derived.BigQuiet
import Derived.Lib.Hide
import Derived.WalkLawsBesides
namespace Go.Proofs.YtlekmpjmcbnjdaaGreatDoor
open Go.RowKit
/-- What a number comes to: itself, or beyond. -/
def nK (x : Int) : Int := if inR x then 1 else 0
def nN (x : Int) : Int := if inR x then x else 0
def nE (x : Int) : Int := if inR x then 0 else 21
theorem nK_t {x : Int} (h : inR x = true) : nK x = 1 := by simp [nK, h]
theorem nN_t {x : Int} (h : inR x = true) : nN x = x := by simp [nN, h]
theorem nE_t {x : Int} (h : inR x = true) : nE x = 0 := by simp [nE, h]
theorem nK_f {x : Int} (h : inR x = false) : nK x = 0 := by simp [nK, h]
theorem nN_f {x : Int} (h : inR x = false) : nN x = 0 := by simp [nN, h]
theorem nE_f {x : Int} (h : inR x = false) : nE x = 21 := by simp [nE, h]
theorem wrap_inR {x : Int} (h : inR x = true) : wrap64 x = x := wrap_of x ((inR_iff x).1 h)
/-- A number (the first kind), or what is beyond. -/
def numV (x : Int) : Value := .tuple #[.agg #[.int .i64 (nK x), .int .i64 (nN x), .string ⟨#[]⟩], .int .i64 (nE x)]
def overV : Value := .tuple #[.agg #[.int .i64 0, .int .i64 0, .string ⟨#[]⟩], .int .i64 21]
def okV (x : Int) : Value := .tuple #[.agg #[.int .i64 1, .int .i64 x, .string ⟨#[]⟩], .int .i64 0]
theorem numV_t {x : Int} (h : inR x = true) : numV x = okV x := by simp [numV, okV, nK_t, nN_t, nE_t, h]
theorem numV_f {x : Int} (h : inR x = false) : numV x = overV := by simp [numV, overV, nK_f, nN_f, nE_f, h]
theorem retNum_t {x y : Int} (h : inR x = true) (hy : y = x) {w w' : World} (h2 : Below w.heap.size w w') : Ret (numV x) w (.returned (.tuple #[.agg #[.int .i64 1, .int .i64 y, .string ⟨#[]⟩], .int .i64 0])) w' := ⟨by rw [numV_t h, hy]; rfl, h2⟩
theorem retNum_f {x : Int} (h : inR x = false) {w w' : World} (h2 : Below w.heap.size w w') : Ret (numV x) w (.returned (.tuple #[.agg #[.int .i64 0, .int .i64 0, .string ⟨#[]⟩], .int .i64 21])) w' := ⟨by rw [numV_f h]; rfl, h2⟩

theorem number2 (a b : Int) (ha : I64 a) (w : World) : Calls Tryz.prog 93 #[.int .i64 2, .int .i64 a, .int .i64 b] w (Ret (numV (-a)) w) := by
  have H := Lib.hid (minus_any 0 a (by unfold I64; omega) ha)
  rw [show -a = 0 - a by omega]
  clear ha
  rcases h : inR (0 - a)
  all_goals
    have h' := Lib.hid h
    clear h
    generalize hx : 0 - a = x at *
    have hx' := Lib.hid hx
    clear hx
    go_enter Tryz.func93, Tryz.ntmps93
    go_wp2_with (first | ((with_reducible refine (H.out _).mono ?_); rintro e w1 ⟨rfl, rfl⟩; rw [h'.out]) | ((with_reducible refine (of_any _ _).mono ?_); intro e w1 hr; obtain ⟨rfl, p, rfl⟩ := hr.out; clear hr))
    go_returns
    first | exact retNum_f h'.out (by repeat' (first | (with_reducible exact Below.refl _ _) | (with_reducible assumption) | (with_reducible refine Below.alloc ?_ ?_ _) | (with_reducible refine Below.drew ?_) | (with_reducible refine belowN ?_ _) | (with_reducible refine Below.setCell ?_ ?_ _) | (with_reducible refine belowG ?_ ?_) | (with_reducible refine le_sizeG ?_) | go_size | (simp [go_sem]; done))) | exact retNum_t h'.out (wrap_inR h'.out) (by repeat' (first | (with_reducible exact Below.refl _ _) | (with_reducible assumption) | (with_reducible refine Below.alloc ?_ ?_ _) | (with_reducible refine Below.drew ?_) | (with_reducible refine belowN ?_ _) | (with_reducible refine Below.setCell ?_ ?_ _) | (with_reducible refine belowG ?_ ?_) | (with_reducible refine le_sizeG ?_) | go_size | (simp [go_sem]; done)))
theorem number3n (a b : Int) (ha : I64 a) (hb : I64 b) (ha0 : (a == 0) = false) (hb0 : (b == 0) = false) (w : World) : Calls Tryz.prog 93 #[.int .i64 3, .int .i64 a, .int .i64 b] w (Ret (numV (a * b)) w) := by
  have H := Lib.hid (times_n a b ha hb ha0 hb0)
  clear ha hb
  rcases h : inR (a * b)
  all_goals
    have h' := Lib.hid h
    clear h
    generalize hx : a * b = x at *
    have hx' := Lib.hid hx
    clear hx
    go_enter Tryz.func93, Tryz.ntmps93
    go_wp2_with (first | ((with_reducible refine (H.out _).mono ?_); rintro e w1 ⟨rfl, rfl⟩; rw [h'.out]) | ((with_reducible refine (of_any _ _).mono ?_); intro e w1 hr; obtain ⟨rfl, p, rfl⟩ := hr.out; clear hr))
    go_returns
    first | exact retNum_f h'.out (by repeat' (first | (with_reducible exact Below.refl _ _) | (with_reducible assumption) | (with_reducible refine Below.alloc ?_ ?_ _) | (with_reducible refine Below.drew ?_) | (with_reducible refine belowN ?_ _) | (with_reducible refine Below.setCell ?_ ?_ _) | (with_reducible refine belowG ?_ ?_) | (with_reducible refine le_sizeG ?_) | go_size | (simp [go_sem]; done))) | exact retNum_t h'.out (wrap_inR h'.out) (by repeat' (first | (with_reducible exact Below.refl _ _) | (with_reducible assumption) | (with_reducible refine Below.alloc ?_ ?_ _) | (with_reducible refine Below.drew ?_) | (with_reducible refine belowN ?_ _) | (with_reducible refine Below.setCell ?_ ?_ _) | (with_reducible refine belowG ?_ ?_) | (with_reducible refine le_sizeG ?_) | go_size | (simp [go_sem]; done)))
theorem number4n (a b : Int) (ha : I64 a) (hb : I64 b) (hb0 : (b == 0) = false) (w : World) : Calls Tryz.prog 93 #[.int .i64 4, .int .i64 a, .int .i64 b] w (Ret (numV (a.tdiv b)) w) := by
  have H := Lib.hid (quo_any a b ha hb hb0)
  clear ha hb
  rcases h : inR (a.tdiv b)
  all_goals
    have h' := Lib.hid h
    clear h
    generalize hx : a.tdiv b = x at *
    have hx' := Lib.hid hx
    clear hx
    go_enter Tryz.func93, Tryz.ntmps93
    go_wp2_with (first | ((with_reducible refine (H.out _).mono ?_); rintro e w1 ⟨rfl, rfl⟩; rw [h'.out]) | ((with_reducible refine (of_any _ _).mono ?_); intro e w1 hr; obtain ⟨rfl, p, rfl⟩ := hr.out; clear hr))
    go_returns
    first | exact retNum_f h'.out (by repeat' (first | (with_reducible exact Below.refl _ _) | (with_reducible assumption) | (with_reducible refine Below.alloc ?_ ?_ _) | (with_reducible refine Below.drew ?_) | (with_reducible refine belowN ?_ _) | (with_reducible refine Below.setCell ?_ ?_ _) | (with_reducible refine belowG ?_ ?_) | (with_reducible refine le_sizeG ?_) | go_size | (simp [go_sem]; done))) | exact retNum_t h'.out (wrap_inR h'.out) (by repeat' (first | (with_reducible exact Below.refl _ _) | (with_reducible assumption) | (with_reducible refine Below.alloc ?_ ?_ _) | (with_reducible refine Below.drew ?_) | (with_reducible refine belowN ?_ _) | (with_reducible refine Below.setCell ?_ ?_ _) | (with_reducible refine belowG ?_ ?_) | (with_reducible refine le_sizeG ?_) | go_size | (simp [go_sem]; done)))
theorem number6 (a b : Int) (ha : I64 a) (hb : I64 b) (w : World) : Calls Tryz.prog 93 #[.int .i64 6, .int .i64 a, .int .i64 b] w (Ret (numV (a + b)) w) := by
  have H := Lib.hid (plus_any a b ha hb)
  clear ha hb
  rcases h : inR (a + b)
  all_goals
    have h' := Lib.hid h
    clear h
    generalize hx : a + b = x at *
    have hx' := Lib.hid hx
    clear hx
    go_enter Tryz.func93, Tryz.ntmps93
    go_wp2_with (first | ((with_reducible refine (H.out _).mono ?_); rintro e w1 ⟨rfl, rfl⟩; rw [h'.out]) | ((with_reducible refine (of_any _ _).mono ?_); intro e w1 hr; obtain ⟨rfl, p, rfl⟩ := hr.out; clear hr))
    go_returns
    first | exact retNum_f h'.out (by repeat' (first | (with_reducible exact Below.refl _ _) | (with_reducible assumption) | (with_reducible refine Below.alloc ?_ ?_ _) | (with_reducible refine Below.drew ?_) | (with_reducible refine belowN ?_ _) | (with_reducible refine Below.setCell ?_ ?_ _) | (with_reducible refine belowG ?_ ?_) | (with_reducible refine le_sizeG ?_) | go_size | (simp [go_sem]; done))) | exact retNum_t h'.out (wrap_inR h'.out) (by repeat' (first | (with_reducible exact Below.refl _ _) | (with_reducible assumption) | (with_reducible refine Below.alloc ?_ ?_ _) | (with_reducible refine Below.drew ?_) | (with_reducible refine belowN ?_ _) | (with_reducible refine Below.setCell ?_ ?_ _) | (with_reducible refine belowG ?_ ?_) | (with_reducible refine le_sizeG ?_) | go_size | (simp [go_sem]; done)))
theorem number7 (a b : Int) (ha : I64 a) (hb : I64 b) (w : World) : Calls Tryz.prog 93 #[.int .i64 7, .int .i64 a, .int .i64 b] w (Ret (numV (a - b)) w) := by
  have H := Lib.hid (minus_any a b ha hb)
  clear ha hb
  rcases h : inR (a - b)
  all_goals
    have h' := Lib.hid h
    clear h
    generalize hx : a - b = x at *
    have hx' := Lib.hid hx
    clear hx
    go_enter Tryz.func93, Tryz.ntmps93
    go_wp2_with (first | ((with_reducible refine (H.out _).mono ?_); rintro e w1 ⟨rfl, rfl⟩; rw [h'.out]) | ((with_reducible refine (of_any _ _).mono ?_); intro e w1 hr; obtain ⟨rfl, p, rfl⟩ := hr.out; clear hr))
    go_returns
    first | exact retNum_f h'.out (by repeat' (first | (with_reducible exact Below.refl _ _) | (with_reducible assumption) | (with_reducible refine Below.alloc ?_ ?_ _) | (with_reducible refine Below.drew ?_) | (with_reducible refine belowN ?_ _) | (with_reducible refine Below.setCell ?_ ?_ _) | (with_reducible refine belowG ?_ ?_) | (with_reducible refine le_sizeG ?_) | go_size | (simp [go_sem]; done))) | exact retNum_t h'.out (wrap_inR h'.out) (by repeat' (first | (with_reducible exact Below.refl _ _) | (with_reducible assumption) | (with_reducible refine Below.alloc ?_ ?_ _) | (with_reducible refine Below.drew ?_) | (with_reducible refine belowN ?_ _) | (with_reducible refine Below.setCell ?_ ?_ _) | (with_reducible refine belowG ?_ ?_) | (with_reducible refine le_sizeG ?_) | go_size | (simp [go_sem]; done)))
theorem number3 (a b : Int) (ha : I64 a) (hb : I64 b) (w : World) : Calls Tryz.prog 93 #[.int .i64 3, .int .i64 a, .int .i64 b] w (Ret (numV (a * b)) w) := by
  by_cases h : a = 0 ∨ b = 0
  · have H := Lib.hid (times_0 a b h)
    have e : a * b = 0 := by rcases h with rfl | rfl <;> simp
    rw [e]
    clear h e ha hb
    go_enter Tryz.func93, Tryz.ntmps93
    go_wp2_with (first | ((with_reducible refine (H.out _).mono ?_); rintro e w1 ⟨rfl, rfl⟩) | ((with_reducible refine (of_any _ _).mono ?_); intro e w1 hr; obtain ⟨rfl, p, rfl⟩ := hr.out; clear hr))
    go_returns
    exact retNum_t (by decide) rfl (by repeat' (first | (with_reducible exact Below.refl _ _) | (with_reducible assumption) | (with_reducible refine Below.alloc ?_ ?_ _) | (with_reducible refine Below.drew ?_) | (with_reducible refine belowN ?_ _) | (with_reducible refine Below.setCell ?_ ?_ _) | (with_reducible refine belowG ?_ ?_) | (with_reducible refine le_sizeG ?_) | go_size | (simp [go_sem]; done)))
  · have h1 : ¬ a = 0 := fun e => h (Or.inl e)
    have h2 : ¬ b = 0 := fun e => h (Or.inr e)
    exact number3n a b ha hb (by simpa using h1) (by simpa using h2) w
def divV : Value := .tuple #[.agg #[.int .i64 0, .int .i64 0, .string ⟨#[]⟩], .int .i64 22]
theorem number45z (op a : Int) (h : op = 4 ∨ op = 5) (w : World) : Calls Tryz.prog 93 #[.int .i64 op, .int .i64 a, .int .i64 0] w (Ret divV w) := by
  rcases h with rfl | rfl
  all_goals
    go_enter Tryz.func93, Tryz.ntmps93
    go_wp2
    go_returns
    exact ⟨rfl, by repeat' (first | (with_reducible exact Below.refl _ _) | (with_reducible assumption) | (with_reducible refine Below.alloc ?_ ?_ _) | (with_reducible refine Below.drew ?_) | (with_reducible refine belowN ?_ _) | (with_reducible refine Below.setCell ?_ ?_ _) | (with_reducible refine belowG ?_ ?_) | (with_reducible refine le_sizeG ?_) | go_size | (simp [go_sem]; done))⟩
theorem number5 (a b : Int) (hb0 : (b == 0) = false) (w : World) : Calls Tryz.prog 93 #[.int .i64 5, .int .i64 a, .int .i64 b] w (Ret (okV (a.tmod b)) w) := by
  have h0' : ¬ b = 0 := by simpa using hb0
  go_enter Tryz.func93, Tryz.ntmps93
  go_wp2_with (first | ((with_reducible refine (of_any _ _).mono ?_); intro e w1 hr; obtain ⟨rfl, p, rfl⟩ := hr.out; clear hr))
  go_returns
  exact ⟨rfl, by repeat' (first | (with_reducible exact Below.refl _ _) | (with_reducible assumption) | (with_reducible refine Below.alloc ?_ ?_ _) | (with_reducible refine Below.drew ?_) | (with_reducible refine belowN ?_ _) | (with_reducible refine Below.setCell ?_ ?_ _) | (with_reducible refine belowG ?_ ?_) | (with_reducible refine le_sizeG ?_) | go_size | (simp [go_sem]; done))⟩
end Go.Proofs.YtlekmpjmcbnjdaaGreatDoor
namespace Go.Proofs.YtlekmpjmcbnjdaaGreatDoor
open Go.RowKit
/-- Is it a value? -/
def rightB (k n : Int) (s : ByteArray) : Bool := (k == 1 && s.toList.isEmpty) || (k == 2 && s.toList.isEmpty && (n == 0 || n == 1)) || (k == 3 && n == 0 && plainB s.data.toList)
theorem right_any (k n : Int) (s : ByteArray) (w : World) (hs : s.size ≤ maxLen) : Calls Tryz.prog 15 #[.agg #[.int .i64 k, .int .i64 n, .string s]] w (Ret (.bool (rightB k n s)) w) := by
  have hp := fun wx => Lib.hid (plain_any s wx hs)
  have hp := Lib.hid hp
  have hd : Hid (rightB k n s = ((k == 1 && s.toList.isEmpty) || (k == 2 && s.toList.isEmpty && (n == 0 || n == 1)) || (k == 3 && n == 0 && plainB s.data.toList))) := rfl
  by_cases h1 : k = 1
  · subst h1
    go_enter Tryz.func15, Tryz.ntmps15
    go_wp2_with ((with_reducible refine ((hp.out _).out).mono ?_); rintro e w1 ⟨rfl, rfl⟩)
    all_goals go_returns
    all_goals exact ⟨ret_bl (by rw [hd.out]; simp [*]), by repeat' (first | (with_reducible exact Below.refl _ _) | (with_reducible assumption) | (with_reducible refine Below.alloc ?_ ?_ _) | (with_reducible refine Below.drew ?_) | (with_reducible refine belowN ?_ _) | (with_reducible refine Below.setCell ?_ ?_ _) | (with_reducible refine belowG ?_ ?_) | (with_reducible refine le_sizeG ?_) | go_size | (simp [go_sem]; done))⟩
  · by_cases h2 : k = 2
    · subst h2
      rcases h3 : s.toList.isEmpty <;> by_cases h4 : n = 0 <;> by_cases h5 : n = 1
      all_goals try (exfalso; omega)
      all_goals try subst h4
      all_goals try subst h5
      all_goals
        try have h4' : (n == 0) = false := by simpa using h4
        try have h5' : (n == 1) = false := by simpa using h5
        have h3' := Lib.hid h3
        go_enter Tryz.func15, Tryz.ntmps15
        go_wp2_with ((with_reducible refine ((hp.out _).out).mono ?_); rintro e w1 ⟨rfl, rfl⟩)
        all_goals go_returns
        all_goals exact ⟨ret_bl (by rw [hd.out, h3'.out]; simp [*]), by repeat' (first | (with_reducible exact Below.refl _ _) | (with_reducible assumption) | (with_reducible refine Below.alloc ?_ ?_ _) | (with_reducible refine Below.drew ?_) | (with_reducible refine belowN ?_ _) | (with_reducible refine Below.setCell ?_ ?_ _) | (with_reducible refine belowG ?_ ?_) | (with_reducible refine le_sizeG ?_) | go_size | (simp [go_sem]; done))⟩
    · by_cases h6 : k = 3
      · subst h6
        by_cases h4 : n = 0
        · subst h4
          go_enter Tryz.func15, Tryz.ntmps15
          go_wp2_with ((with_reducible refine ((hp.out _).out).mono ?_); rintro e w1 ⟨rfl, rfl⟩)
          all_goals go_returns
          all_goals exact ⟨ret_bl (by rw [hd.out]; simp [*]), by repeat' (first | (with_reducible exact Below.refl _ _) | (with_reducible assumption) | (with_reducible refine Below.alloc ?_ ?_ _) | (with_reducible refine Below.drew ?_) | (with_reducible refine belowN ?_ _) | (with_reducible refine Below.setCell ?_ ?_ _) | (with_reducible refine belowG ?_ ?_) | (with_reducible refine le_sizeG ?_) | go_size | (simp [go_sem]; done))⟩
        · have h4' : (n == 0) = false := by simpa using h4
          go_enter Tryz.func15, Tryz.ntmps15
          go_wp2_with ((with_reducible refine ((hp.out _).out).mono ?_); rintro e w1 ⟨rfl, rfl⟩)
          all_goals go_returns
          all_goals exact ⟨ret_bl (by rw [hd.out]; simp [*]), by repeat' (first | (with_reducible exact Below.refl _ _) | (with_reducible assumption) | (with_reducible refine Below.alloc ?_ ?_ _) | (with_reducible refine Below.drew ?_) | (with_reducible refine belowN ?_ _) | (with_reducible refine Below.setCell ?_ ?_ _) | (with_reducible refine belowG ?_ ?_) | (with_reducible refine le_sizeG ?_) | go_size | (simp [go_sem]; done))⟩
      · have h1' : (k == 1) = false := by simpa using h1
        have h2' : (k == 2) = false := by simpa using h2
        have h6' : (k == 3) = false := by simpa using h6
        go_enter Tryz.func15, Tryz.ntmps15
        go_wp2_with ((with_reducible refine ((hp.out _).out).mono ?_); rintro e w1 ⟨rfl, rfl⟩)
        all_goals go_returns
        all_goals exact ⟨ret_bl (by rw [hd.out]; simp [*]), by repeat' (first | (with_reducible exact Below.refl _ _) | (with_reducible assumption) | (with_reducible refine Below.alloc ?_ ?_ _) | (with_reducible refine Below.drew ?_) | (with_reducible refine belowN ?_ _) | (with_reducible refine Below.setCell ?_ ?_ _) | (with_reducible refine belowG ?_ ?_) | (with_reducible refine le_sizeG ?_) | go_size | (simp [go_sem]; done))⟩
theorem rright_any (k n : Int) (s : ByteArray) (w : World) (hs : s.size ≤ maxLen) : Calls Tryz.prog 19 #[.agg #[.int .i64 k, .int .i64 n, .string s]] w (Ret (.bool (rightB k n s)) w) := by
  have hp := fun wx => Lib.hid (rplain_any s wx hs)
  have hp := Lib.hid hp
  have hd : Hid (rightB k n s = ((k == 1 && s.toList.isEmpty) || (k == 2 && s.toList.isEmpty && (n == 0 || n == 1)) || (k == 3 && n == 0 && plainB s.data.toList))) := rfl
  by_cases h1 : k = 1
  · subst h1
    go_enter Tryz.func19, Tryz.ntmps19
    go_wp2_with ((with_reducible refine ((hp.out _).out).mono ?_); rintro e w1 ⟨rfl, rfl⟩)
    all_goals go_returns
    all_goals exact ⟨ret_bl (by rw [hd.out]; simp [*]), by repeat' (first | (with_reducible exact Below.refl _ _) | (with_reducible assumption) | (with_reducible refine Below.alloc ?_ ?_ _) | (with_reducible refine Below.drew ?_) | (with_reducible refine belowN ?_ _) | (with_reducible refine Below.setCell ?_ ?_ _) | (with_reducible refine belowG ?_ ?_) | (with_reducible refine le_sizeG ?_) | go_size | (simp [go_sem]; done))⟩
  · by_cases h2 : k = 2
    · subst h2
      rcases h3 : s.toList.isEmpty <;> by_cases h4 : n = 0 <;> by_cases h5 : n = 1
      all_goals try (exfalso; omega)
      all_goals try subst h4
      all_goals try subst h5
      all_goals
        try have h4' : (n == 0) = false := by simpa using h4
        try have h5' : (n == 1) = false := by simpa using h5
        have h3' := Lib.hid h3
        go_enter Tryz.func19, Tryz.ntmps19
        go_wp2_with ((with_reducible refine ((hp.out _).out).mono ?_); rintro e w1 ⟨rfl, rfl⟩)
        all_goals go_returns
        all_goals exact ⟨ret_bl (by rw [hd.out, h3'.out]; simp [*]), by repeat' (first | (with_reducible exact Below.refl _ _) | (with_reducible assumption) | (with_reducible refine Below.alloc ?_ ?_ _) | (with_reducible refine Below.drew ?_) | (with_reducible refine belowN ?_ _) | (with_reducible refine Below.setCell ?_ ?_ _) | (with_reducible refine belowG ?_ ?_) | (with_reducible refine le_sizeG ?_) | go_size | (simp [go_sem]; done))⟩
    · by_cases h6 : k = 3
      · subst h6
        by_cases h4 : n = 0
        · subst h4
          go_enter Tryz.func19, Tryz.ntmps19
          go_wp2_with ((with_reducible refine ((hp.out _).out).mono ?_); rintro e w1 ⟨rfl, rfl⟩)
          all_goals go_returns
          all_goals exact ⟨ret_bl (by rw [hd.out]; simp [*]), by repeat' (first | (with_reducible exact Below.refl _ _) | (with_reducible assumption) | (with_reducible refine Below.alloc ?_ ?_ _) | (with_reducible refine Below.drew ?_) | (with_reducible refine belowN ?_ _) | (with_reducible refine Below.setCell ?_ ?_ _) | (with_reducible refine belowG ?_ ?_) | (with_reducible refine le_sizeG ?_) | go_size | (simp [go_sem]; done))⟩
        · have h4' : (n == 0) = false := by simpa using h4
          go_enter Tryz.func19, Tryz.ntmps19
          go_wp2_with ((with_reducible refine ((hp.out _).out).mono ?_); rintro e w1 ⟨rfl, rfl⟩)
          all_goals go_returns
          all_goals exact ⟨ret_bl (by rw [hd.out]; simp [*]), by repeat' (first | (with_reducible exact Below.refl _ _) | (with_reducible assumption) | (with_reducible refine Below.alloc ?_ ?_ _) | (with_reducible refine Below.drew ?_) | (with_reducible refine belowN ?_ _) | (with_reducible refine Below.setCell ?_ ?_ _) | (with_reducible refine belowG ?_ ?_) | (with_reducible refine le_sizeG ?_) | go_size | (simp [go_sem]; done))⟩
      · have h1' : (k == 1) = false := by simpa using h1
        have h2' : (k == 2) = false := by simpa using h2
        have h6' : (k == 3) = false := by simpa using h6
        go_enter Tryz.func19, Tryz.ntmps19
        go_wp2_with ((with_reducible refine ((hp.out _).out).mono ?_); rintro e w1 ⟨rfl, rfl⟩)
        all_goals go_returns
        all_goals exact ⟨ret_bl (by rw [hd.out]; simp [*]), by repeat' (first | (with_reducible exact Below.refl _ _) | (with_reducible assumption) | (with_reducible refine Below.alloc ?_ ?_ _) | (with_reducible refine Below.drew ?_) | (with_reducible refine belowN ?_ _) | (with_reducible refine Below.setCell ?_ ?_ _) | (with_reducible refine belowG ?_ ?_) | (with_reducible refine le_sizeG ?_) | go_size | (simp [go_sem]; done))⟩
end Go.Proofs.YtlekmpjmcbnjdaaGreatDoor
