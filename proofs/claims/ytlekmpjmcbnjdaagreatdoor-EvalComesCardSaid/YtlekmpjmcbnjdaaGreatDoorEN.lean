/- eval: a node, an operation, the whole. -/
import Derived.Test.YtlekmpjmcbnjdaaGreatDoorEC
import Derived.Test.YtlekmpjmcbnjdaaGreatDoorXE
import Derived.WalkKit
import Derived.ProofKit
import Derived.OpenShut
import Derived.Handy
import Derived.BigQuiet
import Derived.Lib.Hide
import Derived.WalkSmall
import Derived.WalkLawsBesides
namespace Go.Proofs.YtlekmpjmcbnjdaaGreatDoor
open Go.RowKit
theorem rk_eta {k n : Int} {s : ByteArray} {r : Rk} (h : r.e = 0) (h1 : r.k = k) (h2 : r.n = n) (h3 : r.s = s) : rkV r = .tuple #[.agg #[.int .i64 k, .int .i64 n, .string s], .int .i64 0] := by
  unfold rkV; rw [h, h1, h2, h3]
theorem sound_v {r : Rk} (h : SoundV r) : rkV r = .tuple #[.agg #[.int .i64 r.k, .int .i64 r.n, .string r.s], .int .i64 0] := rk_eta h.1 rfl rfl rfl
theorem err_v (e : Int) : rkV (errR e) = .tuple #[.agg #[.int .i64 0, .int .i64 0, .string ⟨#[]⟩], .int .i64 e] := rfl
theorem truth_f (w : World) : Calls Tryz.prog 17 #[.bool false] w (Ret (.agg #[.int .i64 2, .int .i64 0, .string ⟨#[]⟩]) w) := truth_any false w
theorem truth_t (w : World) : Calls Tryz.prog 17 #[.bool true] w (Ret (.agg #[.int .i64 2, .int .i64 1, .string ⟨#[]⟩]) w) := truth_any true w
/-- Is what is known enough? -/
theorem esettled (op : Int) (h1 : 3 ≤ op) (h2 : op ≤ 15) (a : Rk) (ha : SoundV a) (w : World) :
    Calls Tryz.prog 67 #[.int .i64 op, .agg #[.int .i64 a.k, .int .i64 a.n, .string a.s]] w (Ret (.bool (stopB op a)) w) := by
  obtain ⟨-, hr, -⟩ := ha
  obtain ⟨k, n, s, e⟩ := a
  simp only at hr ⊢
  by_cases h14 : op = 14
  · subst h14
    rcases right_cases k n s hr with ⟨rfl, rfl⟩ | ⟨rfl, rfl, rfl | rfl⟩ | ⟨rfl, rfl, _⟩
    all_goals
      clear hr
      go_enter Tryz.func67, Tryz.ntmps67
      go_wp2_with fail
      (refine wp_region_G (by kernel_rfl) (by kernel_rfl) ?_; (repeat (go_big_quiet_step (exact quietG (truth_f _)))); refine wpQuiet_nil ?_; intro _ hw'; obtain ⟨pg, hw''⟩ := hw'; subst hw'')
      go_wp2
      go_returns
      exact ⟨ret_bl (by simp [stopB, Lib.toList_data]), by repeat' (first | (with_reducible exact Below.refl _ _) | (with_reducible assumption) | (with_reducible refine Below.alloc ?_ ?_ _) | (with_reducible refine Below.drew ?_) | (with_reducible refine belowN ?_ _) | (with_reducible refine Below.setCell ?_ ?_ _) | (with_reducible refine belowG ?_ ?_) | (with_reducible exact Nat.le_refl _) | (with_reducible refine le_sizeG ?_) | (with_reducible refine le_sizeA ?_) | (with_reducible refine le_sizeC ?_) | (with_reducible refine le_sizeD ?_) | (with_reducible refine le_sizeN ?_) | go_size | (simp [go_sem]; done))⟩
  · by_cases h15 : op = 15
    · subst h15
      rcases right_cases k n s hr with ⟨rfl, rfl⟩ | ⟨rfl, rfl, rfl | rfl⟩ | ⟨rfl, rfl, _⟩
      all_goals
        clear hr
        go_enter Tryz.func67, Tryz.ntmps67
        go_wp2_with fail
        (refine wp_region_G (by kernel_rfl) (by kernel_rfl) ?_; (repeat (go_big_quiet_step (exact quietG (truth_t _)))); refine wpQuiet_nil ?_; intro _ hw'; obtain ⟨pg, hw''⟩ := hw'; subst hw'')
        go_wp2
        go_returns
        exact ⟨ret_bl (by simp [stopB, Lib.toList_data]), by repeat' (first | (with_reducible exact Below.refl _ _) | (with_reducible assumption) | (with_reducible refine Below.alloc ?_ ?_ _) | (with_reducible refine Below.drew ?_) | (with_reducible refine belowN ?_ _) | (with_reducible refine Below.setCell ?_ ?_ _) | (with_reducible refine belowG ?_ ?_) | (with_reducible exact Nat.le_refl _) | (with_reducible refine le_sizeG ?_) | (with_reducible refine le_sizeA ?_) | (with_reducible refine le_sizeC ?_) | (with_reducible refine le_sizeD ?_) | (with_reducible refine le_sizeN ?_) | go_size | (simp [go_sem]; done))⟩
    · have e14 : (op == 14) = false := beq_eq_false_iff_ne.mpr h14
      have e15 : (op == 15) = false := beq_eq_false_iff_ne.mpr h15
      have hs := Lib.hid (show stopB op ⟨k, n, s, e⟩ = false by simp [stopB, e14, e15])
      clear hr h14 h15
      go_enter Tryz.func67, Tryz.ntmps67
      go_wp2
      go_returns
      exact ⟨ret_bl hs.out.symm, by repeat' (first | (with_reducible exact Below.refl _ _) | (with_reducible assumption) | (with_reducible refine Below.alloc ?_ ?_ _) | (with_reducible refine Below.drew ?_) | (with_reducible refine belowN ?_ _) | (with_reducible refine Below.setCell ?_ ?_ _) | (with_reducible refine belowG ?_ ?_) | (with_reducible exact Nat.le_refl _) | (with_reducible refine le_sizeG ?_) | (with_reducible refine le_sizeA ?_) | (with_reducible refine le_sizeC ?_) | (with_reducible refine le_sizeD ?_) | (with_reducible refine le_sizeN ?_) | go_size | (simp [go_sem]; done))⟩
section
variable (va : Option Addr) (vn vc : Nat) (ia : Option Addr) (n ic : Nat) (na : Option Addr) (nc : Nat)
/-- A reckoner's value. -/
def reckV (l : Nat) : Value := .agg #[.slice va vn vc, .slice ia n ic, .slice na l nc]
/-- What a call of node comes to, from w on. -/
def NodeC (w : World) (l a : Nat) (r : Rk) : Prop := ∀ wx, Below w.heap.size w wx → Calls Tryz.prog 22 #[reckV va vn vc ia n ic na nc l, .int .i64 (a : Int)] wx (Ret (rkV r) wx)
theorem eop_err (l : Nat) (m : Nd) (a : Nat) (r : Rk) (hl : m.l = (a : Int)) (hr : ErrA r) (w : World) (CA : NodeC va vn vc ia n ic na nc w l a r) :
    Calls Tryz.prog 38 #[reckV va vn vc ia n ic na nc l, ndV m] w (Ret (rkV r) w) := by
  unfold NodeC reckV at *
  obtain ⟨hne, hre⟩ := hr
  rw [hre] at CA ⊢
  generalize r.e = e at *
  rw [err_v] at CA ⊢
  replace CA := Lib.hid CA
  unfold ndV
  obtain ⟨op, k0, nn, s, name, ll, rr⟩ := m
  simp only at hl ⊢
  subst hl
  have e0 : (e == 0) = false := beq_eq_false_iff_ne.mpr hne
  have e1 : (e != 0) = true := by rw [bne, e0]; rfl
  clear hre hne
  go_enter Tryz.func38, Tryz.ntmps38
  go_wp2_with ((with_reducible refine (CA.out _ (by repeat' (first | (with_reducible exact Below.refl _ _) | (with_reducible assumption) | (with_reducible refine Below.alloc ?_ ?_ _) | (with_reducible refine Below.drew ?_) | (with_reducible refine belowN ?_ _) | (with_reducible refine Below.setCell ?_ ?_ _) | (with_reducible refine belowG ?_ ?_) | (with_reducible exact Nat.le_refl _) | (with_reducible refine le_sizeG ?_) | (with_reducible refine le_sizeA ?_) | (with_reducible refine le_sizeC ?_) | (with_reducible refine le_sizeD ?_) | (with_reducible refine le_sizeN ?_) | go_size | (simp [go_sem]; done)))).mono ?_); intro e w1 hr; obtain ⟨rfl, p, rfl⟩ := hr.out; clear hr)
  go_returns
  exact ⟨rfl, by repeat' (first | (with_reducible exact Below.refl _ _) | (with_reducible assumption) | (with_reducible refine Below.alloc ?_ ?_ _) | (with_reducible refine Below.drew ?_) | (with_reducible refine belowN ?_ _) | (with_reducible refine Below.setCell ?_ ?_ _) | (with_reducible refine belowG ?_ ?_) | (with_reducible exact Nat.le_refl _) | (with_reducible refine le_sizeG ?_) | (with_reducible refine le_sizeA ?_) | (with_reducible refine le_sizeC ?_) | (with_reducible refine le_sizeD ?_) | (with_reducible refine le_sizeN ?_) | go_size | (simp [go_sem]; done))⟩
theorem eop_one (l : Nat) (m : Nd) (a : Nat) (r : Rk) (ho : m.op = 1 ∨ m.op = 2) (hl : m.l = (a : Int)) (hr : SoundV r) (w : World) (CA : NodeC va vn vc ia n ic na nc w l a r) :
    Calls Tryz.prog 38 #[reckV va vn vc ia n ic na nc l, ndV m] w (Ret (rkV (finR m.op r (errR 0))) w) := by
  unfold NodeC reckV at *
  rw [sound_v hr] at CA
  replace CA := Lib.hid CA
  have R := Lib.hid (fun wx => (ereckon1 m.op ho r hr wx).mono (fun e w' h => (h : Ret _ wx e w')))
  generalize finR m.op r (errR 0) = q at *
  unfold ndV
  obtain ⟨op, k0, nn, s, name, ll, rr⟩ := m
  simp only at hl ho R ⊢
  subst hl
  obtain ⟨rk0, rn, rs, re⟩ := r
  simp only at CA R
  clear hr
  rw [rkV_def] at R ⊢
  rcases ho with rfl | rfl
  all_goals
    go_enter Tryz.func38, Tryz.ntmps38
    go_wp2_with (first | ((with_reducible refine (CA.out _ (by repeat' (first | (with_reducible exact Below.refl _ _) | (with_reducible assumption) | (with_reducible refine Below.alloc ?_ ?_ _) | (with_reducible refine Below.drew ?_) | (with_reducible refine belowN ?_ _) | (with_reducible refine Below.setCell ?_ ?_ _) | (with_reducible refine belowG ?_ ?_) | (with_reducible exact Nat.le_refl _) | (with_reducible refine le_sizeG ?_) | (with_reducible refine le_sizeA ?_) | (with_reducible refine le_sizeC ?_) | (with_reducible refine le_sizeD ?_) | (with_reducible refine le_sizeN ?_) | go_size | (simp [go_sem]; done)))).mono ?_); intro e w1 hr; obtain ⟨rfl, p, rfl⟩ := hr.out; clear hr) | ((with_reducible refine (R.out _).mono ?_); intro e w1 hr; obtain ⟨rfl, p, rfl⟩ := hr.out; clear hr))
    go_returns
    exact ⟨rfl, by repeat' (first | (with_reducible exact Below.refl _ _) | (with_reducible assumption) | (with_reducible refine Below.alloc ?_ ?_ _) | (with_reducible refine Below.drew ?_) | (with_reducible refine belowN ?_ _) | (with_reducible refine Below.setCell ?_ ?_ _) | (with_reducible refine belowG ?_ ?_) | (with_reducible exact Nat.le_refl _) | (with_reducible refine le_sizeG ?_) | (with_reducible refine le_sizeA ?_) | (with_reducible refine le_sizeC ?_) | (with_reducible refine le_sizeD ?_) | (with_reducible refine le_sizeN ?_) | go_size | (simp [go_sem]; done))⟩
theorem eop_stop (l : Nat) (m : Nd) (a : Nat) (r : Rk) (h1 : 3 ≤ m.op) (h2 : m.op ≤ 15) (hl : m.l = (a : Int)) (hr : SoundV r) (hs : stopB m.op r = true) (w : World) (CA : NodeC va vn vc ia n ic na nc w l a r) :
    Calls Tryz.prog 38 #[reckV va vn vc ia n ic na nc l, ndV m] w (Ret (rkV r) w) := by
  unfold NodeC reckV at *
  have S := fun wx => esettled m.op h1 h2 r hr wx
  rw [hs] at S
  replace S := Lib.hid S
  rw [sound_v hr] at CA ⊢
  replace CA := Lib.hid CA
  unfold ndV
  obtain ⟨op, k0, nn, s, name, ll, rr⟩ := m
  simp only at hl h1 h2 S ⊢
  subst hl
  obtain ⟨rk0, rn, rs, re⟩ := r
  simp only at CA S ⊢
  have o1 : (op == 1) = false := beq_eq_false_iff_ne.mpr (by omega)
  have o2 : (op == 2) = false := beq_eq_false_iff_ne.mpr (by omega)
  clear hr hs h1 h2
  go_enter Tryz.func38, Tryz.ntmps38
  go_wp2_with (first | ((with_reducible refine (CA.out _ (by repeat' (first | (with_reducible exact Below.refl _ _) | (with_reducible assumption) | (with_reducible refine Below.alloc ?_ ?_ _) | (with_reducible refine Below.drew ?_) | (with_reducible refine belowN ?_ _) | (with_reducible refine Below.setCell ?_ ?_ _) | (with_reducible refine belowG ?_ ?_) | (with_reducible exact Nat.le_refl _) | (with_reducible refine le_sizeG ?_) | (with_reducible refine le_sizeA ?_) | (with_reducible refine le_sizeC ?_) | (with_reducible refine le_sizeD ?_) | (with_reducible refine le_sizeN ?_) | go_size | (simp [go_sem]; done)))).mono ?_); intro e w1 hr; obtain ⟨rfl, p, rfl⟩ := hr.out; clear hr) | ((with_reducible refine (S.out _).mono ?_); intro e w1 hr; obtain ⟨rfl, p, rfl⟩ := hr.out; clear hr))
  go_returns
  exact ⟨rfl, by repeat' (first | (with_reducible exact Below.refl _ _) | (with_reducible assumption) | (with_reducible refine Below.alloc ?_ ?_ _) | (with_reducible refine Below.drew ?_) | (with_reducible refine belowN ?_ _) | (with_reducible refine Below.setCell ?_ ?_ _) | (with_reducible refine belowG ?_ ?_) | (with_reducible exact Nat.le_refl _) | (with_reducible refine le_sizeG ?_) | (with_reducible refine le_sizeA ?_) | (with_reducible refine le_sizeC ?_) | (with_reducible refine le_sizeD ?_) | (with_reducible refine le_sizeN ?_) | go_size | (simp [go_sem]; done))⟩
theorem eop_two_err (l : Nat) (m : Nd) (a b : Nat) (r q : Rk) (h1 : 3 ≤ m.op) (h2 : m.op ≤ 15) (hl : m.l = (a : Int)) (hrr : m.r = (b : Int)) (hr : SoundV r) (hs : stopB m.op r = false) (hq : ErrA q) (w : World) (CA : NodeC va vn vc ia n ic na nc w l a r) (CB : NodeC va vn vc ia n ic na nc w l b q) :
    Calls Tryz.prog 38 #[reckV va vn vc ia n ic na nc l, ndV m] w (Ret (rkV q) w) := by
  unfold NodeC reckV at *
  have S := fun wx => esettled m.op h1 h2 r hr wx
  rw [hs] at S
  replace S := Lib.hid S
  rw [sound_v hr] at CA
  replace CA := Lib.hid CA
  obtain ⟨hne, hre⟩ := hq
  rw [hre] at CB ⊢
  generalize q.e = e at *
  rw [err_v] at CB ⊢
  replace CB := Lib.hid CB
  unfold ndV
  obtain ⟨op, k0, nn, s, name, ll, rr⟩ := m
  simp only at hl hrr h1 h2 S ⊢
  subst hl hrr
  obtain ⟨rk0, rn, rs, re⟩ := r
  simp only at CA S ⊢
  have o1 : (op == 1) = false := beq_eq_false_iff_ne.mpr (by omega)
  have o2 : (op == 2) = false := beq_eq_false_iff_ne.mpr (by omega)
  have e0 : (e == 0) = false := beq_eq_false_iff_ne.mpr hne
  have e1 : (e != 0) = true := by rw [bne, e0]; rfl
  clear hr hs h1 h2 hre hne
  go_enter Tryz.func38, Tryz.ntmps38
  go_wp2_with (first | ((with_reducible refine (CA.out _ (by repeat' (first | (with_reducible exact Below.refl _ _) | (with_reducible assumption) | (with_reducible refine Below.alloc ?_ ?_ _) | (with_reducible refine Below.drew ?_) | (with_reducible refine belowN ?_ _) | (with_reducible refine Below.setCell ?_ ?_ _) | (with_reducible refine belowG ?_ ?_) | (with_reducible exact Nat.le_refl _) | (with_reducible refine le_sizeG ?_) | (with_reducible refine le_sizeA ?_) | (with_reducible refine le_sizeC ?_) | (with_reducible refine le_sizeD ?_) | (with_reducible refine le_sizeN ?_) | go_size | (simp [go_sem]; done)))).mono ?_); intro e w1 hr; obtain ⟨rfl, p, rfl⟩ := hr.out; clear hr) | ((with_reducible refine (CB.out _ (by repeat' (first | (with_reducible exact Below.refl _ _) | (with_reducible assumption) | (with_reducible refine Below.alloc ?_ ?_ _) | (with_reducible refine Below.drew ?_) | (with_reducible refine belowN ?_ _) | (with_reducible refine Below.setCell ?_ ?_ _) | (with_reducible refine belowG ?_ ?_) | (with_reducible exact Nat.le_refl _) | (with_reducible refine le_sizeG ?_) | (with_reducible refine le_sizeA ?_) | (with_reducible refine le_sizeC ?_) | (with_reducible refine le_sizeD ?_) | (with_reducible refine le_sizeN ?_) | go_size | (simp [go_sem]; done)))).mono ?_); intro e w1 hr; obtain ⟨rfl, p, rfl⟩ := hr.out; clear hr) | ((with_reducible refine (S.out _).mono ?_); intro e w1 hr; obtain ⟨rfl, p, rfl⟩ := hr.out; clear hr))
  go_returns
  exact ⟨rfl, by repeat' (first | (with_reducible exact Below.refl _ _) | (with_reducible assumption) | (with_reducible refine Below.alloc ?_ ?_ _) | (with_reducible refine Below.drew ?_) | (with_reducible refine belowN ?_ _) | (with_reducible refine Below.setCell ?_ ?_ _) | (with_reducible refine belowG ?_ ?_) | (with_reducible exact Nat.le_refl _) | (with_reducible refine le_sizeG ?_) | (with_reducible refine le_sizeA ?_) | (with_reducible refine le_sizeC ?_) | (with_reducible refine le_sizeD ?_) | (with_reducible refine le_sizeN ?_) | go_size | (simp [go_sem]; done))⟩
theorem eop_two (l : Nat) (m : Nd) (a b : Nat) (r q : Rk) (h1 : 3 ≤ m.op) (h2 : m.op ≤ 15) (hl : m.l = (a : Int)) (hrr : m.r = (b : Int)) (hr : SoundV r) (hs : stopB m.op r = false) (hq : SoundV q) (w : World) (CA : NodeC va vn vc ia n ic na nc w l a r) (CB : NodeC va vn vc ia n ic na nc w l b q) :
    Calls Tryz.prog 38 #[reckV va vn vc ia n ic na nc l, ndV m] w (Ret (rkV (finR m.op r q)) w) := by
  unfold NodeC reckV at *
  have S := fun wx => esettled m.op h1 h2 r hr wx
  rw [hs] at S
  replace S := Lib.hid S
  rw [sound_v hr] at CA
  replace CA := Lib.hid CA
  rw [sound_v hq] at CB
  replace CB := Lib.hid CB
  have R := Lib.hid (fun g wx hg c0 c1 c2 => ereckon2 m.op h1 r q hr hq g wx hg c0 c1 c2)
  generalize finR m.op r q = z at *
  unfold ndV
  obtain ⟨op, k0, nn, s, name, ll, rr⟩ := m
  simp only at hl hrr h1 h2 S R ⊢
  subst hl hrr
  obtain ⟨rk0, rn, rs, re⟩ := r
  obtain ⟨qk, qn, qs, qe⟩ := q
  simp only at CA CB S R ⊢
  have o1 : (op == 1) = false := beq_eq_false_iff_ne.mpr (by omega)
  have o2 : (op == 2) = false := beq_eq_false_iff_ne.mpr (by omega)
  clear hr hs hq h1 h2
  rw [rkV_def] at R ⊢
  go_enter Tryz.func38, Tryz.ntmps38
  go_wp2_with (first | ((with_reducible refine (CA.out _ (by repeat' (first | (with_reducible exact Below.refl _ _) | (with_reducible assumption) | (with_reducible refine Below.alloc ?_ ?_ _) | (with_reducible refine Below.drew ?_) | (with_reducible refine belowN ?_ _) | (with_reducible refine Below.setCell ?_ ?_ _) | (with_reducible refine belowG ?_ ?_) | (with_reducible exact Nat.le_refl _) | (with_reducible refine le_sizeG ?_) | (with_reducible refine le_sizeA ?_) | (with_reducible refine le_sizeC ?_) | (with_reducible refine le_sizeD ?_) | (with_reducible refine le_sizeN ?_) | go_size | (simp [go_sem]; done)))).mono ?_); intro e w1 hr; obtain ⟨rfl, p, rfl⟩ := hr.out; clear hr) | ((with_reducible refine (CB.out _ (by repeat' (first | (with_reducible exact Below.refl _ _) | (with_reducible assumption) | (with_reducible refine Below.alloc ?_ ?_ _) | (with_reducible refine Below.drew ?_) | (with_reducible refine belowN ?_ _) | (with_reducible refine Below.setCell ?_ ?_ _) | (with_reducible refine belowG ?_ ?_) | (with_reducible exact Nat.le_refl _) | (with_reducible refine le_sizeG ?_) | (with_reducible refine le_sizeA ?_) | (with_reducible refine le_sizeC ?_) | (with_reducible refine le_sizeD ?_) | (with_reducible refine le_sizeN ?_) | go_size | (simp [go_sem]; done)))).mono ?_); intro e w1 hr; obtain ⟨rfl, p, rfl⟩ := hr.out; clear hr) | ((with_reducible refine (S.out _).mono ?_); intro e w1 hr; obtain ⟨rfl, p, rfl⟩ := hr.out; clear hr) | ((with_reducible refine (R.out _ _ (by simp [go_sem]) (by simp [go_sem]) (by simp [go_sem]) (by simp [go_sem])).mono ?_); intro e w1 hr; obtain ⟨rfl, p, rfl⟩ := hr.out; clear hr))
  go_returns
  exact ⟨rfl, by repeat' (first | (with_reducible exact Below.refl _ _) | (with_reducible assumption) | (with_reducible refine Below.alloc ?_ ?_ _) | (with_reducible refine Below.drew ?_) | (with_reducible refine belowN ?_ _) | (with_reducible refine Below.setCell ?_ ?_ _) | (with_reducible refine belowG ?_ ?_) | (with_reducible exact Nat.le_refl _) | (with_reducible refine le_sizeG ?_) | (with_reducible refine le_sizeA ?_) | (with_reducible refine le_sizeC ?_) | (with_reducible refine le_sizeD ?_) | (with_reducible refine le_sizeN ?_) | go_size | (simp [go_sem]; done))⟩
end
section
variable (va : Option Addr) (vc : Nat) (cs : List Cl) (ia : Option Addr) (ic : Nat) (ins : List ByteArray) (na : Option Addr) (nc : Nat) (ns : List Nd)
set_option maxRecDepth 100000 in
set_option maxHeartbeats 1000000 in
theorem enode_leaf (i : Nat) (m : Nd) (hi : i < ns.length) (hm : ns[i] = m) (hc : m.op = 0 ∨ m.op = 16 ∨ m.op = 17) (hvn : cs.length ≤ 1000000) (hin : ins.length ≤ 1000) (w : World) (h : NdsAt w na ns) (hv : CellsAt w va cs) (hs : StrsAt w ia ins) :
    Calls Tryz.prog 22 #[reckV va cs.length vc ia ins.length ic na nc ns.length, .int .i64 (i : Int)] w (Ret (rkV (leafR cs ins m)) w) := by
  have V := fun wx hb => evalue_any va vc cs ia ins.length ic ⟨m.name.toArray⟩ hvn wx (cls_below (w' := wx) hv hb)
  have S := Lib.hid (fun wx hb => active_any va cs.length vc ia ic ins ⟨m.name.toArray⟩ hin wx (strs_below (w' := wx) hs hb))
  have e : leafR cs ins m = if m.op = 0 then ⟨m.k, m.n, ⟨m.s.toArray⟩, 0⟩ else if m.op = 16 then cellR cs ⟨m.name.toArray⟩ else trR (hasB ins ⟨m.name.toArray⟩) := rfl
  rw [e]
  obtain ⟨g, o, rfl, hg, hcc⟩ := h (by omega)
  obtain ⟨n1, n2, n3, n4, n5, n6, n7⟩ := hcc i hi
  rw [hm] at n1 n2 n3 n4 n5 n6 n7
  have i1 : InW g w := ⟨hg⟩
  have hI : (i : Int) < (ns.length : Int) := by omega
  obtain ⟨op, k, nn, s, name, l, r⟩ := m
  simp only at hc V S n1 n2 n3 n4 n5 n6 n7 ⊢
  obtain ⟨q, hq⟩ : ∃ q, cellR cs ⟨name.toArray⟩ = q := ⟨_, rfl⟩
  rw [hq, rkV_def] at V
  rw [hq]
  obtain ⟨b, hb⟩ : ∃ b, hasB ins ⟨name.toArray⟩ = b := ⟨_, rfl⟩
  rw [hb] at S ⊢
  replace V := Lib.hid V
  unfold envV at V S
  unfold reckV
  clear hcc hm h hv hs e hq hb
  rcases hc with rfl | rfl | rfl
  all_goals
    go_enter Tryz.func22, Tryz.ntmps22
    go_wp2_with (first | ((with_reducible refine (V.out _ (by repeat' (first | (with_reducible exact Below.refl _ _) | (with_reducible assumption) | (with_reducible refine Below.alloc ?_ ?_ _) | (with_reducible refine Below.drew ?_) | (with_reducible refine belowN ?_ _) | (with_reducible refine Below.setCell ?_ ?_ _) | (with_reducible refine belowG ?_ ?_) | (with_reducible exact Nat.le_refl _) | (with_reducible refine le_sizeG ?_) | (with_reducible refine le_sizeA ?_) | (with_reducible refine le_sizeC ?_) | (with_reducible refine le_sizeD ?_) | (with_reducible refine le_sizeN ?_) | go_size | (simp [go_sem]; done)))).mono ?_); intro e w1 hr; obtain ⟨rfl, p, rfl⟩ := hr.out; clear hr) | ((with_reducible refine (S.out _ (by repeat' (first | (with_reducible exact Below.refl _ _) | (with_reducible assumption) | (with_reducible refine Below.alloc ?_ ?_ _) | (with_reducible refine Below.drew ?_) | (with_reducible refine belowN ?_ _) | (with_reducible refine Below.setCell ?_ ?_ _) | (with_reducible refine belowG ?_ ?_) | (with_reducible exact Nat.le_refl _) | (with_reducible refine le_sizeG ?_) | (with_reducible refine le_sizeA ?_) | (with_reducible refine le_sizeC ?_) | (with_reducible refine le_sizeD ?_) | (with_reducible refine le_sizeN ?_) | go_size | (simp [go_sem]; done)))).mono ?_); intro e w1 hr; obtain ⟨rfl, p, rfl⟩ := hr.out; clear hr) | ((with_reducible refine (truth_any _ _).mono ?_); intro e w1 hr; obtain ⟨rfl, p, rfl⟩ := hr.out; clear hr))
    go_returns
    exact ⟨rfl, by repeat' (first | (with_reducible exact Below.refl _ _) | (with_reducible assumption) | (with_reducible refine Below.alloc ?_ ?_ _) | (with_reducible refine Below.drew ?_) | (with_reducible refine belowN ?_ _) | (with_reducible refine Below.setCell ?_ ?_ _) | (with_reducible refine belowG ?_ ?_) | (with_reducible exact Nat.le_refl _) | (with_reducible refine le_sizeG ?_) | (with_reducible refine le_sizeA ?_) | (with_reducible refine le_sizeC ?_) | (with_reducible refine le_sizeD ?_) | (with_reducible refine le_sizeN ?_) | go_size | (simp [go_sem]; done))⟩
set_option maxRecDepth 100000 in
set_option maxHeartbeats 1000000 in
theorem enode_op (i : Nat) (m : Nd) (hi : i < ns.length) (hm : ns[i] = m) (h1 : 1 ≤ m.op) (h2 : m.op ≤ 15) (vn n : Nat) (q : Rk) (w : World) (h : NdsAt w na ns)
    (O : ∀ wx, Below w.heap.size w wx → Calls Tryz.prog 38 #[reckV va vn vc ia n ic na nc ns.length, ndV m] wx (Ret (rkV q) wx)) :
    Calls Tryz.prog 22 #[reckV va vn vc ia n ic na nc ns.length, .int .i64 (i : Int)] w (Ret (rkV q) w) := by
  rw [rkV_def] at O ⊢
  obtain ⟨g, o, rfl, hg, hcc⟩ := h (by omega)
  obtain ⟨n1, n2, n3, n4, n5, n6, n7⟩ := hcc i hi
  rw [hm] at n1 n2 n3 n4 n5 n6 n7
  have i1 : InW g w := ⟨hg⟩
  have hI : (i : Int) < (ns.length : Int) := by omega
  obtain ⟨op, k, nn, s, name, l, r⟩ := m
  unfold ndV at O
  simp only at h1 h2 O n1 n2 n3 n4 n5 n6 n7 ⊢
  have o0 : (op == 0) = false := beq_eq_false_iff_ne.mpr (by omega)
  have o16 : (op == 16) = false := beq_eq_false_iff_ne.mpr (by omega)
  have o17 : (op == 17) = false := beq_eq_false_iff_ne.mpr (by omega)
  unfold reckV at *
  replace O := Lib.hid O
  clear hcc hm h h1 h2
  go_enter Tryz.func22, Tryz.ntmps22
  go_wp2_with ((with_reducible refine (O.out _ (by repeat' (first | (with_reducible exact Below.refl _ _) | (with_reducible assumption) | (with_reducible refine Below.alloc ?_ ?_ _) | (with_reducible refine Below.drew ?_) | (with_reducible refine belowN ?_ _) | (with_reducible refine Below.setCell ?_ ?_ _) | (with_reducible refine belowG ?_ ?_) | (with_reducible exact Nat.le_refl _) | (with_reducible refine le_sizeG ?_) | (with_reducible refine le_sizeA ?_) | (with_reducible refine le_sizeC ?_) | (with_reducible refine le_sizeD ?_) | (with_reducible refine le_sizeN ?_) | go_size | (simp [go_sem]; done)))).mono ?_); intro e w1 hr; obtain ⟨rfl, p, rfl⟩ := hr.out; clear hr)
  go_returns
  exact ⟨rfl, by repeat' (first | (with_reducible exact Below.refl _ _) | (with_reducible assumption) | (with_reducible refine Below.alloc ?_ ?_ _) | (with_reducible refine Below.drew ?_) | (with_reducible refine belowN ?_ _) | (with_reducible refine Below.setCell ?_ ?_ _) | (with_reducible refine belowG ?_ ?_) | (with_reducible exact Nat.le_refl _) | (with_reducible refine le_sizeG ?_) | (with_reducible refine le_sizeA ?_) | (with_reducible refine le_sizeC ?_) | (with_reducible refine le_sizeD ?_) | (with_reducible refine le_sizeN ?_) | go_size | (simp [go_sem]; done))⟩
/-- From a node down. -/
theorem enode_any (hcs : CsGood cs) (hns : NsGood ns) (hah : ∀ j (h : j < ns.length), Ahead j ns[j]) (hvn : cs.length ≤ 1000000) (hin : ins.length ≤ 1000) : ∀ (f i : Nat), i < f → i < ns.length → ∀ w, NdsAt w na ns → CellsAt w va cs → StrsAt w ia ins →
    Calls Tryz.prog 22 #[reckV va cs.length vc ia ins.length ic na nc ns.length, .int .i64 (i : Int)] w (Ret (rkV (evR cs ins ns f i)) w)
  | 0, i, hf, _, _, _, _, _ => absurd hf (Nat.not_lt_zero _)
  | f + 1, i, hf, hi, w, h, hv, hs => by
    have ha := hah i hi
    have hsd := fun j hj hjn => ev_sound (ins := ins) hcs hns hah f j hj hjn
    obtain ⟨m, hm⟩ : ∃ m, ns[i] = m := ⟨_, rfl⟩
    rw [hm] at ha
    have IH := fun j hj hjn (w0 : World) (hb0 : Below w.heap.size w w0) => (fun (wx : World) (hb : Below w0.heap.size w0 wx) => enode_any hcs hns hah hvn hin f j hj hjn wx (nds_below h (hb0.trans (hb.mono hb0.size))) (cls_below hv (hb0.trans (hb.mono hb0.size))) (strs_below hs (hb0.trans (hb.mono hb0.size))) : NodeC va cs.length vc ia ins.length ic na nc w0 ns.length j (evR cs ins ns f j))
    rw [evR, List.getElem?_eq_getElem hi, hm]
    simp only
    by_cases hc : m.op = 0 ∨ m.op = 16 ∨ m.op = 17
    · rw [if_pos hc]
      exact enode_leaf va vc cs ia ic ins na nc ns i m hi hm hc hvn hin w h hv hs
    · rw [if_neg hc]
      have hop : 1 ≤ m.op ∧ m.op ≤ 15 := by
        rcases ha.range with h | h | h
        · exact absurd (.inl h) hc
        · exact h
        · exact absurd (.inr h) hc
      obtain ⟨a, hl, hlt⟩ := ha.l hop.1 hop.2
      rw [hl, show ((a : Int)).toNat = a from rfl]
      refine enode_op va vc ia ic na nc ns i m hi hm hop.1 hop.2 cs.length ins.length _ w h (fun w0 hb0 => ?_)
      have CA := IH a (by omega) (by omega) w0 hb0
      have sa := hsd a (by omega) (by omega)
      by_cases h2 : m.op ≤ 2
      · rw [if_pos h2]
        unfold oneR
        rcases sa with sa | sa
        · rw [if_neg (fun e => e sa.1)]
          exact eop_one va cs.length vc ia ins.length ic na nc ns.length m a _ (by omega) hl sa w0 CA
        · rw [if_pos sa.1, ← sa.2]
          exact eop_err va cs.length vc ia ins.length ic na nc ns.length m a _ hl sa w0 CA
      · rw [if_neg h2]
        obtain ⟨b, hrr, hrt⟩ := ha.r (by omega) hop.2
        rw [hrr, show ((b : Int)).toNat = b from rfl]
        have CB := IH b (by omega) (by omega) w0 hb0
        have sb := hsd b (by omega) (by omega)
        unfold twoR
        rcases sa with sa | sa
        · rw [if_neg (fun e => e sa.1)]
          rcases hst : stopB m.op (evR cs ins ns f a)
          · rw [if_neg Bool.false_ne_true]
            rcases sb with sb | sb
            · rw [if_neg (fun e => e sb.1)]
              exact eop_two va cs.length vc ia ins.length ic na nc ns.length m a b _ _ (by omega) hop.2 hl hrr sa hst sb w0 CA CB
            · rw [if_pos sb.1, ← sb.2]
              exact eop_two_err va cs.length vc ia ins.length ic na nc ns.length m a b _ _ (by omega) hop.2 hl hrr sa hst sb w0 CA CB
          · rw [if_pos rfl]
            exact eop_stop va cs.length vc ia ins.length ic na nc ns.length m a _ (by omega) hop.2 hl sa hst w0 CA
        · rw [if_pos sa.1, ← sa.2]
          exact eop_err va cs.length vc ia ins.length ic na nc ns.length m a _ hl sa w0 CA
/-- The whole. -/
theorem eeval_no (vn n : Nat) (w : World) (R : ∀ wx, Below w.heap.size w wx → Calls Tryz.prog 16 #[.slice na ns.length nc] wx (Ret (.bool false) wx)) :
    Calls Tryz.prog 10 #[.slice na ns.length nc, envV va vn vc ia n ic] w (Ret (rkV (errR 11)) w) := by
  rw [err_v]
  unfold envV
  replace R := Lib.hid R
  go_enter Tryz.func10, Tryz.ntmps10
  go_wp2_with ((with_reducible refine (R.out _ (by repeat' (first | (with_reducible exact Below.refl _ _) | (with_reducible assumption) | (with_reducible refine Below.alloc ?_ ?_ _) | (with_reducible refine Below.drew ?_) | (with_reducible refine belowN ?_ _) | (with_reducible refine Below.setCell ?_ ?_ _) | (with_reducible refine belowG ?_ ?_) | (with_reducible exact Nat.le_refl _) | (with_reducible refine le_sizeG ?_) | (with_reducible refine le_sizeA ?_) | (with_reducible refine le_sizeC ?_) | (with_reducible refine le_sizeD ?_) | (with_reducible refine le_sizeN ?_) | go_size | (simp [go_sem]; done)))).mono ?_); intro e w1 hr; obtain ⟨rfl, p, rfl⟩ := hr.out; clear hr)
  go_returns
  exact ⟨rfl, by repeat' (first | (with_reducible exact Below.refl _ _) | (with_reducible assumption) | (with_reducible refine Below.alloc ?_ ?_ _) | (with_reducible refine Below.drew ?_) | (with_reducible refine belowN ?_ _) | (with_reducible refine Below.setCell ?_ ?_ _) | (with_reducible refine belowG ?_ ?_) | (with_reducible exact Nat.le_refl _) | (with_reducible refine le_sizeG ?_) | (with_reducible refine le_sizeA ?_) | (with_reducible refine le_sizeC ?_) | (with_reducible refine le_sizeD ?_) | (with_reducible refine le_sizeN ?_) | go_size | (simp [go_sem]; done))⟩
theorem eeval_any (hcs : CsGood cs) (hns : NsGood ns) (hr : rightT ns = true) (hvn : cs.length ≤ 1000000) (hin : ins.length ≤ 1000) (w : World) (h : NdsAt w na ns) (hv : CellsAt w va cs) (hs : StrsAt w ia ins)
    (R : ∀ wx, Below w.heap.size w wx → Calls Tryz.prog 16 #[.slice na ns.length nc] wx (Ret (.bool true) wx)) :
    Calls Tryz.prog 10 #[.slice na ns.length nc, envV va cs.length vc ia ins.length ic] w (Ret (rkV (evT cs ins ns)) w) := by
  obtain ⟨h0, h32⟩ := right_few hr
  replace R := Lib.hid R
  have N := fun wx (hb : Below w.heap.size w wx) => enode_any va vc cs ia ic ins na nc ns hcs hns (right_ahead hr) hvn hin ns.length (ns.length - 1) (by omega) (by omega) wx (nds_below h hb) (cls_below hv hb) (strs_below hs hb)
  have hl : ((ns.length - 1 : Nat) : Int) = (ns.length : Int) - 1 := by omega
  have hw2 : wrap64 ((ns.length : Int) - 1) = (ns.length : Int) - 1 := by unfold wrap64; omega
  rw [hl] at N
  unfold evT
  generalize evR cs ins ns ns.length (ns.length - 1) = q at *
  unfold reckV at N
  rw [rkV_def] at N ⊢
  replace N := Lib.hid N
  unfold envV
  clear hcs hns hr h hv hs hl
  go_enter Tryz.func10, Tryz.ntmps10
  go_wp2_with (first | ((with_reducible refine (R.out _ (by repeat' (first | (with_reducible exact Below.refl _ _) | (with_reducible assumption) | (with_reducible refine Below.alloc ?_ ?_ _) | (with_reducible refine Below.drew ?_) | (with_reducible refine belowN ?_ _) | (with_reducible refine Below.setCell ?_ ?_ _) | (with_reducible refine belowG ?_ ?_) | (with_reducible exact Nat.le_refl _) | (with_reducible refine le_sizeG ?_) | (with_reducible refine le_sizeA ?_) | (with_reducible refine le_sizeC ?_) | (with_reducible refine le_sizeD ?_) | (with_reducible refine le_sizeN ?_) | go_size | (simp [go_sem]; done)))).mono ?_); intro e w1 hr; obtain ⟨rfl, p, rfl⟩ := hr.out; clear hr) | ((with_reducible refine (N.out _ (by repeat' (first | (with_reducible exact Below.refl _ _) | (with_reducible assumption) | (with_reducible refine Below.alloc ?_ ?_ _) | (with_reducible refine Below.drew ?_) | (with_reducible refine belowN ?_ _) | (with_reducible refine Below.setCell ?_ ?_ _) | (with_reducible refine belowG ?_ ?_) | (with_reducible exact Nat.le_refl _) | (with_reducible refine le_sizeG ?_) | (with_reducible refine le_sizeA ?_) | (with_reducible refine le_sizeC ?_) | (with_reducible refine le_sizeD ?_) | (with_reducible refine le_sizeN ?_) | go_size | (simp [go_sem]; done)))).mono ?_); intro e w1 hr; obtain ⟨rfl, p, rfl⟩ := hr.out; clear hr))
  go_returns
  exact ⟨rfl, by repeat' (first | (with_reducible exact Below.refl _ _) | (with_reducible assumption) | (with_reducible refine Below.alloc ?_ ?_ _) | (with_reducible refine Below.drew ?_) | (with_reducible refine belowN ?_ _) | (with_reducible refine Below.setCell ?_ ?_ _) | (with_reducible refine belowG ?_ ?_) | (with_reducible exact Nat.le_refl _) | (with_reducible refine le_sizeG ?_) | (with_reducible refine le_sizeA ?_) | (with_reducible refine le_sizeC ?_) | (with_reducible refine le_sizeD ?_) | (with_reducible refine le_sizeN ?_) | go_size | (simp [go_sem]; done))⟩
end
/-- What Holds tells of what an expression comes to. -/
def holdsV (r : Rk) : Value := if r.e ≠ 0 then .tuple #[.bool false, .int .i64 r.e] else if r.k ≠ 2 then .tuple #[.bool false, .int .i64 20] else .tuple #[.bool (yesB r.k r.n), .int .i64 0]
theorem eholds_any (ev : Value) (va : Option Addr) (vn vc : Nat) (ia : Option Addr) (n ic : Nat) (r : Rk) (w : World) (E : ∀ wx, Below w.heap.size w wx → Calls Tryz.prog 10 #[ev, envV va vn vc ia n ic] wx (Ret (rkV r) wx)) :
    Calls Tryz.prog 13 #[ev, envV va vn vc ia n ic] w (Ret (holdsV r) w) := by
  rw [rkV_def] at E
  replace E := Lib.hid E
  unfold envV at *
  unfold holdsV
  obtain ⟨k, nn, s, e⟩ := r
  simp only at E ⊢
  by_cases he : e = 0
  · subst he
    rw [if_neg (fun h => h rfl)]
    by_cases hk : k = 2
    · subst hk
      have Y := Lib.hid (fun wx => yes_any 2 nn s wx)
      rw [if_neg (fun h => h rfl)]
      generalize yesB 2 nn = b at *
      go_enter Tryz.func13, Tryz.ntmps13
      go_wp2_with (first | ((with_reducible refine (E.out _ (by repeat' (first | (with_reducible exact Below.refl _ _) | (with_reducible assumption) | (with_reducible refine Below.alloc ?_ ?_ _) | (with_reducible refine Below.drew ?_) | (with_reducible refine belowN ?_ _) | (with_reducible refine Below.setCell ?_ ?_ _) | (with_reducible refine belowG ?_ ?_) | (with_reducible exact Nat.le_refl _) | (with_reducible refine le_sizeG ?_) | (with_reducible refine le_sizeA ?_) | (with_reducible refine le_sizeC ?_) | (with_reducible refine le_sizeD ?_) | (with_reducible refine le_sizeN ?_) | go_size | (simp [go_sem]; done)))).mono ?_); intro e w1 hr; obtain ⟨rfl, p, rfl⟩ := hr.out; clear hr) | ((with_reducible refine (Y.out _).mono ?_); intro e w1 hr; obtain ⟨rfl, p, rfl⟩ := hr.out; clear hr))
      go_returns
      exact ⟨rfl, by repeat' (first | (with_reducible exact Below.refl _ _) | (with_reducible assumption) | (with_reducible refine Below.alloc ?_ ?_ _) | (with_reducible refine Below.drew ?_) | (with_reducible refine belowN ?_ _) | (with_reducible refine Below.setCell ?_ ?_ _) | (with_reducible refine belowG ?_ ?_) | (with_reducible exact Nat.le_refl _) | (with_reducible refine le_sizeG ?_) | (with_reducible refine le_sizeA ?_) | (with_reducible refine le_sizeC ?_) | (with_reducible refine le_sizeD ?_) | (with_reducible refine le_sizeN ?_) | go_size | (simp [go_sem]; done))⟩
    · rw [if_pos hk]
      have k0 : (k == 2) = false := beq_eq_false_iff_ne.mpr hk
      have k1 : (k != 2) = true := by rw [bne, k0]; rfl
      clear hk
      go_enter Tryz.func13, Tryz.ntmps13
      go_wp2_with ((with_reducible refine (E.out _ (by repeat' (first | (with_reducible exact Below.refl _ _) | (with_reducible assumption) | (with_reducible refine Below.alloc ?_ ?_ _) | (with_reducible refine Below.drew ?_) | (with_reducible refine belowN ?_ _) | (with_reducible refine Below.setCell ?_ ?_ _) | (with_reducible refine belowG ?_ ?_) | (with_reducible exact Nat.le_refl _) | (with_reducible refine le_sizeG ?_) | (with_reducible refine le_sizeA ?_) | (with_reducible refine le_sizeC ?_) | (with_reducible refine le_sizeD ?_) | (with_reducible refine le_sizeN ?_) | go_size | (simp [go_sem]; done)))).mono ?_); intro e w1 hr; obtain ⟨rfl, p, rfl⟩ := hr.out; clear hr)
      go_returns
      exact ⟨rfl, by repeat' (first | (with_reducible exact Below.refl _ _) | (with_reducible assumption) | (with_reducible refine Below.alloc ?_ ?_ _) | (with_reducible refine Below.drew ?_) | (with_reducible refine belowN ?_ _) | (with_reducible refine Below.setCell ?_ ?_ _) | (with_reducible refine belowG ?_ ?_) | (with_reducible exact Nat.le_refl _) | (with_reducible refine le_sizeG ?_) | (with_reducible refine le_sizeA ?_) | (with_reducible refine le_sizeC ?_) | (with_reducible refine le_sizeD ?_) | (with_reducible refine le_sizeN ?_) | go_size | (simp [go_sem]; done))⟩
  · rw [if_pos he]
    have e0 : (e == 0) = false := beq_eq_false_iff_ne.mpr he
    have e1 : (e != 0) = true := by rw [bne, e0]; rfl
    clear he
    go_enter Tryz.func13, Tryz.ntmps13
    go_wp2_with ((with_reducible refine (E.out _ (by repeat' (first | (with_reducible exact Below.refl _ _) | (with_reducible assumption) | (with_reducible refine Below.alloc ?_ ?_ _) | (with_reducible refine Below.drew ?_) | (with_reducible refine belowN ?_ _) | (with_reducible refine Below.setCell ?_ ?_ _) | (with_reducible refine belowG ?_ ?_) | (with_reducible exact Nat.le_refl _) | (with_reducible refine le_sizeG ?_) | (with_reducible refine le_sizeA ?_) | (with_reducible refine le_sizeC ?_) | (with_reducible refine le_sizeD ?_) | (with_reducible refine le_sizeN ?_) | go_size | (simp [go_sem]; done)))).mono ?_); intro e w1 hr; obtain ⟨rfl, p, rfl⟩ := hr.out; clear hr)
    go_returns
    exact ⟨rfl, by repeat' (first | (with_reducible exact Below.refl _ _) | (with_reducible assumption) | (with_reducible refine Below.alloc ?_ ?_ _) | (with_reducible refine Below.drew ?_) | (with_reducible refine belowN ?_ _) | (with_reducible refine Below.setCell ?_ ?_ _) | (with_reducible refine belowG ?_ ?_) | (with_reducible exact Nat.le_refl _) | (with_reducible refine le_sizeG ?_) | (with_reducible refine le_sizeA ?_) | (with_reducible refine le_sizeC ?_) | (with_reducible refine le_sizeD ?_) | (with_reducible refine le_sizeN ?_) | go_size | (simp [go_sem]; done))⟩
end Go.Proofs.YtlekmpjmcbnjdaaGreatDoor

