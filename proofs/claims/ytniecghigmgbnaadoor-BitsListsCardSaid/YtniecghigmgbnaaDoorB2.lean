/- How many bits are 1: math/bits' way, plain. No program. -/
import Derived.Lib.BitFns
namespace Go.Proofs.YtniecghigmgbnaaDoor
theorem and_parts (x y : Nat) : x &&& y = (x % 256 &&& y % 256) + 256 * (x / 256 &&& y / 256) := by
  have h1 : (x &&& y) / 2 ^ 8 = x / 2 ^ 8 &&& y / 2 ^ 8 := Nat.and_div_two_pow
  have h2 : (x &&& y) % 2 ^ 8 = (x % 2 ^ 8) &&& (y % 2 ^ 8) := Nat.and_mod_two_pow
  have e : (2 : Nat) ^ 8 = 256 := rfl
  rw [e] at h1 h2
  rw [← h1, ← h2]
  omega
/-- So many bytes, all alike. -/
def rep (c : Nat) : Nat → Nat
  | 0 => 0
  | n + 1 => c + 256 * rep c n
theorem and_rep (x c n : Nat) (hc : c < 256) : x &&& rep c (n + 1) = (x % 256 &&& c) + 256 * (x / 256 &&& rep c n) := by
  rw [and_parts, rep]
  rw [show (c + 256 * rep c n) % 256 = c by omega, show (c + 256 * rep c n) / 256 = rep c n by omega]
theorem half_byte : ∀ a : Fin 256, ∀ t : Fin 2, (a.val / 2 + 128 * t.val) &&& 85 = a.val / 2 &&& 85 := by decide +kernel
theorem quart_byte : ∀ a : Fin 256, ∀ t : Fin 4, (a.val / 4 + 64 * t.val) &&& 51 = a.val / 4 &&& 51 := by decide +kernel
/-- The bits of a byte, two by two; then four by four. -/
def two8 (a : Nat) : Nat := (a / 2 &&& 85) + (a &&& 85)
def four8 (a : Nat) : Nat := (a / 4 &&& 51) + (a &&& 51)
def twoN (n x : Nat) : Nat := (x / 2 &&& rep 85 n) + (x &&& rep 85 n)
def fourN (n x : Nat) : Nat := (x / 4 &&& rep 51 n) + (x &&& rep 51 n)
def eightN (n x : Nat) : Nat := (x / 16 + x) &&& rep 15 n
theorem two_more (n x : Nat) : twoN (n + 1) x = two8 (x % 256) + 256 * twoN n (x / 256) := by
  unfold twoN two8
  rw [and_rep _ 85 n (by decide), and_rep x 85 n (by decide)]
  have h := half_byte ⟨x % 256, Nat.mod_lt _ (by decide)⟩ ⟨x / 256 % 2, Nat.mod_lt _ (by decide)⟩
  simp only at h
  rw [show x / 2 % 256 = x % 256 / 2 + 128 * (x / 256 % 2) by omega, h, show x / 2 / 256 = x / 256 / 2 by omega]
  omega
theorem four_more (n x : Nat) : fourN (n + 1) x = four8 (x % 256) + 256 * fourN n (x / 256) := by
  unfold fourN four8
  rw [and_rep _ 51 n (by decide), and_rep x 51 n (by decide)]
  have h := quart_byte ⟨x % 256, Nat.mod_lt _ (by decide)⟩ ⟨x / 256 % 4, Nat.mod_lt _ (by decide)⟩
  simp only at h
  rw [show x / 4 % 256 = x % 256 / 4 + 64 * (x / 256 % 4) by omega, h, show x / 4 / 256 = x / 256 / 4 by omega]
  omega
theorem two8_le : ∀ a : Fin 256, two8 a.val < 256 ∧ four8 (two8 a.val) < 256 ∧ four8 (two8 a.val) % 16 ≤ 4 ∧ four8 (two8 a.val) / 16 ≤ 4 ∧ (four8 (two8 a.val) / 16 + four8 (two8 a.val) % 16) = Lib.onesCount a.val := by decide +kernel
theorem and15 : ∀ a : Fin 256, a.val &&& 15 = a.val % 16 := by decide +kernel
/-- Each byte's bits, byte by byte. -/
def pops : Nat → Nat → Nat
  | 0, _ => 0
  | n + 1, x => Lib.onesCount (x % 256) + 256 * pops n (x / 256)
/-- The nibbles behind the second step: each is at most 4. -/
theorem step_more (n x : Nat) : fourN (n + 1) (twoN (n + 1) x) = four8 (two8 (x % 256)) + 256 * fourN n (twoN n (x / 256)) := by
  have h := two8_le ⟨x % 256, Nat.mod_lt _ (by decide)⟩
  simp only at h
  rw [two_more, four_more]
  rw [show (two8 (x % 256) + 256 * twoN n (x / 256)) % 256 = two8 (x % 256) by omega, show (two8 (x % 256) + 256 * twoN n (x / 256)) / 256 = twoN n (x / 256) by omega]
theorem eight_more : ∀ (n x : Nat), eightN n (fourN n (twoN n x)) = pops n x ∧ fourN n (twoN n x) % 16 ≤ 4
  | 0, x => by simp [eightN, fourN, twoN, rep, pops]
  | n + 1, x => by
    obtain ⟨ih, ih4⟩ := eight_more n (x / 256)
    have h := two8_le ⟨x % 256, Nat.mod_lt _ (by decide)⟩
    simp only at h
    obtain ⟨-, h1, h2, h3, h4⟩ := h
    rw [step_more, pops, ← h4, ← ih]
    unfold eightN
    generalize fourN n (twoN n (x / 256)) = y at *
    generalize four8 (two8 (x % 256)) = a at *
    rw [and_rep _ 15 n (by decide)]
    have e1 : ((a + 256 * y) / 16 + (a + 256 * y)) % 256 % 16 = a / 16 + a % 16 := by omega
    have e2 : ((a + 256 * y) / 16 + (a + 256 * y)) / 256 = y / 16 + y := by omega
    have e3 := and15 ⟨((a + 256 * y) / 16 + (a + 256 * y)) % 256, Nat.mod_lt _ (by decide)⟩
    simp only at e3
    rw [e2, e3, e1]
    refine ⟨rfl, by omega⟩
theorem pop_le8 (a : Nat) (h : a < 256) : Lib.onesCount a ≤ 8 := Lib.onesCount_le8 ⟨a, h⟩
/-! ### The sum of the bytes -/
theorem popAux_split : ∀ (f g x : Nat), Lib.popAux (f + g) x = Lib.popAux f (x % 2 ^ f) + Lib.popAux g (x / 2 ^ f)
  | 0, g, x => by simp [Lib.popAux]
  | f + 1, g, x => by
    rw [show f + 1 + g = (f + g) + 1 by omega, Lib.popAux, popAux_split f g, Lib.popAux, Nat.pow_succ]
    rw [show x % (2 ^ f * 2) % 2 = x % 2 by rw [Nat.mul_comm]; exact Nat.mod_mul_right_mod x 2 (2 ^ f), Nat.mul_comm (2 ^ f) 2, ← Nat.div_div_eq_div_mul, Nat.mod_mul_right_div_self]
    omega
theorem popAux_zero : ∀ f, Lib.popAux f 0 = 0
  | 0 => rfl
  | f + 1 => by rw [Lib.popAux, Nat.zero_div, popAux_zero f]
theorem pop_byte (a : Nat) (h : a < 256) : Lib.popAux 8 a = Lib.onesCount a := by
  unfold Lib.onesCount
  rw [show (64 : Nat) = 8 + 56 from rfl, popAux_split 8 56, show (2 : Nat) ^ 8 = 256 from rfl, Nat.mod_eq_of_lt h, Nat.div_eq_of_lt h, popAux_zero]
  rfl
theorem pop_bytes (g x : Nat) : Lib.popAux (8 + g) x = Lib.onesCount (x % 256) + Lib.popAux g (x / 256) := by
  rw [popAux_split 8 g, show (2 : Nat) ^ 8 = 256 from rfl, pop_byte _ (Nat.mod_lt _ (by decide))]
theorem pop_all (x : Nat) : Lib.onesCount x = Lib.onesCount (x % 256) + (Lib.onesCount (x / 256 % 256) + (Lib.onesCount (x / 256 / 256 % 256) + (Lib.onesCount (x / 256 / 256 / 256 % 256) + (Lib.onesCount (x / 256 / 256 / 256 / 256 % 256) + (Lib.onesCount (x / 256 / 256 / 256 / 256 / 256 % 256) + (Lib.onesCount (x / 256 / 256 / 256 / 256 / 256 / 256 % 256) + Lib.onesCount (x / 256 / 256 / 256 / 256 / 256 / 256 / 256 % 256))))))) := by
  conv => lhs; unfold Lib.onesCount
  rw [show (64 : Nat) = 8 + (8 + (8 + (8 + (8 + (8 + (8 + (8 + 0))))))) from rfl]
  simp only [pop_bytes]
  rw [show ∀ x, Lib.popAux 0 x = 0 from fun _ => rfl, Nat.add_zero]
theorem div_1 (a r : Nat) (h : a < 256) : (a + 256 * r) / 256 = r := by omega
theorem div_2 (a b r : Nat) (ha : a < 256) (hb : b < 256) : (a + 256 * (b + 256 * r)) / 65536 = r := by
  rw [show (65536 : Nat) = 256 * 256 from rfl, ← Nat.div_div_eq_div_mul, div_1 _ _ ha, div_1 _ _ hb]
theorem div_4 (a b c d r : Nat) (ha : a < 256) (hb : b < 256) (hc : c < 256) (hd : d < 256) : (a + 256 * (b + 256 * (c + 256 * (d + 256 * r)))) / 4294967296 = r := by
  rw [show (4294967296 : Nat) = 65536 * 65536 from rfl, ← Nat.div_div_eq_div_mul, div_2 _ _ _ ha hb, div_2 _ _ _ hc hd]
theorem mod_1 (a r : Nat) (h : a < 128) : (a + 256 * r) % 128 = a := by omega
theorem low_8 (a b c d e f g h : Nat) (ha : a ≤ 64) (hb : b ≤ 64) (hc : c ≤ 64) (hd : d ≤ 64) (he : e ≤ 64) (hf : f ≤ 64) (hg : g ≤ 64) (hh : h ≤ 64) :
    a + 256 * (b + 256 * (c + 256 * (d + 256 * (e + 256 * (f + 256 * (g + 256 * h)))))) < 9223372036854775808 := by
  have h1 : g + 256 * h ≤ 16448 := by omega
  generalize g + 256 * h = r at *
  have h2 : f + 256 * r ≤ 4210752 := by omega
  generalize f + 256 * r = r2 at *
  have h3 : e + 256 * r2 ≤ 1077952576 := by omega
  generalize e + 256 * r2 = r3 at *
  have h4 : d + 256 * r3 ≤ 275955859520 := by omega
  generalize d + 256 * r3 = r4 at *
  have h5 : c + 256 * r4 ≤ 70644700037184 := by omega
  generalize c + 256 * r4 = r5 at *
  have h6 : b + 256 * r5 ≤ 18085043209519168 := by omega
  generalize b + 256 * r5 = r6 at *
  omega
theorem fold_z (p0 p1 p2 p3 p4 p5 p6 p7 : Nat) (h0 : p0 ≤ 8) : (p0 + 256 * (p1 + 256 * (p2 + 256 * (p3 + 256 * (p4 + 256 * (p5 + 256 * (p6 + 256 * p7))))))) + (p0 + 256 * (p1 + 256 * (p2 + 256 * (p3 + 256 * (p4 + 256 * (p5 + 256 * (p6 + 256 * p7))))))) / 256 = (p0 + p1) + 256 * ((p1 + p2) + 256 * ((p2 + p3) + 256 * ((p3 + p4) + 256 * ((p4 + p5) + 256 * ((p5 + p6) + 256 * ((p6 + p7) + 256 * p7)))))) := by
  rw [div_1 p0 _ (by omega)]
  omega
theorem fold_u (p0 p1 p2 p3 p4 p5 p6 p7 : Nat) (h0 : p0 ≤ 16) (h1 : p1 ≤ 16) : (p0 + 256 * (p1 + 256 * (p2 + 256 * (p3 + 256 * (p4 + 256 * (p5 + 256 * (p6 + 256 * p7))))))) + (p0 + 256 * (p1 + 256 * (p2 + 256 * (p3 + 256 * (p4 + 256 * (p5 + 256 * (p6 + 256 * p7))))))) / 65536 = (p0 + p2) + 256 * ((p1 + p3) + 256 * ((p2 + p4) + 256 * ((p3 + p5) + 256 * ((p4 + p6) + 256 * ((p5 + p7) + 256 * (p6 + 256 * p7)))))) := by
  rw [div_2 p0 p1 _ (by omega) (by omega)]
  omega
theorem fold_v (p0 p1 p2 p3 p4 p5 p6 p7 : Nat) (h0 : p0 ≤ 32) (h1 : p1 ≤ 32) (h2 : p2 ≤ 32) (h3 : p3 ≤ 32) : (p0 + 256 * (p1 + 256 * (p2 + 256 * (p3 + 256 * (p4 + 256 * (p5 + 256 * (p6 + 256 * p7))))))) + (p0 + 256 * (p1 + 256 * (p2 + 256 * (p3 + 256 * (p4 + 256 * (p5 + 256 * (p6 + 256 * p7))))))) / 4294967296 = (p0 + p4) + 256 * ((p1 + p5) + 256 * ((p2 + p6) + 256 * ((p3 + p7) + 256 * (p4 + 256 * (p5 + 256 * (p6 + 256 * p7)))))) := by
  rw [div_4 p0 p1 p2 p3 _ (by omega) (by omega) (by omega) (by omega)]
  omega
theorem fold_all (p0 p1 p2 p3 p4 p5 p6 p7 : Nat) (h0 : p0 ≤ 8) (h1 : p1 ≤ 8) (h2 : p2 ≤ 8) (h3 : p3 ≤ 8) (h4 : p4 ≤ 8) (h5 : p5 ≤ 8) (h6 : p6 ≤ 8) (h7 : p7 ≤ 8) (y z u v : Nat)
    (hy : y = p0 + 256 * (p1 + 256 * (p2 + 256 * (p3 + 256 * (p4 + 256 * (p5 + 256 * (p6 + 256 * p7)))))))
    (hz : z = y + y / 256) (hu : u = z + z / 65536) (hv : v = u + u / 4294967296) :
    z < 18446744073709551616 ∧ u < 18446744073709551616 ∧ v < 18446744073709551616 ∧ v % 128 = p0 + (p1 + (p2 + (p3 + (p4 + (p5 + (p6 + p7)))))) ∧ v < 9223372036854775808 := by
  have b0 : ∀ a b : Nat, a ≤ 8 → b ≤ 8 → a + b ≤ 16 := fun a b ha hb => Nat.add_le_add ha hb
  rw [hy, fold_z _ _ _ _ _ _ _ _ h0] at hz
  rw [hz, fold_u _ _ _ _ _ _ _ _ (b0 _ _ h0 h1) (b0 _ _ h1 h2)] at hu
  rw [hu, fold_v _ _ _ _ _ _ _ _ (by clear hy hz hu hv; omega) (by clear hy hz hu hv; omega) (by clear hy hz hu hv; omega) (by clear hy hz hu hv; omega)] at hv
  clear hy
  refine ⟨hz ▸ ?_, hu ▸ ?_, hv ▸ ?_, hv ▸ ?_, hv ▸ ?_⟩ <;> clear hz hu hv
  · exact Nat.lt_trans (low_8 ((p0 + p1)) ((p1 + p2)) ((p2 + p3)) ((p3 + p4)) ((p4 + p5)) ((p5 + p6)) ((p6 + p7)) (p7) (by omega) (by omega) (by omega) (by omega) (by omega) (by omega) (by omega) (by omega)) (by decide)
  · exact Nat.lt_trans (low_8 (((p0 + p1) + (p2 + p3))) (((p1 + p2) + (p3 + p4))) (((p2 + p3) + (p4 + p5))) (((p3 + p4) + (p5 + p6))) (((p4 + p5) + (p6 + p7))) (((p5 + p6) + p7)) ((p6 + p7)) (p7) (by omega) (by omega) (by omega) (by omega) (by omega) (by omega) (by omega) (by omega)) (by decide)
  · exact Nat.lt_trans (low_8 ((((p0 + p1) + (p2 + p3)) + ((p4 + p5) + (p6 + p7)))) ((((p1 + p2) + (p3 + p4)) + ((p5 + p6) + p7))) ((((p2 + p3) + (p4 + p5)) + (p6 + p7))) ((((p3 + p4) + (p5 + p6)) + p7)) (((p4 + p5) + (p6 + p7))) (((p5 + p6) + p7)) ((p6 + p7)) (p7) (by omega) (by omega) (by omega) (by omega) (by omega) (by omega) (by omega) (by omega)) (by decide)
  · rw [mod_1 _ _ (by omega)]
    omega
  · exact low_8 ((((p0 + p1) + (p2 + p3)) + ((p4 + p5) + (p6 + p7)))) ((((p1 + p2) + (p3 + p4)) + ((p5 + p6) + p7))) ((((p2 + p3) + (p4 + p5)) + (p6 + p7))) ((((p3 + p4) + (p5 + p6)) + p7)) (((p4 + p5) + (p6 + p7))) (((p5 + p6) + p7)) ((p6 + p7)) (p7) (by omega) (by omega) (by omega) (by omega) (by omega) (by omega) (by omega) (by omega)
/-- math/bits' sums come to the number of ones. -/
theorem pop_fold (x y z u v : Nat) (hy : y = pops 8 x) (hz : z = y + y / 256) (hu : u = z + z / 65536) (hv : v = u + u / 4294967296) :
    z < 18446744073709551616 ∧ u < 18446744073709551616 ∧ v < 18446744073709551616 ∧ v % 128 = Lib.onesCount x ∧ v < 9223372036854775808 := by
  rw [pop_all x]
  refine fold_all _ _ _ _ _ _ _ _ (pop_le8 _ (Nat.mod_lt _ (by decide))) (pop_le8 _ (Nat.mod_lt _ (by decide))) (pop_le8 _ (Nat.mod_lt _ (by decide))) (pop_le8 _ (Nat.mod_lt _ (by decide))) (pop_le8 _ (Nat.mod_lt _ (by decide))) (pop_le8 _ (Nat.mod_lt _ (by decide))) (pop_le8 _ (Nat.mod_lt _ (by decide))) (pop_le8 _ (Nat.mod_lt _ (by decide))) y z u v ?_ hz hu hv
  rw [hy]
  simp only [pops, Nat.mul_zero, Nat.add_zero]
end Go.Proofs.YtniecghigmgbnaaDoor

