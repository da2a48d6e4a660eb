/- Several texts of this proof, joined: B0, B2, B1, B3. -/
import Derived.Lib.BitFns
import Derived.Lib.TrailingZeros
import Derived.Test.YtacnlghljmgdiaaGreatDoorChecked
import Derived.Test.YtacnlghljmgdiaaGreatDoorZ1
import Derived.WalkKit
import Derived.ProofKit
import Derived.OpenShut
import Derived.Handy
import Derived.BigQuiet
import Derived.OwnWalk
import Derived.Lib.Hide
import Derived.Laws.Bits64b
import Derived.WalkLawsBesides
import Derived.Test.YtacnlghljmgdiaaGreatDoorZ7
import Derived.Test.YtacnlghljmgdiaaGreatDoorY9
import Derived.Deep.AppendLies
import Derived.WalkSmall
namespace Go.Proofs.YtacnlghljmgdiaaGreatDoor
def q6g (n:Int):Nat:=if 0 ≤ n ∧ n < 64 then 2 ^ n.toNat else 0
def ofS (s:Nat):List Int → Nat
 | []=>s
 | n :: l=>ofS (s ||| q6g n) l
def z6r (s t:Nat):Nat:=s ^^^ (s &&& t)
def q2c:Nat → Nat → Nat → List Nat
 | 0,_,_=>[]
 | f + 1,n,s=>if s % 2 = 1 then n :: q2c f (n + 1) (s / 2) else q2c f (n + 1) (s / 2)
def z5h (s:Nat):List Nat:=q2c 64 0 s
theorem q2d (n:Int):q6g n < 2 ^ 64:=by
 unfold q6g
 split
 ·exact Nat.pow_lt_pow_right (by omega) (by omega)
 ·omega
theorem j3m {s:Nat} (t:Nat) (h:s < 2 ^ 64):z6r s t < 2 ^ 64:=Nat.xor_lt_two_pow h (Nat.lt_of_le_of_lt Nat.and_le_left h)
theorem z8b (s t k:Nat):(z6r s t).testBit k = (s.testBit k && !t.testBit k):=by
 unfold z6r
 rw [Nat.testBit_xor,Nat.testBit_and]
 cases s.testBit k <;> cases t.testBit k <;> rfl
theorem v3l {s t:Nat} (hs:s < 2 ^ 64) (ht:t < 2 ^ 64) (h:∀ k,k < 64 → s.testBit k = t.testBit k):s = t:=by
 apply Nat.eq_of_testBit_eq
 intro k
 rcases Nat.lt_or_ge k 64 with hk | hk
 ·exact h k hk
 ·rw [Nat.testBit_lt_two_pow (Nat.lt_of_lt_of_le hs (Nat.pow_le_pow_right (by omega) hk)),Nat.testBit_lt_two_pow (Nat.lt_of_lt_of_le ht (Nat.pow_le_pow_right (by omega) hk))]
theorem y2p:∀ (f n s:Nat),q2c f n s = ((List.range f).filter s.testBit).map (n + ·)
 | 0,_,_=>rfl
 | f + 1,n,s=>by
  rw [q2c,y2p f,List.range_succ_eq_map,List.filter_cons,List.filter_map]
  have e1:(s.testBit ∘ Nat.succ) = (s / 2).testBit:=by
   funext k
   rw [Function.comp_apply,Nat.testBit_div_two]
  have e2:s.testBit 0 = decide (s % 2 = 1):=Nat.testBit_zero s
  have e3:((fun x=>n + x) ∘ Nat.succ) = fun x=>n + 1 + x:=by funext k;simp only [Function.comp_apply];omega
  rw [e1,e2]
  by_cases h:s % 2 = 1
  ·simp [h,e3]
  ·simp [h,e3]
theorem k8b (s:Nat):z5h s = (List.range 64).filter s.testBit:=by
 unfold z5h
 rw [y2p]
 simp
theorem k8c (s:Nat):(z5h s).length ≤ 64:=by
 rw [k8b]
 exact Nat.le_trans (List.length_filter_le _ _) (by simp)
theorem k1e (s c:Nat):z6r s (2 ^ (c + 1)) / 2 = z6r (s / 2) (2 ^ c) ∧ z6r s (2 ^ (c + 1)) % 2 = s % 2:=by
 constructor
 ·apply Nat.eq_of_testBit_eq
  intro k
  rw [Nat.testBit_div_two,z8b,z8b,Nat.testBit_div_two,Nat.testBit_two_pow,Nat.testBit_two_pow]
  congr 2
  rw [Bool.eq_iff_iff]
  simp
 ·have h:(z6r s (2 ^ (c + 1))).testBit 0 = s.testBit 0:=by
   rw [z8b,Nat.testBit_two_pow]
   simp
  rw [Nat.testBit_zero,Nat.testBit_zero] at h
  have:=decide_eq_decide.1 h
  omega
theorem k7m (s:Nat):z6r s 1 / 2 = s / 2 ∧ z6r s 1 % 2 = 0:=by
 constructor
 ·apply Nat.eq_of_testBit_eq
  intro k
  rw [Nat.testBit_div_two,z8b,Nat.testBit_div_two,show (1:Nat) = 2 ^ 0 from rfl,Nat.testBit_two_pow]
  simp
 ·have h:(z6r s 1).testBit 0 = false:=by
   rw [z8b,show (1:Nat) = 2 ^ 0 from rfl,Nat.testBit_two_pow]
   simp
  rw [Nat.testBit_zero] at h
  have:=of_decide_eq_false h
  omega
theorem j1m:∀ (f n:Nat),q2c f n 0 = []
 | 0,_=>rfl
 | f + 1,n=>by rw [q2c,if_neg (by omega),Nat.zero_div];exact j1m f _
theorem q8c:∀ (f n s:Nat),s ≠ 0 → s < 2 ^ f → q2c f n s = (n + Lib.ctzFrom f s) :: q2c f n (z6r s (2 ^ Lib.ctzFrom f s))
 | 0,n,s,h0,h=>by simp at h;omega
 | f + 1,n,s,h0,h=>by
  rw [Lib.ctzFrom]
  by_cases h1:s % 2 = 1
  ·obtain ⟨a,b⟩:=k7m s
   rw [if_pos h1,Nat.pow_zero,q2c,if_pos h1,q2c,if_neg (by omega),a]
   rfl
  ·have hs:s / 2 < 2 ^ f:=by rw [Nat.pow_succ] at h;omega
   obtain ⟨a,b⟩:=k1e s (Lib.ctzFrom f (s / 2))
   rw [if_neg h1,q2c,if_neg h1,q8c f (n + 1) (s / 2) (by omega) hs,q2c,Nat.add_comm 1,if_neg (by omega),a]
   congr 1
   omega
theorem q4n (s:Nat) (h0:s ≠ 0) (hs:s < 2 ^ 64):z5h s = Lib.ctz 64 s :: z5h (z6r s (q6g (Lib.ctz 64 s))):=by
 have h:=q8c 64 0 s h0 hs
 have hc:=(Lib.lowest_bit 64 s h0 hs).2
 unfold z5h
 rw [h]
 unfold q6g Lib.ctz
 rw [if_neg h0]
 unfold Lib.ctz at hc
 rw [if_neg h0] at hc
 rw [if_pos (by omega),Nat.zero_add,Int.toNat_natCast]
theorem j5w:∀ (f n s:Nat),Lib.popAux f s = (q2c f n s).length
 | 0,_,_=>rfl
 | f + 1,n,s=>by
  rw [Lib.popAux,q2c,j5w f (n + 1)]
  by_cases h:s % 2 = 1
  ·rw [if_pos h,h,List.length_cons];omega
  ·rw [if_neg h];omega
theorem k8g (s:Nat):Lib.onesCount s = (z5h s).length:=j5w 64 0 s
theorem y8x (x y:Nat):x &&& y = (x % 256 &&& y % 256) + 256 * (x / 256 &&& y / 256):=by
 have h1:(x &&& y) / 2 ^ 8 = x / 2 ^ 8 &&& y / 2 ^ 8:=Nat.and_div_two_pow
 have h2:(x &&& y) % 2 ^ 8 = (x % 2 ^ 8) &&& (y % 2 ^ 8):=Nat.and_mod_two_pow
 have e:(2:Nat) ^ 8 = 256:=rfl
 rw [e] at h1 h2
 rw [← h1,← h2]
 omega
def rep (c:Nat):Nat → Nat
 | 0=>0
 | n + 1=>c + 256 * rep c n
theorem q7b (x c n:Nat) (hc:c < 256):x &&& rep c (n + 1) = (x % 256 &&& c) + 256 * (x / 256 &&& rep c n):=by
 rw [y8x,rep]
 rw [show (c + 256 * rep c n) % 256 = c by omega,show (c + 256 * rep c n) / 256 = rep c n by omega]
theorem k0m:∀ a:Fin 256,∀ t:Fin 2,(a.val / 2 + 128 * t.val) &&& 85 = a.val / 2 &&& 85:=by decide +kernel
theorem y6m:∀ a:Fin 256,∀ t:Fin 4,(a.val / 4 + 64 * t.val) &&& 51 = a.val / 4 &&& 51:=by decide +kernel
def y8c (a:Nat):Nat:=(a / 2 &&& 85) + (a &&& 85)
def j3f (a:Nat):Nat:=(a / 4 &&& 51) + (a &&& 51)
def j5e (n x:Nat):Nat:=(x / 2 &&& rep 85 n) + (x &&& rep 85 n)
def q1j (n x:Nat):Nat:=(x / 4 &&& rep 51 n) + (x &&& rep 51 n)
def y9w (n x:Nat):Nat:=(x / 16 + x) &&& rep 15 n
theorem v0l (n x:Nat):j5e (n + 1) x = y8c (x % 256) + 256 * j5e n (x / 256):=by
 unfold j5e y8c
 rw [q7b _ 85 n (by decide),q7b x 85 n (by decide)]
 have h:=k0m ⟨x % 256,Nat.mod_lt _ (by decide)⟩ ⟨x / 256 % 2,Nat.mod_lt _ (by decide)⟩
 simp only at h
 rw [show x / 2 % 256 = x % 256 / 2 + 128 * (x / 256 % 2) by omega,h,show x / 2 / 256 = x / 256 / 2 by omega]
 omega
theorem k0j (n x:Nat):q1j (n + 1) x = j3f (x % 256) + 256 * q1j n (x / 256):=by
 unfold q1j j3f
 rw [q7b _ 51 n (by decide),q7b x 51 n (by decide)]
 have h:=y6m ⟨x % 256,Nat.mod_lt _ (by decide)⟩ ⟨x / 256 % 4,Nat.mod_lt _ (by decide)⟩
 simp only at h
 rw [show x / 4 % 256 = x % 256 / 4 + 64 * (x / 256 % 4) by omega,h,show x / 4 / 256 = x / 256 / 4 by omega]
 omega
theorem k4n:∀ a:Fin 256,y8c a.val < 256 ∧ j3f (y8c a.val) < 256 ∧ j3f (y8c a.val) % 16 ≤ 4 ∧ j3f (y8c a.val) / 16 ≤ 4 ∧ (j3f (y8c a.val) / 16 + j3f (y8c a.val) % 16) = Lib.onesCount a.val:=by decide +kernel
theorem x1w:∀ a:Fin 256,a.val &&& 15 = a.val % 16:=by decide +kernel
def pops:Nat → Nat → Nat
 | 0,_=>0
 | n + 1,x=>Lib.onesCount (x % 256) + 256 * pops n (x / 256)
theorem k3x (n x:Nat):q1j (n + 1) (j5e (n + 1) x) = j3f (y8c (x % 256)) + 256 * q1j n (j5e n (x / 256)):=by
 have h:=k4n ⟨x % 256,Nat.mod_lt _ (by decide)⟩
 simp only at h
 rw [v0l,k0j]
 rw [show (y8c (x % 256) + 256 * j5e n (x / 256)) % 256 = y8c (x % 256) by omega,show (y8c (x % 256) + 256 * j5e n (x / 256)) / 256 = j5e n (x / 256) by omega]
theorem j0x:∀ (n x:Nat),y9w n (q1j n (j5e n x)) = pops n x ∧ q1j n (j5e n x) % 16 ≤ 4
 | 0,x=>by simp [y9w,q1j,j5e,rep,pops]
 | n + 1,x=>by
  obtain ⟨ih,ih4⟩:=j0x n (x / 256)
  have h:=k4n ⟨x % 256,Nat.mod_lt _ (by decide)⟩
  simp only at h
  obtain ⟨-,h1,h2,h3,h4⟩:=h
  rw [k3x,pops,← h4,← ih]
  unfold y9w
  generalize q1j n (j5e n (x / 256)) = y at *
  generalize j3f (y8c (x % 256)) = a at *
  rw [q7b _ 15 n (by decide)]
  have e1:((a + 256 * y) / 16 + (a + 256 * y)) % 256 % 16 = a / 16 + a % 16:=by omega
  have e2:((a + 256 * y) / 16 + (a + 256 * y)) / 256 = y / 16 + y:=by omega
  have e3:=x1w ⟨((a + 256 * y) / 16 + (a + 256 * y)) % 256,Nat.mod_lt _ (by decide)⟩
  simp only at e3
  rw [e2,e3,e1]
  refine ⟨rfl,by omega⟩
theorem q0e (a:Nat) (h:a < 256):Lib.onesCount a ≤ 8:=Lib.onesCount_le8 ⟨a,h⟩
theorem q0a:∀ (f g x:Nat),Lib.popAux (f + g) x = Lib.popAux f (x % 2 ^ f) + Lib.popAux g (x / 2 ^ f)
 | 0,g,x=>by simp [Lib.popAux]
 | f + 1,g,x=>by
  rw [show f + 1 + g = (f + g) + 1 by omega,Lib.popAux,q0a f g,Lib.popAux,Nat.pow_succ]
  rw [show x % (2 ^ f * 2) % 2 = x % 2 by rw [Nat.mul_comm];exact Nat.mod_mul_right_mod x 2 (2 ^ f),Nat.mul_comm (2 ^ f) 2,← Nat.div_div_eq_div_mul,Nat.mod_mul_right_div_self]
  omega
theorem q8l:∀ f,Lib.popAux f 0 = 0
 | 0=>rfl
 | f + 1=>by rw [Lib.popAux,Nat.zero_div,q8l f]
theorem k8p (a:Nat) (h:a < 256):Lib.popAux 8 a = Lib.onesCount a:=by
 unfold Lib.onesCount
 rw [show (64:Nat) = 8 + 56 from rfl,q0a 8 56,show (2:Nat) ^ 8 = 256 from rfl,Nat.mod_eq_of_lt h,Nat.div_eq_of_lt h,q8l]
 rfl
theorem k2o (g x:Nat):Lib.popAux (8 + g) x = Lib.onesCount (x % 256) + Lib.popAux g (x / 256):=by
 rw [q0a 8 g,show (2:Nat) ^ 8 = 256 from rfl,k8p _ (Nat.mod_lt _ (by decide))]
theorem v5u (x:Nat):Lib.onesCount x = Lib.onesCount (x % 256) + (Lib.onesCount (x / 256 % 256) + (Lib.onesCount (x / 256 / 256 % 256) + (Lib.onesCount (x / 256 / 256 / 256 % 256) + (Lib.onesCount (x / 256 / 256 / 256 / 256 % 256) + (Lib.onesCount (x / 256 / 256 / 256 / 256 / 256 % 256) + (Lib.onesCount (x / 256 / 256 / 256 / 256 / 256 / 256 % 256) + Lib.onesCount (x / 256 / 256 / 256 / 256 / 256 / 256 / 256 % 256))))))):=by
 conv=>lhs;unfold Lib.onesCount
 rw [show (64:Nat) = 8 + (8 + (8 + (8 + (8 + (8 + (8 + (8 + 0))))))) from rfl]
 simp only [k2o]
 rw [show ∀ x,Lib.popAux 0 x = 0 from fun _=>rfl,Nat.add_zero]
theorem v3w (a r:Nat) (h:a < 256):(a + 256 * r) / 256 = r:=by omega
theorem v3x (a b r:Nat) (ha:a < 256) (hb:b < 256):(a + 256 * (b + 256 * r)) / 65536 = r:=by
 rw [show (65536:Nat) = 256 * 256 from rfl,← Nat.div_div_eq_div_mul,v3w _ _ ha,v3w _ _ hb]
theorem x1z (a b c d r:Nat) (ha:a < 256) (hb:b < 256) (hc:c < 256) (hd:d < 256):(a + 256 * (b + 256 * (c + 256 * (d + 256 * r)))) / 4294967296 = r:=by
 rw [show (4294967296:Nat) = 65536 * 65536 from rfl,← Nat.div_div_eq_div_mul,v3x _ _ _ ha hb,v3x _ _ _ hc hd]
theorem x2c (a r:Nat) (h:a < 128):(a + 256 * r) % 128 = a:=by omega
theorem k7x (a b c d e f g h:Nat) (ha:a ≤ 64) (hb:b ≤ 64) (hc:c ≤ 64) (hd:d ≤ 64) (he:e ≤ 64) (hf:f ≤ 64) (hg:g ≤ 64) (hh:h ≤ 64) :
  a + 256 * (b + 256 * (c + 256 * (d + 256 * (e + 256 * (f + 256 * (g + 256 * h)))))) < 9223372036854775808:=by
 have h1:g + 256 * h ≤ 16448:=by omega
 generalize g + 256 * h = r at *
 have h2:f + 256 * r ≤ 4210752:=by omega
 generalize f + 256 * r = r2 at *
 have h3:e + 256 * r2 ≤ 1077952576:=by omega
 generalize e + 256 * r2 = r3 at *
 have h4:d + 256 * r3 ≤ 275955859520:=by omega
 generalize d + 256 * r3 = r4 at *
 have h5:c + 256 * r4 ≤ 70644700037184:=by omega
 generalize c + 256 * r4 = r5 at *
 have h6:b + 256 * r5 ≤ 18085043209519168:=by omega
 generalize b + 256 * r5 = r6 at *
 omega
theorem v8i (p0 p1 p2 p3 p4 p5 p6 p7:Nat) (h0:p0 ≤ 8):(p0 + 256 * (p1 + 256 * (p2 + 256 * (p3 + 256 * (p4 + 256 * (p5 + 256 * (p6 + 256 * p7))))))) + (p0 + 256 * (p1 + 256 * (p2 + 256 * (p3 + 256 * (p4 + 256 * (p5 + 256 * (p6 + 256 * p7))))))) / 256 = (p0 + p1) + 256 * ((p1 + p2) + 256 * ((p2 + p3) + 256 * ((p3 + p4) + 256 * ((p4 + p5) + 256 * ((p5 + p6) + 256 * ((p6 + p7) + 256 * p7)))))):=by
 rw [v3w p0 _ (by omega)]
 omega
theorem v8g (p0 p1 p2 p3 p4 p5 p6 p7:Nat) (h0:p0 ≤ 16) (h1:p1 ≤ 16):(p0 + 256 * (p1 + 256 * (p2 + 256 * (p3 + 256 * (p4 + 256 * (p5 + 256 * (p6 + 256 * p7))))))) + (p0 + 256 * (p1 + 256 * (p2 + 256 * (p3 + 256 * (p4 + 256 * (p5 + 256 * (p6 + 256 * p7))))))) / 65536 = (p0 + p2) + 256 * ((p1 + p3) + 256 * ((p2 + p4) + 256 * ((p3 + p5) + 256 * ((p4 + p6) + 256 * ((p5 + p7) + 256 * (p6 + 256 * p7)))))):=by
 rw [v3x p0 p1 _ (by omega) (by omega)]
 omega
theorem v8h (p0 p1 p2 p3 p4 p5 p6 p7:Nat) (h0:p0 ≤ 32) (h1:p1 ≤ 32) (h2:p2 ≤ 32) (h3:p3 ≤ 32):(p0 + 256 * (p1 + 256 * (p2 + 256 * (p3 + 256 * (p4 + 256 * (p5 + 256 * (p6 + 256 * p7))))))) + (p0 + 256 * (p1 + 256 * (p2 + 256 * (p3 + 256 * (p4 + 256 * (p5 + 256 * (p6 + 256 * p7))))))) / 4294967296 = (p0 + p4) + 256 * ((p1 + p5) + 256 * ((p2 + p6) + 256 * ((p3 + p7) + 256 * (p4 + 256 * (p5 + 256 * (p6 + 256 * p7)))))):=by
 rw [x1z p0 p1 p2 p3 _ (by omega) (by omega) (by omega) (by omega)]
 omega
theorem k6x (p0 p1 p2 p3 p4 p5 p6 p7:Nat) (h0:p0 ≤ 8) (h1:p1 ≤ 8) (h2:p2 ≤ 8) (h3:p3 ≤ 8) (h4:p4 ≤ 8) (h5:p5 ≤ 8) (h6:p6 ≤ 8) (h7:p7 ≤ 8) (y z u v:Nat)
  (hy:y = p0 + 256 * (p1 + 256 * (p2 + 256 * (p3 + 256 * (p4 + 256 * (p5 + 256 * (p6 + 256 * p7)))))))
  (hz:z = y + y / 256) (hu:u = z + z / 65536) (hv:v = u + u / 4294967296) :
  z < 18446744073709551616 ∧ u < 18446744073709551616 ∧ v < 18446744073709551616 ∧ v % 128 = p0 + (p1 + (p2 + (p3 + (p4 + (p5 + (p6 + p7)))))) ∧ v < 9223372036854775808:=by
 have b0:∀ a b:Nat,a ≤ 8 → b ≤ 8 → a + b ≤ 16:=fun a b ha hb=>Nat.add_le_add ha hb
 rw [hy,v8i _ _ _ _ _ _ _ _ h0] at hz
 rw [hz,v8g _ _ _ _ _ _ _ _ (b0 _ _ h0 h1) (b0 _ _ h1 h2)] at hu
 rw [hu,v8h _ _ _ _ _ _ _ _ (by clear hy hz hu hv;omega) (by clear hy hz hu hv;omega) (by clear hy hz hu hv;omega) (by clear hy hz hu hv;omega)] at hv
 clear hy
 refine ⟨hz ▸ ?_,hu ▸ ?_,hv ▸ ?_,hv ▸ ?_,hv ▸ ?_⟩ <;> clear hz hu hv
 ·exact Nat.lt_trans (k7x ((p0 + p1)) ((p1 + p2)) ((p2 + p3)) ((p3 + p4)) ((p4 + p5)) ((p5 + p6)) ((p6 + p7)) (p7) (by omega) (by omega) (by omega) (by omega) (by omega) (by omega) (by omega) (by omega)) (by decide)
 ·exact Nat.lt_trans (k7x (((p0 + p1) + (p2 + p3))) (((p1 + p2) + (p3 + p4))) (((p2 + p3) + (p4 + p5))) (((p3 + p4) + (p5 + p6))) (((p4 + p5) + (p6 + p7))) (((p5 + p6) + p7)) ((p6 + p7)) (p7) (by omega) (by omega) (by omega) (by omega) (by omega) (by omega) (by omega) (by omega)) (by decide)
 ·exact Nat.lt_trans (k7x ((((p0 + p1) + (p2 + p3)) + ((p4 + p5) + (p6 + p7)))) ((((p1 + p2) + (p3 + p4)) + ((p5 + p6) + p7))) ((((p2 + p3) + (p4 + p5)) + (p6 + p7))) ((((p3 + p4) + (p5 + p6)) + p7)) (((p4 + p5) + (p6 + p7))) (((p5 + p6) + p7)) ((p6 + p7)) (p7) (by omega) (by omega) (by omega) (by omega) (by omega) (by omega) (by omega) (by omega)) (by decide)
 ·rw [x2c _ _ (by omega)]
  omega
 ·exact k7x ((((p0 + p1) + (p2 + p3)) + ((p4 + p5) + (p6 + p7)))) ((((p1 + p2) + (p3 + p4)) + ((p5 + p6) + p7))) ((((p2 + p3) + (p4 + p5)) + (p6 + p7))) ((((p3 + p4) + (p5 + p6)) + p7)) (((p4 + p5) + (p6 + p7))) (((p5 + p6) + p7)) ((p6 + p7)) (p7) (by omega) (by omega) (by omega) (by omega) (by omega) (by omega) (by omega) (by omega)
theorem k8q (x y z u v:Nat) (hy:y = pops 8 x) (hz:z = y + y / 256) (hu:u = z + z / 65536) (hv:v = u + u / 4294967296) :
  z < 18446744073709551616 ∧ u < 18446744073709551616 ∧ v < 18446744073709551616 ∧ v % 128 = Lib.onesCount x ∧ v < 9223372036854775808:=by
 rw [v5u x]
 refine k6x _ _ _ _ _ _ _ _ (q0e _ (Nat.mod_lt _ (by decide))) (q0e _ (Nat.mod_lt _ (by decide))) (q0e _ (Nat.mod_lt _ (by decide))) (q0e _ (Nat.mod_lt _ (by decide))) (q0e _ (Nat.mod_lt _ (by decide))) (q0e _ (Nat.mod_lt _ (by decide))) (q0e _ (Nat.mod_lt _ (by decide))) (q0e _ (Nat.mod_lt _ (by decide))) y z u v ?_ hz hu hv
 rw [hy]
 simp only [pops,Nat.mul_zero,Nat.add_zero]
end Go.Proofs.YtacnlghljmgdiaaGreatDoor
namespace Go.Proofs.YtacnlghljmgdiaaGreatDoor
open Go.RowKit
theorem y9e (a b:Nat) (ha:a < 2 ^ 64) (hb:b < 2 ^ 64):bits .andNot .u64 (a:Int) (b:Int) = ((z6r a b:Nat):Int):=by
 have h1:(BitVec.ofInt 64 (a:Int)).toNat = a:=by
  rw [BitVec.ofInt_natCast,BitVec.toNat_ofNat];exact Nat.mod_eq_of_lt ha
 have h2:(BitVec.ofInt 64 (b:Int)).toNat = b:=by
  rw [BitVec.ofInt_natCast,BitVec.toNat_ofNat];exact Nat.mod_eq_of_lt hb
 have h3:(BitVec.ofInt 64 (a:Int) &&& ~~~BitVec.ofInt 64 (b:Int)).toNat = z6r a b:=by
  refine v3l (BitVec.isLt _) (j3m b ha) fun k hk=>?_
  rw [z8b,BitVec.testBit_toNat,BitVec.getLsbD_and,BitVec.getLsbD_not,← BitVec.testBit_toNat,← BitVec.testBit_toNat,h1,h2]
  simp [hk]
 show IntKind.u64.wrap ((BitVec.ofInt 64 (a:Int) &&& ~~~BitVec.ofInt 64 (b:Int)).toNat:Int) = _
 rw [h3,IntKind.wrap_u64]
 have:=j3m b ha
 omega
theorem v6g (n:Int) (h:0 ≤ n):IntKind.u64.wrap (2 ^ min n.toNat 64) = ((q6g n:Nat):Int):=by
 rw [IntKind.wrap_u64]
 have e:((2:Int) ^ min n.toNat 64) = ((2 ^ min n.toNat 64:Nat):Int):=by simp
 rw [e]
 unfold q6g
 by_cases hn:n < 64
 ·rw [if_pos ⟨h,hn⟩,Nat.min_eq_left omT]
  have h2:2 ^ n.toNat < 2 ^ 64:=Nat.pow_lt_pow_right omT omT
  generalize 2 ^ n.toNat = x at *
  omega
 ·rw [if_neg omT,Nat.min_eq_right omT]
  rfl
theorem k2d (n:Int) (w:World):Calls Tryz.prog 97 #[.int .i64 n] w (z6k (.int .u64 ((q6g n:Nat):Int)) w):=by
 by_cases h:n < 0
 ·have e:q6g n = 0:=by unfold q6g;rw [if_neg omT]
  rw [e]
  go_enter Tryz.func97,Tryz.ntmps97
  go_wp2
  go_returns
  exact ⟨rfl,rfl⟩
 ·have e:=v6g n omT
  go_enter Tryz.func97,Tryz.ntmps97
  go_wp2
  go_returns
  exact ⟨rfl,rfl⟩
theorem x0v (s t:Nat) (hs:s < 2 ^ 64) (ht:t < 2 ^ 64) (w:World):Calls Tryz.prog 67 #[.int .u64 (s:Int),.int .u64 (t:Int)] w (z6k (.int .u64 ((s &&& t:Nat):Int)) w):=by
 have e:=bits_and_u64_nat s t hs ht
 go_enter Tryz.func67,Tryz.ntmps67
 go_wp2
 go_returns
 exact ⟨rfl,rfl⟩
theorem j6g (s t:Nat) (hs:s < 2 ^ 64) (ht:t < 2 ^ 64) (w:World):Calls Tryz.prog 56 #[.int .u64 (s:Int),.int .u64 (t:Int)] w (z6k (.int .u64 ((z6r s t:Nat):Int)) w):=by
 have e:=y9e s t hs ht
 go_enter Tryz.func56,Tryz.ntmps56
 go_wp2
 go_returns
 exact ⟨rfl,rfl⟩
theorem v8k (s t:Nat) (hs:s < 2 ^ 64) (ht:t < 2 ^ 64) (w:World):Calls Tryz.prog 21 #[.int .u64 (s:Int),.int .u64 (t:Int)] w (z6k (.bool (z6r s t == 0)) w):=by
 have e:(((z6r s t:Nat):Int) == 0) = (z6r s t == 0):=by rw [Bool.eq_iff_iff];simp
 go_enter Tryz.func21,Tryz.ntmps21
 go_wp2_with (first | ((with_reducible refine (j6g s t hs ht _).mono ?_);rintro e w1 ⟨rfl,rfl⟩))
 go_returns
 exact ⟨rfl,rfl⟩
theorem q9p (s t:Nat) (hs:s < 2 ^ 64) (ht:t < 2 ^ 64):bits .and .u64 (s:Int) (t:Int) = ((s &&& t:Nat):Int):=bits_and_u64_nat s t hs ht
theorem x2n:rep 85 8 = 6148914691236517205:=by decide
theorem v9l:rep 51 8 = 3689348814741910323:=by decide
theorem x0c (x:Nat):j5e 8 x < 2 ^ 64:=by
 unfold j5e
 have h1:x / 2 &&& rep 85 8 ≤ rep 85 8:=Nat.and_le_right
 have h2:x &&& rep 85 8 ≤ rep 85 8:=Nat.and_le_right
 rw [x2n] at *
 omega
theorem v4k (x:Nat):q1j 8 x < 2 ^ 64:=by
 unfold q1j
 have h1:x / 4 &&& rep 51 8 ≤ rep 51 8:=Nat.and_le_right
 have h2:x &&& rep 51 8 ≤ rep 51 8:=Nat.and_le_right
 rw [v9l] at *
 omega
theorem y4x (v:Nat) (h:v < 9223372036854775808):bits .and .i64 (v:Int) 127 = ((v % 128:Nat):Int):=by
 have h1:(BitVec.ofInt 64 (v:Int)).toNat = v:=by
  rw [BitVec.ofInt_natCast,BitVec.toNat_ofNat];exact Nat.mod_eq_of_lt omT
 have h2:(BitVec.ofInt 64 (127:Int)).toNat = 127:=by decide
 show IntKind.i64.wrap ((BitVec.ofInt 64 (v:Int) &&& BitVec.ofInt 64 (127:Int)).toNat:Int) = _
 rw [BitVec.toNat_and,h1,h2,show (127:Nat) = 2 ^ 7 - 1 from rfl,Nat.and_two_pow_sub_one_eq_mod,IntKind.wrap_i64]
 omega
set_option maxHeartbeats 1000000 in
theorem k8f (s:Nat) (hs:s < 2 ^ 64) (w:World):Calls Tryz.prog 94 #[.int .u64 (s:Int)] w (z6k (.int .i64 (Lib.onesCount s:Int)) w):=by
 obtain ⟨hp,h4⟩:=j0x 8 s
 have hf:=v4k (j5e 8 s)
 have ht:=x0c s
 have a1:bits .and .u64 ((s:Int) / 2) 6148914691236517205 = ((s / 2 &&& rep 85 8:Nat):Int):=by rw [show ((s:Int) / 2) = ((s / 2:Nat):Int) by omega];exact q9p _ _ omT deT
 have a2:bits .and .u64 (s:Int) 6148914691236517205 = ((s &&& rep 85 8:Nat):Int):=q9p _ _ hs deT
 have a3:IntKind.u64.wrap (((s / 2 &&& rep 85 8:Nat):Int) + ((s &&& rep 85 8:Nat):Int)) = ((j5e 8 s:Nat):Int):=by rw [IntKind.wrap_u64];unfold j5e at *;omega
 generalize j5e 8 s = x at *
 have b1:bits .and .u64 ((x:Int) / 4) 3689348814741910323 = ((x / 4 &&& rep 51 8:Nat):Int):=by rw [show ((x:Int) / 4) = ((x / 4:Nat):Int) by omega];exact q9p _ _ omT deT
 have b2:bits .and .u64 (x:Int) 3689348814741910323 = ((x &&& rep 51 8:Nat):Int):=q9p _ _ ht deT
 have b3:IntKind.u64.wrap (((x / 4 &&& rep 51 8:Nat):Int) + ((x &&& rep 51 8:Nat):Int)) = ((q1j 8 x:Nat):Int):=by rw [IntKind.wrap_u64];unfold q1j at *;omega
 have hy4:q1j 8 x ≤ 7378697629483820646:=by
  unfold q1j
  have h1:x / 4 &&& rep 51 8 ≤ rep 51 8:=Nat.and_le_right
  have h2:x &&& rep 51 8 ≤ rep 51 8:=Nat.and_le_right
  rw [v9l] at *
  omega
 generalize q1j 8 x = y at *
 have c1:IntKind.u64.wrap ((y:Int) / 16 + (y:Int)) = ((y / 16 + y:Nat):Int):=by rw [IntKind.wrap_u64];omega
 have c2:bits .and .u64 ((y / 16 + y:Nat):Int) 1085102592571150095 = ((pops 8 s:Nat):Int):=by
  rw [← hp]
  exact q9p _ _ omT deT
 obtain ⟨f1,f2,f3,f4,f5⟩:=k8q s (pops 8 s) _ _ _ rfl rfl rfl rfl
 have d1:IntKind.u64.wrap ((pops 8 s:Int) + (pops 8 s:Int) / 256) = ((pops 8 s + pops 8 s / 256:Nat):Int):=by rw [IntKind.wrap_u64];omega
 generalize pops 8 s = p at *
 generalize p + p / 256 = z at *
 have d2:IntKind.u64.wrap ((z:Int) + (z:Int) / 65536) = ((z + z / 65536:Nat):Int):=by rw [IntKind.wrap_u64];omega
 generalize z + z / 65536 = u at *
 have d3:IntKind.u64.wrap ((u:Int) + (u:Int) / 4294967296) = ((u + u / 4294967296:Nat):Int):=by rw [IntKind.wrap_u64];omega
 generalize u + u / 4294967296 = v at *
 have g1:wrap64 (v:Int) = (v:Int):=by unfold wrap64;omega
 have g2:=y4x v f5
 rw [f4] at g2
 generalize y / 16 + y = q at *
 generalize rep 85 8 = m1 at *
 generalize rep 51 8 = m2 at *
 clear hp h4 hf ht hy4 f1 f2 f3 f4 f5 hs
 go_enter Tryz.func94,Tryz.ntmps94
 go_wp2
 go_returns
 exact ⟨rfl,rfl⟩
theorem y4k (s:Nat) (hs:s < 2 ^ 64) (w:World):Calls Tryz.prog 64 #[.int .u64 (s:Int)] w (z6k (.int .i64 ((z5h s).length:Int)) w):=by
 rw [← k8g]
 go_enter Tryz.func64,Tryz.ntmps64
 go_wp2_with (first | ((with_reducible refine (k8f s hs _).mono ?_);rintro e w1 ⟨rfl,rfl⟩))
 go_returns
 exact ⟨rfl,rfl⟩
def v0z (w:World) (ao:Option Addr) (xs:List Int):Prop:=∀ i (hi:i < xs.length),∃ g o,ao = some ⟨g,o,none⟩ ∧ g < w.heap.size ∧ w.cell? ⟨g,o + i,none⟩ = some (.int .i64 xs[i])
theorem k8d {s i:Nat} {l:List Int} (h:i < l.length):ofS s (l.drop i) = ofS (s ||| q6g l[i]) (l.drop (i + 1)):=by rw [List.drop_eq_getElem_cons h,ofS]
theorem v5l {s i:Nat} {l:List Int} (h:l.length ≤ i):ofS s (l.drop i) = s:=by rw [List.drop_of_length_le h,ofS]
theorem v3m (s t:Nat) (hs:s < 2 ^ 64) (ht:t < 2 ^ 64):bits .or .u64 (s:Int) (t:Int) = ((s ||| t:Nat):Int):=bits_or_u64_nat s t hs ht
set_option maxRecDepth 100000 in
set_option maxHeartbeats 4000000 in
theorem v0u (ao:Option Addr) (cap:Nat) (l:List Int) (hl:l.length ≤ 1000) (s:Nat) (hs:s < 2 ^ 64) (w:World) (h:v0z w ao l) :
  Calls Tryz.prog 124 #[.int .u64 (s:Int),.slice ao l.length cap] w (z6k (.int .u64 ((ofS s l:Nat):Int)) w):=by
 have H:=hiT h
 have hF':Hid (ofS s (l.drop 0) = ofS s l):=hiT (by rw [List.drop_zero])
 generalize ofS s l = F at *
 clear h
 go_enter Tryz.func124,Tryz.ntmps124
 go_wp2
 go_loopw [0,9] (fun v x wr=>∃ (i t:Nat),v = .int .u64 (t:Int) ∧ x = .int .i64 (i:Int) ∧ i ≤ l.length ∧ t < 2 ^ 64 ∧ Hid (ofS t (l.drop i) = F) ∧ wr = w) (fun _ x _=>l.length - (intOf x).toNat)
 case atStart=>exact ⟨0,s,rfl,rfl,Nat.zero_le _,hs,hF',rfl⟩
 case round =>
  obtain ⟨i,t,rfl,rfl,hi,ht,hf,rfl⟩:=hrel
  by_cases hlt:i < l.length
  ·obtain ⟨g,o,rfl,hg,n1⟩:=H.out i hlt
   have hm:=k8d (s:=t) hlt
   rw [hf.out] at hm
   have hm':=hiT hm.symm
   have hI:(i:Int) < (l.length:Int):=by omega
   have e1:=v3m t (q6g l[i]) ht (q2d _)
   have ho:t ||| q6g l[i] < 2 ^ 64:=Nat.or_lt_two_pow ht (q2d _)
   generalize l[i] = n at *
   generalize t ||| q6g n = u at *
   clear hm hf
   go_wp2_with (first | ((with_reducible refine (k2d n _).mono ?_);rintro e w1 ⟨rfl,rfl⟩))
   go_roundw
   case rel=>exact ⟨i + 1,u,rfl,by go_num,by omega,ho,hm',trivial⟩
   case measure=>simp [intOf];omega
  ·have hI:¬ (i:Int) < (l.length:Int):=by omega
   have hm:=v5l (s:=t) (show l.length ≤ i by omega)
   rw [hf.out] at hm
   subst hm
   clear hf
   go_wp2
   go_returns
   exact ⟨rfl,rfl⟩
end Go.Proofs.YtacnlghljmgdiaaGreatDoor
