/- Several texts of this proof, joined: B0, B2, B1, B3. -/
import Derived.Lib.BitFns
import Derived.Lib.TrailingZeros
import Derived.Test.YtncmnhccmemagaaGreatDoorChecked
import Derived.Test.YtncmnhccmemagaaGreatDoorZ1
import Derived.WalkKit
import Derived.ProofKit
import Derived.OpenShut
import Derived.Handy
import Derived.BigQuiet
import Derived.OwnWalk
import Derived.Lib.Hide
import Derived.Laws.Bits64b
import Derived.WalkLawsBesides
import Derived.Test.YtncmnhccmemagaaGreatDoorZ7
import Derived.Test.YtncmnhccmemagaaGreatDoorY9
import Derived.Deep.AppendLies
import Derived.WalkSmall
namespace Go.Proofs.YtncmnhccmemagaaGreatDoor
def oneS (n:Int):Nat:=if 0 ≤ n ∧ n < 64 then 2 ^ n.toNat else 0
def ofS (s:Nat):List Int → Nat
 | []=>s
 | n :: l=>ofS (s ||| oneS n) l
def lessS (s t:Nat):Nat:=s ^^^ (s &&& t)
def unionS (s:Nat):List Nat → Nat
 | []=>s
 | t :: l=>unionS (s ||| t) l
def hasL (l:List Int) (n:Int):Bool:=l.any (· == n)
def numsF:Nat → Nat → Nat → List Nat
 | 0,_,_=>[]
 | f + 1,n,s=>if s % 2 = 1 then n :: numsF f (n + 1) (s / 2) else numsF f (n + 1) (s / 2)
def numsS (s:Nat):List Nat:=numsF 64 0 s
theorem oneS_bit (n:Int) (k:Nat) (hk:k < 64):(oneS n).testBit k = (n == (k:Int)):=by
 unfold oneS
 split
 ·rename_i h
  rw [Nat.testBit_two_pow]
  rw [Bool.eq_iff_iff]
  simp
  omega
 ·rename_i h
  rw [Nat.zero_testBit]
  symm
  rw [beq_eq_false_iff_ne]
  omega
theorem oneS_lt (n:Int):oneS n < 2 ^ 64:=by
 unfold oneS
 split
 ·exact Nat.pow_lt_pow_right (by omega) (by omega)
 ·omega
theorem lessS_lt {s:Nat} (t:Nat) (h:s < 2 ^ 64):lessS s t < 2 ^ 64:=Nat.xor_lt_two_pow h (Nat.lt_of_le_of_lt Nat.and_le_left h)
theorem lessS_bit (s t k:Nat):(lessS s t).testBit k = (s.testBit k && !t.testBit k):=by
 unfold lessS
 rw [Nat.testBit_xor,Nat.testBit_and]
 cases s.testBit k <;> cases t.testBit k <;> rfl
theorem bits_eq {s t:Nat} (hs:s < 2 ^ 64) (ht:t < 2 ^ 64) (h:∀ k,k < 64 → s.testBit k = t.testBit k):s = t:=by
 apply Nat.eq_of_testBit_eq
 intro k
 rcases Nat.lt_or_ge k 64 with hk | hk
 ·exact h k hk
 ·rw [Nat.testBit_lt_two_pow (Nat.lt_of_lt_of_le hs (Nat.pow_le_pow_right (by omega) hk)),Nat.testBit_lt_two_pow (Nat.lt_of_lt_of_le ht (Nat.pow_le_pow_right (by omega) hk))]
theorem numsF_eq:∀ (f n s:Nat),numsF f n s = ((List.range f).filter s.testBit).map (n + ·)
 | 0,_,_=>rfl
 | f + 1,n,s=>by
  rw [numsF,numsF_eq f,List.range_succ_eq_map,List.filter_cons,List.filter_map]
  have e1:(s.testBit ∘ Nat.succ) = (s / 2).testBit:=by
   funext k
   rw [Function.comp_apply,Nat.testBit_div_two]
  have e2:s.testBit 0 = decide (s % 2 = 1):=Nat.testBit_zero s
  have e3:((fun x=>n + x) ∘ Nat.succ) = fun x=>n + 1 + x:=by funext k;simp only [Function.comp_apply];omega
  rw [e1,e2]
  by_cases h:s % 2 = 1
  ·simp [h,e3]
  ·simp [h,e3]
theorem numsS_eq (s:Nat):numsS s = (List.range 64).filter s.testBit:=by
 unfold numsS
 rw [numsF_eq]
 simp
theorem nums_lt {s n:Nat} (h:n ∈ numsS s):n < 64:=by
 rw [numsS_eq] at h
 simpa using (List.mem_filter.1 h).1
theorem nums_len (s:Nat):(numsS s).length ≤ 64:=by
 rw [numsS_eq]
 exact Nat.le_trans (List.length_filter_le _ _) (by simp)
def intsN (l:List Nat):List Int:=l.map Int.ofNat
theorem has_nums (s k:Nat) (hk:k < 64):hasL (intsN (numsS s)) (k:Int) = s.testBit k:=by
 rw [numsS_eq,Bool.eq_iff_iff]
 unfold hasL intsN
 simp only [List.any_map,List.any_eq_true,Function.comp_apply,List.mem_filter,List.mem_range,beq_iff_eq]
 constructor
 ·rintro ⟨n,⟨_,h⟩,e⟩
  obtain rfl:n = k:=by rw [Int.ofNat_eq_natCast] at e;omega
  exact h
 ·intro h
  exact ⟨k,⟨hk,h⟩,rfl⟩
theorem has_nums_any (s:Nat) (n:Int):hasL (intsN (numsS s)) n = (0 ≤ n && n < 64 && s.testBit n.toNat):=by
 by_cases h:0 ≤ n ∧ n < 64
 ·have:=has_nums s n.toNat (by omega)
  rw [show ((n.toNat:Nat):Int) = n by omega] at this
  rw [this]
  simp [h.1,h.2]
 ·have h1:(0 ≤ n && n < 64) = false:=by
   rw [Bool.eq_false_iff]
   intro e
   simp at e
   exact h e
  rw [h1,Bool.false_and,Bool.eq_false_iff]
  intro e
  unfold hasL intsN at e
  simp only [List.any_map,List.any_eq_true,Function.comp_apply,beq_iff_eq] at e
  obtain ⟨m,hm,e⟩:=e
  have:=nums_lt hm
  rw [Int.ofNat_eq_natCast] at e
  omega
theorem meet_one (s:Nat) (hs:s < 2 ^ 64) (n:Int):(s &&& oneS n = 0) ↔ hasL (intsN (numsS s)) n = false:=by
 rw [has_nums_any]
 constructor
 ·intro h
  by_cases hn:0 ≤ n ∧ n < 64
  ·have:=congrArg (fun t=>t.testBit n.toNat) h
   simp only [Nat.testBit_and,Nat.zero_testBit] at this
   rw [oneS_bit n n.toNat (by omega),show ((n.toNat:Nat):Int) = n by omega] at this
   simp at this
   simp [this]
  ·have h1:(0 ≤ n && n < 64) = false:=by
    rw [Bool.eq_false_iff]
    intro e
    simp at e
    exact hn e
   rw [h1,Bool.false_and]
 ·intro h
  refine bits_eq (Nat.lt_of_le_of_lt Nat.and_le_left hs) (by decide) fun k hk=>?_
  rw [Nat.testBit_and,oneS_bit n k hk,Nat.zero_testBit]
  by_cases e:n = (k:Int)
  ·subst e
   have h0:(0:Int) ≤ (k:Int):=by omega
   have h1:(k:Int) < 64:=by omega
   simp [h0,h1] at h
   simp [h]
  ·have:(n == (k:Int)) = false:=by simpa using e
   rw [this,Bool.and_false]
theorem less_even (s c:Nat):lessS s (2 ^ (c + 1)) / 2 = lessS (s / 2) (2 ^ c) ∧ lessS s (2 ^ (c + 1)) % 2 = s % 2:=by
 constructor
 ·apply Nat.eq_of_testBit_eq
  intro k
  rw [Nat.testBit_div_two,lessS_bit,lessS_bit,Nat.testBit_div_two,Nat.testBit_two_pow,Nat.testBit_two_pow]
  congr 2
  rw [Bool.eq_iff_iff]
  simp
 ·have h:(lessS s (2 ^ (c + 1))).testBit 0 = s.testBit 0:=by
   rw [lessS_bit,Nat.testBit_two_pow]
   simp
  rw [Nat.testBit_zero,Nat.testBit_zero] at h
  have:=decide_eq_decide.1 h
  omega
theorem less_odd (s:Nat):lessS s 1 / 2 = s / 2 ∧ lessS s 1 % 2 = 0:=by
 constructor
 ·apply Nat.eq_of_testBit_eq
  intro k
  rw [Nat.testBit_div_two,lessS_bit,Nat.testBit_div_two,show (1:Nat) = 2 ^ 0 from rfl,Nat.testBit_two_pow]
  simp
 ·have h:(lessS s 1).testBit 0 = false:=by
   rw [lessS_bit,show (1:Nat) = 2 ^ 0 from rfl,Nat.testBit_two_pow]
   simp
  rw [Nat.testBit_zero] at h
  have:=of_decide_eq_false h
  omega
theorem numsF_zero:∀ (f n:Nat),numsF f n 0 = []
 | 0,_=>rfl
 | f + 1,n=>by rw [numsF,if_neg (by omega),Nat.zero_div];exact numsF_zero f _
theorem numsF_first:∀ (f n s:Nat),s ≠ 0 → s < 2 ^ f → numsF f n s = (n + Lib.ctzFrom f s) :: numsF f n (lessS s (2 ^ Lib.ctzFrom f s))
 | 0,n,s,h0,h=>by simp at h;omega
 | f + 1,n,s,h0,h=>by
  rw [Lib.ctzFrom]
  by_cases h1:s % 2 = 1
  ·obtain ⟨a,b⟩:=less_odd s
   rw [if_pos h1,Nat.pow_zero,numsF,if_pos h1,numsF,if_neg (by omega),a]
   rfl
  ·have hs:s / 2 < 2 ^ f:=by rw [Nat.pow_succ] at h;omega
   obtain ⟨a,b⟩:=less_even s (Lib.ctzFrom f (s / 2))
   rw [if_neg h1,numsF,if_neg h1,numsF_first f (n + 1) (s / 2) (by omega) hs,numsF,Nat.add_comm 1,if_neg (by omega),a]
   congr 1
   omega
theorem nums_first (s:Nat) (h0:s ≠ 0) (hs:s < 2 ^ 64):numsS s = Lib.ctz 64 s :: numsS (lessS s (oneS (Lib.ctz 64 s))):=by
 have h:=numsF_first 64 0 s h0 hs
 have hc:=(Lib.lowest_bit 64 s h0 hs).2
 unfold numsS
 rw [h]
 unfold oneS Lib.ctz
 rw [if_neg h0]
 unfold Lib.ctz at hc
 rw [if_neg h0] at hc
 rw [if_pos (by omega),Nat.zero_add,Int.toNat_natCast]
theorem numsF_last:∀ (f n s:Nat),s ≠ 0 → s < 2 ^ f → numsF f n s = numsF f n (lessS s (2 ^ (Lib.bitLenAux f s - 1))) ++ [n + (Lib.bitLenAux f s - 1)] ∧ 1 ≤ Lib.bitLenAux f s
 | 0,n,s,h0,h=>by simp at h;omega
 | f + 1,n,s,h0,h=>by
  have hs:s / 2 < 2 ^ f:=by rw [Nat.pow_succ] at h;omega
  rw [Lib.bitLenAux,if_neg h0]
  refine ⟨?_,by omega⟩
  by_cases h2:s / 2 = 0
  ·obtain rfl:s = 1:=by omega
   have e0:∀ f,Lib.bitLenAux f 0 = 0:=fun f=>by cases f <;> simp [Lib.bitLenAux]
   rw [show 1 / 2 = 0 from rfl,e0]
   rw [show lessS 1 (2 ^ (1 + 0 - 1)) = 0 by decide,numsF_zero,numsF,if_pos (by decide),show 1 / 2 = 0 from rfl,numsF_zero]
   rfl
  ·obtain ⟨ih,hb⟩:=numsF_last f (n + 1) (s / 2) h2 hs
   obtain ⟨a,b⟩:=less_even s (Lib.bitLenAux f (s / 2) - 1)
   have e:1 + Lib.bitLenAux f (s / 2) - 1 = Lib.bitLenAux f (s / 2) - 1 + 1:=by omega
   rw [e,numsF,numsF,a,b,ih]
   by_cases h1:s % 2 = 1
   ·rw [if_pos h1,if_pos h1,List.cons_append]
    congr 3
    omega
   ·rw [if_neg h1,if_neg h1]
    congr 2
    omega
theorem bitLen_pos (s:Nat) (h0:s ≠ 0) (hs:s < 2 ^ 64):1 ≤ Lib.bitLen s ∧ Lib.bitLen s ≤ 64:=⟨(numsF_last 64 0 s h0 hs).2,Lib.bitLen_le s 64 (by omega) hs⟩
theorem nums_last (s:Nat) (h0:s ≠ 0) (hs:s < 2 ^ 64):numsS s = numsS (lessS s (oneS ((Lib.bitLen s:Int) - 1))) ++ [Lib.bitLen s - 1]:=by
 obtain ⟨h,h1⟩:=numsF_last 64 0 s h0 hs
 have hb:=bitLen_pos s h0 hs
 unfold numsS
 have e:oneS ((Lib.bitLen s:Int) - 1) = 2 ^ (Lib.bitLenAux 64 s - 1):=by
  unfold oneS
  rw [if_pos (by omega),show ((Lib.bitLen s:Int) - 1).toNat = Lib.bitLen s - 1 by omega]
  rfl
 rw [e,h,Nat.zero_add]
 rfl
theorem count_len:∀ (f n s:Nat),Lib.popAux f s = (numsF f n s).length
 | 0,_,_=>rfl
 | f + 1,n,s=>by
  rw [Lib.popAux,numsF,count_len f (n + 1)]
  by_cases h:s % 2 = 1
  ·rw [if_pos h,h,List.length_cons];omega
  ·rw [if_neg h];omega
theorem ones_len (s:Nat):Lib.onesCount s = (numsS s).length:=count_len 64 0 s
end Go.Proofs.YtncmnhccmemagaaGreatDoor
namespace Go.Proofs.YtncmnhccmemagaaGreatDoor
theorem and_parts (x y:Nat):x &&& y = (x % 256 &&& y % 256) + 256 * (x / 256 &&& y / 256):=by
 have h1:(x &&& y) / 2 ^ 8 = x / 2 ^ 8 &&& y / 2 ^ 8:=Nat.and_div_two_pow
 have h2:(x &&& y) % 2 ^ 8 = (x % 2 ^ 8) &&& (y % 2 ^ 8):=Nat.and_mod_two_pow
 have e:(2:Nat) ^ 8 = 256:=rfl
 rw [e] at h1 h2
 rw [← h1,← h2]
 omega
def rep (c:Nat):Nat → Nat
 | 0=>0
 | n + 1=>c + 256 * rep c n
theorem and_rep (x c n:Nat) (hc:c < 256):x &&& rep c (n + 1) = (x % 256 &&& c) + 256 * (x / 256 &&& rep c n):=by
 rw [and_parts,rep]
 rw [show (c + 256 * rep c n) % 256 = c by omega,show (c + 256 * rep c n) / 256 = rep c n by omega]
theorem half_byte:∀ a:Fin 256,∀ t:Fin 2,(a.val / 2 + 128 * t.val) &&& 85 = a.val / 2 &&& 85:=by decide +kernel
theorem quart_byte:∀ a:Fin 256,∀ t:Fin 4,(a.val / 4 + 64 * t.val) &&& 51 = a.val / 4 &&& 51:=by decide +kernel
def two8 (a:Nat):Nat:=(a / 2 &&& 85) + (a &&& 85)
def four8 (a:Nat):Nat:=(a / 4 &&& 51) + (a &&& 51)
def twoN (n x:Nat):Nat:=(x / 2 &&& rep 85 n) + (x &&& rep 85 n)
def fourN (n x:Nat):Nat:=(x / 4 &&& rep 51 n) + (x &&& rep 51 n)
def eightN (n x:Nat):Nat:=(x / 16 + x) &&& rep 15 n
theorem two_more (n x:Nat):twoN (n + 1) x = two8 (x % 256) + 256 * twoN n (x / 256):=by
 unfold twoN two8
 rw [and_rep _ 85 n (by decide),and_rep x 85 n (by decide)]
 have h:=half_byte ⟨x % 256,Nat.mod_lt _ (by decide)⟩ ⟨x / 256 % 2,Nat.mod_lt _ (by decide)⟩
 simp only at h
 rw [show x / 2 % 256 = x % 256 / 2 + 128 * (x / 256 % 2) by omega,h,show x / 2 / 256 = x / 256 / 2 by omega]
 omega
theorem four_more (n x:Nat):fourN (n + 1) x = four8 (x % 256) + 256 * fourN n (x / 256):=by
 unfold fourN four8
 rw [and_rep _ 51 n (by decide),and_rep x 51 n (by decide)]
 have h:=quart_byte ⟨x % 256,Nat.mod_lt _ (by decide)⟩ ⟨x / 256 % 4,Nat.mod_lt _ (by decide)⟩
 simp only at h
 rw [show x / 4 % 256 = x % 256 / 4 + 64 * (x / 256 % 4) by omega,h,show x / 4 / 256 = x / 256 / 4 by omega]
 omega
theorem two8_le:∀ a:Fin 256,two8 a.val < 256 ∧ four8 (two8 a.val) < 256 ∧ four8 (two8 a.val) % 16 ≤ 4 ∧ four8 (two8 a.val) / 16 ≤ 4 ∧ (four8 (two8 a.val) / 16 + four8 (two8 a.val) % 16) = Lib.onesCount a.val:=by decide +kernel
theorem and15:∀ a:Fin 256,a.val &&& 15 = a.val % 16:=by decide +kernel
def pops:Nat → Nat → Nat
 | 0,_=>0
 | n + 1,x=>Lib.onesCount (x % 256) + 256 * pops n (x / 256)
theorem step_more (n x:Nat):fourN (n + 1) (twoN (n + 1) x) = four8 (two8 (x % 256)) + 256 * fourN n (twoN n (x / 256)):=by
 have h:=two8_le ⟨x % 256,Nat.mod_lt _ (by decide)⟩
 simp only at h
 rw [two_more,four_more]
 rw [show (two8 (x % 256) + 256 * twoN n (x / 256)) % 256 = two8 (x % 256) by omega,show (two8 (x % 256) + 256 * twoN n (x / 256)) / 256 = twoN n (x / 256) by omega]
theorem eight_more:∀ (n x:Nat),eightN n (fourN n (twoN n x)) = pops n x ∧ fourN n (twoN n x) % 16 ≤ 4
 | 0,x=>by simp [eightN,fourN,twoN,rep,pops]
 | n + 1,x=>by
  obtain ⟨ih,ih4⟩:=eight_more n (x / 256)
  have h:=two8_le ⟨x % 256,Nat.mod_lt _ (by decide)⟩
  simp only at h
  obtain ⟨-,h1,h2,h3,h4⟩:=h
  rw [step_more,pops,← h4,← ih]
  unfold eightN
  generalize fourN n (twoN n (x / 256)) = y at *
  generalize four8 (two8 (x % 256)) = a at *
  rw [and_rep _ 15 n (by decide)]
  have e1:((a + 256 * y) / 16 + (a + 256 * y)) % 256 % 16 = a / 16 + a % 16:=by omega
  have e2:((a + 256 * y) / 16 + (a + 256 * y)) / 256 = y / 16 + y:=by omega
  have e3:=and15 ⟨((a + 256 * y) / 16 + (a + 256 * y)) % 256,Nat.mod_lt _ (by decide)⟩
  simp only at e3
  rw [e2,e3,e1]
  refine ⟨rfl,by omega⟩
theorem pop_le8 (a:Nat) (h:a < 256):Lib.onesCount a ≤ 8:=Lib.onesCount_le8 ⟨a,h⟩
theorem popAux_split:∀ (f g x:Nat),Lib.popAux (f + g) x = Lib.popAux f (x % 2 ^ f) + Lib.popAux g (x / 2 ^ f)
 | 0,g,x=>by simp [Lib.popAux]
 | f + 1,g,x=>by
  rw [show f + 1 + g = (f + g) + 1 by omega,Lib.popAux,popAux_split f g,Lib.popAux,Nat.pow_succ]
  rw [show x % (2 ^ f * 2) % 2 = x % 2 by rw [Nat.mul_comm];exact Nat.mod_mul_right_mod x 2 (2 ^ f),Nat.mul_comm (2 ^ f) 2,← Nat.div_div_eq_div_mul,Nat.mod_mul_right_div_self]
  omega
theorem popAux_zero:∀ f,Lib.popAux f 0 = 0
 | 0=>rfl
 | f + 1=>by rw [Lib.popAux,Nat.zero_div,popAux_zero f]
theorem pop_byte (a:Nat) (h:a < 256):Lib.popAux 8 a = Lib.onesCount a:=by
 unfold Lib.onesCount
 rw [show (64:Nat) = 8 + 56 from rfl,popAux_split 8 56,show (2:Nat) ^ 8 = 256 from rfl,Nat.mod_eq_of_lt h,Nat.div_eq_of_lt h,popAux_zero]
 rfl
theorem pop_bytes (g x:Nat):Lib.popAux (8 + g) x = Lib.onesCount (x % 256) + Lib.popAux g (x / 256):=by
 rw [popAux_split 8 g,show (2:Nat) ^ 8 = 256 from rfl,pop_byte _ (Nat.mod_lt _ (by decide))]
theorem pop_all (x:Nat):Lib.onesCount x = Lib.onesCount (x % 256) + (Lib.onesCount (x / 256 % 256) + (Lib.onesCount (x / 256 / 256 % 256) + (Lib.onesCount (x / 256 / 256 / 256 % 256) + (Lib.onesCount (x / 256 / 256 / 256 / 256 % 256) + (Lib.onesCount (x / 256 / 256 / 256 / 256 / 256 % 256) + (Lib.onesCount (x / 256 / 256 / 256 / 256 / 256 / 256 % 256) + Lib.onesCount (x / 256 / 256 / 256 / 256 / 256 / 256 / 256 % 256))))))):=by
 conv=>lhs;unfold Lib.onesCount
 rw [show (64:Nat) = 8 + (8 + (8 + (8 + (8 + (8 + (8 + (8 + 0))))))) from rfl]
 simp only [pop_bytes]
 rw [show ∀ x,Lib.popAux 0 x = 0 from fun _=>rfl,Nat.add_zero]
theorem div_1 (a r:Nat) (h:a < 256):(a + 256 * r) / 256 = r:=by omega
theorem div_2 (a b r:Nat) (ha:a < 256) (hb:b < 256):(a + 256 * (b + 256 * r)) / 65536 = r:=by
 rw [show (65536:Nat) = 256 * 256 from rfl,← Nat.div_div_eq_div_mul,div_1 _ _ ha,div_1 _ _ hb]
theorem div_4 (a b c d r:Nat) (ha:a < 256) (hb:b < 256) (hc:c < 256) (hd:d < 256):(a + 256 * (b + 256 * (c + 256 * (d + 256 * r)))) / 4294967296 = r:=by
 rw [show (4294967296:Nat) = 65536 * 65536 from rfl,← Nat.div_div_eq_div_mul,div_2 _ _ _ ha hb,div_2 _ _ _ hc hd]
theorem mod_1 (a r:Nat) (h:a < 128):(a + 256 * r) % 128 = a:=by omega
theorem low_8 (a b c d e f g h:Nat) (ha:a ≤ 64) (hb:b ≤ 64) (hc:c ≤ 64) (hd:d ≤ 64) (he:e ≤ 64) (hf:f ≤ 64) (hg:g ≤ 64) (hh:h ≤ 64) :
  a + 256 * (b + 256 * (c + 256 * (d + 256 * (e + 256 * (f + 256 * (g + 256 * h)))))) < 9223372036854775808:=by
 have h1:g + 256 * h ≤ 16448:=by omega
 generalize g + 256 * h = r at *
 have h2:f + 256 * r ≤ 4210752:=by omega
 generalize f + 256 * r = r2 at *
 have h3:e + 256 * r2 ≤ 1077952576:=by omega
 generalize e + 256 * r2 = r3 at *
 have h4:d + 256 * r3 ≤ 275955859520:=by omega
 generalize d + 256 * r3 = r4 at *
 have h5:c + 256 * r4 ≤ 70644700037184:=by omega
 generalize c + 256 * r4 = r5 at *
 have h6:b + 256 * r5 ≤ 18085043209519168:=by omega
 generalize b + 256 * r5 = r6 at *
 omega
theorem fold_z (p0 p1 p2 p3 p4 p5 p6 p7:Nat) (h0:p0 ≤ 8):(p0 + 256 * (p1 + 256 * (p2 + 256 * (p3 + 256 * (p4 + 256 * (p5 + 256 * (p6 + 256 * p7))))))) + (p0 + 256 * (p1 + 256 * (p2 + 256 * (p3 + 256 * (p4 + 256 * (p5 + 256 * (p6 + 256 * p7))))))) / 256 = (p0 + p1) + 256 * ((p1 + p2) + 256 * ((p2 + p3) + 256 * ((p3 + p4) + 256 * ((p4 + p5) + 256 * ((p5 + p6) + 256 * ((p6 + p7) + 256 * p7)))))):=by
 rw [div_1 p0 _ (by omega)]
 omega
theorem fold_u (p0 p1 p2 p3 p4 p5 p6 p7:Nat) (h0:p0 ≤ 16) (h1:p1 ≤ 16):(p0 + 256 * (p1 + 256 * (p2 + 256 * (p3 + 256 * (p4 + 256 * (p5 + 256 * (p6 + 256 * p7))))))) + (p0 + 256 * (p1 + 256 * (p2 + 256 * (p3 + 256 * (p4 + 256 * (p5 + 256 * (p6 + 256 * p7))))))) / 65536 = (p0 + p2) + 256 * ((p1 + p3) + 256 * ((p2 + p4) + 256 * ((p3 + p5) + 256 * ((p4 + p6) + 256 * ((p5 + p7) + 256 * (p6 + 256 * p7)))))):=by
 rw [div_2 p0 p1 _ (by omega) (by omega)]
 omega
theorem fold_v (p0 p1 p2 p3 p4 p5 p6 p7:Nat) (h0:p0 ≤ 32) (h1:p1 ≤ 32) (h2:p2 ≤ 32) (h3:p3 ≤ 32):(p0 + 256 * (p1 + 256 * (p2 + 256 * (p3 + 256 * (p4 + 256 * (p5 + 256 * (p6 + 256 * p7))))))) + (p0 + 256 * (p1 + 256 * (p2 + 256 * (p3 + 256 * (p4 + 256 * (p5 + 256 * (p6 + 256 * p7))))))) / 4294967296 = (p0 + p4) + 256 * ((p1 + p5) + 256 * ((p2 + p6) + 256 * ((p3 + p7) + 256 * (p4 + 256 * (p5 + 256 * (p6 + 256 * p7)))))):=by
 rw [div_4 p0 p1 p2 p3 _ (by omega) (by omega) (by omega) (by omega)]
 omega
theorem fold_all (p0 p1 p2 p3 p4 p5 p6 p7:Nat) (h0:p0 ≤ 8) (h1:p1 ≤ 8) (h2:p2 ≤ 8) (h3:p3 ≤ 8) (h4:p4 ≤ 8) (h5:p5 ≤ 8) (h6:p6 ≤ 8) (h7:p7 ≤ 8) (y z u v:Nat)
  (hy:y = p0 + 256 * (p1 + 256 * (p2 + 256 * (p3 + 256 * (p4 + 256 * (p5 + 256 * (p6 + 256 * p7)))))))
  (hz:z = y + y / 256) (hu:u = z + z / 65536) (hv:v = u + u / 4294967296) :
  z < 18446744073709551616 ∧ u < 18446744073709551616 ∧ v < 18446744073709551616 ∧ v % 128 = p0 + (p1 + (p2 + (p3 + (p4 + (p5 + (p6 + p7)))))) ∧ v < 9223372036854775808:=by
 have b0:∀ a b:Nat,a ≤ 8 → b ≤ 8 → a + b ≤ 16:=fun a b ha hb=>Nat.add_le_add ha hb
 rw [hy,fold_z _ _ _ _ _ _ _ _ h0] at hz
 rw [hz,fold_u _ _ _ _ _ _ _ _ (b0 _ _ h0 h1) (b0 _ _ h1 h2)] at hu
 rw [hu,fold_v _ _ _ _ _ _ _ _ (by clear hy hz hu hv;omega) (by clear hy hz hu hv;omega) (by clear hy hz hu hv;omega) (by clear hy hz hu hv;omega)] at hv
 clear hy
 refine ⟨hz ▸ ?_,hu ▸ ?_,hv ▸ ?_,hv ▸ ?_,hv ▸ ?_⟩ <;> clear hz hu hv
 ·exact Nat.lt_trans (low_8 ((p0 + p1)) ((p1 + p2)) ((p2 + p3)) ((p3 + p4)) ((p4 + p5)) ((p5 + p6)) ((p6 + p7)) (p7) (by omega) (by omega) (by omega) (by omega) (by omega) (by omega) (by omega) (by omega)) (by decide)
 ·exact Nat.lt_trans (low_8 (((p0 + p1) + (p2 + p3))) (((p1 + p2) + (p3 + p4))) (((p2 + p3) + (p4 + p5))) (((p3 + p4) + (p5 + p6))) (((p4 + p5) + (p6 + p7))) (((p5 + p6) + p7)) ((p6 + p7)) (p7) (by omega) (by omega) (by omega) (by omega) (by omega) (by omega) (by omega) (by omega)) (by decide)
 ·exact Nat.lt_trans (low_8 ((((p0 + p1) + (p2 + p3)) + ((p4 + p5) + (p6 + p7)))) ((((p1 + p2) + (p3 + p4)) + ((p5 + p6) + p7))) ((((p2 + p3) + (p4 + p5)) + (p6 + p7))) ((((p3 + p4) + (p5 + p6)) + p7)) (((p4 + p5) + (p6 + p7))) (((p5 + p6) + p7)) ((p6 + p7)) (p7) (by omega) (by omega) (by omega) (by omega) (by omega) (by omega) (by omega) (by omega)) (by decide)
 ·rw [mod_1 _ _ (by omega)]
  omega
 ·exact low_8 ((((p0 + p1) + (p2 + p3)) + ((p4 + p5) + (p6 + p7)))) ((((p1 + p2) + (p3 + p4)) + ((p5 + p6) + p7))) ((((p2 + p3) + (p4 + p5)) + (p6 + p7))) ((((p3 + p4) + (p5 + p6)) + p7)) (((p4 + p5) + (p6 + p7))) (((p5 + p6) + p7)) ((p6 + p7)) (p7) (by omega) (by omega) (by omega) (by omega) (by omega) (by omega) (by omega) (by omega)
theorem pop_fold (x y z u v:Nat) (hy:y = pops 8 x) (hz:z = y + y / 256) (hu:u = z + z / 65536) (hv:v = u + u / 4294967296) :
  z < 18446744073709551616 ∧ u < 18446744073709551616 ∧ v < 18446744073709551616 ∧ v % 128 = Lib.onesCount x ∧ v < 9223372036854775808:=by
 rw [pop_all x]
 refine fold_all _ _ _ _ _ _ _ _ (pop_le8 _ (Nat.mod_lt _ (by decide))) (pop_le8 _ (Nat.mod_lt _ (by decide))) (pop_le8 _ (Nat.mod_lt _ (by decide))) (pop_le8 _ (Nat.mod_lt _ (by decide))) (pop_le8 _ (Nat.mod_lt _ (by decide))) (pop_le8 _ (Nat.mod_lt _ (by decide))) (pop_le8 _ (Nat.mod_lt _ (by decide))) (pop_le8 _ (Nat.mod_lt _ (by decide))) y z u v ?_ hz hu hv
 rw [hy]
 simp only [pops,Nat.mul_zero,Nat.add_zero]
end Go.Proofs.YtncmnhccmemagaaGreatDoor
namespace Go.Proofs.YtncmnhccmemagaaGreatDoor
open Go.RowKit
theorem bits_less (a b:Nat) (ha:a < 2 ^ 64) (hb:b < 2 ^ 64):bits .andNot .u64 (a:Int) (b:Int) = ((lessS a b:Nat):Int):=by
 have h1:(BitVec.ofInt 64 (a:Int)).toNat = a:=by
  rw [BitVec.ofInt_natCast,BitVec.toNat_ofNat];exact Nat.mod_eq_of_lt ha
 have h2:(BitVec.ofInt 64 (b:Int)).toNat = b:=by
  rw [BitVec.ofInt_natCast,BitVec.toNat_ofNat];exact Nat.mod_eq_of_lt hb
 have h3:(BitVec.ofInt 64 (a:Int) &&& ~~~BitVec.ofInt 64 (b:Int)).toNat = lessS a b:=by
  refine bits_eq (BitVec.isLt _) (lessS_lt b ha) fun k hk=>?_
  rw [lessS_bit,BitVec.testBit_toNat,BitVec.getLsbD_and,BitVec.getLsbD_not,← BitVec.testBit_toNat,← BitVec.testBit_toNat,h1,h2]
  simp [hk]
 show IntKind.u64.wrap ((BitVec.ofInt 64 (a:Int) &&& ~~~BitVec.ofInt 64 (b:Int)).toNat:Int) = _
 rw [h3,IntKind.wrap_u64]
 have:=lessS_lt b ha
 omega
theorem shl_one (n:Int) (h:0 ≤ n):IntKind.u64.wrap (2 ^ min n.toNat 64) = ((oneS n:Nat):Int):=by
 rw [IntKind.wrap_u64]
 have e:((2:Int) ^ min n.toNat 64) = ((2 ^ min n.toNat 64:Nat):Int):=by simp
 rw [e]
 unfold oneS
 by_cases hn:n < 64
 ·rw [if_pos ⟨h,hn⟩,Nat.min_eq_left (by omega)]
  have h2:2 ^ n.toNat < 2 ^ 64:=Nat.pow_lt_pow_right (by omega) (by omega)
  generalize 2 ^ n.toNat = x at *
  omega
 ·rw [if_neg (by omega),Nat.min_eq_right (by omega)]
  rfl
theorem one_any (n:Int) (w:World):Calls Tryz.prog 30 #[.int .i64 n] w (RetW (.int .u64 ((oneS n:Nat):Int)) w):=by
 by_cases h:n < 0
 ·have e:oneS n = 0:=by unfold oneS;rw [if_neg (by omega)]
  rw [e]
  go_enter Tryz.func30,Tryz.ntmps30
  go_wp2
  go_returns
  exact ⟨rfl,rfl⟩
 ·have e:=shl_one n (by omega)
  go_enter Tryz.func30,Tryz.ntmps30
  go_wp2
  go_returns
  exact ⟨rfl,rfl⟩
theorem meet_any (s t:Nat) (hs:s < 2 ^ 64) (ht:t < 2 ^ 64) (w:World):Calls Tryz.prog 16 #[.int .u64 (s:Int),.int .u64 (t:Int)] w (RetW (.int .u64 ((s &&& t:Nat):Int)) w):=by
 have e:=bits_and_u64_nat s t hs ht
 go_enter Tryz.func16,Tryz.ntmps16
 go_wp2
 go_returns
 exact ⟨rfl,rfl⟩
theorem lessS_any (s t:Nat) (hs:s < 2 ^ 64) (ht:t < 2 ^ 64) (w:World):Calls Tryz.prog 58 #[.int .u64 (s:Int),.int .u64 (t:Int)] w (RetW (.int .u64 ((lessS s t:Nat):Int)) w):=by
 have e:=bits_less s t hs ht
 go_enter Tryz.func58,Tryz.ntmps58
 go_wp2
 go_returns
 exact ⟨rfl,rfl⟩
theorem hasS_any (s:Nat) (hs:s < 2 ^ 64) (n:Int) (w:World):Calls Tryz.prog 17 #[.int .u64 (s:Int),.int .i64 n] w (RetW (.bool (hasL (intsN (numsS s)) n)) w):=by
 have e:(((s &&& oneS n:Nat):Int) != 0) = hasL (intsN (numsS s)) n:=by
  have:=meet_one s hs n
  cases h:hasL (intsN (numsS s)) n
  ·simp [this.2 h]
  ·rw [bne_iff_ne]
   intro h0
   rw [this.1 (by omega)] at h
   cases h
 go_enter Tryz.func17,Tryz.ntmps17
 go_wp2_with (first | ((with_reducible refine (one_any n _).mono ?_);rintro e w1 ⟨rfl,rfl⟩) | ((with_reducible refine (meet_any s (oneS n) hs (oneS_lt n) _).mono ?_);rintro e w1 ⟨rfl,rfl⟩))
 go_returns
 exact ⟨rfl,rfl⟩
theorem u64_and (s t:Nat) (hs:s < 2 ^ 64) (ht:t < 2 ^ 64):bits .and .u64 (s:Int) (t:Int) = ((s &&& t:Nat):Int):=bits_and_u64_nat s t hs ht
theorem rep85:rep 85 8 = 6148914691236517205:=by decide
theorem rep51:rep 51 8 = 3689348814741910323:=by decide
theorem two_lt (x:Nat):twoN 8 x < 2 ^ 64:=by
 unfold twoN
 have h1:x / 2 &&& rep 85 8 ≤ rep 85 8:=Nat.and_le_right
 have h2:x &&& rep 85 8 ≤ rep 85 8:=Nat.and_le_right
 rw [rep85] at *
 omega
theorem four_lt (x:Nat):fourN 8 x < 2 ^ 64:=by
 unfold fourN
 have h1:x / 4 &&& rep 51 8 ≤ rep 51 8:=Nat.and_le_right
 have h2:x &&& rep 51 8 ≤ rep 51 8:=Nat.and_le_right
 rw [rep51] at *
 omega
theorem i64_and127 (v:Nat) (h:v < 9223372036854775808):bits .and .i64 (v:Int) 127 = ((v % 128:Nat):Int):=by
 have h1:(BitVec.ofInt 64 (v:Int)).toNat = v:=by
  rw [BitVec.ofInt_natCast,BitVec.toNat_ofNat];exact Nat.mod_eq_of_lt (by omega)
 have h2:(BitVec.ofInt 64 (127:Int)).toNat = 127:=by decide
 show IntKind.i64.wrap ((BitVec.ofInt 64 (v:Int) &&& BitVec.ofInt 64 (127:Int)).toNat:Int) = _
 rw [BitVec.toNat_and,h1,h2,show (127:Nat) = 2 ^ 7 - 1 from rfl,Nat.and_two_pow_sub_one_eq_mod,IntKind.wrap_i64]
 omega
set_option maxHeartbeats 1000000 in
theorem ones_any (s:Nat) (hs:s < 2 ^ 64) (w:World):Calls Tryz.prog 31 #[.int .u64 (s:Int)] w (RetW (.int .i64 (Lib.onesCount s:Int)) w):=by
 obtain ⟨hp,h4⟩:=eight_more 8 s
 have hf:=four_lt (twoN 8 s)
 have ht:=two_lt s
 have a1:bits .and .u64 ((s:Int) / 2) 6148914691236517205 = ((s / 2 &&& rep 85 8:Nat):Int):=by rw [show ((s:Int) / 2) = ((s / 2:Nat):Int) by omega];exact u64_and _ _ (by omega) (by decide)
 have a2:bits .and .u64 (s:Int) 6148914691236517205 = ((s &&& rep 85 8:Nat):Int):=u64_and _ _ hs (by decide)
 have a3:IntKind.u64.wrap (((s / 2 &&& rep 85 8:Nat):Int) + ((s &&& rep 85 8:Nat):Int)) = ((twoN 8 s:Nat):Int):=by rw [IntKind.wrap_u64];unfold twoN at *;omega
 generalize twoN 8 s = x at *
 have b1:bits .and .u64 ((x:Int) / 4) 3689348814741910323 = ((x / 4 &&& rep 51 8:Nat):Int):=by rw [show ((x:Int) / 4) = ((x / 4:Nat):Int) by omega];exact u64_and _ _ (by omega) (by decide)
 have b2:bits .and .u64 (x:Int) 3689348814741910323 = ((x &&& rep 51 8:Nat):Int):=u64_and _ _ ht (by decide)
 have b3:IntKind.u64.wrap (((x / 4 &&& rep 51 8:Nat):Int) + ((x &&& rep 51 8:Nat):Int)) = ((fourN 8 x:Nat):Int):=by rw [IntKind.wrap_u64];unfold fourN at *;omega
 have hy4:fourN 8 x ≤ 7378697629483820646:=by
  unfold fourN
  have h1:x / 4 &&& rep 51 8 ≤ rep 51 8:=Nat.and_le_right
  have h2:x &&& rep 51 8 ≤ rep 51 8:=Nat.and_le_right
  rw [rep51] at *
  omega
 generalize fourN 8 x = y at *
 have c1:IntKind.u64.wrap ((y:Int) / 16 + (y:Int)) = ((y / 16 + y:Nat):Int):=by rw [IntKind.wrap_u64];omega
 have c2:bits .and .u64 ((y / 16 + y:Nat):Int) 1085102592571150095 = ((pops 8 s:Nat):Int):=by
  rw [← hp]
  exact u64_and _ _ (by omega) (by decide)
 obtain ⟨f1,f2,f3,f4,f5⟩:=pop_fold s (pops 8 s) _ _ _ rfl rfl rfl rfl
 have d1:IntKind.u64.wrap ((pops 8 s:Int) + (pops 8 s:Int) / 256) = ((pops 8 s + pops 8 s / 256:Nat):Int):=by rw [IntKind.wrap_u64];omega
 generalize pops 8 s = p at *
 generalize p + p / 256 = z at *
 have d2:IntKind.u64.wrap ((z:Int) + (z:Int) / 65536) = ((z + z / 65536:Nat):Int):=by rw [IntKind.wrap_u64];omega
 generalize z + z / 65536 = u at *
 have d3:IntKind.u64.wrap ((u:Int) + (u:Int) / 4294967296) = ((u + u / 4294967296:Nat):Int):=by rw [IntKind.wrap_u64];omega
 generalize u + u / 4294967296 = v at *
 have g1:wrap64 (v:Int) = (v:Int):=by unfold wrap64;omega
 have g2:=i64_and127 v f5
 rw [f4] at g2
 generalize y / 16 + y = q at *
 generalize rep 85 8 = m1 at *
 generalize rep 51 8 = m2 at *
 clear hp h4 hf ht hy4 f1 f2 f3 f4 f5 hs
 go_enter Tryz.func31,Tryz.ntmps31
 go_wp2
 go_returns
 exact ⟨rfl,rfl⟩
theorem countS_any (s:Nat) (hs:s < 2 ^ 64) (w:World):Calls Tryz.prog 19 #[.int .u64 (s:Int)] w (RetW (.int .i64 ((numsS s).length:Int)) w):=by
 rw [← ones_len]
 go_enter Tryz.func19,Tryz.ntmps19
 go_wp2_with (first | ((with_reducible refine (ones_any s hs _).mono ?_);rintro e w1 ⟨rfl,rfl⟩))
 go_returns
 exact ⟨rfl,rfl⟩
end Go.Proofs.YtncmnhccmemagaaGreatDoor
namespace Go.Proofs.YtncmnhccmemagaaGreatDoor
open Go.RowKit
def IntsRd (w:World) (ao:Option Addr) (xs:List Int):Prop:=∀ i (hi:i < xs.length),∃ g o,ao = some ⟨g,o,none⟩ ∧ g < w.heap.size ∧ w.cell? ⟨g,o + i,none⟩ = some (.int .i64 xs[i])
theorem intsRd_keep {w w':World} {ao:Option Addr} {xs:List Int} (h:IntsRd w ao xs) (hb:Below w.heap.size w w'):IntsRd w' ao xs:=fun i hi=>by
 obtain ⟨g,o,e,hg,h1⟩:=h i hi
 exact ⟨g,o,e,Nat.lt_of_lt_of_le hg hb.size,(hb.cell (p:=⟨g,_,none⟩) hg).trans h1⟩
def SetsRd (w:World) (ao:Option Addr) (ts:List Nat):Prop:=∀ i (hi:i < ts.length),∃ g,ao = some ⟨g,0,none⟩ ∧ g < w.heap.size ∧ w.cell? ⟨g,i,none⟩ = some (.int .u64 (ts[i]:Int))
theorem ofS_more {s i:Nat} {l:List Int} (h:i < l.length):ofS s (l.drop i) = ofS (s ||| oneS l[i]) (l.drop (i + 1)):=by rw [List.drop_eq_getElem_cons h,ofS]
theorem ofS_end {s i:Nat} {l:List Int} (h:l.length ≤ i):ofS s (l.drop i) = s:=by rw [List.drop_of_length_le h,ofS]
theorem joinS_more {s i:Nat} {l:List Nat} (h:i < l.length):unionS s (l.drop i) = unionS (s ||| l[i]) (l.drop (i + 1)):=by rw [List.drop_eq_getElem_cons h,unionS]
theorem joinS_end {s i:Nat} {l:List Nat} (h:l.length ≤ i):unionS s (l.drop i) = s:=by rw [List.drop_of_length_le h,unionS]
theorem bits_or (s t:Nat) (hs:s < 2 ^ 64) (ht:t < 2 ^ 64):bits .or .u64 (s:Int) (t:Int) = ((s ||| t:Nat):Int):=bits_or_u64_nat s t hs ht
set_option maxRecDepth 100000 in
set_option maxHeartbeats 4000000 in
theorem with_any (ao:Option Addr) (cap:Nat) (l:List Int) (hl:l.length ≤ 1000) (s:Nat) (hs:s < 2 ^ 64) (w:World) (h:IntsRd w ao l) :
  Calls Tryz.prog 85 #[.int .u64 (s:Int),.slice ao l.length cap] w (RetW (.int .u64 ((ofS s l:Nat):Int)) w):=by
 have H:=Lib.hid h
 have hF':Hid (ofS s (l.drop 0) = ofS s l):=Lib.hid (by rw [List.drop_zero])
 generalize ofS s l = F at *
 clear h
 go_enter Tryz.func85,Tryz.ntmps85
 go_wp2
 go_loopw [0,9] (fun v x wr=>∃ (i t:Nat),v = .int .u64 (t:Int) ∧ x = .int .i64 (i:Int) ∧ i ≤ l.length ∧ t < 2 ^ 64 ∧ Hid (ofS t (l.drop i) = F) ∧ wr = w) (fun _ x _=>l.length - (intOf x).toNat)
 case atStart=>exact ⟨0,s,rfl,rfl,Nat.zero_le _,hs,hF',rfl⟩
 case round =>
  obtain ⟨i,t,rfl,rfl,hi,ht,hf,rfl⟩:=hrel
  by_cases hlt:i < l.length
  ·obtain ⟨g,o,rfl,hg,n1⟩:=H.out i hlt
   have hm:=ofS_more (s:=t) hlt
   rw [hf.out] at hm
   have hm':=Lib.hid hm.symm
   have hI:(i:Int) < (l.length:Int):=by omega
   have e1:=bits_or t (oneS l[i]) ht (oneS_lt _)
   have ho:t ||| oneS l[i] < 2 ^ 64:=Nat.or_lt_two_pow ht (oneS_lt _)
   generalize l[i] = n at *
   generalize t ||| oneS n = u at *
   clear hm hf
   go_wp2_with (first | ((with_reducible refine (one_any n _).mono ?_);rintro e w1 ⟨rfl,rfl⟩))
   go_roundw
   case rel=>exact ⟨i + 1,u,rfl,by go_num,by omega,ho,hm',trivial⟩
   case measure=>simp [intOf];omega
  ·have hI:¬ (i:Int) < (l.length:Int):=by omega
   have hm:=ofS_end (s:=t) (show l.length ≤ i by omega)
   rw [hf.out] at hm
   subst hm
   clear hf
   go_wp2
   go_returns
   exact ⟨rfl,rfl⟩
set_option maxRecDepth 100000 in
set_option maxHeartbeats 4000000 in
theorem joinS_any (ao:Option Addr) (cap:Nat) (l:List Nat) (hl:l.length ≤ 1000) (hb:∀ t ∈ l,t < 2 ^ 64) (s:Nat) (hs:s < 2 ^ 64) (w:World) (h:SetsRd w ao l) :
  Calls Tryz.prog 18 #[.int .u64 (s:Int),.slice ao l.length cap] w (RetW (.int .u64 ((unionS s l:Nat):Int)) w):=by
 have H:=Lib.hid h
 have hF':Hid (unionS s (l.drop 0) = unionS s l):=Lib.hid (by rw [List.drop_zero])
 generalize unionS s l = F at *
 replace hb:=Lib.hid hb
 clear h
 go_enter Tryz.func18,Tryz.ntmps18
 go_wp2
 go_loopw [0,9] (fun v x wr=>∃ (i t:Nat),v = .int .u64 (t:Int) ∧ x = .int .i64 (i:Int) ∧ i ≤ l.length ∧ t < 2 ^ 64 ∧ Hid (unionS t (l.drop i) = F) ∧ wr = w) (fun _ x _=>l.length - (intOf x).toNat)
 case atStart=>exact ⟨0,s,rfl,rfl,Nat.zero_le _,hs,hF',rfl⟩
 case round =>
  obtain ⟨i,t,rfl,rfl,hi,ht,hf,rfl⟩:=hrel
  by_cases hlt:i < l.length
  ·obtain ⟨g,rfl,hg,n1⟩:=H.out i hlt
   have hm:=joinS_more (s:=t) hlt
   rw [hf.out] at hm
   have hm':=Lib.hid hm.symm
   have hI:(i:Int) < (l.length:Int):=by omega
   have hu:=hb.out _ (List.getElem_mem hlt)
   have e1:=bits_or t l[i] ht hu
   have ho:t ||| l[i] < 2 ^ 64:=Nat.or_lt_two_pow ht hu
   generalize l[i] = n at *
   generalize t ||| n = u at *
   clear hm hf
   go_wp2
   go_roundw
   case rel=>exact ⟨i + 1,u,rfl,by go_num,by omega,ho,hm',trivial⟩
   case measure=>simp [intOf];omega
  ·have hI:¬ (i:Int) < (l.length:Int):=by omega
   have hm:=joinS_end (s:=t) (show l.length ≤ i by omega)
   rw [hf.out] at hm
   subst hm
   clear hf
   go_wp2
   go_returns
   exact ⟨rfl,rfl⟩
theorem Tryz.infoI:(Tryz.prog.info? 3).map (fun i=>(i.zero,i.size,i.bytes)) = some (some (.int .i64 0),1,8):=by kernel_rfl
def natsI (l:List Nat):List Value:=l.map fun n:Nat=>Value.int .i64 (n:Int)
def NumsIs (ks:List Nat) (w:World) (e:Ending) (w':World):Prop:=∃ ao cap,e = .returned (.slice ao ks.length cap) ∧ w'.ownsRow w.heap.size 3 1 (.slice ao ks.length cap) ks.length (natsI ks) ∧ Below w.heap.size w w'
theorem numsF_more {f n s:Nat}:numsF (f + 1) n s = if s % 2 = 1 then n :: numsF f (n + 1) (s / 2) else numsF f (n + 1) (s / 2):=rfl
set_option maxRecDepth 100000 in
set_option maxHeartbeats 4000000 in
theorem rlist_any (s:Nat) (hs:s < 2 ^ 64) (w:World):Calls Tryz.prog 15 #[.int .u64 (s:Int)] w (NumsIs (numsS s) w):=by
 have hF':Hid (numsS s = [] ++ numsF 64 0 s):=Lib.hid rfl
 have hlen:=nums_len s
 generalize numsS s = F at *
 obtain ⟨j0,hj,hy1,hy2,hy3⟩:=info_parts Tryz.infoI
 go_enter Tryz.func15,Tryz.ntmps15
 go_wp2
 go_loopw [0,3,4] (fun u v x wr=>∃ (i t:Nat) (ks:List Nat) (oa:Option Addr) (oc:Nat),u = .int .u64 (t:Int) ∧ x = .int .i64 (i:Int) ∧ i ≤ 64 ∧ t < 2 ^ 64 ∧ ks.length ≤ i ∧ Hid (F = ks ++ numsF (64 - i) i t) ∧ v = .slice oa ks.length oc ∧ wr.ownsRow w.heap.size 3 1 (.slice oa ks.length oc) ks.length (natsI ks) ∧ Below w.heap.size w wr) (fun _ _ x _=>64 - (intOf x).toNat)
 case atStart=>exact ⟨0,s,[],none,0,rfl,rfl,by omega,hs,Nat.zero_le _,hF',rfl,World.ownsRow_nil _ _ _ _,by (first | exact gwT | exact lzT)⟩
 case round =>
  obtain ⟨i,t,ks,oa,oc,rfl,rfl,hi,ht,hk,hf,rfl,hown,hb⟩:=hrel
  rename World=>wr
  have hwz:=hb.size
  have hownK:=Lib.hid hown
  clear hown
  by_cases hlt:i < 64
  ·obtain ⟨f,hfe⟩:∃ f,64 - i = f + 1:=⟨63 - i,by omega⟩
   have hf1:64 - (i + 1) = f:=by omega
   have hm:=numsF_more (f:=f) (n:=i) (s:=t)
   rw [hfe] at hf
   have hI:(i:Int) < 64:=by omega
   have e2:IntKind.u64.wrap ((t:Int) / 2) = ((t / 2:Nat):Int):=by rw [IntKind.wrap_u64];omega
   by_cases hh:t % 2 = 1
   ·rw [if_pos hh] at hm
    have e1:((t:Int) % 2 == 1) = true:=by rw [beq_iff_eq];omega
    have hf2:Hid (F = (ks ++ [i]) ++ numsF (64 - (i + 1)) (i + 1) (t / 2)):=Lib.hid (by rw [hf.out,hm,hf1];simp)
    replace hh:=Lib.hid hh
    replace hfe:=Lib.hid hfe
    replace hf1:=Lib.hid hf1
    clear hf hm
    go_wp2_with (at_builtin;refine wpList_append_lies _ rfl _ _ 22 rfl w.heap.size 3 j0 _ 1 8 Tryz.underlying22 hj hy1 hy2 hy3 rfl (by decide) (.slice oa ks.length oc) ks.length (natsI ks) rfl (owns_below hownK.out (by (first | exact gwT | exact lzT))) ⟨_,0,none⟩ 1 1 [.int .i64 (i:Int)] rfl rfl (World.news_of_block (new_at (by simp))) (by intro u hu;simp at hu;subst hu;rfl) (by decide) (by unfold maxLen;omega) (by omega) (by simp [go_sem];omega) _ rfl ?_)
    intro g' cap' w1 hown1 hgrow hat1 hg1
    have hb1:Below w.heap.size w w1:=Below.grown (by (first | exact gwT | exact lzT)) hgrow (by simp [go_sem];omega) (fun k hk=>(hownK.out.lt k hk).1)
    have hown2:=Lib.hid hown1
    clear hown1 hgrow hat1 hg1 hownK hb
    go_wp2
    go_roundw
    case rel=>exact ⟨i + 1,t / 2,ks ++ [i],_,cap',by go_num,by go_num,by omega,by omega,by simp;omega,hf2,by rw [List.length_append];rfl,by rw [List.length_append,show natsI (ks ++ [i]) = natsI ks ++ [.int .i64 (i:Int)] by simp [natsI]];exact hown2.out,hb1⟩
    case measure=>simp [intOf];omega
   ·have e1:((t:Int) % 2 == 1) = false:=by rw [beq_eq_false_iff_ne];omega
    rw [if_neg hh] at hm
    have hf2:Hid (F = ks ++ numsF (64 - (i + 1)) (i + 1) (t / 2)):=Lib.hid (by rw [hf.out,hm,hf1])
    replace hh:=Lib.hid hh
    replace hfe:=Lib.hid hfe
    replace hf1:=Lib.hid hf1
    clear hf hm
    go_wp2
    go_roundw
    case rel=>exact ⟨i + 1,t / 2,ks,oa,oc,by go_num,by go_num,by omega,by omega,by omega,hf2,rfl,owns_below hownK.out (by (first | exact gwT | exact lzT)),by (first | exact gwT | exact lzT)⟩
    case measure=>simp [intOf];omega
  ·have hI:¬ (i:Int) < 64:=by omega
   obtain rfl:i = 64:=by omega
   have hf2:F = ks:=by rw [hf.out,show 64 - 64 = 0 from rfl,numsF,List.append_nil]
   subst hf2
   clear hf
   go_wp2
   go_returns
   exact ⟨_,_,rfl,owns_below hownK.out (by (first | exact gwT | exact lzT)),by (first | exact gwT | exact lzT)⟩
end Go.Proofs.YtncmnhccmemagaaGreatDoor
