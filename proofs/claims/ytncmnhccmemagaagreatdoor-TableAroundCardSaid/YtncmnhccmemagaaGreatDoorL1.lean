/- Several texts of this proof, joined: DA, DB, DL. -/
import Derived.Test.YtncmnhccmemagaaGreatDoorV5
import Derived.Test.YtncmnhccmemagaaGreatDoorJ2
import Derived.Test.YtncmnhccmemagaaGreatDoorVH
import Derived.Test.YtncmnhccmemagaaGreatDoorI2
import Derived.Test.YtncmnhccmemagaaGreatDoorW3
namespace Go.Proofs.YtncmnhccmemagaaGreatDoor
def pckF (p:Nat → Bool):Nat → Nat
 | 0=>0
 | k + 1=>if p k then pckF p k ||| oneS (k:Int) else pckF p k
def pckL (p:Nat → Bool):Nat → List Nat → Nat
 | s,[]=>s
 | s,k :: r=>pckL p (if p k then s ||| oneS (k:Int) else s) r
theorem pckF_lt (p:Nat → Bool):∀ k,pckF p k < 2 ^ 64
 | 0=>Nat.two_pow_pos 64
 | k + 1=>by
  rw [pckF]
  split
  ·exact Nat.or_lt_two_pow (pckF_lt p k) (oneS_lt _)
  ·exact pckF_lt p k
theorem pckL_lt (p:Nat → Bool):∀ (l:List Nat) (s:Nat),s < 2 ^ 64 → pckL p s l < 2 ^ 64
 | [],_,h=>h
 | k :: r,s,h=>by
  rw [pckL]
  refine pckL_lt p r _ ?_
  split
  ·exact Nat.or_lt_two_pow h (oneS_lt _)
  ·exact h
theorem pckF_bit (p:Nat → Bool) {j:Nat} (hj:j < 64):∀ k,(pckF p k).testBit j = (decide (j < k) && p j)
 | 0=>by simp [pckF]
 | k + 1=>by
  have ih:=pckF_bit p hj k
  rw [pckF]
  by_cases hp:p k = true
  ·rw [if_pos hp,Nat.testBit_or,ih,oneS_bit _ _ hj]
   by_cases e:j = k
   ·subst e;simp [hp]
   ·have h1:((k:Int) == (j:Int)) = false:=by rw [beq_eq_false_iff_ne];omega
    have h2:decide (j < k + 1) = decide (j < k):=by rw [decide_eq_decide];omega
    rw [h1,h2,Bool.or_false]
  ·rw [if_neg hp,ih]
   by_cases e:j = k
   ·subst e
    have:p j = false:=by simpa using hp
    rw [this,Bool.and_false,Bool.and_false]
   ·have h2:decide (j < k + 1) = decide (j < k):=by rw [decide_eq_decide];omega
    rw [h2]
theorem pckL_bit (p:Nat → Bool) {j:Nat} (hj:j < 64):∀ (l:List Nat) (s:Nat),(pckL p s l).testBit j = (s.testBit j || (p j && l.contains j))
 | [],s=>by simp [pckL]
 | k :: r,s=>by
  rw [pckL,pckL_bit p hj r]
  by_cases hp:p k = true
  ·rw [if_pos hp,Nat.testBit_or,oneS_bit _ _ hj,Bool.or_assoc]
   congr 1
   by_cases e:j = k
   ·subst e;simp [hp]
   ·have h1:((k:Int) == (j:Int)) = false:=by rw [beq_eq_false_iff_ne];omega
    rw [h1,Bool.false_or,List.contains_cons]
    have h2:(j == k) = false:=by simpa using e
    rw [h2,Bool.false_or]
  ·rw [if_neg hp]
   congr 1
   rw [List.contains_cons]
   by_cases e:j = k
   ·subst e
    have:p j = false:=by simpa using hp
    rw [this,Bool.false_and,Bool.false_and]
   ·have h2:(j == k) = false:=by simpa using e
    rw [h2,Bool.false_or]
theorem pckF_more {p:Nat → Bool} {k:Nat} (h:p k = true):pckF p (k + 1) = ofS (pckF p k) [(k:Int)]:=by rw [pckF,if_pos h];rfl
theorem pckF_less {p:Nat → Bool} {k:Nat} (h:p k = false):pckF p (k + 1) = pckF p k:=by rw [pckF,if_neg (by rw [h];exact Bool.false_ne_true)]
theorem pckL_more {p:Nat → Bool} {s i:Nat} {l:List Nat} (hi:i < l.length) (h:p l[i] = true):pckL p s (l.drop i) = pckL p (ofS s [(l[i]:Int)]) (l.drop (i + 1)):=by
 rw [List.drop_eq_getElem_cons hi,pckL,if_pos h];rfl
theorem pckL_less {p:Nat → Bool} {s i:Nat} {l:List Nat} (hi:i < l.length) (h:p l[i] = false):pckL p s (l.drop i) = pckL p s (l.drop (i + 1)):=by
 rw [List.drop_eq_getElem_cons hi,pckL,if_neg (by rw [h];exact Bool.false_ne_true)]
theorem pckL_end {p:Nat → Bool} {s i:Nat} {l:List Nat} (hi:l.length ≤ i):pckL p s (l.drop i) = s:=by
 rw [List.drop_of_length_le hi,pckL]
def upS (ss:List St) (i:Nat):Nat:=pckF (fun k=>wthC ss (i:Int) (k:Int)) ss.length
def undS (ss:List St) (i:Nat):Nat:=pckF (fun k=>wthC ss (k:Int) (i:Int)) ss.length
def kidS (ss:List St) (i:Nat):Nat:=pckL (fun k => !pastS (ss.getD k st0)) 0 (kidsA (i:Int) ss 0)
def pasS (ss:List St) (i:Nat):Nat:=pckL (fun k=>pastS (ss.getD k st0)) 0 (kidsA (i:Int) ss 0)
def fstS (s:Nat):Int:=match numsS s with | [] => -1 | k :: _=>(k:Int)
def plcA (ss:List St) (nm:List UInt8):Nat:=(findA nm ss 0).getD 0
def begS (ss:List St) (i:Nat):Int :=
 if (ss.getD i st0).start ≠ [] then (plcA ss (ss.getD i st0).start:Int)
 else if (ss.getD i st0).kind = 1 ∨ (ss.getD i st0).kind = 3 then fstS (kidS ss i) else -1
def gosF (ss:List St):Nat → List (Nat × Tr)
 | 0=>[]
 | i + 1=>gosF ss i ++ (ss.getD i st0).trans.map fun t=>(i,t)
def gosT (ss:List St):List (Nat × Tr):=gosF ss ss.length
theorem upS_lt (ss:List St) (i:Nat):upS ss i < 2 ^ 64:=pckF_lt _ _
theorem undS_lt (ss:List St) (i:Nat):undS ss i < 2 ^ 64:=pckF_lt _ _
theorem kidS_lt (ss:List St) (i:Nat):kidS ss i < 2 ^ 64:=pckL_lt _ _ _ (by decide)
theorem pasS_lt (ss:List St) (i:Nat):pasS ss i < 2 ^ 64:=pckL_lt _ _ _ (by decide)
theorem kidsA_mem {p:Int}:∀ {ss:List St} {k j:Nat},(kidsA p ss k).contains j = (decide (k ≤ j) && decide (j < k + ss.length) && decide ((ss.getD (j - k) st0).parent = p))
 | [],k,j=>by
  have:(decide (k ≤ j) && decide (j < k + ([]:List St).length)) = false:=by
   rw [Bool.and_eq_false_iff,decide_eq_false_iff_not,decide_eq_false_iff_not]
   simp only [List.length_nil]
   omega
  rw [this]
  rfl
 | s :: r,k,j=>by
  have ih:=kidsA_mem (p:=p) (ss:=r) (k:=k + 1) (j:=j)
  rw [kidsA]
  by_cases e:j = k
  ·subst e
   have h1:(kidsA p r (j + 1)).contains j = false:=by
    rw [ih]
    have:decide (j + 1 ≤ j) = false:=by rw [decide_eq_false_iff_not];omega
    rw [this]
    rfl
   by_cases hp:s.parent = p
   ·rw [if_pos hp,List.contains_cons,beq_self_eq_true,Bool.true_or]
    simp [hp]
   ·rw [if_neg hp,h1]
    simp [hp]
  ·have h2:(if s.parent = p then k :: kidsA p r (k + 1) else kidsA p r (k + 1)).contains j = (kidsA p r (k + 1)).contains j:=by
    split
    ·rw [List.contains_cons]
     have:(j == k) = false:=by simpa using e
     rw [this,Bool.false_or]
    ·rfl
   rw [h2,ih]
   by_cases hl:k ≤ j
   ·obtain ⟨m,hm⟩:∃ m,j - k = m + 1:=⟨j - k - 1,by omega⟩
    have h3:j - (k + 1) = m:=by omega
    have h4:decide (k + 1 ≤ j) = decide (k ≤ j):=by rw [decide_eq_decide];omega
    have h5:decide (j < k + 1 + r.length) = decide (j < k + (s :: r).length):=by rw [decide_eq_decide,List.length_cons];omega
    rw [hm,h3,h4,h5]
    rfl
   ·have h4:decide (k + 1 ≤ j) = false:=by rw [decide_eq_false_iff_not];omega
    have h5:decide (k ≤ j) = false:=by rw [decide_eq_false_iff_not];omega
    rw [h4,h5]
    rfl
section
variable {ss:List St} {i k:Nat}
theorem up_bit (hk:k < 64):(upS ss i).testBit k = (decide (k < ss.length) && wthC ss i k):=pckF_bit _ hk _
theorem und_bit (hk:k < 64):(undS ss i).testBit k = (decide (k < ss.length) && wthC ss k i):=pckF_bit _ hk _
theorem kids_at:(kidsA (i:Int) ss 0).contains k = (decide (k < ss.length) && decide ((ss.getD k st0).parent = (i:Int))):=by
 rw [kidsA_mem]
 simp
theorem kid_bit (hk:k < 64):(kidS ss i).testBit k = (!pastS (ss.getD k st0) && (decide (k < ss.length) && decide ((ss.getD k st0).parent = (i:Int)))):=by
 unfold kidS
 rw [pckL_bit _ hk,kids_at,Nat.zero_testBit,Bool.false_or]
theorem pas_bit (hk:k < 64):(pasS ss i).testBit k = (pastS (ss.getD k st0) && (decide (k < ss.length) && decide ((ss.getD k st0).parent = (i:Int)))):=by
 unfold pasS
 rw [pckL_bit _ hk,kids_at,Nat.zero_testBit,Bool.false_or]
theorem wthT_lt (hp:Par ss) {o:Int}:∀ (f i:Nat),i < ss.length → wthT ss o f (i:Int) = true → 0 ≤ o ∧ o < (i:Int)
 | 0,_,_,h=>by cases h
 | f + 1,i,hi,h=>by
  rw [wthT_more] at h
  by_cases h0:i = 0
  ·rw [if_pos h0] at h;cases h
  ·rw [if_neg h0] at h
   obtain ⟨q1,q2⟩:=hp.par i (by omega) hi
   by_cases ho:(ss.getD i st0).parent = o
   ·subst ho;exact ⟨q1,q2⟩
   ·rw [if_neg ho] at h
    obtain ⟨p,hpp⟩:∃ p:Nat,(ss.getD i st0).parent = (p:Int):=⟨(ss.getD i st0).parent.toNat,by omega⟩
    rw [hpp] at h
    have:=wthT_lt hp f p (by omega) h
    omega
theorem wthT_root (hp:Par ss):∀ (f i:Nat),0 < i → i < ss.length → i ≤ f → wthT ss 0 f (i:Int) = true
 | 0,_,h0,_,h=>by omega
 | f + 1,i,h0,hi,h=>by
  rw [wthT_more,if_neg (by omega)]
  obtain ⟨q1,q2⟩:=hp.par i h0 hi
  by_cases ho:(ss.getD i st0).parent = 0
  ·rw [if_pos ho]
  ·rw [if_neg ho]
   obtain ⟨p,hpp⟩:∃ p:Nat,(ss.getD i st0).parent = (p:Int):=⟨(ss.getD i st0).parent.toNat,by omega⟩
   rw [hpp]
   exact wthT_root hp f p (by omega) (by omega) (by omega)
theorem wthC_nat (hi:i < ss.length) (o:Int):wthC ss (i:Int) o = wthT ss o ss.length (i:Int):=by
 unfold wthC
 rw [if_neg (by omega)]
theorem wthC_lt (hp:Par ss) (hi:i < ss.length) (h:wthC ss (i:Int) (k:Int) = true):k < i:=by
 rw [wthC_nat hi] at h
 have:=wthT_lt hp _ _ hi h
 omega
theorem wthC_root (hp:Par ss) (h0:0 < i) (hi:i < ss.length):wthC ss (i:Int) 0 = true:=by
 rw [wthC_nat hi]
 exact wthT_root hp _ _ h0 hi (by omega)
theorem wthC_par (h0:0 < i) (hi:i < ss.length):wthC ss (i:Int) (ss.getD i st0).parent = true:=by
 rw [wthC_nat hi]
 obtain ⟨n,hn⟩:∃ n,ss.length = n + 1:=⟨ss.length - 1,by omega⟩
 rw [hn,wthT_more,if_neg (by omega),if_pos rfl]
theorem trees_1:kidS ss i &&& pasS ss i = 0:=by
 refine bits_eq (Nat.lt_of_le_of_lt Nat.and_le_left (kidS_lt _ _)) (by decide) fun k hk=>?_
 rw [Nat.testBit_and,kid_bit hk,pas_bit hk,Nat.zero_testBit]
 cases pastS (ss.getD k st0) <;> simp
theorem trees_2 (hp:Par ss) (hi:i < ss.length):upS ss i &&& undS ss i = 0:=by
 refine bits_eq (Nat.lt_of_le_of_lt Nat.and_le_left (upS_lt _ _)) (by decide) fun k hk=>?_
 rw [Nat.testBit_and,up_bit hk,und_bit hk,Nat.zero_testBit]
 by_cases h:k < ss.length
 ·cases h1:wthC ss (i:Int) (k:Int)
  ·simp
  ·cases h2:wthC ss (k:Int) (i:Int)
   ·simp
   ·have:=wthC_lt hp hi h1
    have:=wthC_lt hp h h2
    omega
 ·simp [h]
theorem trees_3 (hp:Par ss) (hi:i < ss.length) (hn:ss.length ≤ 49):(upS ss i).testBit i = false:=by
 rw [up_bit (by omega)]
 cases h1:wthC ss (i:Int) (i:Int)
 ·simp
 ·have:=wthC_lt hp hi h1
  omega
theorem trees_4 (hp:Par ss) (h0:0 < i) (hi:i < ss.length):(upS ss i).testBit 0 = true:=by
 rw [up_bit (by decide)]
 have:=wthC_root hp h0 hi
 rw [show ((0:Nat):Int) = 0 from rfl,this,Bool.and_true,decide_eq_true_eq]
 omega
theorem trees_5 (hp:Par ss) (h0:0 < i) (hi:i < ss.length) (hn:ss.length ≤ 49):∃ p:Nat,(ss.getD i st0).parent = (p:Int) ∧ p < 64 ∧ (upS ss i).testBit p = true:=by
 obtain ⟨q1,q2⟩:=hp.par i h0 hi
 refine ⟨(ss.getD i st0).parent.toNat,by omega,by omega,?_⟩
 have:=wthC_par h0 hi
 rw [up_bit (by omega),show (((ss.getD i st0).parent.toNat:Nat):Int) = (ss.getD i st0).parent by omega,this,Bool.and_true,decide_eq_true_eq]
 omega
theorem trees_6 (hi:i < ss.length) (hk:k < ss.length) (hn:ss.length ≤ 49):(upS ss k).testBit i = (undS ss i).testBit k:=by
 rw [up_bit (by omega),und_bit (by omega)]
 simp [hi,hk]
theorem trees_7 (hp:Par ss) (hk:k < ss.length) (hn:ss.length ≤ 49):(kidS ss i ||| pasS ss i).testBit k = (decide (0 < k) && decide ((ss.getD k st0).parent = (i:Int))):=by
 rw [Nat.testBit_or,kid_bit (by omega),pas_bit (by omega)]
 have e:decide (k < ss.length) = true:=by simpa using hk
 rw [e,Bool.true_and]
 by_cases h0:0 < k
 ·simp only [h0,decide_true,Bool.true_and]
  cases pastS (ss.getD k st0) <;> simp
 ·obtain rfl:k = 0:=by omega
  rw [hp.root]
  have:decide ((-1:Int) = (i:Int)) = false:=by rw [decide_eq_false_iff_not];omega
  rw [this]
  simp
theorem count_range:∀ (n m:Nat),((List.range m).filter fun k=>decide (k < n) && decide (0 < k)).length = min m n - 1
 | n,0=>by simp
 | n,m + 1=>by
  have ih:=count_range n m
  rw [List.range_succ,List.filter_append,List.length_append,ih]
  by_cases h:m < n ∧ 0 < m
  ·rw [List.filter_cons_of_pos (by simp [h.1,h.2])]
   simp
   omega
  ·rw [List.filter_cons_of_neg (by simp;omega)]
   simp
   omega
theorem trees_8 (hp:Par ss) (h0:0 < ss.length) (hn:ss.length ≤ 49):(numsS (undS ss 0)).length = ss.length - 1:=by
 rw [numsS_eq]
 have:((List.range 64).filter (undS ss 0).testBit) = ((List.range 64).filter fun k=>decide (k < ss.length) && decide (0 < k)):=by
  refine List.filter_congr fun k hk=>?_
  have hk64:k < 64:=by simpa using hk
  rw [und_bit hk64]
  by_cases h:k < ss.length
  ·by_cases hk0:0 < k
   ·have:=wthC_root hp hk0 h
    rw [show ((0:Nat):Int) = 0 from rfl,this]
    simp [hk0]
   ·obtain rfl:k = 0:=by omega
    have:wthC ss ((0:Nat):Int) ((0:Nat):Int) = false:=by
     rw [wthC_nat h,show ((0:Nat):Int) = 0 from rfl,wthT_zero]
    rw [this]
    simp
  ·simp [h]
 rw [this,count_range]
 omega
end
end Go.Proofs.YtncmnhccmemagaaGreatDoor
namespace Go.Proofs.YtncmnhccmemagaaGreatDoor
def compS (ss:List St) (i:Nat):Bool:=((ss.getD i st0).kind == 1 || (ss.getD i st0).kind == 3) && decide (0 < (numsS (kidS ss i)).length)
def meetL (ss:List St):Nat → List Nat → Nat
 | s,[]=>s
 | s,k :: r=>meetL ss (s &&& upS ss k) r
def arndS (ss:List St) (a:Nat) (l:List Nat):Nat:=((numsS (meetL ss (upS ss a) l)).reverse.find? (compS ss)).getD 0
def ancL (ss:List St):Nat → Nat → List Nat
 | 0,_=>[]
 | f + 1,i=>if i = 0 then [] else (ss.getD i st0).parent.toNat :: ancL ss f (ss.getD i st0).parent.toNat
def arndR (ss:List St) (l:List Nat):Nat:=((ancL ss ss.length (l.headD 0)).find? fun u=>compS ss u && l.all fun k=>wthC ss (k:Int) (u:Int)).getD 0
theorem meetL_lt {ss:List St}:∀ {l:List Nat} {s:Nat},s < 2 ^ 64 → meetL ss s l < 2 ^ 64
 | [],_,h=>h
 | _ :: r,s,h=>meetL_lt (l:=r) (Nat.lt_of_le_of_lt (Nat.and_le_left (n:=s)) h)
theorem meetL_bit {ss:List St} {j:Nat}:∀ (l:List Nat) (s:Nat),(meetL ss s l).testBit j = (s.testBit j && l.all fun k=>(upS ss k).testBit j)
 | [],s=>by simp [meetL]
 | k :: r,s=>by rw [meetL,meetL_bit r,Nat.testBit_and,List.all_cons,Bool.and_assoc]
theorem meetL_more {ss:List St} {s i:Nat} {l:List Nat} (hi:i < l.length):meetL ss s (l.drop i) = meetL ss (s &&& upS ss l[i]) (l.drop (i + 1)):=by
 rw [List.drop_eq_getElem_cons hi,meetL]
theorem meetL_end {ss:List St} {s i:Nat} {l:List Nat} (hi:l.length ≤ i):meetL ss s (l.drop i) = s:=by rw [List.drop_of_length_le hi,meetL]
theorem find_more {p:Nat → Bool} {i:Nat} {l:List Nat} (hi:i < l.length):(l.drop i).find? p = if p l[i] = true then some l[i] else (l.drop (i + 1)).find? p:=by
 rw [List.drop_eq_getElem_cons hi,List.find?_cons]
 cases p l[i] <;> rfl
theorem falls_ext:∀ {l m:List Nat},l.Pairwise (· > ·) → m.Pairwise (· > ·) → (∀ x,x ∈ l ↔ x ∈ m) → l = m
 | [],[],_,_,_=>rfl
 | [],b :: m,_,_,h=>by have:=(h b).2 (by simp);cases this
 | a :: l,[],_,_,h=>by have:=(h a).1 (by simp);cases this
 | a :: l,b :: m,h1,h2,h=>by
  rw [List.pairwise_cons] at h1 h2
  have e:a = b:=by
   rcases List.mem_cons.1 ((h a).1 (by simp)) with e | e
   ·exact e
   ·rcases List.mem_cons.1 ((h b).2 (by simp)) with e2 | e2
    ·exact e2.symm
    ·have:=h1.1 b e2
     have:=h2.1 a e
     omega
  subst e
  rw [falls_ext h1.2 h2.2 fun x=>⟨fun hx=>?_,fun hx=>?_⟩]
  ·rcases List.mem_cons.1 ((h x).1 (by simp [hx])) with e | e
   ·have:=h1.1 x hx
    omega
   ·exact e
  ·rcases List.mem_cons.1 ((h x).2 (by simp [hx])) with e | e
   ·have:=h2.1 x hx
    omega
   ·exact e
theorem nums_falls (s:Nat):(numsS s).reverse.Pairwise (· > ·):=by
 rw [List.pairwise_reverse,numsS_eq]
 exact List.Pairwise.filter _ List.pairwise_lt_range
theorem nums_mem {s k:Nat}:k ∈ numsS s ↔ k < 64 ∧ s.testBit k = true:=by
 rw [numsS_eq,List.mem_filter,List.mem_range]
section
variable {ss:List St}
theorem anc_lt (hp:Par ss):∀ (f i:Nat),i < ss.length → ∀ k ∈ ancL ss f i,k < i
 | 0,_,_,_,h=>by cases h
 | f + 1,i,hi,k,h=>by
  rw [ancL] at h
  by_cases h0:i = 0
  ·rw [if_pos h0] at h;cases h
  ·rw [if_neg h0] at h
   obtain ⟨q1,q2⟩:=hp.par i (by omega) hi
   rcases List.mem_cons.1 h with e | e
   ·omega
   ·have:=anc_lt hp f _ (by omega) k e
    omega
theorem anc_falls (hp:Par ss):∀ (f i:Nat),i < ss.length → (ancL ss f i).Pairwise (· > ·)
 | 0,_,_ => .nil
 | f + 1,i,hi=>by
  rw [ancL]
  by_cases h0:i = 0
  ·rw [if_pos h0];exact .nil
  ·rw [if_neg h0]
   obtain ⟨q1,q2⟩:=hp.par i (by omega) hi
   exact .cons (fun k hk=>anc_lt hp f _ (by omega) k hk) (anc_falls hp f _ (by omega))
theorem anc_mem (hp:Par ss) (k:Nat):∀ (f i:Nat),i < ss.length → (k ∈ ancL ss f i ↔ wthT ss (k:Int) f (i:Int) = true)
 | 0,_,_=>by simp [ancL,wthT]
 | f + 1,i,hi=>by
  rw [ancL,wthT_more]
  by_cases h0:i = 0
  ·rw [if_pos h0,if_pos h0];simp
  ·rw [if_neg h0,if_neg h0]
   obtain ⟨q1,q2⟩:=hp.par i (by omega) hi
   obtain ⟨p,hpp⟩:∃ p:Nat,(ss.getD i st0).parent = (p:Int):=⟨(ss.getD i st0).parent.toNat,by omega⟩
   rw [hpp,Int.toNat_natCast,List.mem_cons,anc_mem hp k f p (by omega)]
   by_cases e:k = p
   ·subst e;simp
   ·rw [if_neg (by omega)]
    simp [e]
theorem anc_up (hp:Par ss) (hn:ss.length ≤ 49) {i:Nat} (hi:i < ss.length):ancL ss ss.length i = (numsS (upS ss i)).reverse:=by
 refine falls_ext (anc_falls hp _ _ hi) (nums_falls _) fun k=>?_
 rw [anc_mem hp k _ _ hi,List.mem_reverse,nums_mem,← wthC_nat hi]
 constructor
 ·intro h
  have:=wthC_lt hp hi h
  refine ⟨by omega,?_⟩
  rw [up_bit (by omega),h]
  simp
  omega
 ·rintro ⟨h1,h2⟩
  rw [up_bit h1,Bool.and_eq_true] at h2
  exact h2.2
theorem find_filter' {p q:Nat → Bool}:∀ l:List Nat,(l.filter q).find? p = l.find? fun x=>p x && q x
 | []=>rfl
 | a :: l=>by
  rw [List.filter_cons,List.find?_cons]
  cases h:q a
  ·simp [find_filter' l]
  ·rw [if_pos rfl,List.find?_cons]
   cases p a <;> simp [find_filter' l]
theorem find_ext {p q:Nat → Bool}:∀ {l:List Nat},(∀ x ∈ l,p x = q x) → l.find? p = l.find? q
 | [],_=>rfl
 | a :: l,h=>by
  rw [List.find?_cons,List.find?_cons,h a (by simp),find_ext fun x hx=>h x (by simp [hx])]
theorem arnd_eq (hp:Par ss) (hn:ss.length ≤ 49) {a:Nat} {l:List Nat} (ha:a < ss.length) (hl:∀ k ∈ l,k < ss.length):arndR ss (a :: l) = arndS ss a l:=by
 unfold arndR arndS
 rw [List.headD_cons,anc_up hp hn ha]
 have e:(numsS (meetL ss (upS ss a) l)).reverse = (numsS (upS ss a)).reverse.filter fun j=>l.all fun k=>(upS ss k).testBit j:=by
  rw [numsS_eq,numsS_eq,← List.filter_reverse,← List.filter_reverse,List.filter_filter]
  refine List.filter_congr fun j _=>?_
  rw [meetL_bit,Bool.and_comm]
 rw [e,find_filter']
 congr 1
 refine find_ext fun u hu=>?_
 rw [List.mem_reverse,nums_mem] at hu
 have h2:=hu.2
 rw [up_bit hu.1,Bool.and_eq_true,decide_eq_true_eq] at h2
 congr 1
 rw [List.all_cons,h2.2,Bool.true_and]
 have:∀ {m:List Nat},(∀ k ∈ m,k < ss.length) → (m.all fun k=>wthC ss (k:Int) (u:Int)) = m.all fun k=>(upS ss k).testBit u:=by
  intro m hm
  induction m with
  | nil=>rfl
  | cons k r ih =>
   rw [List.all_cons,List.all_cons,ih fun x hx=>hm x (by simp [hx]),up_bit hu.1]
   simp [h2.1]
 exact this hl
theorem root_up (hp:Par ss) {l:List Nat} (hl:∀ k ∈ l,0 < k ∧ k < ss.length):(l.all fun k=>(upS ss k).testBit 0) = true:=by
 rw [List.all_eq_true]
 exact fun k hk=>trees_4 hp (hl k hk).1 (hl k hk).2
theorem arnd_comp (hp:Par ss) (h0:compS ss 0 = true) {a:Nat} {l:List Nat} (ha:0 < a ∧ a < ss.length) (hl:∀ k ∈ l,0 < k ∧ k < ss.length):compS ss (arndS ss a l) = true:=by
 unfold arndS
 cases h:(numsS (meetL ss (upS ss a) l)).reverse.find? (compS ss) with
 | some k=>exact List.find?_some h
 | none =>
  rw [List.find?_eq_none] at h
  refine absurd h0 (h 0 ?_)
  rw [List.mem_reverse,nums_mem,meetL_bit,root_up hp hl,trees_4 hp ha.1 ha.2]
  exact ⟨by decide,rfl⟩
end
end Go.Proofs.YtncmnhccmemagaaGreatDoor
namespace Go.Proofs.YtncmnhccmemagaaGreatDoor
def fndT (nm:List UInt8):List St → Nat → Option Nat
 | [],_=>none
 | s :: r,k=>if 0 < k ∧ s.name = nm ∧ pastS s = false then some k else fndT nm r (k + 1)
theorem fndT_more {nm:List UInt8} {ss:List St} {i:Nat} (h:i < ss.length):fndT nm (ss.drop i) i = if 0 < i ∧ ss[i].name = nm ∧ pastS ss[i] = false then some i else fndT nm (ss.drop (i + 1)) (i + 1):=by
 rw [List.drop_eq_getElem_cons h,fndT]
theorem fndT_end {nm:List UInt8} {ss:List St} {i:Nat} (h:ss.length ≤ i):fndT nm (ss.drop i) i = none:=by
 rw [List.drop_of_length_le h,fndT]
theorem fndT_some {nm:List UInt8}:∀ {ss:List St} {k j:Nat},fndT nm ss k = some j → k ≤ j ∧ j < k + ss.length ∧ 0 < j ∧ (ss.getD (j - k) st0).name = nm ∧ pastS (ss.getD (j - k) st0) = false
 | [],_,_,h=>by cases h
 | s :: r,k,j,h=>by
  rw [fndT] at h
  by_cases e:0 < k ∧ s.name = nm ∧ pastS s = false
  ·rw [if_pos e] at h
   cases h
   rw [Nat.sub_self]
   exact ⟨Nat.le_refl _,by simp,e.1,e.2.1,e.2.2⟩
  ·rw [if_neg e] at h
   obtain ⟨h1,h2,h3,h4,h5⟩:=fndT_some h
   obtain ⟨m,hm⟩:∃ m,j - k = m + 1:=⟨j - k - 1,by omega⟩
   have h6:j - (k + 1) = m:=by omega
   rw [h6] at h4 h5
   rw [hm,List.length_cons]
   exact ⟨by omega,by omega,h3,h4,h5⟩
theorem fndT_none {nm:List UInt8}:∀ {ss:List St} {k:Nat},fndT nm ss k = none → ∀ i,i < ss.length → 0 < k + i → (ss.getD i st0).name = nm → pastS (ss.getD i st0) = true
 | [],_,_,_,hi,_,_=>by cases hi
 | s :: r,k,h,i,hi,h0,hn=>by
  rw [fndT] at h
  by_cases e:0 < k ∧ s.name = nm ∧ pastS s = false
  ·rw [if_pos e] at h;cases h
  ·rw [if_neg e] at h
   cases i with
   | zero =>
    have:¬ pastS s = false:=fun hp=>e ⟨by omega,hn,hp⟩
    simpa using this
   | succ i=>exact fndT_none h i (by simpa using hi) (by omega) hn
theorem findA_some {nm:List UInt8}:∀ {ss:List St} {k j:Nat},findA nm ss k = some j → k ≤ j ∧ j < k + ss.length ∧ 0 < j ∧ (ss.getD (j - k) st0).name = nm
 | [],_,_,h=>by cases h
 | s :: r,k,j,h=>by
  rw [findA] at h
  by_cases e:0 < k ∧ s.name = nm
  ·rw [if_pos e] at h
   cases h
   rw [Nat.sub_self]
   exact ⟨Nat.le_refl _,by simp,e.1,e.2⟩
  ·rw [if_neg e] at h
   obtain ⟨h1,h2,h3,h4⟩:=findA_some h
   obtain ⟨m,hm⟩:∃ m,j - k = m + 1:=⟨j - k - 1,by omega⟩
   have h6:j - (k + 1) = m:=by omega
   rw [h6] at h4
   rw [hm,List.length_cons]
   exact ⟨by omega,by omega,h3,h4⟩
theorem findA_none {nm:List UInt8}:∀ {ss:List St} {k:Nat},findA nm ss k = none → ∀ i,i < ss.length → 0 < k + i → (ss.getD i st0).name ≠ nm
 | [],_,_,_,hi,_=>by cases hi
 | s :: r,k,h,i,hi,h0=>by
  rw [findA] at h
  by_cases e:0 < k ∧ s.name = nm
  ·rw [if_pos e] at h;cases h
  ·rw [if_neg e] at h
   cases i with
   | zero=>exact fun hn=>e ⟨by omega,hn⟩
   | succ i=>exact findA_none h i (by simpa using hi) (by omega)
theorem find_same {ss:List St} (hu:∀ i,0 < i → i < ss.length → plcA ss (ss.getD i st0).name = i) (nm:List UInt8) :
  fndT nm ss 0 = match findA nm ss 0 with | some k=>if pastS (ss.getD k st0) = true then none else some k | none=>none:=by
 cases h:findA nm ss 0 with
 | none =>
  cases h2:fndT nm ss 0 with
  | none=>rfl
  | some j =>
   obtain ⟨_,h3,h4,h5,_⟩:=fndT_some h2
   exact absurd h5 (findA_none h j (by omega) (by omega))
 | some k =>
  obtain ⟨_,h3,h4,h5⟩:=findA_some h
  have hk:plcA ss nm = k:=by unfold plcA;rw [h];rfl
  cases h2:fndT nm ss 0 with
  | none =>
   have:=fndT_none h2 k (by omega) (by omega) h5
   simp only
   rw [if_pos this]
  | some j =>
   obtain ⟨_,g3,g4,g5,g6⟩:=fndT_some h2
   rw [Nat.sub_zero] at g5 g6
   have:=hu j g4 (by omega)
   rw [g5,hk] at this
   subst this
   simp only
   rw [g6,if_neg Bool.false_ne_true]
section
variable {c:Ch}
theorem valid_states (h0:0 < c.states.length) (h:(checkE c).1 = 0):∀ j,j < c.states.length → stateE (lkC c) j = 0:=by
 cases ht:twiceE [] c.vars with
 | some nm =>
  rw [checkE_some h0 ht] at h
  exact absurd h (show ¬ (16:Int) = 0 by decide)
 | none =>
  rw [checkE_none h0 ht] at h
  have:=sts0.1 h
  exact fun j hj=>by
   have:=this j hj
   rwa [Nat.zero_add] at this
theorem valid_once (h0:0 < c.states.length) (h:(checkE c).1 = 0):∀ i,0 < i → i < c.states.length → plcA c.states (c.states.getD i st0).name = i:=by
 intro i h1 hi
 have hs:=valid_states h0 h i hi
 have ho:onceE (lkC c) i = 0:=by
  unfold stateE at hs
  split at hs
  ·exact (then0.1 hs).1
  ·exact (then0.1 hs).1
 unfold onceE at ho
 have:=(unl0 (by decide)).1 ho
 rw [Bool.or_eq_true] at this
 rcases this with h2 | h2
 ·have:i = 0:=by simpa using h2
  omega
 ·have h3:fnd (lkC c) (stL (lkC c) i).name = i:=by simpa using h2
  exact h3
theorem valid_root (h0:0 < c.states.length) (hn:c.states.length ≤ 49) (hk:(c.states.getD 0 st0).kind = 1) (h:(checkE c).1 = 0):compS c.states 0 = true:=by
 have hs:=valid_states h0 h 0 h0
 have e0:(stL (lkC c) 0).kind = 1:=hk
 have hp:pastS (stL (lkC c) 0) = false:=by unfold pastS;rw [e0];rfl
 unfold stateE at hs
 rw [hp,if_neg Bool.false_ne_true] at hs
 have hq:=(then0.1 (then0.1 hs).2).1
 unfold kidsE at hq
 have hq:=(unl0 (by decide)).1 hq
 unfold kidsOk at hq
 simp only [e0] at hq
 rw [if_neg (by decide),if_neg (by decide),if_neg (by decide)] at hq
 obtain ⟨k,hk1,hk2⟩:=List.any_eq_true.1 hq
 have hk0:k ∈ kidsA ((0:Nat):Int) c.states 0:=hk1
 have hk3:(kidsA ((0:Nat):Int) c.states 0).contains k = true:=by simpa using hk0
 have hk4:=hk3
 rw [kids_at,Bool.and_eq_true,decide_eq_true_eq] at hk4
 have hb:(kidS c.states 0).testBit k = true:=by
  rw [kid_bit (by omega)]
  rw [kids_at] at hk3
  rw [hk3,Bool.and_true]
  exact hk2
 unfold compS
 rw [hk]
 have:k ∈ numsS (kidS c.states 0):=nums_mem.2 ⟨by omega,hb⟩
 have hl:0 < (numsS (kidS c.states 0)).length:=List.length_pos_of_mem this
 simp [hl]
end
end Go.Proofs.YtncmnhccmemagaaGreatDoor
