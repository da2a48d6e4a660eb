/- Several texts of this proof, joined: DA. -/
import Derived.Test.YtfgpmcepppcmiaaGreatDoorV5
import Derived.Test.YtfgpmcepppcmiaaGreatDoorJ2
namespace Go.Proofs.YtfgpmcepppcmiaaGreatDoor
def pckF (p:Nat → Bool):Nat → Nat
 | 0=>0
 | k + 1=>if p k then pckF p k ||| oneS (k:Int) else pckF p k
def pckL (p:Nat → Bool):Nat → List Nat → Nat
 | s,[]=>s
 | s,k :: r=>pckL p (if p k then s ||| oneS (k:Int) else s) r
theorem pckF_lt (p:Nat → Bool):∀ k,pckF p k < 2 ^ 64
 | 0=>Nat.two_pow_pos 64
 | k + 1=>by
  rw [pckF]
  split
  ·exact Nat.or_lt_two_pow (pckF_lt p k) (oneS_lt _)
  ·exact pckF_lt p k
theorem pckL_lt (p:Nat → Bool):∀ (l:List Nat) (s:Nat),s < 2 ^ 64 → pckL p s l < 2 ^ 64
 | [],_,h=>h
 | k :: r,s,h=>by
  rw [pckL]
  refine pckL_lt p r _ ?_
  split
  ·exact Nat.or_lt_two_pow h (oneS_lt _)
  ·exact h
theorem pckF_more {p:Nat → Bool} {k:Nat} (h:p k = true):pckF p (k + 1) = ofS (pckF p k) [(k:Int)]:=by rw [pckF,if_pos h];rfl
theorem pckF_less {p:Nat → Bool} {k:Nat} (h:p k = false):pckF p (k + 1) = pckF p k:=by rw [pckF,if_neg (by rw [h];exact Bool.false_ne_true)]
theorem pckL_more {p:Nat → Bool} {s i:Nat} {l:List Nat} (hi:i < l.length) (h:p l[i] = true):pckL p s (l.drop i) = pckL p (ofS s [(l[i]:Int)]) (l.drop (i + 1)):=by
 rw [List.drop_eq_getElem_cons hi,pckL,if_pos h];rfl
theorem pckL_less {p:Nat → Bool} {s i:Nat} {l:List Nat} (hi:i < l.length) (h:p l[i] = false):pckL p s (l.drop i) = pckL p s (l.drop (i + 1)):=by
 rw [List.drop_eq_getElem_cons hi,pckL,if_neg (by rw [h];exact Bool.false_ne_true)]
theorem pckL_end {p:Nat → Bool} {s i:Nat} {l:List Nat} (hi:l.length ≤ i):pckL p s (l.drop i) = s:=by
 rw [List.drop_of_length_le hi,pckL]
def upS (ss:List St) (i:Nat):Nat:=pckF (fun k=>wthC ss (i:Int) (k:Int)) ss.length
def undS (ss:List St) (i:Nat):Nat:=pckF (fun k=>wthC ss (k:Int) (i:Int)) ss.length
def kidS (ss:List St) (i:Nat):Nat:=pckL (fun k => !pastS (ss.getD k st0)) 0 (kidsA (i:Int) ss 0)
def pasS (ss:List St) (i:Nat):Nat:=pckL (fun k=>pastS (ss.getD k st0)) 0 (kidsA (i:Int) ss 0)
def fstS (s:Nat):Int:=match numsS s with | [] => -1 | k :: _=>(k:Int)
def plcA (ss:List St) (nm:List UInt8):Nat:=(findA nm ss 0).getD 0
def begS (ss:List St) (i:Nat):Int :=
 if (ss.getD i st0).start ≠ [] then (plcA ss (ss.getD i st0).start:Int)
 else if (ss.getD i st0).kind = 1 ∨ (ss.getD i st0).kind = 3 then fstS (kidS ss i) else -1
def gosF (ss:List St):Nat → List (Nat × Tr)
 | 0=>[]
 | i + 1=>gosF ss i ++ (ss.getD i st0).trans.map fun t=>(i,t)
def gosT (ss:List St):List (Nat × Tr):=gosF ss ss.length
theorem kidS_lt (ss:List St) (i:Nat):kidS ss i < 2 ^ 64:=pckL_lt _ _ _ (by decide)
theorem kidsA_mem {p:Int}:∀ {ss:List St} {k j:Nat},(kidsA p ss k).contains j = (decide (k ≤ j) && decide (j < k + ss.length) && decide ((ss.getD (j - k) st0).parent = p))
 | [],k,j=>by
  have:(decide (k ≤ j) && decide (j < k + ([]:List St).length)) = false:=by
   rw [Bool.and_eq_false_iff,decide_eq_false_iff_not,decide_eq_false_iff_not]
   simp only [List.length_nil]
   omega
  rw [this]
  rfl
 | s :: r,k,j=>by
  have ih:=kidsA_mem (p:=p) (ss:=r) (k:=k + 1) (j:=j)
  rw [kidsA]
  by_cases e:j = k
  ·subst e
   have h1:(kidsA p r (j + 1)).contains j = false:=by
    rw [ih]
    have:decide (j + 1 ≤ j) = false:=by rw [decide_eq_false_iff_not];omega
    rw [this]
    rfl
   by_cases hp:s.parent = p
   ·rw [if_pos hp,List.contains_cons,beq_self_eq_true,Bool.true_or]
    simp [hp]
   ·rw [if_neg hp,h1]
    simp [hp]
  ·have h2:(if s.parent = p then k :: kidsA p r (k + 1) else kidsA p r (k + 1)).contains j = (kidsA p r (k + 1)).contains j:=by
    split
    ·rw [List.contains_cons]
     have:(j == k) = false:=by simpa using e
     rw [this,Bool.false_or]
    ·rfl
   rw [h2,ih]
   by_cases hl:k ≤ j
   ·obtain ⟨m,hm⟩:∃ m,j - k = m + 1:=⟨j - k - 1,by omega⟩
    have h3:j - (k + 1) = m:=by omega
    have h4:decide (k + 1 ≤ j) = decide (k ≤ j):=by rw [decide_eq_decide];omega
    have h5:decide (j < k + 1 + r.length) = decide (j < k + (s :: r).length):=by rw [decide_eq_decide,List.length_cons];omega
    rw [hm,h3,h4,h5]
    rfl
   ·have h4:decide (k + 1 ≤ j) = false:=by rw [decide_eq_false_iff_not];omega
    have h5:decide (k ≤ j) = false:=by rw [decide_eq_false_iff_not];omega
    rw [h4,h5]
    rfl
section
variable {ss:List St} {i k:Nat}
theorem kids_at:(kidsA (i:Int) ss 0).contains k = (decide (k < ss.length) && decide ((ss.getD k st0).parent = (i:Int))):=by
 rw [kidsA_mem]
 simp
end
end Go.Proofs.YtfgpmcepppcmiaaGreatDoor
