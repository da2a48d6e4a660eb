/- Several texts of this proof, joined: DA. -/
import Derived.Test.YtacnlghljmgdiaaGreatDoorV5
import Derived.Test.YtacnlghljmgdiaaGreatDoorJ2
namespace Go.Proofs.YtacnlghljmgdiaaGreatDoor
def j1q (p:Nat → Bool):Nat → Nat
 | 0=>0
 | k + 1=>if p k then j1q p k ||| q6g (k:Int) else j1q p k
def j7b (p:Nat → Bool):Nat → List Nat → Nat
 | s,[]=>s
 | s,k :: r=>j7b p (if p k then s ||| q6g (k:Int) else s) r
theorem j4e (p:Nat → Bool):∀ k,j1q p k < 2 ^ 64
 | 0=>Nat.two_pow_pos 64
 | k + 1=>by
  rw [j1q]
  split
  ·exact Nat.or_lt_two_pow (j4e p k) (q2d _)
  ·exact j4e p k
theorem k2m (p:Nat → Bool):∀ (l:List Nat) (s:Nat),s < 2 ^ 64 → j7b p s l < 2 ^ 64
 | [],_,h=>h
 | k :: r,s,h=>by
  rw [j7b]
  refine k2m p r _ ?_
  split
  ·exact Nat.or_lt_two_pow h (q2d _)
  ·exact h
theorem j7a {p:Nat → Bool} {k:Nat} (h:p k = true):j1q p (k + 1) = ofS (j1q p k) [(k:Int)]:=by rw [j1q,if_pos h];rfl
theorem j6z {p:Nat → Bool} {k:Nat} (h:p k = false):j1q p (k + 1) = j1q p k:=by rw [j1q,if_neg (by rw [h];exact Bool.false_ne_true)]
theorem j7d {p:Nat → Bool} {s i:Nat} {l:List Nat} (hi:i < l.length) (h:p l[i] = true):j7b p s (l.drop i) = j7b p (ofS s [(l[i]:Int)]) (l.drop (i + 1)):=by
 rw [List.drop_eq_getElem_cons hi,j7b,if_pos h];rfl
theorem j7c {p:Nat → Bool} {s i:Nat} {l:List Nat} (hi:i < l.length) (h:p l[i] = false):j7b p s (l.drop i) = j7b p s (l.drop (i + 1)):=by
 rw [List.drop_eq_getElem_cons hi,j7b,if_neg (by rw [h];exact Bool.false_ne_true)]
theorem y2y {p:Nat → Bool} {s i:Nat} {l:List Nat} (hi:l.length ≤ i):j7b p s (l.drop i) = s:=by
 rw [List.drop_of_length_le hi,j7b]
def upS (ss:List St) (i:Nat):Nat:=j1q (fun k=>q4b ss (i:Int) (k:Int)) ss.length
def j8k (ss:List St) (i:Nat):Nat:=j1q (fun k=>q4b ss (k:Int) (i:Int)) ss.length
def j1e (ss:List St) (i:Nat):Nat:=j7b (fun k => !z3o (ss.getD k st0)) 0 (z3c (i:Int) ss 0)
def y0j (ss:List St) (i:Nat):Nat:=j7b (fun k=>z3o (ss.getD k st0)) 0 (z3c (i:Int) ss 0)
def v7f (s:Nat):Int:=match z5h s with | [] => -1 | k :: _=>(k:Int)
def y8l (ss:List St) (nm:List UInt8):Nat:=(z7b nm ss 0).getD 0
def j8s (ss:List St) (i:Nat):Int :=
 if (ss.getD i st0).start ≠ [] then (y8l ss (ss.getD i st0).start:Int)
 else if (ss.getD i st0).kind = 1 ∨ (ss.getD i st0).kind = 3 then v7f (j1e ss i) else -1
def q0u (ss:List St):Nat → List (Nat × Tr)
 | 0=>[]
 | i + 1=>q0u ss i ++ (ss.getD i st0).trans.map fun t=>(i,t)
def y4v (ss:List St):List (Nat × Tr):=q0u ss ss.length
theorem v4p (ss:List St) (i:Nat):j1e ss i < 2 ^ 64:=k2m _ _ _ deT
theorem j6e {p:Int}:∀ {ss:List St} {k j:Nat},(z3c p ss k).contains j = (decide (k ≤ j) && decide (j < k + ss.length) && decide ((ss.getD (j - k) st0).parent = p))
 | [],k,j=>by
  have:(decide (k ≤ j) && decide (j < k + ([]:List St).length)) = false:=by
   rw [Bool.and_eq_false_iff,decide_eq_false_iff_not,decide_eq_false_iff_not]
   simp only [List.length_nil]
   omega
  rw [this]
  rfl
 | s :: r,k,j=>by
  have ih:=j6e (p:=p) (ss:=r) (k:=k + 1) (j:=j)
  rw [z3c]
  by_cases e:j = k
  ·subst e
   have h1:(z3c p r (j + 1)).contains j = false:=by
    rw [ih]
    have:decide (j + 1 ≤ j) = false:=by rw [decide_eq_false_iff_not];omega
    rw [this]
    rfl
   by_cases hp:s.parent = p
   ·rw [if_pos hp,List.contains_cons,beq_self_eq_true,Bool.true_or]
    simp [hp]
   ·rw [if_neg hp,h1]
    simp [hp]
  ·have h2:(if s.parent = p then k :: z3c p r (k + 1) else z3c p r (k + 1)).contains j = (z3c p r (k + 1)).contains j:=by
    split
    ·rw [List.contains_cons]
     have:(j == k) = false:=by simpa using e
     rw [this,Bool.false_or]
    ·rfl
   rw [h2,ih]
   by_cases hl:k ≤ j
   ·obtain ⟨m,hm⟩:∃ m,j - k = m + 1:=⟨j - k - 1,by omega⟩
    have h3:j - (k + 1) = m:=by omega
    have h4:decide (k + 1 ≤ j) = decide (k ≤ j):=by rw [decide_eq_decide];omega
    have h5:decide (j < k + 1 + r.length) = decide (j < k + (s :: r).length):=by rw [decide_eq_decide,List.length_cons];omega
    rw [hm,h3,h4,h5]
    rfl
   ·have h4:decide (k + 1 ≤ j) = false:=by rw [decide_eq_false_iff_not];omega
    have h5:decide (k ≤ j) = false:=by rw [decide_eq_false_iff_not];omega
    rw [h4,h5]
    rfl
section
variable {ss:List St} {i k:Nat}
theorem v4q:(z3c (i:Int) ss 0).contains k = (decide (k < ss.length) && decide ((ss.getD k st0).parent = (i:Int))):=by
 rw [j6e]
 simp
end
end Go.Proofs.YtacnlghljmgdiaaGreatDoor
