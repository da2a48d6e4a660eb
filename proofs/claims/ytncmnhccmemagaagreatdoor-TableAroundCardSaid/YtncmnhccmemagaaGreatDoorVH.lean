/- Plain: Check of a chart with one final state more. No program. -/
import Derived.Test.YtncmnhccmemagaaGreatDoorV5
import Derived.Test.YtncmnhccmemagaaGreatDoorY6
import Derived.Test.YtncmnhccmemagaaGreatDoorW3
import Derived.Test.YtncmnhccmemagaaGreatDoorV1
import Derived.Test.YtncmnhccmemagaaGreatDoorZ7
import Derived.Test.YtncmnhccmemagaaGreatDoorY1
import Derived.Lib.ItoaNum
import Derived.Test.YtncmnhccmemagaaGreatDoorP2
import Derived.Test.YtncmnhccmemagaaGreatDoorP3
import Derived.Test.YtncmnhccmemagaaGreatDoorQ1
namespace Go.Proofs.YtncmnhccmemagaaGreatDoor
theorem then0 {a b:Int}:thenE a b = 0 ↔ a = 0 ∧ b = 0:=by
 unfold thenE
 by_cases h:a = 0
 ·rw [if_pos h];exact ⟨fun k=>⟨h,k⟩,fun k=>k.2⟩
 ·rw [if_neg h];exact ⟨fun k=>absurd k h,fun k=>absurd k.1 h⟩
theorem unl0 {b:Bool} {e:Int} (he:e ≠ 0):unl b e = 0 ↔ b = true:=by
 unfold unl
 cases b <;> simp [he]
section
variable {ss:List St} {F:St}
end
section
variable {c:Ch} {nm:List UInt8}
theorem sts0 {l:Lk}:∀ {ss:List St} {i:Nat},(stsE l i ss).1 = 0 ↔ ∀ j,j < ss.length → stateE l (i + j) = 0
 | [],_=>⟨fun _ _ h=>absurd h (Nat.not_lt_zero _),fun _=>rfl⟩
 | s :: r,i=>by
  rw [stsE]
  by_cases h:stateE l i = 0
  ·rw [if_pos h,sts0]
   constructor
   ·intro k j hj
    cases j with
    | zero=>exact h
    | succ j =>
     have:=k j (by rw [List.length_cons] at hj;omega)
     rwa [show i + (j + 1) = i + 1 + j by omega]
   ·intro k j hj
    have:=k (j + 1) (by rw [List.length_cons];omega)
    rwa [show i + (j + 1) = i + 1 + j by omega] at this
  ·rw [if_neg h]
   exact ⟨fun k=>absurd k h,fun k=>absurd (k 0 (by simp)) h⟩
end
end Go.Proofs.YtncmnhccmemagaaGreatDoor
