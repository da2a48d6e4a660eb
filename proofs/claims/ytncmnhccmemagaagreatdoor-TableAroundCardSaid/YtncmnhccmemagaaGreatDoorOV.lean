/- A value (a struct of a number, a number and a text) that came in. -/
import Derived.Test.YtncmnhccmemagaaGreatDoorChecked
import Derived.Test.YtncmnhccmemagaaGreatDoorZ1
import Derived.WalkKit
import Derived.ProofKit
import Derived.OpenShut
import Derived.Lib.SmallJoins
namespace Go.Proofs.YtncmnhccmemagaaGreatDoor
open Go.RowKit Go.ChangeShapes Go.WideShapes Go.Joins
theorem i64_of_wf {n:Int} (h:(Lit.int .i64 n).wf = true):I64 n:=by
 have:=bounds_i64 h
 unfold I64;omega
set_option maxRecDepth 100000 in
theorem open_val {H:Type} {enc:TypeId × Value → H} {w:World} {base b0:Nat} {spare:Nat → Bool} {held:Bool} {r:Reach} {v:Value} {d:DataW H} {p:List MemPlace}
  (hv:Value.okWide Tryz.prog w r b0 91 v) (h:DataW.Trod enc Tryz.prog w base spare held 91 v d p) :
  ∃ (k n:Int) (s:ByteArray),v = .agg #[.int .i64 k,.int .i64 n,.string s] ∧ I64 k ∧ I64 n ∧ s.size ≤ maxLen:=by
 obtain ⟨v0,v1,v2,y0,y1,y2,m,rfl,-,-,h0,h1,h2⟩:=open_agg3 Tryz.underlying91 (by kernel_rfl) (by kernel_rfl) hv h
 obtain ⟨k,e0,-,w0⟩:=DataW.trod_int Tryz.underlying3 h0
 obtain ⟨n,e1,-,w1⟩:=DataW.trod_int Tryz.underlying2 h1
 obtain ⟨s,e2,-,w2⟩:=DataW.trod_string Tryz.underlying9 h2
 simp only [List.cons.injEq,and_true] at e0 e1 e2
 subst e0 e1 e2
 exact ⟨k,n,s,rfl,i64_of_wf w0,i64_of_wf w1,w2⟩
end Go.Proofs.YtncmnhccmemagaaGreatDoor
