/- Several texts of this proof, joined: VI, VT. -/
import Derived.Test.YtacnlghljmgdiaaGreatDoorQ1
import Derived.Test.YtacnlghljmgdiaaGreatDoorV5
import Derived.Test.YtacnlghljmgdiaaGreatDoorI2
import Derived.WalkKit
import Derived.ProofKit
import Derived.OpenShut
import Derived.Handy
import Derived.BigQuiet
import Derived.OwnWalk
import Derived.Lib.Hide
import Derived.WalkSmall
import Derived.WalkLawsBesides
namespace Go.Proofs.YtacnlghljmgdiaaGreatDoor
theorem v4i {ns:List Nd} (h:ns.length ≤ 32) (k:ShN ns):k5k ns :=
 ⟨Nat.le_trans h deT,fun n hn=>⟨Nat.le_trans (k n hn).1 deT,Nat.le_trans (k n hn).2 deT⟩⟩
theorem v4h {cs:List Ac} (h:q1m cs) (k:ShB cs):v7b cs :=
 ⟨Nat.le_trans h.1 deT,fun a ha=>⟨v4i (h.2 a ha).1 (k a ha).1,v4i (h.2 a ha).2 (k a ha).2⟩⟩
theorem k0c {l:List UInt8} {c:Ch} (h:z3q l = .ok c):∀ i,i < c.states.length → FitS (c.states.getD i st0):=fun i _=>by
 have t:=j1x (q8x h) i
 exact ⟨fun b hb=>v4h (t.enter b hb) (t.she b (List.mem_append_left _ hb)),fun b hb=>v4h (t.exit b hb) (t.she b (List.mem_append_right _ hb)),
  fun r hr=>⟨v4i (t.trans r hr).cond (t.sht r hr).1,Nat.le_trans (t.trans r hr).goes deT,v4h (t.trans r hr).thn (t.sht r hr).2⟩⟩
end Go.Proofs.YtacnlghljmgdiaaGreatDoor
namespace Go.Proofs.YtacnlghljmgdiaaGreatDoor
open Go.RowKit
theorem v1t {l:List UInt8} {c:Ch} (h:z3q l = .ok c):OkC c :=
 ⟨(z6g h).some,(z6g h).few,(z6g h).vars,v9j (z6g h),k0c h,k1d (z6g h)⟩
def x1p (c:Ch) (w:World) (e:Ending) (w':World):Prop:=∃ rv va vc sa sc,e = .returned (.tuple #[.agg #[str c.name,.slice va c.vars.length vc,.slice sa c.states.length sc],.int .i64 0,.int .i64 0]) ∧ ChV ct0 w.heap.size w' c rv (.slice va c.vars.length vc) (.slice sa c.states.length sc) ∧ Below w.heap.size w w'
theorem j5x {c:Ch} (s:ByteArray) (hs:s.size ≤ 140737488351232) (h:z3q s.data.toList = .ok c) (w:World) (hw:Al w):Calls Tryz.prog 18 #[.string s] w (x1p c w) :=
 (y4l s hs w hw).mono fun e w' hr=>by
  obtain ⟨d,y,n,rv,va,vc,sa,sc,hc,rfl,hV,hb⟩:=hr
  obtain ⟨rfl,rfl,rfl⟩:=hc.ok c h
  exact ⟨rv,va,vc,sa,sc,rfl,hV,hb⟩
def x1o (w:World) (e:Ending) (w':World):Prop:=∃ v1 v2 v3 y n,e = .returned (.tuple #[.agg #[v1,v2,v3],.int .i64 y,.int .i64 n]) ∧ (y == 0) = false ∧ (∃ a1 a2 a3 b1 b2 b3 t,v1 = .string t ∧ v2 = .slice a1 a2 a3 ∧ v3 = .slice b1 b2 b3) ∧ Below w.heap.size w w'
theorem y9p (s:ByteArray) (hs:s.size ≤ 140737488351232) (h:∀ c,z3q s.data.toList ≠ .ok c) (w:World) (hw:Al w):Calls Tryz.prog 18 #[.string s] w (x1o w) :=
 (j0v s hs w hw).mono fun e w' hr=>by
  unfold x2u at hr
  cases hx:z3q s.data.toList with
  | ok c=>exact absurd hx (h c)
  | error x =>
   obtain ⟨y,n⟩:=x
   rw [hx] at hr
   obtain ⟨rfl,hy,hb⟩:=hr
   exact ⟨_,_,_,y,_,rfl,hy,⟨_,_,_,_,_,_,_,rfl,rfl,rfl⟩,hb⟩
end Go.Proofs.YtacnlghljmgdiaaGreatDoor
