/- Several texts of this proof, joined: DK, DS. -/
import Derived.Test.YtacnlghljmgdiaaGreatDoorL3
import Derived.Test.YtacnlghljmgdiaaGreatDoorJ3
import Derived.Deep.Light
import Derived.WalkKit
import Derived.ProofKit
import Derived.OpenShut
import Derived.Handy
import Derived.BigQuiet
import Derived.OwnWalk
import Derived.Lib.Hide
import Derived.WalkSmall
import Derived.WalkLawsBesides
import Derived.Test.YtacnlghljmgdiaaGreatDoorL1
import Derived.Test.YtacnlghljmgdiaaGreatDoorV5
import Derived.Test.YtacnlghljmgdiaaGreatDoorY6
import Derived.Test.YtacnlghljmgdiaaGreatDoorQ1
import Derived.Test.YtacnlghljmgdiaaGreatDoorY1
import Derived.Test.YtacnlghljmgdiaaGreatDoorZ7
import Derived.Lib.ItoaNum
import Derived.Test.YtacnlghljmgdiaaGreatDoorP2
import Derived.Test.YtacnlghljmgdiaaGreatDoorP3
import Derived.Test.YtacnlghljmgdiaaGreatDoorI2
import Derived.Test.YtacnlghljmgdiaaGreatDoorQ7
import Derived.BigRegion
namespace Go.Proofs.YtacnlghljmgdiaaGreatDoor
open Go.RowKit
theorem q0r {t:TypeId} {B b j:Nat} {w:World} {c:Ch} {rv:Nat → Value} {vv sv u:Value} {cs:Array Value} {fr:Nat × Nat} (h:ChV ct1 B w c rv vv sv) (hb:w.heap[b]? = some (.cells cs t fr)) (ht:t = 27 ∨ t = 31):ChV ct1 B (w.setCell ⟨b,j,none⟩ u) c rv vv sv:=by
 have key:∀ e,t ≠ e → Tp B B w (w.setCell ⟨b,j,none⟩ u) e:=fun e he=>z1m hb he
 have k:Fx ct1 B B w (w.setCell ⟨b,j,none⟩ u):=by
  rcases ht with rfl | rfl <;> exact ⟨key _ deT,key _ deT,key _ deT⟩
 rcases ht with rfl | rfl
 all_goals
  exact ⟨key _ deT _ _ _ _ h.vars,key _ deT _ _ _ _ h.sts,fun i=>z1c k (h.ent i) fun _ _=>key _ deT _ _ _ _,fun i=>z1c k (h.exi i) fun _ _=>key _ deT _ _ _ _,fun i=>z4x k (h.trs i) fun _ _=>key _ deT _ _ _ _⟩
theorem q4u {c:Ch} {rv gi:Nat → Value} {b k j:Nat} {u:Value} {w:World} (h:TbC c rv gi b w) (hne:b ≠ k):TbC c rv gi b (w.setCell ⟨k,j,none⟩ u) :=
 ⟨by rw [World.size_setCell];exact h.lt,fun i hi l v hv=>by
  have:=h.at_ i hi l v hv
  rw [← this]
  exact World.cell?_setCell_far _ _ _ _ (fun e=>hne e.symm),h.sl⟩
abbrev v1x (w:World) (p q:Nat) (v0 v1 v2 u0 u1 u2:Value):World:=(((((w.setCell ⟨p,0,none⟩ v0).setCell ⟨p,1,none⟩ v1).setCell ⟨p,2,none⟩ v2).setCell ⟨q,0,none⟩ u0).setCell ⟨q,1,none⟩ u1).setCell ⟨q,2,none⟩ u2
theorem k8s {A b p q:Nat} {w w3:World} {c:Ch} {rv rx gi:Nat → Value} {vv sv v0 v1 v2 u0 u1 u2:Value} {c0 c1:Array Value} (hC:TbC c rv gi b w3) (hX:ChV ct1 0 w3 c rx vv sv) (s0:w3.heap[p]? = some (.cells c0 27 (0,0))) (s1:w3.heap[q]? = some (.cells c1 31 (0,0)))
  (hpq:p ≠ q) (hbp:b ≠ p) (hbq:b ≠ q) (hw:Below A w w3) (hp:A ≤ p) (hq:A ≤ q) :
  TbC c rv gi b (v1x w3 p q v0 v1 v2 u0 u1 u2) ∧ ChV ct1 0 (v1x w3 p q v0 v1 v2 u0 u1 u2) c rx vv sv ∧ Below A w (v1x w3 p q v0 v1 v2 u0 u1 u2):=by
 have t1:=z0i (i:=2) (v:=v2) (z0i (i:=1) (v:=v1) (z0i (i:=0) (v:=v0) s1 hpq.symm) hpq.symm) hpq.symm
 exact ⟨q4u (q4u (q4u (q4u (q4u (q4u hC hbp) hbp) hbp) hbq) hbq) hbq,
  q0r (q0r (q0r (q0r (q0r (q0r hX s0 (.inl rfl)) (z0l s0) (.inl rfl)) (z0l (z0l s0)) (.inl rfl)) t1 (.inr rfl)) (z0l t1) (.inr rfl)) (z0l (z0l t1)) (.inr rfl),
  (((((hw.setCell (p:=⟨p,0,none⟩) hp _).setCell (p:=⟨p,1,none⟩) hp _).setCell (p:=⟨p,2,none⟩) hp _).setCell (p:=⟨q,0,none⟩) hq _).setCell (p:=⟨q,1,none⟩) hq _).setCell (p:=⟨q,2,none⟩) hq _⟩
theorem j0p {A p q:Nat} {w w3:World} {v0 v1 v2 u0 u1 u2:Value} (hw:Below A w w3) (hp:A ≤ p) (hq:A ≤ q):Below A w (v1x w3 p q v0 v1 v2 u0 u1 u2) :=
 (((((hw.setCell (p:=⟨p,0,none⟩) hp _).setCell (p:=⟨p,1,none⟩) hp _).setCell (p:=⟨p,2,none⟩) hp _).setCell (p:=⟨q,0,none⟩) hq _).setCell (p:=⟨q,1,none⟩) hq _).setCell (p:=⟨q,2,none⟩) hq _
def x2v (w:World) (e:Ending) (w':World):Prop :=
 ∃ (a b c x y:Option Addr) (i j k l m n p q r s:Nat) (t:List UInt8),e = .returned (.tuple #[.agg #[.slice a i j,.slice b k l,.slice c m n],.agg #[str t,.slice x p q,.slice y r s],.bool false]) ∧ Below w.heap.size w w'
theorem k6d {A p q:Nat} {w w3:World} {v0 v1 v2 u0 u1 u2:Value} (hw:Below A w w3) (hA:A ≤ w3.heap.size) (hp:A ≤ p) (hq:A ≤ q) (o:Obj):Below A w (((((((w3.setCell ⟨p,0,none⟩ v0).setCell ⟨p,1,none⟩ v1).setCell ⟨p,2,none⟩ v2).setCell ⟨q,0,none⟩ u0).setCell ⟨q,1,none⟩ u1).setCell ⟨q,2,none⟩ u2).alloc o):=by
 have h:=j0p (v0:=v0) (v1:=v1) (v2:=v2) (u0:=u0) (u1:=u1) (u2:=u2) hw hp hq
 refine h.alloc ?_ _
 simpa using hA
end Go.Proofs.YtacnlghljmgdiaaGreatDoor
