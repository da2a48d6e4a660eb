/- Several texts of this proof, joined: DK. -/
import Derived.Test.YtfgpmcepppcmiaaGreatDoorL3
import Derived.Test.YtfgpmcepppcmiaaGreatDoorJ3
import Derived.Deep.Light
import Derived.WalkKit
import Derived.ProofKit
import Derived.OpenShut
import Derived.Handy
import Derived.BigQuiet
import Derived.OwnWalk
import Derived.Lib.Hide
import Derived.WalkSmall
import Derived.WalkLawsBesides
import Derived.Test.YtfgpmcepppcmiaaGreatDoorL1
import Derived.Test.YtfgpmcepppcmiaaGreatDoorV5
import Derived.Test.YtfgpmcepppcmiaaGreatDoorY6
import Derived.Test.YtfgpmcepppcmiaaGreatDoorQ1
import Derived.Test.YtfgpmcepppcmiaaGreatDoorV1
import Derived.Test.YtfgpmcepppcmiaaGreatDoorY1
import Derived.Test.YtfgpmcepppcmiaaGreatDoorZ7
import Derived.Lib.ItoaNum
import Derived.Test.YtfgpmcepppcmiaaGreatDoorP2
import Derived.Test.YtfgpmcepppcmiaaGreatDoorP3
import Derived.Test.YtfgpmcepppcmiaaGreatDoorI2
import Derived.Test.YtfgpmcepppcmiaaGreatDoorQ7
import Derived.BigRegion
namespace Go.Proofs.YtfgpmcepppcmiaaGreatDoor
open Go.RowKit
theorem chV_set1 {t:TypeId} {B b j:Nat} {w:World} {c:Ch} {rv:Nat → Value} {vv sv u:Value} {cs:Array Value} {fr:Nat × Nat} (h:ChV ct1 B w c rv vv sv) (hb:w.heap[b]? = some (.cells cs t fr)) (ht:t = 27 ∨ t = 31):ChV ct1 B (w.setCell ⟨b,j,none⟩ u) c rv vv sv:=by
 have key:∀ e,t ≠ e → Tp B B w (w.setCell ⟨b,j,none⟩ u) e:=fun e he=>tp_set hb he
 have k:Fx ct1 B B w (w.setCell ⟨b,j,none⟩ u):=by
  rcases ht with rfl | rfl <;> exact ⟨key _ (by decide),key _ (by decide),key _ (by decide)⟩
 rcases ht with rfl | rfl
 all_goals
  exact ⟨key _ (by decide) _ _ _ _ h.vars,key _ (by decide) _ _ _ _ h.sts,fun i=>blkRow_tp k (h.ent i) fun _ _=>key _ (by decide) _ _ _ _,fun i=>blkRow_tp k (h.exi i) fun _ _=>key _ (by decide) _ _ _ _,fun i=>trRow_tp k (h.trs i) fun _ _=>key _ (by decide) _ _ _ _⟩
theorem tbC_set {c:Ch} {rv gi:Nat → Value} {b k j:Nat} {u:Value} {w:World} (h:TbC c rv gi b w) (hne:b ≠ k):TbC c rv gi b (w.setCell ⟨k,j,none⟩ u) :=
 ⟨by rw [World.size_setCell];exact h.lt,fun i hi l v hv=>by
  have:=h.at_ i hi l v hv
  rw [← this]
  exact World.cell?_setCell_far _ _ _ _ (fun e=>hne e.symm),h.sl⟩
abbrev put6 (w:World) (p q:Nat) (v0 v1 v2 u0 u1 u2:Value):World:=(((((w.setCell ⟨p,0,none⟩ v0).setCell ⟨p,1,none⟩ v1).setCell ⟨p,2,none⟩ v2).setCell ⟨q,0,none⟩ u0).setCell ⟨q,1,none⟩ u1).setCell ⟨q,2,none⟩ u2
theorem put_made {A b p q:Nat} {w w3:World} {c:Ch} {rv rx gi:Nat → Value} {vv sv v0 v1 v2 u0 u1 u2:Value} {c0 c1:Array Value} (hC:TbC c rv gi b w3) (hX:ChV ct1 0 w3 c rx vv sv) (s0:w3.heap[p]? = some (.cells c0 27 (0,0))) (s1:w3.heap[q]? = some (.cells c1 31 (0,0)))
  (hpq:p ≠ q) (hbp:b ≠ p) (hbq:b ≠ q) (hw:Below A w w3) (hp:A ≤ p) (hq:A ≤ q) :
  TbC c rv gi b (put6 w3 p q v0 v1 v2 u0 u1 u2) ∧ ChV ct1 0 (put6 w3 p q v0 v1 v2 u0 u1 u2) c rx vv sv ∧ Below A w (put6 w3 p q v0 v1 v2 u0 u1 u2):=by
 have t1:=blk_far (i:=2) (v:=v2) (blk_far (i:=1) (v:=v1) (blk_far (i:=0) (v:=v0) s1 hpq.symm) hpq.symm) hpq.symm
 exact ⟨tbC_set (tbC_set (tbC_set (tbC_set (tbC_set (tbC_set hC hbp) hbp) hbp) hbq) hbq) hbq,
  chV_set1 (chV_set1 (chV_set1 (chV_set1 (chV_set1 (chV_set1 hX s0 (.inl rfl)) (blk_set s0) (.inl rfl)) (blk_set (blk_set s0)) (.inl rfl)) t1 (.inr rfl)) (blk_set t1) (.inr rfl)) (blk_set (blk_set t1)) (.inr rfl),
  (((((hw.setCell (p:=⟨p,0,none⟩) hp _).setCell (p:=⟨p,1,none⟩) hp _).setCell (p:=⟨p,2,none⟩) hp _).setCell (p:=⟨q,0,none⟩) hq _).setCell (p:=⟨q,1,none⟩) hq _).setCell (p:=⟨q,2,none⟩) hq _⟩
end Go.Proofs.YtfgpmcepppcmiaaGreatDoor
