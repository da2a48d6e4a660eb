/- Several texts of this proof, joined: MO. -/
import Derived.Test.YtfmaomoifkplbaaGreatDoorQ4
import Derived.Test.YtfmaomoifkplbaaGreatDoorQ1
import Derived.WalkKit
import Derived.ProofKit
import Derived.OpenShut
import Derived.Handy
import Derived.BigQuiet
import Derived.OwnWalk
import Derived.Deep.AppendLies
import Derived.Deep.RegionHeld3
import Derived.Lib.Hide
import Derived.WalkSmall
import Derived.WalkLawsBesides
import Derived.Test.YtfmaomoifkplbaaGreatDoorQ5
namespace Go.Proofs.YtfmaomoifkplbaaGreatDoor
open Go.RowKit
section
variable {τ : CT} {B : Nat} {w : World}
theorem blkRow_form {v : Value} {bs : List (List Ac)} (h : BlkRow τ B w v bs) : ∃ ao cap,v = .slice ao bs.length cap := by
 obtain ⟨_,_,h⟩ := h
 exact own_form h
theorem trRow_form {v : Value} {ts : List Tr} (h : TrRow τ B w v ts) : ∃ ao cap,v = .slice ao ts.length cap := by
 obtain ⟨_,_,h⟩ := h
 exact own_form h
end
section
variable {α : Type} {R : α → List Value → Prop} {cs : List α} {vs : List Value}
end
theorem vrsC_at : ∀ (vs : List Vr) (i : Nat) (h : i < vs.length) (j : Nat),j < 4 → (vrsC vs)[i * 4 + j]? = (vrC vs[i])[j]?
 | [],i,h,_,_ => absurd h (Nat.not_lt_zero _)
 | t :: r,0,_,j,hj => by
  unfold vrsC
  rw [List.flatMap_cons,Nat.zero_mul,Nat.zero_add,List.getElem?_append_left (by simpa [vrC] using hj)]
  rfl
 | t :: r,i + 1,h,j,hj => by
  have ih := vrsC_at r i (by simpa using h) j hj
  unfold vrsC at *
  rw [List.flatMap_cons,List.getElem?_append_right (by simp [vrC];omega),show (i + 1) * 4 + j - (vrC t).length = i * 4 + j by simp [vrC];omega,ih]
  rfl
section
variable {τ : CT} {B B' : Nat} {w w' : World} {ss : List St} {rv : Nat → Value} {c : Ch} {vv sv : Value}
theorem chV_keep (h : ChV τ B w c rv vv sv) (hb : Below w.heap.size w w') : ChV τ B w' c rv vv sv :=
 ⟨owns_below h.vars hb,owns_below h.sts hb,fun i => blkRow_tp (fx_below hb) (h.ent i) fun _ _ k => owns_below k hb,fun i => blkRow_tp (fx_below hb) (h.exi i) fun _ _ k => owns_below k hb,fun i => trRow_tp (fx_below hb) (h.trs i) fun _ _ k => owns_below k hb⟩
theorem chV_form (h : ChV τ B w c rv vv sv) : ∃ va vc sa sc,vv = .slice va c.vars.length vc ∧ sv = .slice sa c.states.length sc := by
 obtain ⟨va,vc,rfl⟩ := own_form h.vars
 obtain ⟨sa,sc,rfl⟩ := own_form h.sts
 exact ⟨va,vc,sa,sc,rfl,rfl⟩
theorem var_at {va : Option Addr} {n vc : Nat} (h : ChV τ B w c rv (.slice va n vc) sv) (i : Nat) (hi : i < c.vars.length) : ∃ g,va = some ⟨g,0,none⟩ ∧ g < w.heap.size ∧ w.cell? ⟨g,i * 4,none⟩ = some (str c.vars[i].name) ∧ w.cell? ⟨g,i * 4 + 1,none⟩ = some (.int .i64 c.vars[i].vk) ∧ w.cell? ⟨g,i * 4 + 2,none⟩ = some (.int .i64 c.vars[i].vn) ∧ w.cell? ⟨g,i * 4 + 3,none⟩ = some (str c.vars[i].vs) := by
 obtain ⟨g,cap',e,hg,_,_,hc⟩ := own_head h.vars (by omega)
 cases e
 exact ⟨g,rfl,hg,hc _ _ (vrsC_at _ i hi 0 (by decide)),hc _ _ (vrsC_at _ i hi 1 (by decide)),hc _ _ (vrsC_at _ i hi 2 (by decide)),hc _ _ (vrsC_at _ i hi 3 (by decide))⟩
theorem st_at {sa : Option Addr} {n sc : Nat} (h : ChV τ B w c rv vv (.slice sa n sc)) (i : Nat) (hi : i < c.states.length) : ∃ g eo ec xo xc to' tc,sa = some ⟨g,0,none⟩ ∧ g < w.heap.size ∧ w.cell? ⟨g,i * 7,none⟩ = some (str c.states[i].name) ∧ w.cell? ⟨g,i * 7 + 1,none⟩ = some (.int .i64 c.states[i].kind) ∧ w.cell? ⟨g,i * 7 + 2,none⟩ = some (.int .i64 c.states[i].parent) ∧ w.cell? ⟨g,i * 7 + 3,none⟩ = some (str c.states[i].start) ∧
  w.cell? ⟨g,i * 7 + 4,none⟩ = some (.slice eo c.states[i].enter.length ec) ∧ w.cell? ⟨g,i * 7 + 5,none⟩ = some (.slice xo c.states[i].exit.length xc) ∧ w.cell? ⟨g,i * 7 + 6,none⟩ = some (.slice to' c.states[i].trans.length tc) ∧
  BlkRow τ B w (.slice eo c.states[i].enter.length ec) c.states[i].enter ∧ BlkRow τ B w (.slice xo c.states[i].exit.length xc) c.states[i].exit ∧ TrRow τ B w (.slice to' c.states[i].trans.length tc) c.states[i].trans := by
 obtain ⟨g,cap',e,hg,_,_,hc⟩ := own_head h.sts (by omega)
 cases e
 have hd : c.states.getD i st0 = c.states[i] := by simp [List.getD,hi]
 have k1 := h.ent i
 have k2 := h.exi i
 have k3 := h.trs i
 rw [hd] at k1 k2 k3
 obtain ⟨eo,ec,he⟩ := blkRow_form k1
 obtain ⟨xo,xc,hx⟩ := blkRow_form k2
 obtain ⟨to',tc,ht⟩ := trRow_form k3
 rw [he] at k1
 rw [hx] at k2
 rw [ht] at k3
 have hat : ∀ j,j < 7 → ∀ u,(stC c.states[i] (rv (3 * i)) (rv (3 * i + 1)) (rv (3 * i + 2)))[j]? = some u → w.cell? ⟨g,i * 7 + j,none⟩ = some u := fun j hj u hu => hc _ _ (by rw [stsC_at _ _ _ i hi j hj,Nat.zero_add];exact hu)
 exact ⟨g,eo,ec,xo,xc,to',tc,rfl,hg,hat 0 (by decide) _ rfl,hat 1 (by decide) _ rfl,hat 2 (by decide) _ rfl,hat 3 (by decide) _ rfl,hat 4 (by decide) _ (by rw [← he];rfl),hat 5 (by decide) _ (by rw [← hx];rfl),hat 6 (by decide) _ (by rw [← ht];rfl),k1,k2,k3⟩
end
end Go.Proofs.YtfmaomoifkplbaaGreatDoor
