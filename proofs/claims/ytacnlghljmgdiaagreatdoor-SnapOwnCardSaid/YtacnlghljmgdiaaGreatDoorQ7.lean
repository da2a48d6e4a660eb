/- Several texts of this proof, joined: MO, HM, MM. -/
import Derived.Test.YtacnlghljmgdiaaGreatDoorQ6
import Derived.Test.YtacnlghljmgdiaaGreatDoorQ5
import Derived.Test.YtacnlghljmgdiaaGreatDoorQ1
import Derived.WalkKit
import Derived.ProofKit
import Derived.OpenShut
import Derived.Handy
import Derived.BigQuiet
import Derived.OwnWalk
import Derived.Deep.AppendLies
import Derived.Deep.RegionHeld3
import Derived.Lib.Hide
import Derived.WalkSmall
import Derived.WalkLawsBesides
import Derived.Test.YtacnlghljmgdiaaGreatDoorZ1
import Derived.StillTail
namespace Go.Proofs.YtacnlghljmgdiaaGreatDoor
open Go.RowKit
theorem Tryz.infoMV:(Tryz.prog.info? 111).map (fun i=>(i.zero,i.size,i.bytes)) = some (some (.agg #[.string ⟨#[]⟩,.int .i64 0,.int .i64 0,.string ⟨#[]⟩]),4,48):=by kernel_rfl
theorem Tryz.infoMS:(Tryz.prog.info? 110).map (fun i=>(i.zero,i.size,i.bytes)) = some (some (.agg #[.string ⟨#[]⟩,.int .i64 0,.int .i64 0,.string ⟨#[]⟩,.slice none 0 0,.slice none 0 0,.slice none 0 0]),7,120):=by kernel_rfl
structure RowsR (τ:CT) (B:Nat) (w:World) (ss:List St) (rv:Nat → Value):Prop where
 ent:∀ i,z2i τ B w (rv (3 * i)) (ss.getD i st0).enter
 exi:∀ i,z2i τ B w (rv (3 * i + 1)) (ss.getD i st0).exit
 trs:∀ i,z9m τ B w (rv (3 * i + 2)) (ss.getD i st0).trans
def k5h (rv:Nat → Value) (n:Nat) (e x t:Value):Nat → Value:=fun a=>if a = 3 * n then e else if a = 3 * n + 1 then x else if a = 3 * n + 2 then t else rv a
section
variable {τ:CT} {B:Nat} {w:World}
theorem z3t {v:Value} {bs:List (List Ac)} (h:z2i τ B w v bs):∃ ao cap,v = .slice ao bs.length cap:=by
 obtain ⟨_,_,h⟩:=h
 exact z0g h
theorem j2j {v:Value} {ts:List Tr} (h:z9m τ B w v ts):∃ ao cap,v = .slice ao ts.length cap:=by
 obtain ⟨_,_,h⟩:=h
 exact z0g h
end
section
variable {α:Type} {R:α → List Value → Prop} {cs:List α} {vs:List Value}
end
theorem q9r:∀ (vs:List Vr) (i:Nat) (h:i < vs.length) (j:Nat),j < 4 → (j0g vs)[i * 4 + j]? = (vrC vs[i])[j]?
 | [],i,h,_,_=>absurd h (Nat.not_lt_zero _)
 | t :: r,0,_,j,hj=>by
  unfold j0g
  rw [List.flatMap_cons,Nat.zero_mul,Nat.zero_add,List.getElem?_append_left (by simpa [vrC] using hj)]
  rfl
 | t :: r,i + 1,h,j,hj=>by
  have ih:=q9r r i (by simpa using h) j hj
  unfold j0g at *
  rw [List.flatMap_cons,List.getElem?_append_right (by simp [vrC];omega),show (i + 1) * 4 + j - (vrC t).length = i * 4 + j by simp [vrC];omega,ih]
  rfl
section
variable {τ:CT} {B B':Nat} {w w':World} {ss:List St} {rv:Nat → Value} {c:Ch} {vv sv:Value}
theorem q6n (h:RowsR τ B w ss rv) (k:Fx τ B B' w w') (h1:Tp B B' w w' τ.blk) (h2:Tp B B' w w' τ.tr):RowsR τ B' w' ss rv :=
 ⟨fun i=>z1c k (h.ent i) fun _ _=>h1 _ _ _ _,fun i=>z1c k (h.exi i) fun _ _=>h1 _ _ _ _,fun i=>z4x k (h.trs i) fun _ _=>h2 _ _ _ _⟩
theorem k3d:RowsR τ B w [] (fun _ => .slice none 0 0):=⟨fun _=>z3v _ _ _,fun _=>z3v _ _ _,fun _=>q3y _ _ _⟩
theorem y6x {s:St} {e x t:Value} (h:RowsR τ B w ss rv) (h1:z2i τ B w e s.enter) (h2:z2i τ B w x s.exit) (h3:z9m τ B w t s.trans):RowsR τ B w (ss ++ [s]) (k5h rv ss.length e x t):=by
 have hs:∀ i,(ss ++ [s]).getD i st0 = if i = ss.length then s else ss.getD i st0:=fun i=>by
  rw [z6n]
  by_cases hlt:i < ss.length
  ·rw [if_pos hlt,if_neg omT]
  ·rw [if_neg hlt]
   by_cases he:i = ss.length
   ·rw [if_pos he,if_pos he]
   ·rw [if_neg he,if_neg he,List.getD_eq_getElem?_getD,List.getElem?_eq_none omT]
    rfl
 refine ⟨fun i=>?_,fun i=>?_,fun i=>?_⟩
 ·rw [hs]
  unfold k5h
  by_cases he:i = ss.length
  ·rw [if_pos he,if_pos omT];exact h1
  ·rw [if_neg he,if_neg omT,if_neg omT,if_neg omT];exact h.ent i
 ·rw [hs]
  unfold k5h
  by_cases he:i = ss.length
  ·rw [if_pos he,if_neg omT,if_pos omT];exact h2
  ·rw [if_neg he,if_neg omT,if_neg omT,if_neg omT];exact h.exi i
 ·rw [hs]
  unfold k5h
  by_cases he:i = ss.length
  ·rw [if_pos he,if_neg omT,if_neg omT,if_pos omT];exact h3
  ·rw [if_neg he,if_neg omT,if_neg omT,if_neg omT];exact h.trs i
theorem k9v {s:St} {e x t:Value}:q1t (ss ++ [s]) 0 (k5h rv ss.length e x t) = q1t ss 0 rv ++ stC s e x t:=by
 rw [q9h,j4r ss 0 (k5h rv ss.length e x t) rv fun a ha=>by
  unfold k5h
  rw [if_neg omT,if_neg omT,if_neg omT]]
 unfold k5h
 rw [if_pos omT,if_neg omT,if_pos omT,if_neg omT,if_neg omT,if_pos omT]
theorem z1u (h:ChV τ B w c rv vv sv) (hb:Below w.heap.size w w'):ChV τ B w' c rv vv sv :=
 ⟨z0a h.vars hb,z0a h.sts hb,fun i=>z1c (z1q hb) (h.ent i) fun _ _ k=>z0a k hb,fun i=>z1c (z1q hb) (h.exi i) fun _ _ k=>z0a k hb,fun i=>z4x (z1q hb) (h.trs i) fun _ _ k=>z0a k hb⟩
theorem q6a (h:ChV τ B w c rv vv sv):∃ va vc sa sc,vv = .slice va c.vars.length vc ∧ sv = .slice sa c.states.length sc:=by
 obtain ⟨va,vc,rfl⟩:=z0g h.vars
 obtain ⟨sa,sc,rfl⟩:=z0g h.sts
 exact ⟨va,vc,sa,sc,rfl,rfl⟩
theorem j8f {va:Option Addr} {n vc:Nat} (h:ChV τ B w c rv (.slice va n vc) sv) (i:Nat) (hi:i < c.vars.length):∃ g,va = some ⟨g,0,none⟩ ∧ g < w.heap.size ∧ w.cell? ⟨g,i * 4,none⟩ = some (str c.vars[i].name) ∧ w.cell? ⟨g,i * 4 + 1,none⟩ = some (.int .i64 c.vars[i].vk) ∧ w.cell? ⟨g,i * 4 + 2,none⟩ = some (.int .i64 c.vars[i].vn) ∧ w.cell? ⟨g,i * 4 + 3,none⟩ = some (str c.vars[i].vs):=by
 obtain ⟨g,cap',e,hg,_,_,hc⟩:=z1g h.vars omT
 cases e
 exact ⟨g,rfl,hg,hc _ _ (q9r _ i hi 0 deT),hc _ _ (q9r _ i hi 1 deT),hc _ _ (q9r _ i hi 2 deT),hc _ _ (q9r _ i hi 3 deT)⟩
theorem z8h {sa:Option Addr} {n sc:Nat} (h:ChV τ B w c rv vv (.slice sa n sc)) (i:Nat) (hi:i < c.states.length):∃ g eo ec xo xc to' tc,sa = some ⟨g,0,none⟩ ∧ g < w.heap.size ∧ w.cell? ⟨g,i * 7,none⟩ = some (str c.states[i].name) ∧ w.cell? ⟨g,i * 7 + 1,none⟩ = some (.int .i64 c.states[i].kind) ∧ w.cell? ⟨g,i * 7 + 2,none⟩ = some (.int .i64 c.states[i].parent) ∧ w.cell? ⟨g,i * 7 + 3,none⟩ = some (str c.states[i].start) ∧
  w.cell? ⟨g,i * 7 + 4,none⟩ = some (.slice eo c.states[i].enter.length ec) ∧ w.cell? ⟨g,i * 7 + 5,none⟩ = some (.slice xo c.states[i].exit.length xc) ∧ w.cell? ⟨g,i * 7 + 6,none⟩ = some (.slice to' c.states[i].trans.length tc) ∧
  z2i τ B w (.slice eo c.states[i].enter.length ec) c.states[i].enter ∧ z2i τ B w (.slice xo c.states[i].exit.length xc) c.states[i].exit ∧ z9m τ B w (.slice to' c.states[i].trans.length tc) c.states[i].trans:=by
 obtain ⟨g,cap',e,hg,_,_,hc⟩:=z1g h.sts omT
 cases e
 have hd:c.states.getD i st0 = c.states[i]:=by simp [List.getD,hi]
 have k1:=h.ent i
 have k2:=h.exi i
 have k3:=h.trs i
 rw [hd] at k1 k2 k3
 obtain ⟨eo,ec,he⟩:=z3t k1
 obtain ⟨xo,xc,hx⟩:=z3t k2
 obtain ⟨to',tc,ht⟩:=j2j k3
 rw [he] at k1
 rw [hx] at k2
 rw [ht] at k3
 have hat:∀ j,j < 7 → ∀ u,(stC c.states[i] (rv (3 * i)) (rv (3 * i + 1)) (rv (3 * i + 2)))[j]? = some u → w.cell? ⟨g,i * 7 + j,none⟩ = some u:=fun j hj u hu=>hc _ _ (by rw [q2h _ _ _ i hi j hj,Nat.zero_add];exact hu)
 exact ⟨g,eo,ec,xo,xc,to',tc,rfl,hg,hat 0 deT _ rfl,hat 1 deT _ rfl,hat 2 deT _ rfl,hat 3 deT _ rfl,hat 4 deT _ (by rw [← he];rfl),hat 5 deT _ (by rw [← hx];rfl),hat 6 deT _ (by rw [← ht];rfl),k1,k2,k3⟩
end
theorem z3p {w:World} {b:Nat} {t:TypeId} {v0 v1 v2:Value} (h:w.heap[b]? = some (.cells #[v0,v1,v2] t (0,0))) :
  w.cell? ⟨b,0,none⟩ = some v0 ∧ w.cell? ⟨b,1,none⟩ = some v1 ∧ w.cell? ⟨b,2,none⟩ = some v2 ∧ b < w.heap.size ∧ ∀ i,w.frozen? ⟨b,i,none⟩ = false:=by
 refine ⟨?_,?_,?_,lt_of_block h,fun i=>frozen_of_row w b i _ _ h⟩
 all_goals
  rw [cell_of_row w b _ _ _ _ h]
  rfl
abbrev xB (nm:List UInt8) (vv sv:Value):Obj := .cells #[str nm,vv,sv] 31 (0,0)
theorem v3i (p:Regrown) (X:World) (o:Obj):Below (G p X).heap.size (G p X) ((G p X).alloc o):=(Below.refl _ _).alloc (Nat.le_refl _) _
theorem v3j (p q:Regrown) (X:World) (o:Obj):Below (G p X).heap.size (G p X) ((G (pq q p) X).alloc o):=by
 rw [← G_G]
 exact (z1e q _).alloc (z1e q _).size _
theorem v3k (p q r:Regrown) (X:World) (o:Obj):Below (G p X).heap.size (G p X) ((G (pq r (pq q p)) X).alloc o):=by
 rw [← G_G,← G_G]
 have h:=(z1e q (G p X)).trans ((z1e r (G q (G p X))).mono (z1e q (G p X)).size)
 exact h.alloc h.size _
theorem v5e {A B B3 B4 B5 xb a0 a1 i g' cap' n oc:Nat} {ob:Option Addr} {wx W W3 W4 W5 w1:World} {ss:List St} {s:St} {rv':Nat → Value} {e x t vv:Value} {vs5 vs:List Value} {nm:List UInt8} {cs0 cs1:Array Value} {t0 t1:TypeId}
  (hbW:Below wx.heap.size wx W) (h3:z2i ct1 B3 W3 e s.enter) (b3:Below W3.heap.size W3 W) (z3:B ≤ B3) (h4:z2i ct1 B4 W4 x s.exit) (b4:Below W4.heap.size W4 W) (z4:B ≤ B4)
  (h5:Vs (TrR ct1 B W5) s.trans vs5) (k5:W5.ownsRow B5 ct1.tr 5 t s.trans.length vs5) (b5:Below W5.heap.size W5 W) (z5:B ≤ B5)
  (hO:wx.ownsRow A ct1.st 7 (.slice ob i oc) i (q1t ss 0 rv')) (hR:RowsR ct1 B wx ss rv') (hV:wx.ownsRow A ct1.vr 4 vv n vs) (hx:wx.heap[xb]? = some (xB nm vv (.slice ob i oc)))
  (q0:wx.heap[a0]? = some (.cells cs0 t0 (0,0))) (q1:wx.heap[a1]? = some (.cells cs1 t1 (0,0))) (n0:t0 ≠ ct1.st) (n1:t1 ≠ ct1.st) (d0:a0 ≠ xb) (d1:a1 ≠ xb)
  (hg:W.grownBy w1 (Value.slice ob i oc).ownBlock) (hown:w1.ownsRow A ct1.st 7 (.slice (some ⟨g',0,none⟩) (i + 1) cap') (i + 1) (q1t ss 0 rv' ++ stC s e x t)) :
  (w1.setCell ⟨xb,2,none⟩ (.slice (some ⟨g',0,none⟩) (i + 1) cap')).heap[xb]? = some (xB nm vv (.slice (some ⟨g',0,none⟩) (i + 1) cap')) ∧
  (w1.setCell ⟨xb,2,none⟩ (.slice (some ⟨g',0,none⟩) (i + 1) cap')).ownsRow A ct1.st 7 (.slice (some ⟨g',0,none⟩) (i + 1) cap') (i + 1) (q1t (ss ++ [s]) 0 (k5h rv' ss.length e x t)) ∧
  RowsR ct1 B (w1.setCell ⟨xb,2,none⟩ (.slice (some ⟨g',0,none⟩) (i + 1) cap')) (ss ++ [s]) (k5h rv' ss.length e x t) ∧
  (w1.setCell ⟨xb,2,none⟩ (.slice (some ⟨g',0,none⟩) (i + 1) cap')).ownsRow A ct1.vr 4 vv n vs ∧
  (w1.setCell ⟨xb,2,none⟩ (.slice (some ⟨g',0,none⟩) (i + 1) cap')).heap[a0]? = some (.cells cs0 t0 (0,0)) ∧
  (w1.setCell ⟨xb,2,none⟩ (.slice (some ⟨g',0,none⟩) (i + 1) cap')).heap[a1]? = some (.cells cs1 t1 (0,0)):=by
 have hO2:=z0a hO hbW
 have T:∀ {e':TypeId},e' ≠ ct1.st → Tp B B W w1 e':=fun hne=>z1l hO2 hne hg
 have F:Fx ct1 B B W w1:=⟨T deT,T deT,T deT⟩
 have hbx:=z0h hO2 (z0c hx hbW) deT hg
 have S:∀ {e':TypeId} {B':Nat},31 ≠ e' → Tp B' B' w1 (w1.setCell ⟨xb,2,none⟩ (.slice (some ⟨g',0,none⟩) (i + 1) cap')) e':=fun hne=>z1m hbx hne
 have FS:Fx ct1 B B w1 (w1.setCell ⟨xb,2,none⟩ (.slice (some ⟨g',0,none⟩) (i + 1) cap')):=⟨S deT,S deT,S deT⟩
 have base:∀ {B':Nat} {w:World},B ≤ B' → Fx ct1 B' B w w:=fun h=>z9q h
 have e3:z2i ct1 B w1 e s.enter:=z1c F (z1c (z1q b3) (z1c (base z3) h3 fun _ _ k=>z0m k z3) fun _ _ k=>z0a k b3) fun _ _ k=>T deT _ _ _ _ k
 have e4:z2i ct1 B w1 x s.exit:=z1c F (z1c (z1q b4) (z1c (base z4) h4 fun _ _ k=>z0m k z4) fun _ _ k=>z0a k b4) fun _ _ k=>T deT _ _ _ _ k
 have e5:z9m ct1 B w1 t s.trans:=⟨vs5,z3h (z3h h5 fun _ _=>q1u (z1q b5)) fun _ _=>q1u F,T deT _ _ _ _ (z0a (z0m k5 z5) b5)⟩
 have hR2:=y6x (q6n (q6n hR (z1q hbW) (z9c hbW) (z9c hbW)) F (T deT) (T deT)) e3 e4 e5
 refine ⟨z0l hbx,?_,q6n hR2 FS (S deT) (S deT),S deT _ _ _ _ (z1l hO2 (show ct1.vr ≠ ct1.st by decide) hg _ _ _ _ (z0a hV hbW)),z0i (z0h hO2 (z0c q0 hbW) n0 hg) d0,z0i (z0h hO2 (z0c q1 hbW) n1 hg) d1⟩
 rw [k9v]
 exact S deT _ _ _ _ hown
abbrev k8r (w:World) (b:Nat) (v0 v1 v2:Value):World:=((w.setCell ⟨b,0,none⟩ v0).setCell ⟨b,1,none⟩ v1).setCell ⟨b,2,none⟩ v2
theorem v0h {B b:Nat} {w:World} {cs:Array Value} {t e:TypeId} {v0 v1 v2:Value} (h:w.heap[b]? = some (.cells cs t (0,0))) (hne:t ≠ e):Tp B B w (k8r w b v0 v1 v2) e:=fun _ _ _ _ k =>
 z1m (z0l (z0l h)) hne _ _ _ _ (z1m (z0l h) hne _ _ _ _ (z1m h hne _ _ _ _ k))
theorem v9d {A B b:Nat} {w:World} {c:Ch} {rv:Nat → Value} {vv sv v0 v1 v2:Value} {cs:Array Value} (h:w.heap[b]? = some (.cells cs 31 (0,0))) (hA:B ≤ A) (hO:w.ownsRow A ct1.st 7 sv c.states.length (q1t c.states 0 rv)) (hR:RowsR ct1 B w c.states rv) (hV:w.ownsRow A ct1.vr 4 vv c.vars.length (j0g c.vars)) :
  ChV ct1 B (k8r w b v0 v1 v2) c rv vv sv:=by
 have T:∀ {e:TypeId},31 ≠ e → Tp B B w (k8r w b v0 v1 v2) e:=fun hne=>v0h h hne
 have F:Fx ct1 B B w (k8r w b v0 v1 v2):=⟨T deT,T deT,T deT⟩
 have R:=q6n hR F (T deT) (T deT)
 exact ⟨T deT _ _ _ _ (z0m hV hA),T deT _ _ _ _ (z0m hO hA),R.ent,R.exi,R.trs⟩
end Go.Proofs.YtacnlghljmgdiaaGreatDoor
namespace Go.Proofs.YtacnlghljmgdiaaGreatDoor
section
variable {P:Program} {ops:Array Oper} {Q:Exit → Act → World → Prop} {md:Region.Mode} {S:World → Prop} {n:Nat}
def z5a (P:Program) (md:Region.Mode) (ops:Array Oper) (Q:Exit → Act → World → Prop) (S:World → Prop) (n:Nat):Nat → Array Bool → Act → World → Prop
 | 0,listed,a,w=>Region.ready md ops listed = [] ∧ Q .normal a w
 | fuel + 1,listed,a,w=>(Region.ready md ops listed = [] → Q .normal a w) ∧
  ∀ i,i ∈ Region.ready md ops listed → wpOp P ops Q i (fun a' w'=>(i ≠ n → S w') ∧ z5a P md ops Q S n fuel (listed.setIfInBounds i true) a' w') a w
theorem q4z:∀ (fuel:Nat) (listed:Array Bool) (a:Act) (w:World),z5a P md ops Q S n fuel listed a w → wpAny P md ops Q fuel listed a w
 | 0,_,_,_,h=>h
 | fuel + 1,_,_,_,h=>⟨h.1,fun i hi=>wpOp_mono (fun a' w' k=>q4z fuel _ a' w' k.2) (h.2 i hi)⟩
def k1b (md:Region.Mode) (ops:Array Oper) (n:Nat) (listed:Array Bool):Bool :=
 Region.sinkB md ops n && Region.chainB md ops n && decide (ops.size = n + 1) && decide (listed.size = ops.size) && !listed.getD n true &&
 (List.range ops.size).all fun j => !listed.getD j false || (match ops[j]? with
  | some o=>o.after.all fun e => !Region.binds md e || listed.getD e.on false
  | none=>true)
theorem k1c {listed:Array Bool} (h:k1b md ops n listed = true):Region.sinkB md ops n = true ∧ Region.chainB md ops n = true ∧ n < ops.size ∧ HeadInv md ops n listed:=by
 unfold k1b at h
 simp only [Bool.and_eq_true,decide_eq_true_eq,Bool.not_eq_true',List.all_eq_true,List.mem_range,Bool.or_eq_true] at h
 obtain ⟨⟨⟨⟨⟨h1,h2⟩,h3⟩,h4⟩,h5⟩,h6⟩:=h
 refine ⟨h1,h2,by omega,⟨h4,fun j o hj hl e he hb=>?_,fun t ht ht'=>?_⟩⟩
 ·have hjs:j < ops.size:=(Array.getElem?_eq_some_iff.1 hj).1
  rcases h6 j hjs with h7 | h7
  ·rw [hl] at h7;cases h7
  ·rw [hj] at h7
   simp only [Array.all_eq_true_iff_forall_mem,Bool.or_eq_true,Bool.not_eq_true'] at h7
   rcases h7 e he with h8 | h8
   ·rw [hb] at h8;cases h8
   ·exact h8
 ·obtain rfl:t = n:=by omega
  exact h5
theorem j8j {i:Nat} {oi:Oper} {v:Value} (hi:ops[i]? = some oi) (hsel:∀ (j:Nat) (o:Oper) cs b,ops[j]? = some o → o.op ≠ .select cs b)
  (hQ:∀ c a w,Q (.panic c) (a.put oi.dst v) w → Q (.panic c) a w) (hs:Region.sinkB md ops n = true) (hc:Region.chainB md ops n = true) (hn:n < ops.size) (hin:i < n) :
  ∀ (fuel:Nat) (listed:Array Bool) (a:Act) (w:World),HeadInv md ops n listed →
   (∀ j oj,ops[j]? = some oj → j ≠ i → listed.getD j true = false → (∀ e ∈ oj.after,Region.binds md e = true → e.on ≠ i) → oi.apart ops oj = true) →
   i ∈ Region.ready md ops listed → YieldsIf P ops S oi v a → S w →
   z5a P md ops Q S n fuel (listed.setIfInBounds i true) (a.put oi.dst v) w → z5a P md ops Q S n (fuel + 1) listed a w:=by
 intro fuel
 induction fuel with
 | zero =>
  intro listed a w _ _ hr hy hS H
  refine ⟨fun h=>(by rw [h] at hr;cases hr),fun j hj=>?_⟩
  by_cases hji:j = i
  ·subst hji
   exact hy.wpOp hi hS ⟨fun _=>hS,H⟩
  ·have:=ready_mono hj hji
   rw [H.1] at this
   cases this
 | succ fuel ih =>
  intro listed a w inv hfree hr hy hS H
  refine ⟨fun h=>(by rw [h] at hr;cases hr),fun j hj=>?_⟩
  by_cases hji:j = i
  ·subst hji
   exact hy.wpOp hi hS ⟨fun _=>hS,H⟩
  ·have hun:=(mem_ready.1 hr).1
   have hjn:j < n:=by
    rcases Nat.lt_or_ge j n with h | h
    ·exact h
    ·exact absurd hj (tail_waits hs hc hn inv _ i rfl hin hun j h)
   have h1:=H.2 j (ready_mono hj hji)
   obtain ⟨hjun,oj,hoj,hall⟩:=mem_ready.1 hj
   have hnot:∀ e ∈ oj.after,Region.binds md e = true → e.on ≠ i:=fun e he hb heq=>by
    have h2:=hall e he hb
    rw [heq,getD_both hun] at h2
    cases h2
   have h2:=wpOp_putIf hoj (hfree j oj hoj hji hjun hnot) (fun cs b=>hsel i oi cs b hi) (fun cs b=>hsel j oj cs b hoj) hQ hy h1
   refine wpOp_mono (fun a' w' h3=>⟨fun hne=>h3.2.1 hne,?_⟩) h2
   refine ih (listed.setIfInBounds j true) a' w' (inv.set hj hjn) (fun k ok hk hki hunk hno=>?_) (ready_mono hr (Ne.symm hji)) h3.1 (h3.2.1 omT) ?_
   ·refine hfree k ok hk hki ?_ hno
    by_cases hjk:j = k
    ·subst hjk;exact hjun
    ·rw [getD_set_ne true hjk] at hunk;exact hunk
   ·rw [Array.setIfInBounds_comm _ _ hji]
    exact h3.2.2
theorem y1m {i:Nat} {oi:Oper} {v:Value} {fuel:Nat} {listed:Array Bool} {a:Act} {w:World} (hi:ops[i]? = some oi) (hs:Region.noSelect ops = true) (hf:Region.free md ops listed i = true) (hr:(Region.ready md ops listed).contains i = true)
  (hl:(k1b md ops n listed && decide (i < n)) = true) (hQ:∀ c a w,Q (.panic c) (a.put oi.dst v) w → Q (.panic c) a w) (hy:YieldsIf P ops S oi v a) (hS:S w)
  (h:z5a P md ops Q S n fuel (listed.setIfInBounds i true) (a.put oi.dst v) w):z5a P md ops Q S n (fuel + 1) listed a w:=by
 rw [Bool.and_eq_true,decide_eq_true_eq] at hl
 obtain ⟨k1,k2,k3,k4⟩:=k1c hl.1
 exact j8j hi (Region.noSelect_spec hs) hQ k1 k2 k3 hl.2 fuel listed a w k4 (Region.free_spec hi hf) (by simpa using hr) hy hS h
theorem z0t {i d:Nat} {oi:Oper} {v:Value} {fuel:Nat} {listed:Array Bool} {tmps:Array Value} {defs:_} {w:World} (hi:ops[i]? = some oi) (hd:oi.dst = some d) (hs:Region.noSelect ops = true) (hf:Region.free md ops listed i = true) (hr:(Region.ready md ops listed).contains i = true)
  (hl:(k1b md ops n listed && decide (i < n)) = true) (hQ:∀ c a w,Q (.panic c) (a.put oi.dst v) w → Q (.panic c) a w) (hy:YieldsIf P ops S oi v ⟨tmps,defs⟩) (hS:S w)
  (h:z5a P md ops Q S n fuel (listed.setIfInBounds i true) ⟨tmps.setIfInBounds d v,defs⟩ w):z5a P md ops Q S n (fuel + 1) listed ⟨tmps,defs⟩ w:=by
 refine y1m hi hs hf hr hl hQ hy hS ?_
 rw [hd]
 exact h
theorem z0f {t:Nat} {o:Oper} {fuel:Nat} {listed:Array Bool} {a:Act} {w:World} (hr:Region.ready md ops listed = [t]) (ho:ops[t]? = some o) (hg:o.guard = none)
  (h:∀ K':Act → World → Prop,RowKit.Hid (∀ a' w',(t ≠ n → S w') → ((t ≠ n → S w') → z5a P md ops Q S n fuel (listed.setIfInBounds t true) a' w') → K' a' w') → Oper.wp P o a w K' Q):z5a P md ops Q S n (fuel + 1) listed a w:=by
 refine ⟨fun h0=>(by rw [hr] at h0;cases h0),fun j hj=>?_⟩
 rw [hr,List.mem_singleton] at hj
 subst hj
 refine wpOp_step ho fun K' hK=>?_
 have hw:Region.wanted o (yielded ops a.tmps) = true:=by
  unfold Region.wanted
  rw [hg]
 rw [if_pos hw]
 exact h K' fun a' w' h1 h2=>hK a' w' ⟨h1,h2 h1⟩
theorem z2w {t d:Nat} {o:Oper} {fuel:Nat} {listed:Array Bool} {tmps:Array Value} {defs:_} {w:World} (hr:Region.ready md ops listed = [t]) (ho:ops[t]? = some o) (hd:o.dst = some d) (hg:o.guard = none)
  (h:∀ K':Act → World → Prop,RowKit.Hid (∀ v w',(t ≠ n → S w') → ((t ≠ n → S w') → z5a P md ops Q S n fuel (listed.setIfInBounds t true) ⟨tmps.setIfInBounds d v,defs⟩ w') → K' (Act.put ⟨tmps,defs⟩ o.dst v) w') → Oper.wp P o ⟨tmps,defs⟩ w K' Q):z5a P md ops Q S n (fuel + 1) listed ⟨tmps,defs⟩ w:=by
 refine z0f hr ho hg fun K' hK=>h K' fun v w' h1 h2=>hK _ _ h1 fun h3=>?_
 rw [hd]
 exact h2 h3
theorem z1j {fuel:Nat} {listed:Array Bool} {a:Act} {w:World} (hr:Region.ready md ops listed = []) (h:Q .normal a w):z5a P md ops Q S n fuel listed a w:=by
 cases fuel with
 | zero=>exact ⟨hr,h⟩
 | succ f=>exact ⟨fun _=>h,fun i hi=>(by rw [hr] at hi;cases hi)⟩
theorem z1n {id:Nat} {a:Act} {w:World} (n:Nat) (hm:P.follows .mixedOrders = true) (hS:S w.drew) (h:S w.drew → z5a P .any ops Q S n ops.size (Array.replicate ops.size false) a w.drew):(Code.region id ops true).wp P Q a w :=
 wp_region_any hm (q4z _ _ _ _ (h hS))
end
end Go.Proofs.YtacnlghljmgdiaaGreatDoor
namespace Go.Proofs.YtacnlghljmgdiaaGreatDoor
open Go.RowKit
def k5m (B:Nat) (c:Ch) (w:World) (e:Ending) (w':World):Prop:=∃ rv vv sv,e = .returned (.agg #[str c.name,vv,sv]) ∧ ChV ct1 B w' c rv vv sv ∧ Below w.heap.size w w'
set_option maxRecDepth 100000 in
set_option maxHeartbeats 4000000 in
theorem y5x {B:Nat} (c:Ch) (rv:Nat → Value) (vv sv:Value) (hvs:c.vars.length ≤ 16) (hss:c.states.length ≤ 49) (hlen:∀ i,i < c.states.length → (c.states.getD i st0).enter.length ≤ 8 ∧ (c.states.getD i st0).exit.length ≤ 8 ∧ (c.states.getD i st0).trans.length ≤ 96) (hsm:q1n c) (w:World) (hBw:B ≤ w.heap.size) (h:ChV ct0 B w c rv vv sv) :
  Calls Tryz.prog 20 #[.agg #[str c.name,vv,sv]] w (k5m B c w):=by
 obtain ⟨va,vc,sa,sc,rfl,rfl⟩:=q6a h
 have H:=hiT (fun wx (hb:Below w.heap.size w wx)=>z1u h hb)
 clear h
 go_enter Tryz.func20,Tryz.ntmps20
 go_wp2
 obtain ⟨W0,hW0⟩:∃ W0,((w.alloc (.cells #[str c.name,.slice va c.vars.length vc,.slice sa c.states.length sc] 72)).alloc (.cells #[.string ⟨#[]⟩,.slice none 0 0,.slice none 0 0] 31)).alloc (.cells #[str c.name,.slice none 0 0,.slice none 0 0] 31) = W0:=⟨_,rfl⟩
 have q0:W0.heap[w.heap.size]? = some (.cells #[str c.name,.slice va c.vars.length vc,.slice sa c.states.length sc] 72 (0,0)):=by
  rw [← hW0]
  exact z0j (z0j (heap_alloc_new w _))
 have q1:W0.heap[w.heap.size + 1]? = some (.cells #[.string ⟨#[]⟩,.slice none 0 0,.slice none 0 0] 31 (0,0)):=by
  rw [← hW0]
  exact z0j (z0s (by simp))
 have q2:W0.heap[w.heap.size + 1 + 1]? = some (xB c.name (.slice none 0 0) (.slice none 0 0)):=by
  rw [← hW0]
  exact z0s (by simp)
 have hb0:Below w.heap.size w W0:=by rw [← hW0];exact gzT
 rw [hW0]
 clear hW0
 generalize hx2:w.heap.size + 1 + 1 = xb at *
 generalize hx1:w.heap.size + 1 = rb at *
 obtain ⟨j0,hj,hy1,hy2,hy3⟩:=info_parts Tryz.infoMV
 go_loopw [14] (fun x wr=>∃ (i:Nat) (oa:Option Addr) (oc:Nat),x = .int .i64 (i:Int) ∧ i ≤ c.vars.length ∧ wr.heap[xb]? = some (xB c.name (.slice oa i oc) (.slice none 0 0)) ∧ wr.ownsRow w.heap.size ct1.vr 4 (.slice oa i oc) i (j0g (c.vars.take i)) ∧ wr.heap[w.heap.size]? = some (.cells #[str c.name,.slice va c.vars.length vc,.slice sa c.states.length sc] 72 (0,0)) ∧ wr.heap[rb]? = some (.cells #[.string ⟨#[]⟩,.slice none 0 0,.slice none 0 0] 31 (0,0)) ∧ Below w.heap.size w wr) (fun x _=>c.vars.length - (intOf x).toNat)
 case atStart=>exact ⟨0,none,0,rfl,Nat.zero_le _,q2,World.ownsRow_nil _ _ _ _,q0,q1,hb0⟩
 case round =>
  obtain ⟨i,oa,oc,rfl,hi,hx,hO,hq0,hq1,hb⟩:=hrel
  rename World=>wr
  have hwz:=hb.size
  obtain ⟨k0,k1,k2,kl,kf⟩:=z3p hx
  have f1:=kf 1
  have i1:InW xb wr:=⟨kl⟩
  have htop:w.heap.size ≤ wr.heap.size:=hwz
  by_cases hlt:i < c.vars.length
  ·obtain ⟨g,rfl,hg,n1,n2,n3,n4⟩:=j8f (H.out wr hb) i hlt
   have htk:c.vars.take (i + 1) = c.vars.take i ++ [c.vars[i]]:=by rw [List.take_add_one,List.getElem?_eq_getElem hlt];rfl
   obtain ⟨v,hv⟩:∃ v,c.vars[i] = v:=⟨_,rfl⟩
   rw [hv] at n1 n2 n3 n4 htk
   replace htk:=hiT htk
   have i2:InW g wr:=⟨hg⟩
   have hI:(i:Int) < (c.vars.length:Int):=by omega
   have hOk:=hiT hO
   have hxk:=hiT hx
   have hq0k:=hiT hq0
   have hq1k:=hiT hq1
   clear hv hO hx hq0 hq1 kf
   go_wp2_with (at_builtin;refine wpList_append_lies _ rfl _ _ 28 rfl w.heap.size 111 j0 _ 4 48 Tryz.underlying28 hj hy1 hy2 hy3 rfl deT (.slice oa i oc) i (j0g (c.vars.take i)) rfl (z0a hOk.out gzT) ⟨_,0,none⟩ 1 1 (vrC v) rfl rfl (World.news_of_block (z0s (by simp))) (by intro u hu;simp [vrC] at hu;rcases hu with rfl | rfl | rfl | rfl <;> rfl) deT (by unfold maxLen;omega) omT (Nat.le_trans hwz (Below.size (B:=wr.heap.size) (w:=wr) gzT)) _ rfl ?_)
   intro g' cap' w1 hown1 hgrow hat1 hg1
   have hbx:=z0h (z0a hOk.out gzT) (z0c hxk.out gzT) deT hgrow
   have hb0':=z0h (z0a hOk.out gzT) (z0c hq0k.out gzT) deT hgrow
   have hb1':=z0h (z0a hOk.out gzT) (z0c hq1k.out gzT) deT hgrow
   obtain ⟨k0,k1,k2,kl,kf⟩:=z3p hbx
   have f1:=kf 1
   have i3:InW xb w1:=⟨kl⟩
   have hb1:Below w.heap.size w w1:=Below.grown (hb.trans (Below.mono (B:=wr.heap.size) gzT hwz)) hgrow (Nat.le_trans hwz (Below.size (B:=wr.heap.size) (w:=wr) gzT)) (fun k hk=>(hOk.out.lt k hk).1)
   have hown2:=hiT hown1
   clear hown1 hgrow hat1 hg1 kf
   go_wp2
   go_roundw
   case rel =>
    refine ⟨i + 1,_,cap',by go_num,by omega,z0l hbx,?_,z0i hb0' omT,z0i hb1' omT,hb1.setCell (p:=⟨xb,1,none⟩) (show w.heap.size ≤ xb by omega) _⟩
    rw [htk.out,j8h]
    exact z1m hbx deT _ _ _ _ hown2.out
   case measure=>simp [intOf];omega
  ·obtain rfl:i = c.vars.length:=by omega
   rw [List.take_length] at hO
   have hI:¬ (c.vars.length:Int) < (c.vars.length:Int):=by omega
   obtain ⟨u0,u1,u2,ul,uf⟩:=z3p hq0
   have i2:InW w.heap.size wr:=⟨ul⟩
   obtain ⟨j1,hj1,hs1,hs2,hs3⟩:=info_parts Tryz.infoMS
   have hOk:=hiT hO
   have hxk:=hiT hx
   have hq0k:=hiT hq0
   have hq1k:=hiT hq1
   clear hO hx hq0 hq1 kf uf u0 u1 k0 k1 k2 f1 hi q0 q1 q2 hb0 hj hy1 hy2 hy3
   go_wp2
   go_loopw [32] (fun x wx=>∃ (i:Nat) (ob:Option Addr) (oc':Nat) (rv':Nat → Value),x = .int .i64 (i:Int) ∧ i ≤ c.states.length ∧ wx.heap[xb]? = some (xB c.name (.slice oa c.vars.length oc) (.slice ob i oc')) ∧ wx.ownsRow w.heap.size ct1.st 7 (.slice ob i oc') i (q1t (c.states.take i) 0 rv') ∧ RowsR ct1 B wx (c.states.take i) rv' ∧ wx.ownsRow w.heap.size ct1.vr 4 (.slice oa c.vars.length oc) c.vars.length (j0g c.vars) ∧ wx.heap[w.heap.size]? = some (.cells #[str c.name,.slice va c.vars.length vc,.slice sa c.states.length sc] 72 (0,0)) ∧ wx.heap[rb]? = some (.cells #[.string ⟨#[]⟩,.slice none 0 0,.slice none 0 0] 31 (0,0)) ∧ Below w.heap.size w wx) (fun x _=>c.states.length - (intOf x).toNat)
   case atStart=>exact ⟨0,none,0,fun _ => .slice none 0 0,rfl,Nat.zero_le _,hxk.out,World.ownsRow_nil _ _ _ _,k3d,hOk.out,hq0k.out,hq1k.out,hb⟩
   case round =>
    obtain ⟨i,ob,oc',rv',rfl,hi,hx,hO,hR,hV,hq0,hq1,hb⟩:=hrel
    rename World=>wx
    have hwx:=hb.size
    obtain ⟨k0,k1,k2,kl,kf⟩:=z3p hx
    have f2:=kf 2
    have i1:InW xb wx:=⟨kl⟩
    by_cases hlt:i < c.states.length
    ·obtain ⟨g,eo,ec,xo,xc,to',tc,rfl,hg,n1,n2,n3,n4,n5,n6,n7,hE,hX,hT⟩:=z8h (H.out wx hb) i hlt
     have htk:c.states.take (i + 1) = c.states.take i ++ [c.states[i]]:=by rw [List.take_add_one,List.getElem?_eq_getElem hlt];rfl
     have hcl:(c.states.take i).length = i:=by rw [List.length_take];omega
     obtain ⟨l1,l2,l3⟩:=hlen i hlt
     obtain ⟨m1,m2,m3⟩:=hsm _ (List.getElem_mem hlt)
     rw [z9r hlt] at l1 l2 l3
     obtain ⟨s,hsv⟩:∃ s,c.states[i] = s:=⟨_,rfl⟩
     rw [hsv] at n1 n2 n3 n4 n5 n6 n7 hE hX hT htk l1 l2 l3 m1 m2 m3
     have N1:=hiT (fun wy (hk:Below wx.heap.size wx wy)=>q7y eo ec s.enter omT m1 wy (z1c (z1q hk) hE fun _ _ k=>z0a k hk))
     have N2:=hiT (fun wy (hk:Below wx.heap.size wx wy)=>q7y xo xc s.exit omT m2 wy (z1c (z1q hk) hX fun _ _ k=>z0a k hk))
     have N3:=hiT (fun wy (hk:Below wx.heap.size wx wy)=>y5y to' tc s.trans omT m3 wy (Nat.le_trans hBw (Nat.le_trans hwx hk.size)) (z4x (z1q hk) hT fun _ _ k=>z0a k hk))
     replace htk:=hiT htk
     replace hcl:=hiT hcl
     have i2:InW g wx:=⟨hg⟩
     have hI:(i:Int) < (c.states.length:Int):=by omega
     have hOx:=hiT hO
     have hRx:=hiT hR
     have hVx:=hiT hV
     have hxx:=hiT hx
     have hq0x:=hiT hq0
     have hq1x:=hiT hq1
     clear hO hR hV hx hq0 hq1 kf hE hX hT l1 l2 l3 m1 m2 m3 hsv
     go_wp2_with fail
     refine wp_region_noPanic ?_
     refine z1n (S:=(fun w'=>w'.cell? ⟨wx.heap.size,0,none⟩ = some (str s.name) ∧ w'.cell? ⟨wx.heap.size,1,none⟩ = some (.int .i64 s.kind) ∧ w'.cell? ⟨wx.heap.size,2,none⟩ = some (.int .i64 s.parent) ∧ w'.cell? ⟨wx.heap.size,3,none⟩ = some (str s.start) ∧ w'.cell? ⟨wx.heap.size,4,none⟩ = some (.slice eo s.enter.length ec) ∧ w'.cell? ⟨wx.heap.size,5,none⟩ = some (.slice xo s.exit.length xc) ∧ w'.cell? ⟨wx.heap.size,6,none⟩ = some (.slice to' s.trans.length tc) ∧ w'.cell? ⟨xb,2,none⟩ = some (.slice ob i oc'))) 23 krT (by (refine ⟨?_,?_,?_,?_,?_,?_,?_,?_⟩ <;> first | assumption | (rw [z1f];assumption) | (rw [z0p];assumption) | (simp [go_sem, *];done))) (fun hS=>?_)
     have hT:=hS
     (try dsimp only at hT)
     obtain ⟨s0,s1,s2,s3,s4,s5,s6,s7⟩:=hT
     refine z0t (i:=0) (v:=?_) rfl rfl krT krT krT krT (fun _ _ _ h=>h) (Or.inl ⟨by rfl,?_⟩) (by assumption) ?_
     rotate_left
     ·intro w hSw
      (try dsimp only at hSw)
      go_simp
      with_reducible rfl
     simp only [List.setIfInBounds_toArray,List.set_cons_zero,List.set_cons_succ]
     refine z0t (i:=1) (v:=?_) rfl rfl krT krT krT krT (fun _ _ _ h=>h) (Or.inl ⟨by rfl,?_⟩) (by assumption) ?_
     rotate_left
     ·intro w hSw
      (try dsimp only at hSw)
      go_simp
      with_reducible rfl
     simp only [List.setIfInBounds_toArray,List.set_cons_zero,List.set_cons_succ]
     refine z0t (i:=2) (v:=?_) rfl rfl krT krT krT krT (fun _ _ _ h=>h) (Or.inl ⟨by rfl,?_⟩) (by assumption) ?_
     rotate_left
     ·intro w hSw
      (try dsimp only at hSw)
      go_simp
      with_reducible rfl
     simp only [List.setIfInBounds_toArray,List.set_cons_zero,List.set_cons_succ]
     refine z0t (i:=3) (v:=?_) rfl rfl krT krT krT krT (fun _ _ _ h=>h) (Or.inl ⟨by rfl,?_⟩) (by assumption) ?_
     rotate_left
     ·intro w hSw
      (try dsimp only at hSw)
      go_simp
      with_reducible rfl
     simp only [List.setIfInBounds_toArray,List.set_cons_zero,List.set_cons_succ]
     refine z0t (i:=4) (v:=?_) rfl rfl krT krT krT krT (fun _ _ _ h=>h) (Or.inl ⟨by rfl,?_⟩) (by assumption) ?_
     rotate_left
     ·intro w hSw
      (try dsimp only at hSw)
      go_simp
      with_reducible rfl
     simp only [List.setIfInBounds_toArray,List.set_cons_zero,List.set_cons_succ]
     refine z0t (i:=5) (v:=?_) rfl rfl krT krT krT krT (fun _ _ _ h=>h) (Or.inl ⟨by rfl,?_⟩) (by assumption) ?_
     rotate_left
     ·intro w hSw
      (try dsimp only at hSw)
      go_simp
      with_reducible rfl
     simp only [List.setIfInBounds_toArray,List.set_cons_zero,List.set_cons_succ]
     refine z0t (i:=6) (v:=?_) rfl rfl krT krT krT krT (fun _ _ _ h=>h) (Or.inl ⟨by rfl,?_⟩) (by assumption) ?_
     rotate_left
     ·intro w hSw
      (try dsimp only at hSw)
      go_simp
      with_reducible rfl
     simp only [List.setIfInBounds_toArray,List.set_cons_zero,List.set_cons_succ]
     refine z0t (i:=7) (v:=?_) rfl rfl krT krT krT krT (fun _ _ _ h=>h) (Or.inl ⟨by rfl,?_⟩) (by assumption) ?_
     rotate_left
     ·intro w hSw
      (try dsimp only at hSw)
      go_simp
      with_reducible rfl
     simp only [List.setIfInBounds_toArray,List.set_cons_zero,List.set_cons_succ]
     refine z0t (i:=8) (v:=?_) rfl rfl krT krT krT krT (fun _ _ _ h=>h) (Or.inl ⟨by rfl,?_⟩) (by assumption) ?_
     rotate_left
     ·intro w hSw
      (try dsimp only at hSw)
      go_simp
      with_reducible rfl
     simp only [List.setIfInBounds_toArray,List.set_cons_zero,List.set_cons_succ]
     refine z0t (i:=9) (v:=?_) rfl rfl krT krT krT krT (fun _ _ _ h=>h) (Or.inl ⟨by rfl,?_⟩) (by assumption) ?_
     rotate_left
     ·intro w hSw
      (try dsimp only at hSw)
      go_simp
      with_reducible rfl
     simp only [List.setIfInBounds_toArray,List.set_cons_zero,List.set_cons_succ]
     refine z0t (i:=10) (v:=?_) rfl rfl krT krT krT krT (fun _ _ _ h=>h) (Or.inl ⟨by rfl,?_⟩) (by assumption) ?_
     rotate_left
     ·intro w hSw
      (try dsimp only at hSw)
      go_simp
      with_reducible rfl
     simp only [List.setIfInBounds_toArray,List.set_cons_zero,List.set_cons_succ]
     refine z0t (i:=11) (v:=?_) rfl rfl krT krT krT krT (fun _ _ _ h=>h) (Or.inl ⟨by rfl,?_⟩) (by assumption) ?_
     rotate_left
     ·intro w hSw
      (try dsimp only at hSw)
      go_simp
      with_reducible rfl
     simp only [List.setIfInBounds_toArray,List.set_cons_zero,List.set_cons_succ]
     refine z0t (i:=13) (v:=?_) rfl rfl krT krT krT krT (fun _ _ _ h=>h) (Or.inl ⟨by rfl,?_⟩) (by assumption) ?_
     rotate_left
     ·intro w hSw
      (try dsimp only at hSw)
      go_simp
      with_reducible rfl
     simp only [List.setIfInBounds_toArray,List.set_cons_zero,List.set_cons_succ]
     refine z0t (i:=14) (v:=?_) rfl rfl krT krT krT krT (fun _ _ _ h=>h) (Or.inl ⟨by rfl,?_⟩) (by assumption) ?_
     rotate_left
     ·intro w hSw
      (try dsimp only at hSw)
      go_simp
      with_reducible rfl
     simp only [List.setIfInBounds_toArray,List.set_cons_zero,List.set_cons_succ]
     refine z0t (i:=16) (v:=?_) rfl rfl krT krT krT krT (fun _ _ _ h=>h) (Or.inl ⟨by rfl,?_⟩) (by assumption) ?_
     rotate_left
     ·intro w hSw
      (try dsimp only at hSw)
      go_simp
      with_reducible rfl
     simp only [List.setIfInBounds_toArray,List.set_cons_zero,List.set_cons_succ]
     refine z0t (i:=17) (v:=?_) rfl rfl krT krT krT krT (fun _ _ _ h=>h) (Or.inl ⟨by rfl,?_⟩) (by assumption) ?_
     rotate_left
     ·intro w hSw
      (try dsimp only at hSw)
      go_simp
      with_reducible rfl
     simp only [List.setIfInBounds_toArray,List.set_cons_zero,List.set_cons_succ]
     refine z0f (t:=12) krT rfl rfl (fun K' hK=>?_)
     go_simp
     refine (N1.out _ gzT).mono ?_
     intro e w3 hr
     obtain ⟨v3,rfl,ho3,hb3⟩:=hr
     obtain ⟨o3,c3,hv3⟩:=z3t ho3
     subst hv3
     obtain ⟨p3,rfl⟩:=toG hb3
     clear hb3
     (try simp only [z5j] at ho3)
     refine hK.out _ _ (fun _=>?_) (fun hS=>?_)
     ·(try dsimp only)
      refine ⟨?_,?_,?_,?_,?_,?_,?_,?_⟩ <;> (rw [z1f];first | assumption | (rw [← G_G];assumption))
     clear s0 s1 s2 s3 s4 s5 s6 s7 hK K'
     replace hS:=hS deT
     have hT:=hS
     (try dsimp only at hT)
     obtain ⟨s0,s1,s2,s3,s4,s5,s6,s7⟩:=hT
     refine z0f (t:=15) krT rfl rfl (fun K' hK=>?_)
     go_simp
     refine (N2.out _ gzT).mono ?_
     intro e w4 hr
     obtain ⟨v4,rfl,ho4,hb4⟩:=hr
     obtain ⟨o4,c4,hv4⟩:=z3t ho4
     subst hv4
     obtain ⟨p4,rfl⟩:=toG hb4
     clear hb4
     (try simp only [z5j] at ho4)
     refine hK.out _ _ (fun _=>?_) (fun hS=>?_)
     ·(try dsimp only)
      refine ⟨?_,?_,?_,?_,?_,?_,?_,?_⟩ <;> (rw [z1f];first | assumption | (rw [← G_G];assumption))
     clear s0 s1 s2 s3 s4 s5 s6 s7 hK K'
     replace hS:=hS deT
     have hT:=hS
     (try dsimp only at hT)
     obtain ⟨s0,s1,s2,s3,s4,s5,s6,s7⟩:=hT
     refine z0f (t:=18) krT rfl rfl (fun K' hK=>?_)
     go_simp
     refine (N3.out _ gzT).mono ?_
     intro e w5 hr
     obtain ⟨v5,vs5,rfl,hv5,ho5,hb5⟩:=hr
     obtain ⟨o5,c5,hf5⟩:=z0g ho5
     subst hf5
     obtain ⟨p5,rfl⟩:=toG hb5
     clear hb5
     refine hK.out _ _ (fun _=>?_) (fun hS=>?_)
     ·(try dsimp only)
      refine ⟨?_,?_,?_,?_,?_,?_,?_,?_⟩ <;> (rw [z1f];first | assumption | (rw [← G_G];assumption))
     clear s0 s1 s2 s3 s4 s5 s6 s7 hK K'
     replace hS:=hS deT
     have hT:=hS
     (try dsimp only at hT)
     obtain ⟨s0,s1,s2,s3,s4,s5,s6,s7⟩:=hT
     refine z0t (i:=19) (v:=?_) rfl rfl krT krT krT krT (fun _ _ _ h=>h) (Or.inl ⟨by rfl,?_⟩) (by assumption) ?_
     rotate_left
     ·intro w hSw
      (try dsimp only at hSw)
      go_simp
      with_reducible rfl
     simp only [List.setIfInBounds_toArray,List.set_cons_zero,List.set_cons_succ]
     refine z0f (t:=20) krT rfl rfl (fun K' hK=>?_)
     go_simp
     refine hK.out _ _ (fun _=>?_) (fun hS=>?_)
     ·(try dsimp only)
      refine ⟨?_,?_,?_,?_,?_,?_,?_,?_⟩ <;> (rw [z0p];first | assumption | (rw [← G_G];assumption))
     clear s0 s1 s2 s3 s4 s5 s6 s7 hK K'
     replace hS:=hS deT
     have hT:=hS
     (try dsimp only at hT)
     obtain ⟨s0,s1,s2,s3,s4,s5,s6,s7⟩:=hT
     refine z2w (t:=21) krT rfl rfl rfl (fun K' hK=>?_)
     refine wp_append_lies _ (.tmp 37) (.tmp 56) 29 rfl w.heap.size 110 j1 _ 7 120 Tryz.underlying29 hj1 hs1 hs2 hs3 rfl deT (.slice ob i oc') i (q1t (c.states.take i) 0 rv') (by simp [Act.eval]) (z0a hOx.out gzT) ⟨_,0,none⟩ 1 1 (stC s (.slice o3 s.enter.length c3) (.slice o4 s.exit.length c4) (.slice o5 s.trans.length c5)) rfl rfl (World.news_of_block (z0s (by simp))) (by intro u hu;simp [stC] at hu;rcases hu with rfl | rfl | rfl | rfl | rfl | rfl | rfl <;> rfl) deT (by unfold maxLen;omega) omT (Nat.le_trans hwx (Below.size (B:=wx.heap.size) (w:=wx) gzT)) _ rfl ?_
     intro g' cap' w1 hown1 hgrow hat1 hg1
     have hk1:=z0h (z0a hOx.out gzT) (z0c (heap_alloc_new wx (.cells #[str s.name,.int .i64 s.kind,.int .i64 s.parent,str s.start,.slice eo s.enter.length ec,.slice xo s.exit.length xc,.slice to' s.trans.length tc] 141 (0,0))) gzT) deT hgrow
     have hbx:=z0h (z0a hOx.out gzT) (z0c hxx.out gzT) deT hgrow
     obtain ⟨z0,z1,z2,zl,zf⟩:=z3p hbx
     have y0:w1.cell? ⟨wx.heap.size,0,none⟩ = some (str s.name):=(cell_of_row w1 wx.heap.size 0 _ _ _ hk1).trans rfl
     have y1:w1.cell? ⟨wx.heap.size,1,none⟩ = some (.int .i64 s.kind):=(cell_of_row w1 wx.heap.size 1 _ _ _ hk1).trans rfl
     have y2:w1.cell? ⟨wx.heap.size,2,none⟩ = some (.int .i64 s.parent):=(cell_of_row w1 wx.heap.size 2 _ _ _ hk1).trans rfl
     have y3:w1.cell? ⟨wx.heap.size,3,none⟩ = some (str s.start):=(cell_of_row w1 wx.heap.size 3 _ _ _ hk1).trans rfl
     have y4:w1.cell? ⟨wx.heap.size,4,none⟩ = some (.slice eo s.enter.length ec):=(cell_of_row w1 wx.heap.size 4 _ _ _ hk1).trans rfl
     have y5:w1.cell? ⟨wx.heap.size,5,none⟩ = some (.slice xo s.exit.length xc):=(cell_of_row w1 wx.heap.size 5 _ _ _ hk1).trans rfl
     have y6:w1.cell? ⟨wx.heap.size,6,none⟩ = some (.slice to' s.trans.length tc):=(cell_of_row w1 wx.heap.size 6 _ _ _ hk1).trans rfl
     have fz:=zf 2
     refine hK.out _ _ (fun _=>?_) (fun hS=>?_)
     ·exact ⟨y0,y1,y2,y3,y4,y5,y6,z2⟩
     clear s0 s1 s2 s3 s4 s5 s6 s7 hK K'
     replace hS:=hS deT
     have s0:=z2
     refine z0t (i:=22) (v:=?_) rfl rfl krT krT krT krT (fun _ _ _ h=>h) (Or.inl ⟨by rfl,?_⟩) (by assumption) ?_
     rotate_left
     ·intro w hSw
      (try dsimp only at hSw)
      go_simp
      with_reducible rfl
     simp only [List.setIfInBounds_toArray,List.set_cons_zero,List.set_cons_succ]
     refine z0f (t:=23) krT rfl rfl (fun K' hK=>?_)
     go_simp
     refine hK.out _ _ (fun h=>absurd rfl h) (fun _=>z1j krT ?_)
     refine NoPanic.normal ?_
     clear s0 hS hK K'
     rw [G_G] at ho4 ho5 hv5
     have hlow:∀ wy,Below wx.heap.size wx wy → B ≤ wy.heap.size:=fun wy hk=>Nat.le_trans hBw (Nat.le_trans hwx hk.size)
     have K:=hiT (v5e (A:=w.heap.size) (B:=B) (W:=World.alloc _ _) gzT ho3 (v3k _ _ _ _ _) (hlow _ gzT) ho4 (v3j _ _ _ _) (hlow _ gzT) hv5 ho5 (v3i _ _ _) (hlow _ gzT) hOx.out hRx.out hVx.out hxx.out hq0x.out hq1x.out deT deT omT omT hgrow hown1)
     have hb1:Below w.heap.size w w1:=Below.grown (hb.trans (Below.mono (B:=wx.heap.size) gzT hwx)) hgrow (Nat.le_trans hwx (Below.size (B:=wx.heap.size) (w:=wx) gzT)) (fun k hk=>(hOx.out.lt k hk).1)
     have hb2:=hb1.setCell (p:=⟨xb,2,none⟩) (show w.heap.size ≤ xb by omega) (.slice (some ⟨g',0,none⟩) (i + 1) cap')
     clear hown1 hgrow hat1 hg1 hk1 hbx z0 z1 z2 zl zf y0 y1 y2 y3 y4 y5 y6 fz ho3 ho4 ho5 hv5 hOx hRx hVx hxx hq0x hq1x N1 N2 N3 hlow hb1
     go_wp2
     go_roundw
     case rel =>
      obtain ⟨k1,k2,k3,k4,k5,k6⟩:=K.out
      rw [← htk.out] at k2 k3
      exact ⟨i + 1,_,cap',_,by go_num,by omega,k1,k2,k3,k4,k5,k6,hb2⟩
     case measure=>simp [intOf];omega
    ·obtain rfl:i = c.states.length:=by omega
     have hI:¬ (c.states.length:Int) < (c.states.length:Int):=by omega
     rw [List.take_length] at hO hR
     obtain ⟨m0,m1,m2,ml,mf⟩:=z3p hq1
     have i3:InW rb wx:=⟨ml⟩
     have f0:=mf 0
     have f1:=mf 1
     have f2:=mf 2
     have s0:=z0b m0
     have s1:=z0b m1
     have s2:=z0b m2
     have hOx:=hiT hO
     have hRx:=hiT hR
     have hVx:=hiT hV
     have hxx:=hiT hx
     have hq1x:=hiT hq1
     clear hO hR hV hx hq0 hq1
     go_wp2
     go_returns
     refine ⟨rv',_,_,rfl,v9d hq1x.out hBw hOx.out hRx.out hVx.out,?_⟩
     exact ((hb.setCell (p:=⟨rb,0,none⟩) (show w.heap.size ≤ rb by omega) _).setCell (p:=⟨rb,1,none⟩) (show w.heap.size ≤ rb by omega) _).setCell (p:=⟨rb,2,none⟩) (show w.heap.size ≤ rb by omega) _
end Go.Proofs.YtacnlghljmgdiaaGreatDoor
