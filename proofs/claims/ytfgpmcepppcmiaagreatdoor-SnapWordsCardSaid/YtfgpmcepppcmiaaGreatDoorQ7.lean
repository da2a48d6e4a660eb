/- Several texts of this proof, joined: MO, HM, MM. -/
import Derived.Test.YtfgpmcepppcmiaaGreatDoorQ6
import Derived.Test.YtfgpmcepppcmiaaGreatDoorQ5
import Derived.Test.YtfgpmcepppcmiaaGreatDoorQ1
import Derived.WalkKit
import Derived.ProofKit
import Derived.OpenShut
import Derived.Handy
import Derived.BigQuiet
import Derived.OwnWalk
import Derived.Deep.AppendLies
import Derived.Deep.RegionHeld3
import Derived.Lib.Hide
import Derived.WalkSmall
import Derived.WalkLawsBesides
import Derived.Test.YtfgpmcepppcmiaaGreatDoorZ1
import Derived.StillTail
namespace Go.Proofs.YtfgpmcepppcmiaaGreatDoor
open Go.RowKit
theorem Tryz.infoMV:(Tryz.prog.info? 112).map (fun i=>(i.zero,i.size,i.bytes)) = some (some (.agg #[.string ⟨#[]⟩,.int .i64 0,.int .i64 0,.string ⟨#[]⟩]),4,48):=by kernel_rfl
theorem Tryz.infoMS:(Tryz.prog.info? 111).map (fun i=>(i.zero,i.size,i.bytes)) = some (some (.agg #[.string ⟨#[]⟩,.int .i64 0,.int .i64 0,.string ⟨#[]⟩,.slice none 0 0,.slice none 0 0,.slice none 0 0]),7,120):=by kernel_rfl
structure RowsR (τ:CT) (B:Nat) (w:World) (ss:List St) (rv:Nat → Value):Prop where
 ent:∀ i,BlkRow τ B w (rv (3 * i)) (ss.getD i st0).enter
 exi:∀ i,BlkRow τ B w (rv (3 * i + 1)) (ss.getD i st0).exit
 trs:∀ i,TrRow τ B w (rv (3 * i + 2)) (ss.getD i st0).trans
def upd3 (rv:Nat → Value) (n:Nat) (e x t:Value):Nat → Value:=fun a=>if a = 3 * n then e else if a = 3 * n + 1 then x else if a = 3 * n + 2 then t else rv a
section
variable {τ:CT} {B:Nat} {w:World}
theorem blkRow_form {v:Value} {bs:List (List Ac)} (h:BlkRow τ B w v bs):∃ ao cap,v = .slice ao bs.length cap:=by
 obtain ⟨_,_,h⟩:=h
 exact own_form h
theorem trRow_form {v:Value} {ts:List Tr} (h:TrRow τ B w v ts):∃ ao cap,v = .slice ao ts.length cap:=by
 obtain ⟨_,_,h⟩:=h
 exact own_form h
end
section
variable {α:Type} {R:α → List Value → Prop} {cs:List α} {vs:List Value}
end
theorem vrsC_at:∀ (vs:List Vr) (i:Nat) (h:i < vs.length) (j:Nat),j < 4 → (vrsC vs)[i * 4 + j]? = (vrC vs[i])[j]?
 | [],i,h,_,_=>absurd h (Nat.not_lt_zero _)
 | t :: r,0,_,j,hj=>by
  unfold vrsC
  rw [List.flatMap_cons,Nat.zero_mul,Nat.zero_add,List.getElem?_append_left (by simpa [vrC] using hj)]
  rfl
 | t :: r,i + 1,h,j,hj=>by
  have ih:=vrsC_at r i (by simpa using h) j hj
  unfold vrsC at *
  rw [List.flatMap_cons,List.getElem?_append_right (by simp [vrC];omega),show (i + 1) * 4 + j - (vrC t).length = i * 4 + j by simp [vrC];omega,ih]
  rfl
section
variable {τ:CT} {B B':Nat} {w w':World} {ss:List St} {rv:Nat → Value} {c:Ch} {vv sv:Value}
theorem rowsR_tp (h:RowsR τ B w ss rv) (k:Fx τ B B' w w') (h1:Tp B B' w w' τ.blk) (h2:Tp B B' w w' τ.tr):RowsR τ B' w' ss rv :=
 ⟨fun i=>blkRow_tp k (h.ent i) fun _ _=>h1 _ _ _ _,fun i=>blkRow_tp k (h.exi i) fun _ _=>h1 _ _ _ _,fun i=>trRow_tp k (h.trs i) fun _ _=>h2 _ _ _ _⟩
theorem rowsR_nil:RowsR τ B w [] (fun _ => .slice none 0 0):=⟨fun _=>blkRow_nil _ _ _,fun _=>blkRow_nil _ _ _,fun _=>trRow_nil _ _ _⟩
theorem rowsR_snoc {s:St} {e x t:Value} (h:RowsR τ B w ss rv) (h1:BlkRow τ B w e s.enter) (h2:BlkRow τ B w x s.exit) (h3:TrRow τ B w t s.trans):RowsR τ B w (ss ++ [s]) (upd3 rv ss.length e x t):=by
 have hs:∀ i,(ss ++ [s]).getD i st0 = if i = ss.length then s else ss.getD i st0:=fun i=>by
  rw [getD_snoc]
  by_cases hlt:i < ss.length
  ·rw [if_pos hlt,if_neg (by omega)]
  ·rw [if_neg hlt]
   by_cases he:i = ss.length
   ·rw [if_pos he,if_pos he]
   ·rw [if_neg he,if_neg he,List.getD_eq_getElem?_getD,List.getElem?_eq_none (by omega)]
    rfl
 refine ⟨fun i=>?_,fun i=>?_,fun i=>?_⟩
 ·rw [hs]
  unfold upd3
  by_cases he:i = ss.length
  ·rw [if_pos he,if_pos (by omega)];exact h1
  ·rw [if_neg he,if_neg (by omega),if_neg (by omega),if_neg (by omega)];exact h.ent i
 ·rw [hs]
  unfold upd3
  by_cases he:i = ss.length
  ·rw [if_pos he,if_neg (by omega),if_pos (by omega)];exact h2
  ·rw [if_neg he,if_neg (by omega),if_neg (by omega),if_neg (by omega)];exact h.exi i
 ·rw [hs]
  unfold upd3
  by_cases he:i = ss.length
  ·rw [if_pos he,if_neg (by omega),if_neg (by omega),if_pos (by omega)];exact h3
  ·rw [if_neg he,if_neg (by omega),if_neg (by omega),if_neg (by omega)];exact h.trs i
theorem sts_snoc {s:St} {e x t:Value}:stsC (ss ++ [s]) 0 (upd3 rv ss.length e x t) = stsC ss 0 rv ++ stC s e x t:=by
 rw [stsC_snoc,stsC_ext ss 0 (upd3 rv ss.length e x t) rv fun a ha=>by
  unfold upd3
  rw [if_neg (by omega),if_neg (by omega),if_neg (by omega)]]
 unfold upd3
 rw [if_pos (by omega),if_neg (by omega),if_pos (by omega),if_neg (by omega),if_neg (by omega),if_pos (by omega)]
theorem chV_keep (h:ChV τ B w c rv vv sv) (hb:Below w.heap.size w w'):ChV τ B w' c rv vv sv :=
 ⟨owns_below h.vars hb,owns_below h.sts hb,fun i=>blkRow_tp (fx_below hb) (h.ent i) fun _ _ k=>owns_below k hb,fun i=>blkRow_tp (fx_below hb) (h.exi i) fun _ _ k=>owns_below k hb,fun i=>trRow_tp (fx_below hb) (h.trs i) fun _ _ k=>owns_below k hb⟩
theorem chV_form (h:ChV τ B w c rv vv sv):∃ va vc sa sc,vv = .slice va c.vars.length vc ∧ sv = .slice sa c.states.length sc:=by
 obtain ⟨va,vc,rfl⟩:=own_form h.vars
 obtain ⟨sa,sc,rfl⟩:=own_form h.sts
 exact ⟨va,vc,sa,sc,rfl,rfl⟩
theorem var_at {va:Option Addr} {n vc:Nat} (h:ChV τ B w c rv (.slice va n vc) sv) (i:Nat) (hi:i < c.vars.length):∃ g,va = some ⟨g,0,none⟩ ∧ g < w.heap.size ∧ w.cell? ⟨g,i * 4,none⟩ = some (str c.vars[i].name) ∧ w.cell? ⟨g,i * 4 + 1,none⟩ = some (.int .i64 c.vars[i].vk) ∧ w.cell? ⟨g,i * 4 + 2,none⟩ = some (.int .i64 c.vars[i].vn) ∧ w.cell? ⟨g,i * 4 + 3,none⟩ = some (str c.vars[i].vs):=by
 obtain ⟨g,cap',e,hg,_,_,hc⟩:=own_head h.vars (by omega)
 cases e
 exact ⟨g,rfl,hg,hc _ _ (vrsC_at _ i hi 0 (by decide)),hc _ _ (vrsC_at _ i hi 1 (by decide)),hc _ _ (vrsC_at _ i hi 2 (by decide)),hc _ _ (vrsC_at _ i hi 3 (by decide))⟩
theorem st_at {sa:Option Addr} {n sc:Nat} (h:ChV τ B w c rv vv (.slice sa n sc)) (i:Nat) (hi:i < c.states.length):∃ g eo ec xo xc to' tc,sa = some ⟨g,0,none⟩ ∧ g < w.heap.size ∧ w.cell? ⟨g,i * 7,none⟩ = some (str c.states[i].name) ∧ w.cell? ⟨g,i * 7 + 1,none⟩ = some (.int .i64 c.states[i].kind) ∧ w.cell? ⟨g,i * 7 + 2,none⟩ = some (.int .i64 c.states[i].parent) ∧ w.cell? ⟨g,i * 7 + 3,none⟩ = some (str c.states[i].start) ∧
  w.cell? ⟨g,i * 7 + 4,none⟩ = some (.slice eo c.states[i].enter.length ec) ∧ w.cell? ⟨g,i * 7 + 5,none⟩ = some (.slice xo c.states[i].exit.length xc) ∧ w.cell? ⟨g,i * 7 + 6,none⟩ = some (.slice to' c.states[i].trans.length tc) ∧
  BlkRow τ B w (.slice eo c.states[i].enter.length ec) c.states[i].enter ∧ BlkRow τ B w (.slice xo c.states[i].exit.length xc) c.states[i].exit ∧ TrRow τ B w (.slice to' c.states[i].trans.length tc) c.states[i].trans:=by
 obtain ⟨g,cap',e,hg,_,_,hc⟩:=own_head h.sts (by omega)
 cases e
 have hd:c.states.getD i st0 = c.states[i]:=by simp [List.getD,hi]
 have k1:=h.ent i
 have k2:=h.exi i
 have k3:=h.trs i
 rw [hd] at k1 k2 k3
 obtain ⟨eo,ec,he⟩:=blkRow_form k1
 obtain ⟨xo,xc,hx⟩:=blkRow_form k2
 obtain ⟨to',tc,ht⟩:=trRow_form k3
 rw [he] at k1
 rw [hx] at k2
 rw [ht] at k3
 have hat:∀ j,j < 7 → ∀ u,(stC c.states[i] (rv (3 * i)) (rv (3 * i + 1)) (rv (3 * i + 2)))[j]? = some u → w.cell? ⟨g,i * 7 + j,none⟩ = some u:=fun j hj u hu=>hc _ _ (by rw [stsC_at _ _ _ i hi j hj,Nat.zero_add];exact hu)
 exact ⟨g,eo,ec,xo,xc,to',tc,rfl,hg,hat 0 (by decide) _ rfl,hat 1 (by decide) _ rfl,hat 2 (by decide) _ rfl,hat 3 (by decide) _ rfl,hat 4 (by decide) _ (by rw [← he];rfl),hat 5 (by decide) _ (by rw [← hx];rfl),hat 6 (by decide) _ (by rw [← ht];rfl),k1,k2,k3⟩
end
theorem cells3 {w:World} {b:Nat} {t:TypeId} {v0 v1 v2:Value} (h:w.heap[b]? = some (.cells #[v0,v1,v2] t (0,0))) :
  w.cell? ⟨b,0,none⟩ = some v0 ∧ w.cell? ⟨b,1,none⟩ = some v1 ∧ w.cell? ⟨b,2,none⟩ = some v2 ∧ b < w.heap.size ∧ ∀ i,w.frozen? ⟨b,i,none⟩ = false:=by
 refine ⟨?_,?_,?_,lt_of_block h,fun i=>frozen_of_row w b i _ _ h⟩
 all_goals
  rw [cell_of_row w b _ _ _ _ h]
  rfl
abbrev xB (nm:List UInt8) (vv sv:Value):Obj := .cells #[str nm,vv,sv] 31 (0,0)
theorem belowP1 (p:Regrown) (X:World) (o:Obj):Below (G p X).heap.size (G p X) ((G p X).alloc o):=(Below.refl _ _).alloc (Nat.le_refl _) _
theorem belowP2 (p q:Regrown) (X:World) (o:Obj):Below (G p X).heap.size (G p X) ((G (pq q p) X).alloc o):=by
 rw [← G_G]
 exact (belowG0 q _).alloc (belowG0 q _).size _
theorem belowP3 (p q r:Regrown) (X:World) (o:Obj):Below (G p X).heap.size (G p X) ((G (pq r (pq q p)) X).alloc o):=by
 rw [← G_G,← G_G]
 have h:=(belowG0 q (G p X)).trans ((belowG0 r (G q (G p X))).mono (belowG0 q (G p X)).size)
 exact h.alloc h.size _
theorem mc_step {A B B3 B4 B5 xb a0 a1 i g' cap' n oc:Nat} {ob:Option Addr} {wx W W3 W4 W5 w1:World} {ss:List St} {s:St} {rv':Nat → Value} {e x t vv:Value} {vs5 vs:List Value} {nm:List UInt8} {cs0 cs1:Array Value} {t0 t1:TypeId}
  (hbW:Below wx.heap.size wx W) (h3:BlkRow ct1 B3 W3 e s.enter) (b3:Below W3.heap.size W3 W) (z3:B ≤ B3) (h4:BlkRow ct1 B4 W4 x s.exit) (b4:Below W4.heap.size W4 W) (z4:B ≤ B4)
  (h5:Vs (TrR ct1 B W5) s.trans vs5) (k5:W5.ownsRow B5 ct1.tr 5 t s.trans.length vs5) (b5:Below W5.heap.size W5 W) (z5:B ≤ B5)
  (hO:wx.ownsRow A ct1.st 7 (.slice ob i oc) i (stsC ss 0 rv')) (hR:RowsR ct1 B wx ss rv') (hV:wx.ownsRow A ct1.vr 4 vv n vs) (hx:wx.heap[xb]? = some (xB nm vv (.slice ob i oc)))
  (q0:wx.heap[a0]? = some (.cells cs0 t0 (0,0))) (q1:wx.heap[a1]? = some (.cells cs1 t1 (0,0))) (n0:t0 ≠ ct1.st) (n1:t1 ≠ ct1.st) (d0:a0 ≠ xb) (d1:a1 ≠ xb)
  (hg:W.grownBy w1 (Value.slice ob i oc).ownBlock) (hown:w1.ownsRow A ct1.st 7 (.slice (some ⟨g',0,none⟩) (i + 1) cap') (i + 1) (stsC ss 0 rv' ++ stC s e x t)) :
  (w1.setCell ⟨xb,2,none⟩ (.slice (some ⟨g',0,none⟩) (i + 1) cap')).heap[xb]? = some (xB nm vv (.slice (some ⟨g',0,none⟩) (i + 1) cap')) ∧
  (w1.setCell ⟨xb,2,none⟩ (.slice (some ⟨g',0,none⟩) (i + 1) cap')).ownsRow A ct1.st 7 (.slice (some ⟨g',0,none⟩) (i + 1) cap') (i + 1) (stsC (ss ++ [s]) 0 (upd3 rv' ss.length e x t)) ∧
  RowsR ct1 B (w1.setCell ⟨xb,2,none⟩ (.slice (some ⟨g',0,none⟩) (i + 1) cap')) (ss ++ [s]) (upd3 rv' ss.length e x t) ∧
  (w1.setCell ⟨xb,2,none⟩ (.slice (some ⟨g',0,none⟩) (i + 1) cap')).ownsRow A ct1.vr 4 vv n vs ∧
  (w1.setCell ⟨xb,2,none⟩ (.slice (some ⟨g',0,none⟩) (i + 1) cap')).heap[a0]? = some (.cells cs0 t0 (0,0)) ∧
  (w1.setCell ⟨xb,2,none⟩ (.slice (some ⟨g',0,none⟩) (i + 1) cap')).heap[a1]? = some (.cells cs1 t1 (0,0)):=by
 have hO2:=owns_below hO hbW
 have T:∀ {e':TypeId},e' ≠ ct1.st → Tp B B W w1 e':=fun hne=>tp_grown hO2 hne hg
 have F:Fx ct1 B B W w1:=⟨T (by decide),T (by decide),T (by decide)⟩
 have hbx:=grown_blk hO2 (blk_keep hx hbW) (by decide) hg
 have S:∀ {e':TypeId} {B':Nat},31 ≠ e' → Tp B' B' w1 (w1.setCell ⟨xb,2,none⟩ (.slice (some ⟨g',0,none⟩) (i + 1) cap')) e':=fun hne=>tp_set hbx hne
 have FS:Fx ct1 B B w1 (w1.setCell ⟨xb,2,none⟩ (.slice (some ⟨g',0,none⟩) (i + 1) cap')):=⟨S (by decide),S (by decide),S (by decide)⟩
 have base:∀ {B':Nat} {w:World},B ≤ B' → Fx ct1 B' B w w:=fun h=>fx_base h
 have e3:BlkRow ct1 B w1 e s.enter:=blkRow_tp F (blkRow_tp (fx_below b3) (blkRow_tp (base z3) h3 fun _ _ k=>owns_base k z3) fun _ _ k=>owns_below k b3) fun _ _ k=>T (by decide) _ _ _ _ k
 have e4:BlkRow ct1 B w1 x s.exit:=blkRow_tp F (blkRow_tp (fx_below b4) (blkRow_tp (base z4) h4 fun _ _ k=>owns_base k z4) fun _ _ k=>owns_below k b4) fun _ _ k=>T (by decide) _ _ _ _ k
 have e5:TrRow ct1 B w1 t s.trans:=⟨vs5,vs_map (vs_map h5 fun _ _=>trR_tp (fx_below b5)) fun _ _=>trR_tp F,T (by decide) _ _ _ _ (owns_below (owns_base k5 z5) b5)⟩
 have hR2:=rowsR_snoc (rowsR_tp (rowsR_tp hR (fx_below hbW) (tp_below hbW) (tp_below hbW)) F (T (by decide)) (T (by decide))) e3 e4 e5
 refine ⟨blk_set hbx,?_,rowsR_tp hR2 FS (S (by decide)) (S (by decide)),S (by decide) _ _ _ _ (tp_grown hO2 (show ct1.vr ≠ ct1.st by decide) hg _ _ _ _ (owns_below hV hbW)),blk_far (grown_blk hO2 (blk_keep q0 hbW) n0 hg) d0,blk_far (grown_blk hO2 (blk_keep q1 hbW) n1 hg) d1⟩
 rw [sts_snoc]
 exact S (by decide) _ _ _ _ hown
abbrev putC3 (w:World) (b:Nat) (v0 v1 v2:Value):World:=((w.setCell ⟨b,0,none⟩ v0).setCell ⟨b,1,none⟩ v1).setCell ⟨b,2,none⟩ v2
theorem tp_putC3 {B b:Nat} {w:World} {cs:Array Value} {t e:TypeId} {v0 v1 v2:Value} (h:w.heap[b]? = some (.cells cs t (0,0))) (hne:t ≠ e):Tp B B w (putC3 w b v0 v1 v2) e:=fun _ _ _ _ k =>
 tp_set (blk_set (blk_set h)) hne _ _ _ _ (tp_set (blk_set h) hne _ _ _ _ (tp_set h hne _ _ _ _ k))
theorem mc_end {A B b:Nat} {w:World} {c:Ch} {rv:Nat → Value} {vv sv v0 v1 v2:Value} {cs:Array Value} (h:w.heap[b]? = some (.cells cs 31 (0,0))) (hA:B ≤ A) (hO:w.ownsRow A ct1.st 7 sv c.states.length (stsC c.states 0 rv)) (hR:RowsR ct1 B w c.states rv) (hV:w.ownsRow A ct1.vr 4 vv c.vars.length (vrsC c.vars)) :
  ChV ct1 B (putC3 w b v0 v1 v2) c rv vv sv:=by
 have T:∀ {e:TypeId},31 ≠ e → Tp B B w (putC3 w b v0 v1 v2) e:=fun hne=>tp_putC3 h hne
 have F:Fx ct1 B B w (putC3 w b v0 v1 v2):=⟨T (by decide),T (by decide),T (by decide)⟩
 have R:=rowsR_tp hR F (T (by decide)) (T (by decide))
 exact ⟨T (by decide) _ _ _ _ (owns_base hV hA),T (by decide) _ _ _ _ (owns_base hO hA),R.ent,R.exi,R.trs⟩
end Go.Proofs.YtfgpmcepppcmiaaGreatDoor
namespace Go.Proofs.YtfgpmcepppcmiaaGreatDoor
section
variable {P:Program} {ops:Array Oper} {Q:Exit → Act → World → Prop} {md:Region.Mode} {S:World → Prop} {n:Nat}
def wpAnyM (P:Program) (md:Region.Mode) (ops:Array Oper) (Q:Exit → Act → World → Prop) (S:World → Prop) (n:Nat):Nat → Array Bool → Act → World → Prop
 | 0,listed,a,w=>Region.ready md ops listed = [] ∧ Q .normal a w
 | fuel + 1,listed,a,w=>(Region.ready md ops listed = [] → Q .normal a w) ∧
  ∀ i,i ∈ Region.ready md ops listed → wpOp P ops Q i (fun a' w'=>(i ≠ n → S w') ∧ wpAnyM P md ops Q S n fuel (listed.setIfInBounds i true) a' w') a w
theorem wpAny_of_m:∀ (fuel:Nat) (listed:Array Bool) (a:Act) (w:World),wpAnyM P md ops Q S n fuel listed a w → wpAny P md ops Q fuel listed a w
 | 0,_,_,_,h=>h
 | fuel + 1,_,_,_,h=>⟨h.1,fun i hi=>wpOp_mono (fun a' w' k=>wpAny_of_m fuel _ a' w' k.2) (h.2 i hi)⟩
def lastB (md:Region.Mode) (ops:Array Oper) (n:Nat) (listed:Array Bool):Bool :=
 Region.sinkB md ops n && Region.chainB md ops n && decide (ops.size = n + 1) && decide (listed.size = ops.size) && !listed.getD n true &&
 (List.range ops.size).all fun j => !listed.getD j false || (match ops[j]? with
  | some o=>o.after.all fun e => !Region.binds md e || listed.getD e.on false
  | none=>true)
theorem lastB_out {listed:Array Bool} (h:lastB md ops n listed = true):Region.sinkB md ops n = true ∧ Region.chainB md ops n = true ∧ n < ops.size ∧ HeadInv md ops n listed:=by
 unfold lastB at h
 simp only [Bool.and_eq_true,decide_eq_true_eq,Bool.not_eq_true',List.all_eq_true,List.mem_range,Bool.or_eq_true] at h
 obtain ⟨⟨⟨⟨⟨h1,h2⟩,h3⟩,h4⟩,h5⟩,h6⟩:=h
 refine ⟨h1,h2,by omega,⟨h4,fun j o hj hl e he hb=>?_,fun t ht ht'=>?_⟩⟩
 ·have hjs:j < ops.size:=(Array.getElem?_eq_some_iff.1 hj).1
  rcases h6 j hjs with h7 | h7
  ·rw [hl] at h7;cases h7
  ·rw [hj] at h7
   simp only [Array.all_eq_true_iff_forall_mem,Bool.or_eq_true,Bool.not_eq_true'] at h7
   rcases h7 e he with h8 | h8
   ·rw [hb] at h8;cases h8
   ·exact h8
 ·obtain rfl:t = n:=by omega
  exact h5
theorem wpAnyM_first {i:Nat} {oi:Oper} {v:Value} (hi:ops[i]? = some oi) (hsel:∀ (j:Nat) (o:Oper) cs b,ops[j]? = some o → o.op ≠ .select cs b)
  (hQ:∀ c a w,Q (.panic c) (a.put oi.dst v) w → Q (.panic c) a w) (hs:Region.sinkB md ops n = true) (hc:Region.chainB md ops n = true) (hn:n < ops.size) (hin:i < n) :
  ∀ (fuel:Nat) (listed:Array Bool) (a:Act) (w:World),HeadInv md ops n listed →
   (∀ j oj,ops[j]? = some oj → j ≠ i → listed.getD j true = false → (∀ e ∈ oj.after,Region.binds md e = true → e.on ≠ i) → oi.apart ops oj = true) →
   i ∈ Region.ready md ops listed → YieldsIf P ops S oi v a → S w →
   wpAnyM P md ops Q S n fuel (listed.setIfInBounds i true) (a.put oi.dst v) w → wpAnyM P md ops Q S n (fuel + 1) listed a w:=by
 intro fuel
 induction fuel with
 | zero =>
  intro listed a w _ _ hr hy hS H
  refine ⟨fun h=>(by rw [h] at hr;cases hr),fun j hj=>?_⟩
  by_cases hji:j = i
  ·subst hji
   exact hy.wpOp hi hS ⟨fun _=>hS,H⟩
  ·have:=ready_mono hj hji
   rw [H.1] at this
   cases this
 | succ fuel ih =>
  intro listed a w inv hfree hr hy hS H
  refine ⟨fun h=>(by rw [h] at hr;cases hr),fun j hj=>?_⟩
  by_cases hji:j = i
  ·subst hji
   exact hy.wpOp hi hS ⟨fun _=>hS,H⟩
  ·have hun:=(mem_ready.1 hr).1
   have hjn:j < n:=by
    rcases Nat.lt_or_ge j n with h | h
    ·exact h
    ·exact absurd hj (tail_waits hs hc hn inv _ i rfl hin hun j h)
   have h1:=H.2 j (ready_mono hj hji)
   obtain ⟨hjun,oj,hoj,hall⟩:=mem_ready.1 hj
   have hnot:∀ e ∈ oj.after,Region.binds md e = true → e.on ≠ i:=fun e he hb heq=>by
    have h2:=hall e he hb
    rw [heq,getD_both hun] at h2
    cases h2
   have h2:=wpOp_putIf hoj (hfree j oj hoj hji hjun hnot) (fun cs b=>hsel i oi cs b hi) (fun cs b=>hsel j oj cs b hoj) hQ hy h1
   refine wpOp_mono (fun a' w' h3=>⟨fun hne=>h3.2.1 hne,?_⟩) h2
   refine ih (listed.setIfInBounds j true) a' w' (inv.set hj hjn) (fun k ok hk hki hunk hno=>?_) (ready_mono hr (Ne.symm hji)) h3.1 (h3.2.1 (by omega)) ?_
   ·refine hfree k ok hk hki ?_ hno
    by_cases hjk:j = k
    ·subst hjk;exact hjun
    ·rw [getD_set_ne true hjk] at hunk;exact hunk
   ·rw [Array.setIfInBounds_comm _ _ hji]
    exact h3.2.2
theorem wpAnyM_take {i:Nat} {oi:Oper} {v:Value} {fuel:Nat} {listed:Array Bool} {a:Act} {w:World} (hi:ops[i]? = some oi) (hs:Region.noSelect ops = true) (hf:Region.free md ops listed i = true) (hr:(Region.ready md ops listed).contains i = true)
  (hl:(lastB md ops n listed && decide (i < n)) = true) (hQ:∀ c a w,Q (.panic c) (a.put oi.dst v) w → Q (.panic c) a w) (hy:YieldsIf P ops S oi v a) (hS:S w)
  (h:wpAnyM P md ops Q S n fuel (listed.setIfInBounds i true) (a.put oi.dst v) w):wpAnyM P md ops Q S n (fuel + 1) listed a w:=by
 rw [Bool.and_eq_true,decide_eq_true_eq] at hl
 obtain ⟨k1,k2,k3,k4⟩:=lastB_out hl.1
 exact wpAnyM_first hi (Region.noSelect_spec hs) hQ k1 k2 k3 hl.2 fuel listed a w k4 (Region.free_spec hi hf) (by simpa using hr) hy hS h
theorem wpAnyM_slot {i d:Nat} {oi:Oper} {v:Value} {fuel:Nat} {listed:Array Bool} {tmps:Array Value} {defs:_} {w:World} (hi:ops[i]? = some oi) (hd:oi.dst = some d) (hs:Region.noSelect ops = true) (hf:Region.free md ops listed i = true) (hr:(Region.ready md ops listed).contains i = true)
  (hl:(lastB md ops n listed && decide (i < n)) = true) (hQ:∀ c a w,Q (.panic c) (a.put oi.dst v) w → Q (.panic c) a w) (hy:YieldsIf P ops S oi v ⟨tmps,defs⟩) (hS:S w)
  (h:wpAnyM P md ops Q S n fuel (listed.setIfInBounds i true) ⟨tmps.setIfInBounds d v,defs⟩ w):wpAnyM P md ops Q S n (fuel + 1) listed ⟨tmps,defs⟩ w:=by
 refine wpAnyM_take hi hs hf hr hl hQ hy hS ?_
 rw [hd]
 exact h
theorem wpAnyM_one {t:Nat} {o:Oper} {fuel:Nat} {listed:Array Bool} {a:Act} {w:World} (hr:Region.ready md ops listed = [t]) (ho:ops[t]? = some o) (hg:o.guard = none)
  (h:∀ K':Act → World → Prop,RowKit.Hid (∀ a' w',(t ≠ n → S w') → ((t ≠ n → S w') → wpAnyM P md ops Q S n fuel (listed.setIfInBounds t true) a' w') → K' a' w') → Oper.wp P o a w K' Q):wpAnyM P md ops Q S n (fuel + 1) listed a w:=by
 refine ⟨fun h0=>(by rw [hr] at h0;cases h0),fun j hj=>?_⟩
 rw [hr,List.mem_singleton] at hj
 subst hj
 refine wpOp_step ho fun K' hK=>?_
 have hw:Region.wanted o (yielded ops a.tmps) = true:=by
  unfold Region.wanted
  rw [hg]
 rw [if_pos hw]
 exact h K' fun a' w' h1 h2=>hK a' w' ⟨h1,h2 h1⟩
theorem wpAnyM_act {t d:Nat} {o:Oper} {fuel:Nat} {listed:Array Bool} {tmps:Array Value} {defs:_} {w:World} (hr:Region.ready md ops listed = [t]) (ho:ops[t]? = some o) (hd:o.dst = some d) (hg:o.guard = none)
  (h:∀ K':Act → World → Prop,RowKit.Hid (∀ v w',(t ≠ n → S w') → ((t ≠ n → S w') → wpAnyM P md ops Q S n fuel (listed.setIfInBounds t true) ⟨tmps.setIfInBounds d v,defs⟩ w') → K' (Act.put ⟨tmps,defs⟩ o.dst v) w') → Oper.wp P o ⟨tmps,defs⟩ w K' Q):wpAnyM P md ops Q S n (fuel + 1) listed ⟨tmps,defs⟩ w:=by
 refine wpAnyM_one hr ho hg fun K' hK=>h K' fun v w' h1 h2=>hK _ _ h1 fun h3=>?_
 rw [hd]
 exact h2 h3
theorem wpAnyM_done {fuel:Nat} {listed:Array Bool} {a:Act} {w:World} (hr:Region.ready md ops listed = []) (h:Q .normal a w):wpAnyM P md ops Q S n fuel listed a w:=by
 cases fuel with
 | zero=>exact ⟨hr,h⟩
 | succ f=>exact ⟨fun _=>h,fun i hi=>(by rw [hr] at hi;cases hi)⟩
theorem wp_region_m {id:Nat} {a:Act} {w:World} (n:Nat) (hm:P.follows .mixedOrders = true) (hS:S w.drew) (h:S w.drew → wpAnyM P .any ops Q S n ops.size (Array.replicate ops.size false) a w.drew):(Code.region id ops true).wp P Q a w :=
 wp_region_any hm (wpAny_of_m _ _ _ _ (h hS))
end
end Go.Proofs.YtfgpmcepppcmiaaGreatDoor
namespace Go.Proofs.YtfgpmcepppcmiaaGreatDoor
open Go.RowKit
def MChIs (B:Nat) (c:Ch) (w:World) (e:Ending) (w':World):Prop:=∃ rv vv sv,e = .returned (.agg #[str c.name,vv,sv]) ∧ ChV ct1 B w' c rv vv sv ∧ Below w.heap.size w w'
set_option maxRecDepth 100000 in
set_option maxHeartbeats 4000000 in
theorem mchart_any {B:Nat} (c:Ch) (rv:Nat → Value) (vv sv:Value) (hvs:c.vars.length ≤ 16) (hss:c.states.length ≤ 49) (hlen:∀ i,i < c.states.length → (c.states.getD i st0).enter.length ≤ 8 ∧ (c.states.getD i st0).exit.length ≤ 8 ∧ (c.states.getD i st0).trans.length ≤ 96) (hsm:SmallC c) (w:World) (hBw:B ≤ w.heap.size) (h:ChV ct0 B w c rv vv sv) :
  Calls Tryz.prog 22 #[.agg #[str c.name,vv,sv]] w (MChIs B c w):=by
 obtain ⟨va,vc,sa,sc,rfl,rfl⟩:=chV_form h
 have H:=Lib.hid (fun wx (hb:Below w.heap.size w wx)=>chV_keep h hb)
 clear h
 go_enter Tryz.func22,Tryz.ntmps22
 go_wp2
 obtain ⟨W0,hW0⟩:∃ W0,((w.alloc (.cells #[str c.name,.slice va c.vars.length vc,.slice sa c.states.length sc] 75)).alloc (.cells #[.string ⟨#[]⟩,.slice none 0 0,.slice none 0 0] 31)).alloc (.cells #[str c.name,.slice none 0 0,.slice none 0 0] 31) = W0:=⟨_,rfl⟩
 have q0:W0.heap[w.heap.size]? = some (.cells #[str c.name,.slice va c.vars.length vc,.slice sa c.states.length sc] 75 (0,0)):=by
  rw [← hW0]
  exact blk_old (blk_old (heap_alloc_new w _))
 have q1:W0.heap[w.heap.size + 1]? = some (.cells #[.string ⟨#[]⟩,.slice none 0 0,.slice none 0 0] 31 (0,0)):=by
  rw [← hW0]
  exact blk_old (new_at (by simp))
 have q2:W0.heap[w.heap.size + 1 + 1]? = some (xB c.name (.slice none 0 0) (.slice none 0 0)):=by
  rw [← hW0]
  exact new_at (by simp)
 have hb0:Below w.heap.size w W0:=by rw [← hW0];(first | exact gwT | exact lzT)
 rw [hW0]
 clear hW0
 generalize hx2:w.heap.size + 1 + 1 = xb at *
 generalize hx1:w.heap.size + 1 = rb at *
 obtain ⟨j0,hj,hy1,hy2,hy3⟩:=info_parts Tryz.infoMV
 go_loopw [14] (fun x wr=>∃ (i:Nat) (oa:Option Addr) (oc:Nat),x = .int .i64 (i:Int) ∧ i ≤ c.vars.length ∧ wr.heap[xb]? = some (xB c.name (.slice oa i oc) (.slice none 0 0)) ∧ wr.ownsRow w.heap.size ct1.vr 4 (.slice oa i oc) i (vrsC (c.vars.take i)) ∧ wr.heap[w.heap.size]? = some (.cells #[str c.name,.slice va c.vars.length vc,.slice sa c.states.length sc] 75 (0,0)) ∧ wr.heap[rb]? = some (.cells #[.string ⟨#[]⟩,.slice none 0 0,.slice none 0 0] 31 (0,0)) ∧ Below w.heap.size w wr) (fun x _=>c.vars.length - (intOf x).toNat)
 case atStart=>exact ⟨0,none,0,rfl,Nat.zero_le _,q2,World.ownsRow_nil _ _ _ _,q0,q1,hb0⟩
 case round =>
  obtain ⟨i,oa,oc,rfl,hi,hx,hO,hq0,hq1,hb⟩:=hrel
  rename World=>wr
  have hwz:=hb.size
  obtain ⟨k0,k1,k2,kl,kf⟩:=cells3 hx
  have f1:=kf 1
  have i1:InW xb wr:=⟨kl⟩
  have htop:w.heap.size ≤ wr.heap.size:=hwz
  by_cases hlt:i < c.vars.length
  ·obtain ⟨g,rfl,hg,n1,n2,n3,n4⟩:=var_at (H.out wr hb) i hlt
   have htk:c.vars.take (i + 1) = c.vars.take i ++ [c.vars[i]]:=by rw [List.take_add_one,List.getElem?_eq_getElem hlt];rfl
   obtain ⟨v,hv⟩:∃ v,c.vars[i] = v:=⟨_,rfl⟩
   rw [hv] at n1 n2 n3 n4 htk
   replace htk:=Lib.hid htk
   have i2:InW g wr:=⟨hg⟩
   have hI:(i:Int) < (c.vars.length:Int):=by omega
   have hOk:=Lib.hid hO
   have hxk:=Lib.hid hx
   have hq0k:=Lib.hid hq0
   have hq1k:=Lib.hid hq1
   clear hv hO hx hq0 hq1 kf
   go_wp2_with (at_builtin;refine wpList_append_lies _ rfl _ _ 28 rfl w.heap.size 112 j0 _ 4 48 Tryz.underlying28 hj hy1 hy2 hy3 rfl (by decide) (.slice oa i oc) i (vrsC (c.vars.take i)) rfl (owns_below hOk.out (by (first | exact gwT | exact lzT))) ⟨_,0,none⟩ 1 1 (vrC v) rfl rfl (World.news_of_block (new_at (by simp))) (by intro u hu;simp [vrC] at hu;rcases hu with rfl | rfl | rfl | rfl <;> rfl) (by decide) (by unfold maxLen;omega) (by omega) (Nat.le_trans hwz (Below.size (B:=wr.heap.size) (w:=wr) (by (first | exact gwT | exact lzT)))) _ rfl ?_)
   intro g' cap' w1 hown1 hgrow hat1 hg1
   have hbx:=grown_blk (owns_below hOk.out (by (first | exact gwT | exact lzT))) (blk_keep hxk.out (by (first | exact gwT | exact lzT))) (by decide) hgrow
   have hb0':=grown_blk (owns_below hOk.out (by (first | exact gwT | exact lzT))) (blk_keep hq0k.out (by (first | exact gwT | exact lzT))) (by decide) hgrow
   have hb1':=grown_blk (owns_below hOk.out (by (first | exact gwT | exact lzT))) (blk_keep hq1k.out (by (first | exact gwT | exact lzT))) (by decide) hgrow
   obtain ⟨k0,k1,k2,kl,kf⟩:=cells3 hbx
   have f1:=kf 1
   have i3:InW xb w1:=⟨kl⟩
   have hb1:Below w.heap.size w w1:=Below.grown (hb.trans (Below.mono (B:=wr.heap.size) (by (first | exact gwT | exact lzT)) hwz)) hgrow (Nat.le_trans hwz (Below.size (B:=wr.heap.size) (w:=wr) (by (first | exact gwT | exact lzT)))) (fun k hk=>(hOk.out.lt k hk).1)
   have hown2:=Lib.hid hown1
   clear hown1 hgrow hat1 hg1 kf
   go_wp2
   go_roundw
   case rel =>
    refine ⟨i + 1,_,cap',by go_num,by omega,blk_set hbx,?_,blk_far hb0' (by omega),blk_far hb1' (by omega),hb1.setCell (p:=⟨xb,1,none⟩) (show w.heap.size ≤ xb by omega) _⟩
    rw [htk.out,vrsC_snoc]
    exact tp_set hbx (by decide) _ _ _ _ hown2.out
   case measure=>simp [intOf];omega
  ·obtain rfl:i = c.vars.length:=by omega
   rw [List.take_length] at hO
   have hI:¬ (c.vars.length:Int) < (c.vars.length:Int):=by omega
   obtain ⟨u0,u1,u2,ul,uf⟩:=cells3 hq0
   have i2:InW w.heap.size wr:=⟨ul⟩
   obtain ⟨j1,hj1,hs1,hs2,hs3⟩:=info_parts Tryz.infoMS
   have hOk:=Lib.hid hO
   have hxk:=Lib.hid hx
   have hq0k:=Lib.hid hq0
   have hq1k:=Lib.hid hq1
   clear hO hx hq0 hq1 kf uf u0 u1 k0 k1 k2 f1 hi q0 q1 q2 hb0 hj hy1 hy2 hy3
   go_wp2
   go_loopw [32] (fun x wx=>∃ (i:Nat) (ob:Option Addr) (oc':Nat) (rv':Nat → Value),x = .int .i64 (i:Int) ∧ i ≤ c.states.length ∧ wx.heap[xb]? = some (xB c.name (.slice oa c.vars.length oc) (.slice ob i oc')) ∧ wx.ownsRow w.heap.size ct1.st 7 (.slice ob i oc') i (stsC (c.states.take i) 0 rv') ∧ RowsR ct1 B wx (c.states.take i) rv' ∧ wx.ownsRow w.heap.size ct1.vr 4 (.slice oa c.vars.length oc) c.vars.length (vrsC c.vars) ∧ wx.heap[w.heap.size]? = some (.cells #[str c.name,.slice va c.vars.length vc,.slice sa c.states.length sc] 75 (0,0)) ∧ wx.heap[rb]? = some (.cells #[.string ⟨#[]⟩,.slice none 0 0,.slice none 0 0] 31 (0,0)) ∧ Below w.heap.size w wx) (fun x _=>c.states.length - (intOf x).toNat)
   case atStart=>exact ⟨0,none,0,fun _ => .slice none 0 0,rfl,Nat.zero_le _,hxk.out,World.ownsRow_nil _ _ _ _,rowsR_nil,hOk.out,hq0k.out,hq1k.out,hb⟩
   case round =>
    obtain ⟨i,ob,oc',rv',rfl,hi,hx,hO,hR,hV,hq0,hq1,hb⟩:=hrel
    rename World=>wx
    have hwx:=hb.size
    obtain ⟨k0,k1,k2,kl,kf⟩:=cells3 hx
    have f2:=kf 2
    have i1:InW xb wx:=⟨kl⟩
    by_cases hlt:i < c.states.length
    ·obtain ⟨g,eo,ec,xo,xc,to',tc,rfl,hg,n1,n2,n3,n4,n5,n6,n7,hE,hX,hT⟩:=st_at (H.out wx hb) i hlt
     have htk:c.states.take (i + 1) = c.states.take i ++ [c.states[i]]:=by rw [List.take_add_one,List.getElem?_eq_getElem hlt];rfl
     have hcl:(c.states.take i).length = i:=by rw [List.length_take];omega
     obtain ⟨l1,l2,l3⟩:=hlen i hlt
     obtain ⟨m1,m2,m3⟩:=hsm _ (List.getElem_mem hlt)
     rw [getD_at hlt] at l1 l2 l3
     obtain ⟨s,hsv⟩:∃ s,c.states[i] = s:=⟨_,rfl⟩
     rw [hsv] at n1 n2 n3 n4 n5 n6 n7 hE hX hT htk l1 l2 l3 m1 m2 m3
     have N1:=Lib.hid (fun wy (hk:Below wx.heap.size wx wy)=>mblocks_any eo ec s.enter (by omega) m1 wy (blkRow_tp (fx_below hk) hE fun _ _ k=>owns_below k hk))
     have N2:=Lib.hid (fun wy (hk:Below wx.heap.size wx wy)=>mblocks_any xo xc s.exit (by omega) m2 wy (blkRow_tp (fx_below hk) hX fun _ _ k=>owns_below k hk))
     have N3:=Lib.hid (fun wy (hk:Below wx.heap.size wx wy)=>mtrans_any to' tc s.trans (by omega) m3 wy (Nat.le_trans hBw (Nat.le_trans hwx hk.size)) (trRow_tp (fx_below hk) hT fun _ _ k=>owns_below k hk))
     replace htk:=Lib.hid htk
     replace hcl:=Lib.hid hcl
     have i2:InW g wx:=⟨hg⟩
     have hI:(i:Int) < (c.states.length:Int):=by omega
     have hOx:=Lib.hid hO
     have hRx:=Lib.hid hR
     have hVx:=Lib.hid hV
     have hxx:=Lib.hid hx
     have hq0x:=Lib.hid hq0
     have hq1x:=Lib.hid hq1
     clear hO hR hV hx hq0 hq1 kf hE hX hT l1 l2 l3 m1 m2 m3 hsv
     go_wp2_with fail
     refine wp_region_noPanic ?_
     refine wp_region_m (S:=(fun w'=>w'.cell? ⟨wx.heap.size,0,none⟩ = some (str s.name) ∧ w'.cell? ⟨wx.heap.size,1,none⟩ = some (.int .i64 s.kind) ∧ w'.cell? ⟨wx.heap.size,2,none⟩ = some (.int .i64 s.parent) ∧ w'.cell? ⟨wx.heap.size,3,none⟩ = some (str s.start) ∧ w'.cell? ⟨wx.heap.size,4,none⟩ = some (.slice eo s.enter.length ec) ∧ w'.cell? ⟨wx.heap.size,5,none⟩ = some (.slice xo s.exit.length xc) ∧ w'.cell? ⟨wx.heap.size,6,none⟩ = some (.slice to' s.trans.length tc) ∧ w'.cell? ⟨xb,2,none⟩ = some (.slice ob i oc'))) 23 (by kernel_rfl) (by (refine ⟨?_,?_,?_,?_,?_,?_,?_,?_⟩ <;> first | assumption | (rw [cell_GI];assumption) | (rw [cell_allocI];assumption) | (simp [go_sem, *];done))) (fun hS=>?_)
     have hT:=hS
     (try dsimp only at hT)
     obtain ⟨s0,s1,s2,s3,s4,s5,s6,s7⟩:=hT
     refine wpAnyM_slot (i:=0) (v:=?_) rfl rfl (by kernel_rfl) (by kernel_rfl) (by kernel_rfl) (by kernel_rfl) (fun _ _ _ h=>h) (Or.inl ⟨by rfl,?_⟩) (by assumption) ?_
     rotate_left
     ·intro w hSw
      (try dsimp only at hSw)
      go_simp
      with_reducible rfl
     simp only [List.setIfInBounds_toArray,List.set_cons_zero,List.set_cons_succ]
     refine wpAnyM_slot (i:=1) (v:=?_) rfl rfl (by kernel_rfl) (by kernel_rfl) (by kernel_rfl) (by kernel_rfl) (fun _ _ _ h=>h) (Or.inl ⟨by rfl,?_⟩) (by assumption) ?_
     rotate_left
     ·intro w hSw
      (try dsimp only at hSw)
      go_simp
      with_reducible rfl
     simp only [List.setIfInBounds_toArray,List.set_cons_zero,List.set_cons_succ]
     refine wpAnyM_slot (i:=2) (v:=?_) rfl rfl (by kernel_rfl) (by kernel_rfl) (by kernel_rfl) (by kernel_rfl) (fun _ _ _ h=>h) (Or.inl ⟨by rfl,?_⟩) (by assumption) ?_
     rotate_left
     ·intro w hSw
      (try dsimp only at hSw)
      go_simp
      with_reducible rfl
     simp only [List.setIfInBounds_toArray,List.set_cons_zero,List.set_cons_succ]
     refine wpAnyM_slot (i:=3) (v:=?_) rfl rfl (by kernel_rfl) (by kernel_rfl) (by kernel_rfl) (by kernel_rfl) (fun _ _ _ h=>h) (Or.inl ⟨by rfl,?_⟩) (by assumption) ?_
     rotate_left
     ·intro w hSw
      (try dsimp only at hSw)
      go_simp
      with_reducible rfl
     simp only [List.setIfInBounds_toArray,List.set_cons_zero,List.set_cons_succ]
     refine wpAnyM_slot (i:=4) (v:=?_) rfl rfl (by kernel_rfl) (by kernel_rfl) (by kernel_rfl) (by kernel_rfl) (fun _ _ _ h=>h) (Or.inl ⟨by rfl,?_⟩) (by assumption) ?_
     rotate_left
     ·intro w hSw
      (try dsimp only at hSw)
      go_simp
      with_reducible rfl
     simp only [List.setIfInBounds_toArray,List.set_cons_zero,List.set_cons_succ]
     refine wpAnyM_slot (i:=5) (v:=?_) rfl rfl (by kernel_rfl) (by kernel_rfl) (by kernel_rfl) (by kernel_rfl) (fun _ _ _ h=>h) (Or.inl ⟨by rfl,?_⟩) (by assumption) ?_
     rotate_left
     ·intro w hSw
      (try dsimp only at hSw)
      go_simp
      with_reducible rfl
     simp only [List.setIfInBounds_toArray,List.set_cons_zero,List.set_cons_succ]
     refine wpAnyM_slot (i:=6) (v:=?_) rfl rfl (by kernel_rfl) (by kernel_rfl) (by kernel_rfl) (by kernel_rfl) (fun _ _ _ h=>h) (Or.inl ⟨by rfl,?_⟩) (by assumption) ?_
     rotate_left
     ·intro w hSw
      (try dsimp only at hSw)
      go_simp
      with_reducible rfl
     simp only [List.setIfInBounds_toArray,List.set_cons_zero,List.set_cons_succ]
     refine wpAnyM_slot (i:=7) (v:=?_) rfl rfl (by kernel_rfl) (by kernel_rfl) (by kernel_rfl) (by kernel_rfl) (fun _ _ _ h=>h) (Or.inl ⟨by rfl,?_⟩) (by assumption) ?_
     rotate_left
     ·intro w hSw
      (try dsimp only at hSw)
      go_simp
      with_reducible rfl
     simp only [List.setIfInBounds_toArray,List.set_cons_zero,List.set_cons_succ]
     refine wpAnyM_slot (i:=8) (v:=?_) rfl rfl (by kernel_rfl) (by kernel_rfl) (by kernel_rfl) (by kernel_rfl) (fun _ _ _ h=>h) (Or.inl ⟨by rfl,?_⟩) (by assumption) ?_
     rotate_left
     ·intro w hSw
      (try dsimp only at hSw)
      go_simp
      with_reducible rfl
     simp only [List.setIfInBounds_toArray,List.set_cons_zero,List.set_cons_succ]
     refine wpAnyM_slot (i:=9) (v:=?_) rfl rfl (by kernel_rfl) (by kernel_rfl) (by kernel_rfl) (by kernel_rfl) (fun _ _ _ h=>h) (Or.inl ⟨by rfl,?_⟩) (by assumption) ?_
     rotate_left
     ·intro w hSw
      (try dsimp only at hSw)
      go_simp
      with_reducible rfl
     simp only [List.setIfInBounds_toArray,List.set_cons_zero,List.set_cons_succ]
     refine wpAnyM_slot (i:=10) (v:=?_) rfl rfl (by kernel_rfl) (by kernel_rfl) (by kernel_rfl) (by kernel_rfl) (fun _ _ _ h=>h) (Or.inl ⟨by rfl,?_⟩) (by assumption) ?_
     rotate_left
     ·intro w hSw
      (try dsimp only at hSw)
      go_simp
      with_reducible rfl
     simp only [List.setIfInBounds_toArray,List.set_cons_zero,List.set_cons_succ]
     refine wpAnyM_slot (i:=11) (v:=?_) rfl rfl (by kernel_rfl) (by kernel_rfl) (by kernel_rfl) (by kernel_rfl) (fun _ _ _ h=>h) (Or.inl ⟨by rfl,?_⟩) (by assumption) ?_
     rotate_left
     ·intro w hSw
      (try dsimp only at hSw)
      go_simp
      with_reducible rfl
     simp only [List.setIfInBounds_toArray,List.set_cons_zero,List.set_cons_succ]
     refine wpAnyM_slot (i:=13) (v:=?_) rfl rfl (by kernel_rfl) (by kernel_rfl) (by kernel_rfl) (by kernel_rfl) (fun _ _ _ h=>h) (Or.inl ⟨by rfl,?_⟩) (by assumption) ?_
     rotate_left
     ·intro w hSw
      (try dsimp only at hSw)
      go_simp
      with_reducible rfl
     simp only [List.setIfInBounds_toArray,List.set_cons_zero,List.set_cons_succ]
     refine wpAnyM_slot (i:=14) (v:=?_) rfl rfl (by kernel_rfl) (by kernel_rfl) (by kernel_rfl) (by kernel_rfl) (fun _ _ _ h=>h) (Or.inl ⟨by rfl,?_⟩) (by assumption) ?_
     rotate_left
     ·intro w hSw
      (try dsimp only at hSw)
      go_simp
      with_reducible rfl
     simp only [List.setIfInBounds_toArray,List.set_cons_zero,List.set_cons_succ]
     refine wpAnyM_slot (i:=16) (v:=?_) rfl rfl (by kernel_rfl) (by kernel_rfl) (by kernel_rfl) (by kernel_rfl) (fun _ _ _ h=>h) (Or.inl ⟨by rfl,?_⟩) (by assumption) ?_
     rotate_left
     ·intro w hSw
      (try dsimp only at hSw)
      go_simp
      with_reducible rfl
     simp only [List.setIfInBounds_toArray,List.set_cons_zero,List.set_cons_succ]
     refine wpAnyM_slot (i:=17) (v:=?_) rfl rfl (by kernel_rfl) (by kernel_rfl) (by kernel_rfl) (by kernel_rfl) (fun _ _ _ h=>h) (Or.inl ⟨by rfl,?_⟩) (by assumption) ?_
     rotate_left
     ·intro w hSw
      (try dsimp only at hSw)
      go_simp
      with_reducible rfl
     simp only [List.setIfInBounds_toArray,List.set_cons_zero,List.set_cons_succ]
     refine wpAnyM_one (t:=12) (by kernel_rfl) rfl rfl (fun K' hK=>?_)
     go_simp
     refine (N1.out _ (by (first | exact gwT | exact lzT))).mono ?_
     intro e w3 hr
     obtain ⟨v3,rfl,ho3,hb3⟩:=hr
     obtain ⟨o3,c3,hv3⟩:=blkRow_form ho3
     subst hv3
     obtain ⟨p3,rfl⟩:=toG hb3
     clear hb3
     (try simp only [G_drew] at ho3)
     refine hK.out _ _ (fun _=>?_) (fun hS=>?_)
     ·(try dsimp only)
      refine ⟨?_,?_,?_,?_,?_,?_,?_,?_⟩ <;> (rw [cell_GI];first | assumption | (rw [← G_G];assumption))
     clear s0 s1 s2 s3 s4 s5 s6 s7 hK K'
     replace hS:=hS (by decide)
     have hT:=hS
     (try dsimp only at hT)
     obtain ⟨s0,s1,s2,s3,s4,s5,s6,s7⟩:=hT
     refine wpAnyM_one (t:=15) (by kernel_rfl) rfl rfl (fun K' hK=>?_)
     go_simp
     refine (N2.out _ (by (first | exact gwT | exact lzT))).mono ?_
     intro e w4 hr
     obtain ⟨v4,rfl,ho4,hb4⟩:=hr
     obtain ⟨o4,c4,hv4⟩:=blkRow_form ho4
     subst hv4
     obtain ⟨p4,rfl⟩:=toG hb4
     clear hb4
     (try simp only [G_drew] at ho4)
     refine hK.out _ _ (fun _=>?_) (fun hS=>?_)
     ·(try dsimp only)
      refine ⟨?_,?_,?_,?_,?_,?_,?_,?_⟩ <;> (rw [cell_GI];first | assumption | (rw [← G_G];assumption))
     clear s0 s1 s2 s3 s4 s5 s6 s7 hK K'
     replace hS:=hS (by decide)
     have hT:=hS
     (try dsimp only at hT)
     obtain ⟨s0,s1,s2,s3,s4,s5,s6,s7⟩:=hT
     refine wpAnyM_one (t:=18) (by kernel_rfl) rfl rfl (fun K' hK=>?_)
     go_simp
     refine (N3.out _ (by (first | exact gwT | exact lzT))).mono ?_
     intro e w5 hr
     obtain ⟨v5,vs5,rfl,hv5,ho5,hb5⟩:=hr
     obtain ⟨o5,c5,hf5⟩:=own_form ho5
     subst hf5
     obtain ⟨p5,rfl⟩:=toG hb5
     clear hb5
     refine hK.out _ _ (fun _=>?_) (fun hS=>?_)
     ·(try dsimp only)
      refine ⟨?_,?_,?_,?_,?_,?_,?_,?_⟩ <;> (rw [cell_GI];first | assumption | (rw [← G_G];assumption))
     clear s0 s1 s2 s3 s4 s5 s6 s7 hK K'
     replace hS:=hS (by decide)
     have hT:=hS
     (try dsimp only at hT)
     obtain ⟨s0,s1,s2,s3,s4,s5,s6,s7⟩:=hT
     refine wpAnyM_slot (i:=19) (v:=?_) rfl rfl (by kernel_rfl) (by kernel_rfl) (by kernel_rfl) (by kernel_rfl) (fun _ _ _ h=>h) (Or.inl ⟨by rfl,?_⟩) (by assumption) ?_
     rotate_left
     ·intro w hSw
      (try dsimp only at hSw)
      go_simp
      with_reducible rfl
     simp only [List.setIfInBounds_toArray,List.set_cons_zero,List.set_cons_succ]
     refine wpAnyM_one (t:=20) (by kernel_rfl) rfl rfl (fun K' hK=>?_)
     go_simp
     refine hK.out _ _ (fun _=>?_) (fun hS=>?_)
     ·(try dsimp only)
      refine ⟨?_,?_,?_,?_,?_,?_,?_,?_⟩ <;> (rw [cell_allocI];first | assumption | (rw [← G_G];assumption))
     clear s0 s1 s2 s3 s4 s5 s6 s7 hK K'
     replace hS:=hS (by decide)
     have hT:=hS
     (try dsimp only at hT)
     obtain ⟨s0,s1,s2,s3,s4,s5,s6,s7⟩:=hT
     refine wpAnyM_act (t:=21) (by kernel_rfl) rfl rfl rfl (fun K' hK=>?_)
     refine wp_append_lies _ (.tmp 37) (.tmp 56) 29 rfl w.heap.size 111 j1 _ 7 120 Tryz.underlying29 hj1 hs1 hs2 hs3 rfl (by decide) (.slice ob i oc') i (stsC (c.states.take i) 0 rv') (by simp [Act.eval]) (owns_below hOx.out (by (first | exact gwT | exact lzT))) ⟨_,0,none⟩ 1 1 (stC s (.slice o3 s.enter.length c3) (.slice o4 s.exit.length c4) (.slice o5 s.trans.length c5)) rfl rfl (World.news_of_block (new_at (by simp))) (by intro u hu;simp [stC] at hu;rcases hu with rfl | rfl | rfl | rfl | rfl | rfl | rfl <;> rfl) (by decide) (by unfold maxLen;omega) (by omega) (Nat.le_trans hwx (Below.size (B:=wx.heap.size) (w:=wx) (by (first | exact gwT | exact lzT)))) _ rfl ?_
     intro g' cap' w1 hown1 hgrow hat1 hg1
     have hk1:=grown_blk (owns_below hOx.out (by (first | exact gwT | exact lzT))) (blk_keep (heap_alloc_new wx (.cells #[str s.name,.int .i64 s.kind,.int .i64 s.parent,str s.start,.slice eo s.enter.length ec,.slice xo s.exit.length xc,.slice to' s.trans.length tc] 142 (0,0))) (by (first | exact gwT | exact lzT))) (by decide) hgrow
     have hbx:=grown_blk (owns_below hOx.out (by (first | exact gwT | exact lzT))) (blk_keep hxx.out (by (first | exact gwT | exact lzT))) (by decide) hgrow
     obtain ⟨z0,z1,z2,zl,zf⟩:=cells3 hbx
     have y0:w1.cell? ⟨wx.heap.size,0,none⟩ = some (str s.name):=(cell_of_row w1 wx.heap.size 0 _ _ _ hk1).trans rfl
     have y1:w1.cell? ⟨wx.heap.size,1,none⟩ = some (.int .i64 s.kind):=(cell_of_row w1 wx.heap.size 1 _ _ _ hk1).trans rfl
     have y2:w1.cell? ⟨wx.heap.size,2,none⟩ = some (.int .i64 s.parent):=(cell_of_row w1 wx.heap.size 2 _ _ _ hk1).trans rfl
     have y3:w1.cell? ⟨wx.heap.size,3,none⟩ = some (str s.start):=(cell_of_row w1 wx.heap.size 3 _ _ _ hk1).trans rfl
     have y4:w1.cell? ⟨wx.heap.size,4,none⟩ = some (.slice eo s.enter.length ec):=(cell_of_row w1 wx.heap.size 4 _ _ _ hk1).trans rfl
     have y5:w1.cell? ⟨wx.heap.size,5,none⟩ = some (.slice xo s.exit.length xc):=(cell_of_row w1 wx.heap.size 5 _ _ _ hk1).trans rfl
     have y6:w1.cell? ⟨wx.heap.size,6,none⟩ = some (.slice to' s.trans.length tc):=(cell_of_row w1 wx.heap.size 6 _ _ _ hk1).trans rfl
     have fz:=zf 2
     refine hK.out _ _ (fun _=>?_) (fun hS=>?_)
     ·exact ⟨y0,y1,y2,y3,y4,y5,y6,z2⟩
     clear s0 s1 s2 s3 s4 s5 s6 s7 hK K'
     replace hS:=hS (by decide)
     have s0:=z2
     refine wpAnyM_slot (i:=22) (v:=?_) rfl rfl (by kernel_rfl) (by kernel_rfl) (by kernel_rfl) (by kernel_rfl) (fun _ _ _ h=>h) (Or.inl ⟨by rfl,?_⟩) (by assumption) ?_
     rotate_left
     ·intro w hSw
      (try dsimp only at hSw)
      go_simp
      with_reducible rfl
     simp only [List.setIfInBounds_toArray,List.set_cons_zero,List.set_cons_succ]
     refine wpAnyM_one (t:=23) (by kernel_rfl) rfl rfl (fun K' hK=>?_)
     go_simp
     refine hK.out _ _ (fun h=>absurd rfl h) (fun _=>wpAnyM_done (by kernel_rfl) ?_)
     refine NoPanic.normal ?_
     clear s0 hS hK K'
     rw [G_G] at ho4 ho5 hv5
     have hlow:∀ wy,Below wx.heap.size wx wy → B ≤ wy.heap.size:=fun wy hk=>Nat.le_trans hBw (Nat.le_trans hwx hk.size)
     have K:=Lib.hid (mc_step (A:=w.heap.size) (B:=B) (W:=World.alloc _ _) (by (first | exact gwT | exact lzT)) ho3 (belowP3 _ _ _ _ _) (hlow _ (by (first | exact gwT | exact lzT))) ho4 (belowP2 _ _ _ _) (hlow _ (by (first | exact gwT | exact lzT))) hv5 ho5 (belowP1 _ _ _) (hlow _ (by (first | exact gwT | exact lzT))) hOx.out hRx.out hVx.out hxx.out hq0x.out hq1x.out (by decide) (by decide) (by omega) (by omega) hgrow hown1)
     have hb1:Below w.heap.size w w1:=Below.grown (hb.trans (Below.mono (B:=wx.heap.size) (by (first | exact gwT | exact lzT)) hwx)) hgrow (Nat.le_trans hwx (Below.size (B:=wx.heap.size) (w:=wx) (by (first | exact gwT | exact lzT)))) (fun k hk=>(hOx.out.lt k hk).1)
     have hb2:=hb1.setCell (p:=⟨xb,2,none⟩) (show w.heap.size ≤ xb by omega) (.slice (some ⟨g',0,none⟩) (i + 1) cap')
     clear hown1 hgrow hat1 hg1 hk1 hbx z0 z1 z2 zl zf y0 y1 y2 y3 y4 y5 y6 fz ho3 ho4 ho5 hv5 hOx hRx hVx hxx hq0x hq1x N1 N2 N3 hlow hb1
     go_wp2
     go_roundw
     case rel =>
      obtain ⟨k1,k2,k3,k4,k5,k6⟩:=K.out
      rw [← htk.out] at k2 k3
      exact ⟨i + 1,_,cap',_,by go_num,by omega,k1,k2,k3,k4,k5,k6,hb2⟩
     case measure=>simp [intOf];omega
    ·obtain rfl:i = c.states.length:=by omega
     have hI:¬ (c.states.length:Int) < (c.states.length:Int):=by omega
     rw [List.take_length] at hO hR
     obtain ⟨m0,m1,m2,ml,mf⟩:=cells3 hq1
     have i3:InW rb wx:=⟨ml⟩
     have f0:=mf 0
     have f1:=mf 1
     have f2:=mf 2
     have s0:=hasC_of m0
     have s1:=hasC_of m1
     have s2:=hasC_of m2
     have hOx:=Lib.hid hO
     have hRx:=Lib.hid hR
     have hVx:=Lib.hid hV
     have hxx:=Lib.hid hx
     have hq1x:=Lib.hid hq1
     clear hO hR hV hx hq0 hq1
     go_wp2
     go_returns
     refine ⟨rv',_,_,rfl,mc_end hq1x.out hBw hOx.out hRx.out hVx.out,?_⟩
     exact ((hb.setCell (p:=⟨rb,0,none⟩) (show w.heap.size ≤ rb by omega) _).setCell (p:=⟨rb,1,none⟩) (show w.heap.size ≤ rb by omega) _).setCell (p:=⟨rb,2,none⟩) (show w.heap.size ≤ rb by omega) _
end Go.Proofs.YtfgpmcepppcmiaaGreatDoor
