/- Several texts of this proof, joined: SYx, SY, SYp, SY5, SY7. -/
import Derived.Test.YtacnlghljmgdiaaGreatDoorJ2
import Derived.Laws.Bits64
import Derived.Test.YtacnlghljmgdiaaGreatDoorL6
import Derived.Test.YtacnlghljmgdiaaGreatDoorO5
import Derived.Test.YtacnlghljmgdiaaGreatDoorO7
import Derived.Test.YtacnlghljmgdiaaGreatDoorQ7
import Derived.BigRegion
import Derived.WalkKit
import Derived.ProofKit
import Derived.OpenShut
import Derived.Handy
import Derived.BigQuiet
import Derived.OwnWalk
import Derived.Lib.Hide
import Derived.WalkSmall
import Derived.WalkLawsBesides
import Derived.Test.YtacnlghljmgdiaaGreatDoorO3
namespace Go.Proofs.YtacnlghljmgdiaaGreatDoor
open Go.RowKit
theorem j3s (a:ByteArray):¬ a ++ ⟨#[120]⟩ = a:=by
 intro e
 have:=congrArg ByteArray.size e
 rw [ByteArray.size_append] at this
 have h:(⟨#[120]⟩:ByteArray).size = 1:=rfl
 omega
theorem q7c {u v:Value} (h:q2n u v):q2n v u:=fun g h1 h2=>h g h2 h1
theorem q4p {w:World} {B e s n m cap g:Nat} {xs:List Value} (h:w.ownsRow B e s (.slice (some ⟨g,0,none⟩) m cap) n xs) (i:Nat):w.frozen? ⟨g,i,none⟩ = false:=by
 rcases h.2 with ⟨h0,_⟩ | ⟨g',cap',cur,hv,_,hh,_⟩
 ·cases h0
 ·cases hv
  exact frozen_of_row w g i _ _ hh
theorem z3i {w:World} {B B' e e' s s' n n' g:Nat} {v u:Value} {xs ys:List Value} (h:w.ownsRow B e s v n xs) (k:w.ownsRow B' e' s' u n' ys) (hne:e ≠ e') (hg:u.ownBlock = some g):v.ownBlock ≠ some g:=fun k2=>by
 rcases z1a h k hne with h1 | h1
 ·rw [h1] at k2;cases k2
 ·exact h1 (k2.trans hg.symm)
def y8d {α:Type} (f:α → α) (l:List α) (i:Nat):List α:=(l.take i).map f ++ l.drop i
theorem x0h {α:Type} (f:α → α) (l:List α):y8d f l 0 = l:=by simp [y8d]
theorem x1a {α:Type} (f:α → α) (l:List α):y8d f l l.length = l.map f:=by simp [y8d]
theorem x1b {α:Type} (f:α → α) (l:List α) (i:Nat) (h:i ≤ l.length):(y8d f l i).length = l.length:=by simp [y8d];omega
theorem x2s {α:Type} (f:α → α) (l:List α) (i:Nat) (h:i < l.length) (h':i < (y8d f l i).length):(y8d f l i)[i] = l[i]:=by
 have h1:(y8d f l i)[i]? = some l[i]:=by
  have e:((l.take i).map f).length = i:=by rw [List.length_map,List.length_take];omega
  unfold y8d
  rw [List.getElem?_append_right omT,e,Nat.sub_self,List.getElem?_drop,Nat.add_zero,List.getElem?_eq_getElem h]
 exact Option.some.inj ((List.getElem?_eq_getElem h').symm.trans h1)
theorem x0g {α:Type} (f:α → α) (l:List α) (i:Nat) (h:i < l.length):(y8d f l i).set i (f l[i]) = y8d f l (i + 1):=by
 have e:((l.take i).map f).length = i:=by rw [List.length_map,List.length_take];omega
 have d:l.drop i = l[i] :: l.drop (i + 1):=List.drop_eq_getElem_cons h
 unfold y8d
 rw [d,List.set_append_right _ _ omT,e,Nat.sub_self,List.set_cons_zero,List.take_succ_eq_append_getElem h,List.map_append]
 simp
theorem q4a (a:Int):¬ IntKind.u64.wrap (a + 1) = a:=by
 intro e
 rw [IntKind.wrap_u64] at e
 omega
theorem wrap64_more (a:Int):¬ wrap64 (a + 1) = a:=by
 intro e
 unfold wrap64 at e
 omega
def v1p (a:Int):Int:=IntKind.u64.wrap (a + 1)
def v1r (v:Vl):Vl:=⟨v.k,wrap64 (v.n + 1),v.s⟩
def v1q (t:Tm):Tm:=⟨t.due,wrap64 (t.seq + 1),t.name⟩
def v1o (a:Int):Int:=wrap64 (a + 1)
def j1k (a:ByteArray):ByteArray:=a ++ ⟨#[120]⟩
def x3x (s:Sn):Sn:={ s with past:=s.past.map v1p,data:=s.data.map v1r,timers:=s.timers.map v1q,taken:=s.taken.map v1o,inner:=s.inner.map j1k,outer:=s.outer.map j1k,out:=s.out.map j1k }
theorem q7x {α:Type} (f:α → α) (hf:∀ x,¬ f x = x) (l:List α) (h:l.map f = l):l.length = 0:=by
 cases l with
 | nil=>rfl
 | cons x r=>exact absurd (List.cons.inj h).1 (hf x)
theorem k8l (s:Sn):q5w (x3x s) s = decide (s.past.length + s.data.length + s.inner.length + s.outer.length + s.timers.length + s.taken.length + s.out.length = 0):=by
 rw [Bool.eq_iff_iff,q3r,decide_eq_true_eq]
 constructor
 ·intro e
  have h0:=q7x v1p (fun x=>q4a x) _ (congrArg Sn.past e)
  have h1:=q7x v1r (fun x e=>wrap64_more x.n (congrArg Vl.n e)) _ (congrArg Sn.data e)
  have h2:=q7x v1q (fun x e=>wrap64_more x.seq (congrArg Tm.seq e)) _ (congrArg Sn.timers e)
  have h3:=q7x v1o (fun x=>wrap64_more x) _ (congrArg Sn.taken e)
  have h4:=q7x j1k j3s _ (congrArg Sn.inner e)
  have h5:=q7x j1k j3s _ (congrArg Sn.outer e)
  have h6:=q7x j1k j3s _ (congrArg Sn.out e)
  omega
 ·intro h
  have h0:s.past = []:=List.eq_nil_of_length_eq_zero omT
  have h1:s.data = []:=List.eq_nil_of_length_eq_zero omT
  have h2:s.inner = []:=List.eq_nil_of_length_eq_zero omT
  have h3:s.outer = []:=List.eq_nil_of_length_eq_zero omT
  have h4:s.timers = []:=List.eq_nil_of_length_eq_zero omT
  have h5:s.taken = []:=List.eq_nil_of_length_eq_zero omT
  have h6:s.out = []:=List.eq_nil_of_length_eq_zero omT
  cases s
  simp only at h0 h1 h2 h3 h4 h5 h6
  subst h0 h1 h2 h3 h4 h5 h6
  rfl
theorem any2M {P:Program} {md:Region.Mode} {ops:Array Oper} {Q:Exit → Act → World → Prop} {S:World → Prop} {n t1 t2 fuel:Nat} {listed:Array Bool} {a:Act} {w:World} (hr:Region.ready md ops listed = [t1,t2])
  (h1:wpOp P ops Q t1 (fun a' w'=>(t1 ≠ n → S w') ∧ z5a P md ops Q S n fuel (listed.setIfInBounds t1 true) a' w') a w) (h2:wpOp P ops Q t2 (fun a' w'=>(t2 ≠ n → S w') ∧ z5a P md ops Q S n fuel (listed.setIfInBounds t2 true) a' w') a w):z5a P md ops Q S n (fuel + 1) listed a w:=by
 refine ⟨fun h0=>(by rw [hr] at h0;cases h0),fun j hj=>?_⟩
 rw [hr] at hj
 simp only [List.mem_cons,List.not_mem_nil,or_false] at hj
 rcases hj with rfl | rfl <;> assumption
theorem any3M {P:Program} {md:Region.Mode} {ops:Array Oper} {Q:Exit → Act → World → Prop} {S:World → Prop} {n t1 t2 t3 fuel:Nat} {listed:Array Bool} {a:Act} {w:World} (hr:Region.ready md ops listed = [t1,t2,t3])
  (h1:wpOp P ops Q t1 (fun a' w'=>(t1 ≠ n → S w') ∧ z5a P md ops Q S n fuel (listed.setIfInBounds t1 true) a' w') a w) (h2:wpOp P ops Q t2 (fun a' w'=>(t2 ≠ n → S w') ∧ z5a P md ops Q S n fuel (listed.setIfInBounds t2 true) a' w') a w) (h3:wpOp P ops Q t3 (fun a' w'=>(t3 ≠ n → S w') ∧ z5a P md ops Q S n fuel (listed.setIfInBounds t3 true) a' w') a w):z5a P md ops Q S n (fuel + 1) listed a w:=by
 refine ⟨fun h0=>(by rw [hr] at h0;cases h0),fun j hj=>?_⟩
 rw [hr] at hj
 simp only [List.mem_cons,List.not_mem_nil,or_false] at hj
 rcases hj with rfl | rfl | rfl <;> assumption
theorem opM {P:Program} {md:Region.Mode} {ops:Array Oper} {Q:Exit → Act → World → Prop} {S:World → Prop} {n t fuel:Nat} {o:Oper} {listed:Array Bool} {a:Act} {w:World} (ho:ops[t]? = some o) (hg:o.guard = none)
  (h:∀ K':Act → World → Prop,RowKit.Hid (∀ a' w',(t ≠ n → S w') → ((t ≠ n → S w') → z5a P md ops Q S n fuel (listed.setIfInBounds t true) a' w') → K' a' w') → Oper.wp P o a w K' Q):wpOp P ops Q t (fun a' w'=>(t ≠ n → S w') ∧ z5a P md ops Q S n fuel (listed.setIfInBounds t true) a' w') a w:=by
 refine wpOp_step ho fun K' hK=>?_
 have hw:Region.wanted o (yielded ops a.tmps) = true:=by
  unfold Region.wanted
  rw [hg]
 rw [if_pos hw]
 exact h K' fun a' w' h1 h2=>hK a' w' ⟨h1,h2 h1⟩
structure SnLt (B:Nat) (s:Sn) (pa:Option Addr) (pc:Nat) (da:Option Addr) (dc:Nat) (ia:Option Addr) (ic:Nat) (oa:Option Addr) (oc:Nat) (ta:Option Addr) (tc:Nat) (ka:Option Addr) (kc:Nat) (ua:Option Addr) (uc:Nat):Prop where
 past:∀ k,(Value.slice pa s.past.length pc).ownBlock = some k → k < B
 data:∀ k,(Value.slice da s.data.length dc).ownBlock = some k → k < B
 inner:∀ k,(Value.slice ia s.inner.length ic).ownBlock = some k → k < B
 outer:∀ k,(Value.slice oa s.outer.length oc).ownBlock = some k → k < B
 timers:∀ k,(Value.slice ta s.timers.length tc).ownBlock = some k → k < B
 taken:∀ k,(Value.slice ka s.taken.length kc).ownBlock = some k → k < B
 out:∀ k,(Value.slice ua s.out.length uc).ownBlock = some k → k < B
theorem snLt_of {w:World} {B:Nat} {s:Sn} {pa:Option Addr} {pc:Nat} {da:Option Addr} {dc:Nat} {ia:Option Addr} {ic:Nat} {oa:Option Addr} {oc:Nat} {ta:Option Addr} {tc:Nat} {ka:Option Addr} {kc:Nat} {ua:Option Addr} {uc:Nat} (h:SnOw w B s pa pc da dc ia ic oa oc ta tc ka kc ua uc):SnLt w.heap.size s pa pc da dc ia ic oa oc ta tc ka kc ua uc :=
 ⟨fun k hk=>(h.past.lt k hk).2,fun k hk=>(h.data.lt k hk).2,fun k hk=>(h.inner.lt k hk).2,fun k hk=>(h.outer.lt k hk).2,fun k hk=>(h.timers.lt k hk).2,fun k hk=>(h.taken.lt k hk).2,fun k hk=>(h.out.lt k hk).2⟩
theorem own_low {w wy:World} {B B' e z n c:Nat} {ao:Option Addr} {xs:List Value} (h:w.ownsRow B e z (.slice ao n c) n xs) (hl:∀ k,(Value.slice ao n c).ownBlock = some k → k < B') (hy:Below B' w wy):z2d wy ao c xs:=by
 have k:=z2s h
 refine ⟨k.1,fun hn=>?_⟩
 obtain ⟨g,o,e1,_,hc⟩:=k.2 hn
 subst e1
 have hg:g < B':=hl g rfl
 refine ⟨g,o,rfl,?_,fun j u hu=>(hy.cell (p:=⟨g,o + j,none⟩) hg).trans (hc j u hu)⟩
 cases xs with
 | nil=>exact absurd rfl hn
 | cons u r=>exact World.block_lt_of_cell? _ _ ((hy.cell (p:=⟨g,o + 0,none⟩) hg).trans (hc 0 u rfl))
theorem snLow {w wy:World} {B B':Nat} {s:Sn} {pa:Option Addr} {pc:Nat} {da:Option Addr} {dc:Nat} {ia:Option Addr} {ic:Nat} {oa:Option Addr} {oc:Nat} {ta:Option Addr} {tc:Nat} {ka:Option Addr} {kc:Nat} {ua:Option Addr} {uc:Nat} (h:SnOw w B s pa pc da dc ia ic oa oc ta tc ka kc ua uc) (l:SnLt B' s pa pc da dc ia ic oa oc ta tc ka kc ua uc) (hy:Below B' w wy):SnRd wy s pa pc da dc ia ic oa oc ta tc ka kc ua uc :=
 ⟨own_low h.past l.past hy,own_low h.data l.data hy,own_low h.inner l.inner hy,own_low h.outer l.outer hy,own_low h.timers l.timers hy,own_low h.taken l.taken hy,own_low h.out l.out hy⟩
theorem snOw_put {w:World} {B b:Nat} {v0 v1 v2 v3 v4 v5 v6 v7 v8 v9 v10 v11 v12 v13:Value} {cs:Array Value} {fr:Nat × Nat} {s:Sn} {pa:Option Addr} {pc:Nat} {da:Option Addr} {dc:Nat} {ia:Option Addr} {ic:Nat} {oa:Option Addr} {oc:Nat} {ta:Option Addr} {tc:Nat} {ka:Option Addr} {kc:Nat} {ua:Option Addr} {uc:Nat} (h:SnOw w B s pa pc da dc ia ic oa oc ta tc ka kc ua uc) (hb:w.heap[b]? = some (.cells cs 44 fr)):SnOw (y6l w b v0 v1 v2 v3 v4 v5 v6 v7 v8 v9 v10 v11 v12 v13) B s pa pc da dc ia ic oa oc ta tc ka kc ua uc :=
 ⟨z2g h.past hb deT,z2g h.data hb deT,z2g h.inner hb deT,z2g h.outer hb deT,z2g h.timers hb deT,z2g h.taken hb deT,z2g h.out hb deT,h.io,h.iu,h.ou⟩
theorem put14_at {w:World} {b:Nat} {t:TypeId} {v0 v1 v2 v3 v4 v5 v6 v7 v8 v9 v10 v11 v12 v13 z0 z1 z2 z3 z4 z5 z6 z7 z8 z9 z10 z11 z12 z13:Value} (h:w.heap[b]? = some (.cells #[z0,z1,z2,z3,z4,z5,z6,z7,z8,z9,z10,z11,z12,z13] t (0,0))):(y6l w b v0 v1 v2 v3 v4 v5 v6 v7 v8 v9 v10 v11 v12 v13).heap[b]? = some (.cells #[v0,v1,v2,v3,v4,v5,v6,v7,v8,v9,v10,v11,v12,v13] t (0,0)):=by
 have h0:=v3p (i:=0) (u:=v0) h
 simp only [List.setIfInBounds_toArray,List.set_cons_zero] at h0
 have h1:=v3p (i:=1) (u:=v1) h0
 simp only [List.setIfInBounds_toArray,List.set_cons_zero,List.set_cons_succ] at h1
 have h2:=v3p (i:=2) (u:=v2) h1
 simp only [List.setIfInBounds_toArray,List.set_cons_zero,List.set_cons_succ] at h2
 have h3:=v3p (i:=3) (u:=v3) h2
 simp only [List.setIfInBounds_toArray,List.set_cons_zero,List.set_cons_succ] at h3
 have h4:=v3p (i:=4) (u:=v4) h3
 simp only [List.setIfInBounds_toArray,List.set_cons_zero,List.set_cons_succ] at h4
 have h5:=v3p (i:=5) (u:=v5) h4
 simp only [List.setIfInBounds_toArray,List.set_cons_zero,List.set_cons_succ] at h5
 have h6:=v3p (i:=6) (u:=v6) h5
 simp only [List.setIfInBounds_toArray,List.set_cons_zero,List.set_cons_succ] at h6
 have h7:=v3p (i:=7) (u:=v7) h6
 simp only [List.setIfInBounds_toArray,List.set_cons_zero,List.set_cons_succ] at h7
 have h8:=v3p (i:=8) (u:=v8) h7
 simp only [List.setIfInBounds_toArray,List.set_cons_zero,List.set_cons_succ] at h8
 have h9:=v3p (i:=9) (u:=v9) h8
 simp only [List.setIfInBounds_toArray,List.set_cons_zero,List.set_cons_succ] at h9
 have h10:=v3p (i:=10) (u:=v10) h9
 simp only [List.setIfInBounds_toArray,List.set_cons_zero,List.set_cons_succ] at h10
 have h11:=v3p (i:=11) (u:=v11) h10
 simp only [List.setIfInBounds_toArray,List.set_cons_zero,List.set_cons_succ] at h11
 have h12:=v3p (i:=12) (u:=v12) h11
 simp only [List.setIfInBounds_toArray,List.set_cons_zero,List.set_cons_succ] at h12
 have h13:=v3p (i:=13) (u:=v13) h12
 simp only [List.setIfInBounds_toArray,List.set_cons_zero,List.set_cons_succ] at h13
 exact h13
theorem put14_far {w:World} {b b':Nat} {o:Obj} {v0 v1 v2 v3 v4 v5 v6 v7 v8 v9 v10 v11 v12 v13:Value} (h:w.heap[b']? = some o) (hne:b' ≠ b):(y6l w b v0 v1 v2 v3 v4 v5 v6 v7 v8 v9 v10 v11 v12 v13).heap[b']? = some o :=
 z0i (z0i (z0i (z0i (z0i (z0i (z0i (z0i (z0i (z0i (z0i (z0i (z0i (z0i h hne) hne) hne) hne) hne) hne) hne) hne) hne) hne) hne) hne) hne) hne
theorem has14 {w:World} {b:Nat} {t:TypeId} {v0 v1 v2 v3 v4 v5 v6 v7 v8 v9 v10 v11 v12 v13:Value} (h:w.heap[b]? = some (.cells #[v0,v1,v2,v3,v4,v5,v6,v7,v8,v9,v10,v11,v12,v13] t (0,0))):HasC w b 0 ∧ HasC w b 1 ∧ HasC w b 2 ∧ HasC w b 3 ∧ HasC w b 4 ∧ HasC w b 5 ∧ HasC w b 6 ∧ HasC w b 7 ∧ HasC w b 8 ∧ HasC w b 9 ∧ HasC w b 10 ∧ HasC w b 11 ∧ HasC w b 12 ∧ HasC w b 13:=by
 obtain ⟨c0,c1,c2,c3,c4,c5,c6,c7,c8,c9,c10,c11,c12,c13,-,-⟩:=z1p h
 exact ⟨z0b c0,z0b c1,z0b c2,z0b c3,z0b c4,z0b c5,z0b c6,z0b c7,z0b c8,z0b c9,z0b c10,z0b c11,z0b c12,z0b c13⟩
abbrev snZ:Array Value:=#[.int .i64 0,.int .i64 0,.int .i64 0,.int .i64 0,.int .u64 0,.slice none 0 0,.slice none 0 0,.slice none 0 0,.slice none 0 0,.slice none 0 0,.string ⟨#[]⟩,.slice none 0 0,.int .u64 0,.slice none 0 0]
abbrev snX (s:Sn) (pa:Option Addr) (pc:Nat) (da:Option Addr) (dc:Nat) (ia:Option Addr) (ic:Nat) (oa:Option Addr) (oc:Nat) (ta:Option Addr) (tc:Nat) (ka:Option Addr) (kc:Nat) (ua:Option Addr) (uc:Nat):Array Value:=#[.int .i64 s.status,.int .i64 s.moves,.int .i64 s.clock,.int .i64 s.seq,.int .u64 s.inn,.slice pa s.past.length pc,.slice da s.data.length dc,.slice ia s.inner.length ic,.slice oa s.outer.length oc,.slice ta s.timers.length tc,.string s.event,.slice ka s.taken.length kc,.int .u64 s.ent,.slice ua s.out.length uc]
theorem all14 {w:World} {b:Nat} {t:TypeId} {v0 v1 v2 v3 v4 v5 v6 v7 v8 v9 v10 v11 v12 v13:Value} (h:w.heap[b]? = some (.cells #[v0,v1,v2,v3,v4,v5,v6,v7,v8,v9,v10,v11,v12,v13] t (0,0))):(w.cell? ⟨b,0,none⟩ = some v0 ∧ w.cell? ⟨b,1,none⟩ = some v1 ∧ w.cell? ⟨b,2,none⟩ = some v2 ∧ w.cell? ⟨b,3,none⟩ = some v3 ∧ w.cell? ⟨b,4,none⟩ = some v4 ∧ w.cell? ⟨b,5,none⟩ = some v5 ∧ w.cell? ⟨b,6,none⟩ = some v6 ∧ w.cell? ⟨b,7,none⟩ = some v7 ∧ w.cell? ⟨b,8,none⟩ = some v8 ∧ w.cell? ⟨b,9,none⟩ = some v9 ∧ w.cell? ⟨b,10,none⟩ = some v10 ∧ w.cell? ⟨b,11,none⟩ = some v11 ∧ w.cell? ⟨b,12,none⟩ = some v12 ∧ w.cell? ⟨b,13,none⟩ = some v13 ∧ b < w.heap.size ∧ ∀ i,w.frozen? ⟨b,i,none⟩ = false) ∧ InW b w ∧ HasC w b 0 ∧ HasC w b 1 ∧ HasC w b 2 ∧ HasC w b 3 ∧ HasC w b 4 ∧ HasC w b 5 ∧ HasC w b 6 ∧ HasC w b 7 ∧ HasC w b 8 ∧ HasC w b 9 ∧ HasC w b 10 ∧ HasC w b 11 ∧ HasC w b 12 ∧ HasC w b 13 :=
 ⟨z1p h,⟨lt_of_block h⟩,has14 h⟩
def OwnR (w:World) (s:Sn) (pa:Option Addr) (pc:Nat) (da:Option Addr) (dc:Nat) (ia:Option Addr) (ic:Nat) (oa:Option Addr) (oc:Nat) (ta:Option Addr) (tc:Nat) (ka:Option Addr) (kc:Nat) (ua:Option Addr) (uc:Nat) (v3 v4:Value) (wx:World):Prop:=∃ (b3 b4 B:Nat) (pa3:Option Addr) (pc3:Nat) (da3:Option Addr) (dc3:Nat) (ia3:Option Addr) (ic3:Nat) (oa3:Option Addr) (oc3:Nat) (ta3:Option Addr) (tc3:Nat) (ka3:Option Addr) (kc3:Nat) (ua3:Option Addr) (uc3:Nat) (pa4:Option Addr) (pc4:Nat) (da4:Option Addr) (dc4:Nat) (ia4:Option Addr) (ic4:Nat) (oa4:Option Addr) (oc4:Nat) (ta4:Option Addr) (tc4:Nat) (ka4:Option Addr) (kc4:Nat) (ua4:Option Addr) (uc4:Nat),v3 = .pointer (some ⟨b3,0,none⟩) ∧ v4 = .pointer (some ⟨b4,0,none⟩) ∧ w.heap.size < B ∧ B ≤ wx.heap.size ∧ Below w.heap.size w wx ∧ Hid (wx.heap[w.heap.size]? = some (.cells (snX s pa pc da dc ia ic oa oc ta tc ka kc ua uc) 44 (0,0)) ∧ wx.heap[b3]? = some (.cells (snX s pa3 pc3 da3 dc3 ia3 ic3 oa3 oc3 ta3 tc3 ka3 kc3 ua3 uc3) 44 (0,0)) ∧ wx.heap[b4]? = some (.cells (snX s pa4 pc4 da4 dc4 ia4 ic4 oa4 oc4 ta4 tc4 ka4 kc4 ua4 uc4) 44 (0,0))) ∧ Hid (∀ wy,Below B wx wy → SnRd wy s pa3 pc3 da3 dc3 ia3 ic3 oa3 oc3 ta3 tc3 ka3 kc3 ua3 uc3) ∧ Hid (SnOw wx B s pa4 pc4 da4 dc4 ia4 ic4 oa4 oc4 ta4 tc4 ka4 kc4 ua4 uc4)
theorem own_leaf {w X0 v:World} {s:Sn} {pa:Option Addr} {pc:Nat} {da:Option Addr} {dc:Nat} {ia:Option Addr} {ic:Nat} {oa:Option Addr} {oc:Nat} {ta:Option Addr} {tc:Nat} {ka:Option Addr} {kc:Nat} {ua:Option Addr} {uc:Nat} {pa3:Option Addr} {pc3:Nat} {da3:Option Addr} {dc3:Nat} {ia3:Option Addr} {ic3:Nat} {oa3:Option Addr} {oc3:Nat} {ta3:Option Addr} {tc3:Nat} {ka3:Option Addr} {kc3:Nat} {ua3:Option Addr} {uc3:Nat} {pa4:Option Addr} {pc4:Nat} {da4:Option Addr} {dc4:Nat} {ia4:Option Addr} {ic4:Nat} {oa4:Option Addr} {oc4:Nat} {ta4:Option Addr} {tc4:Nat} {ka4:Option Addr} {kc4:Nat} {ua4:Option Addr} {uc4:Nat} {b3 b4 B B1:Nat} {z0 z1 z2 z3 z4 z5 z6 z7 z8 z9 z10 z11 z12 z13 y0 y1 y2 y3 y4 y5 y6 y7 y8 y9 y10 y11 y12 y13:Value} (hx0:X0.heap[w.heap.size]? = some (.cells (snX s pa pc da dc ia ic oa oc ta tc ka kc ua uc) 44 (0,0))) (hG:∀ X,Below X0.heap.size X0 X → Below w.heap.size w X) (hb:Below X0.heap.size X0 v) (le3:X0.heap.size ≤ b3) (le4:X0.heap.size ≤ b4) (hB0:X0.heap.size ≤ B) (hBz:B ≤ v.heap.size) (hne:b3 ≠ b4)
  (x3:v.heap[b3]? = some (.cells #[z0,z1,z2,z3,z4,z5,z6,z7,z8,z9,z10,z11,z12,z13] 44 (0,0))) (x4:v.heap[b4]? = some (.cells #[y0,y1,y2,y3,y4,y5,y6,y7,y8,y9,y10,y11,y12,y13] 44 (0,0))) (hO1:SnOw v B1 s pa3 pc3 da3 dc3 ia3 ic3 oa3 oc3 ta3 tc3 ka3 kc3 ua3 uc3) (hL:SnLt B s pa3 pc3 da3 dc3 ia3 ic3 oa3 oc3 ta3 tc3 ka3 kc3 ua3 uc3) (hO2:SnOw v B s pa4 pc4 da4 dc4 ia4 ic4 oa4 oc4 ta4 tc4 ka4 kc4 ua4 uc4) :
  OwnR w s pa pc da dc ia ic oa oc ta tc ka kc ua uc (.pointer (some ⟨b3,0,none⟩)) (.pointer (some ⟨b4,0,none⟩)) (y6l (y6l v b3 (.int .i64 s.status) (.int .i64 s.moves) (.int .i64 s.clock) (.int .i64 s.seq) (.int .u64 s.inn) (.slice pa3 s.past.length pc3) (.slice da3 s.data.length dc3) (.slice ia3 s.inner.length ic3) (.slice oa3 s.outer.length oc3) (.slice ta3 s.timers.length tc3) (.string s.event) (.slice ka3 s.taken.length kc3) (.int .u64 s.ent) (.slice ua3 s.out.length uc3)) b4 (.int .i64 s.status) (.int .i64 s.moves) (.int .i64 s.clock) (.int .i64 s.seq) (.int .u64 s.inn) (.slice pa4 s.past.length pc4) (.slice da4 s.data.length dc4) (.slice ia4 s.inner.length ic4) (.slice oa4 s.outer.length oc4) (.slice ta4 s.timers.length tc4) (.string s.event) (.slice ka4 s.taken.length kc4) (.int .u64 s.ent) (.slice ua4 s.out.length uc4)):=by
 have hk:=lt_of_block hx0
 have q4:=x4
 have hbb:Below X0.heap.size X0 (y6l (y6l v b3 (.int .i64 s.status) (.int .i64 s.moves) (.int .i64 s.clock) (.int .i64 s.seq) (.int .u64 s.inn) (.slice pa3 s.past.length pc3) (.slice da3 s.data.length dc3) (.slice ia3 s.inner.length ic3) (.slice oa3 s.outer.length oc3) (.slice ta3 s.timers.length tc3) (.string s.event) (.slice ka3 s.taken.length kc3) (.int .u64 s.ent) (.slice ua3 s.out.length uc3)) b4 (.int .i64 s.status) (.int .i64 s.moves) (.int .i64 s.clock) (.int .i64 s.seq) (.int .u64 s.inn) (.slice pa4 s.past.length pc4) (.slice da4 s.data.length dc4) (.slice ia4 s.inner.length ic4) (.slice oa4 s.outer.length oc4) (.slice ta4 s.timers.length tc4) (.string s.event) (.slice ka4 s.taken.length kc4) (.int .u64 s.ent) (.slice ua4 s.out.length uc4)):=z8s (z8s hb le3) le4
 exact ⟨b3,b4,B,pa3,pc3,da3,dc3,ia3,ic3,oa3,oc3,ta3,tc3,ka3,kc3,ua3,uc3,pa4,pc4,da4,dc4,ia4,ic4,oa4,oc4,ta4,tc4,ka4,kc4,ua4,uc4,rfl,rfl,by omega,by simp only [World.size_setCell];exact hBz,hG _ hbb,hiT ⟨z0c hx0 hbb,put14_far (put14_at x3) hne,put14_at (put14_far x4 (Ne.symm hne))⟩,hiT (fun wy hy=>snLow (snOw_put (snOw_put hO1 x3) (put14_far q4 (Ne.symm hne))) hL hy),hiT (snOw_put (snOw_put hO2 x3) (put14_far q4 (Ne.symm hne)))⟩
structure SnUp (w:World) (B:Nat) (s s':Sn) (pa:Option Addr) (pc:Nat) (da:Option Addr) (dc:Nat) (ia:Option Addr) (ic:Nat) (oa:Option Addr) (oc:Nat) (ta:Option Addr) (tc:Nat) (ka:Option Addr) (kc:Nat) (ua:Option Addr) (uc:Nat):Prop where
 past:w.ownsRow B 35 1 (.slice pa s.past.length pc) s.past.length (s'.past.flatMap sbC)
 data:w.ownsRow B 66 3 (.slice da s.data.length dc) s.data.length (s'.data.flatMap vlC)
 inner:w.ownsRow B 9 1 (.slice ia s.inner.length ic) s.inner.length (s'.inner.flatMap z3j)
 outer:w.ownsRow B 9 1 (.slice oa s.outer.length oc) s.outer.length (s'.outer.flatMap z3j)
 timers:w.ownsRow B 68 3 (.slice ta s.timers.length tc) s.timers.length (s'.timers.flatMap tmC)
 taken:w.ownsRow B 3 1 (.slice ka s.taken.length kc) s.taken.length (s'.taken.flatMap inC)
 out:w.ownsRow B 9 1 (.slice ua s.out.length uc) s.out.length (s'.out.flatMap z3j)
 io:q2n (.slice ia s.inner.length ic) (.slice oa s.outer.length oc)
 iu:q2n (.slice ia s.inner.length ic) (.slice ua s.out.length uc)
 ou:q2n (.slice oa s.outer.length oc) (.slice ua s.out.length uc)
theorem snUp_of {w:World} {B:Nat} {s:Sn} {pa:Option Addr} {pc:Nat} {da:Option Addr} {dc:Nat} {ia:Option Addr} {ic:Nat} {oa:Option Addr} {oc:Nat} {ta:Option Addr} {tc:Nat} {ka:Option Addr} {kc:Nat} {ua:Option Addr} {uc:Nat} (h:SnOw w B s pa pc da dc ia ic oa oc ta tc ka kc ua uc):SnUp w B s s pa pc da dc ia ic oa oc ta tc ka kc ua uc :=
 ⟨h.past,h.data,h.inner,h.outer,h.timers,h.taken,h.out,h.io,h.iu,h.ou⟩
theorem snUp_below {w w':World} {B:Nat} {s s':Sn} {pa:Option Addr} {pc:Nat} {da:Option Addr} {dc:Nat} {ia:Option Addr} {ic:Nat} {oa:Option Addr} {oc:Nat} {ta:Option Addr} {tc:Nat} {ka:Option Addr} {kc:Nat} {ua:Option Addr} {uc:Nat} (h:SnUp w B s s' pa pc da dc ia ic oa oc ta tc ka kc ua uc) (hb:Below w.heap.size w w'):SnUp w' B s s' pa pc da dc ia ic oa oc ta tc ka kc ua uc :=
 ⟨z0a h.past hb,z0a h.data hb,z0a h.inner hb,z0a h.outer hb,z0a h.timers hb,z0a h.taken hb,z0a h.out hb,h.io,h.iu,h.ou⟩
theorem snUp_rd {w:World} {B:Nat} {s s':Sn} {pa:Option Addr} {pc:Nat} {da:Option Addr} {dc:Nat} {ia:Option Addr} {ic:Nat} {oa:Option Addr} {oc:Nat} {ta:Option Addr} {tc:Nat} {ka:Option Addr} {kc:Nat} {ua:Option Addr} {uc:Nat} (h:SnUp w B s s' pa pc da dc ia ic oa oc ta tc ka kc ua uc):SnRd w s' pa pc da dc ia ic oa oc ta tc ka kc ua uc :=
 ⟨z2s h.past,z2s h.data,z2s h.inner,z2s h.outer,z2s h.timers,z2s h.taken,z2s h.out⟩
theorem up_past {w:World} {B gg:Nat} {s s':Sn} {pc:Nat} {da:Option Addr} {dc:Nat} {ia:Option Addr} {ic:Nat} {oa:Option Addr} {oc:Nat} {ta:Option Addr} {tc:Nat} {ka:Option Addr} {kc:Nat} {ua:Option Addr} {uc:Nat} (i:Nat) (hi:i < s.past.length) (h:SnUp w B s { s' with past:=y8d v1p s.past i } (some ⟨gg,0,none⟩) pc da dc ia ic oa oc ta tc ka kc ua uc) :
  gg < w.heap.size ∧ B ≤ gg ∧ w.cell? ⟨gg,i,none⟩ = some (.int .u64 s.past[i]) ∧ w.frozen? ⟨gg,i,none⟩ = false ∧ (∀ b cs (fr:Nat × Nat),w.heap[b]? = some (.cells cs 44 fr) → b ≠ gg) ∧ SnUp (w.setCell ⟨gg,i,none⟩ (.int .u64 (IntKind.u64.wrap (s.past[i] + 1)))) B s { s' with past:=y8d v1p s.past (i + 1) } (some ⟨gg,0,none⟩) pc da dc ia ic oa oc ta tc ka kc ua uc:=by
 have hO:=h.past
 have hlen:0 < s.past.length:=by omega
 have hl':i < (y8d v1p s.past i).length:=by rw [x1b _ _ _ omT];exact hi
 obtain ⟨g,cap,e,hg,-,-,hcell⟩:=z1g hO hlen
 cases e
 have hc:=hcell (i * 1 + 0) _ ((z9o sbC 1 q8r (y8d v1p s.past i) i hl' 0 deT).trans rfl)
 rw [x2s _ _ _ hi hl'] at hc
 have eC:((y8d v1p s.past i).flatMap sbC).set (i * 1 + 0) (.int .u64 (IntKind.u64.wrap (s.past[i] + 1))) = (y8d v1p s.past (i + 1)).flatMap sbC:=by
  rw [← x0g v1p s.past i hi]
  exact q6b sbC 1 q8r _ i 0 _ _ hl' deT (by rw [x2s _ _ _ hi hl'];rfl)
 rw [Nat.mul_one,Nat.add_zero] at hc eC
 exact ⟨hg,(hO.lt gg rfl).1,hc,q4p hO _,fun b cs fr hb e=>z0n hO hb deT (by rw [e];rfl),⟨by show (w.setCell _ _).ownsRow _ _ _ _ _ _;rw [← eC];exact j4d hO,ownsRow_setCell_other (a:=⟨gg,i,none⟩) h.data (z3i h.data hO deT rfl) _,ownsRow_setCell_other (a:=⟨gg,i,none⟩) h.inner (z3i h.inner hO deT rfl) _,ownsRow_setCell_other (a:=⟨gg,i,none⟩) h.outer (z3i h.outer hO deT rfl) _,ownsRow_setCell_other (a:=⟨gg,i,none⟩) h.timers (z3i h.timers hO deT rfl) _,ownsRow_setCell_other (a:=⟨gg,i,none⟩) h.taken (z3i h.taken hO deT rfl) _,ownsRow_setCell_other (a:=⟨gg,i,none⟩) h.out (z3i h.out hO deT rfl) _,h.io,h.iu,h.ou⟩⟩
theorem up_data {w:World} {B gg:Nat} {s s':Sn} {pa:Option Addr} {pc:Nat} {dc:Nat} {ia:Option Addr} {ic:Nat} {oa:Option Addr} {oc:Nat} {ta:Option Addr} {tc:Nat} {ka:Option Addr} {kc:Nat} {ua:Option Addr} {uc:Nat} (i:Nat) (hi:i < s.data.length) (h:SnUp w B s { s' with data:=y8d v1r s.data i } pa pc (some ⟨gg,0,none⟩) dc ia ic oa oc ta tc ka kc ua uc) :
  gg < w.heap.size ∧ B ≤ gg ∧ w.cell? ⟨gg,i * 3 + 1,none⟩ = some (.int .i64 s.data[i].n) ∧ w.frozen? ⟨gg,i * 3 + 1,none⟩ = false ∧ (∀ b cs (fr:Nat × Nat),w.heap[b]? = some (.cells cs 44 fr) → b ≠ gg) ∧ SnUp (w.setCell ⟨gg,i * 3 + 1,none⟩ (.int .i64 (wrap64 (s.data[i].n + 1)))) B s { s' with data:=y8d v1r s.data (i + 1) } pa pc (some ⟨gg,0,none⟩) dc ia ic oa oc ta tc ka kc ua uc:=by
 have hO:=h.data
 have hlen:0 < s.data.length:=by omega
 have hl':i < (y8d v1r s.data i).length:=by rw [x1b _ _ _ omT];exact hi
 obtain ⟨g,cap,e,hg,-,-,hcell⟩:=z1g hO hlen
 cases e
 have hc:=hcell (i * 3 + 1) _ ((z9o vlC 3 q5s (y8d v1r s.data i) i hl' 1 deT).trans rfl)
 rw [x2s _ _ _ hi hl'] at hc
 have eC:((y8d v1r s.data i).flatMap vlC).set (i * 3 + 1) (.int .i64 (wrap64 (s.data[i].n + 1))) = (y8d v1r s.data (i + 1)).flatMap vlC:=by
  rw [← x0g v1r s.data i hi]
  exact q6b vlC 3 q5s _ i 1 _ _ hl' deT (by rw [x2s _ _ _ hi hl'];rfl)
 exact ⟨hg,(hO.lt gg rfl).1,hc,q4p hO _,fun b cs fr hb e=>z0n hO hb deT (by rw [e];rfl),⟨ownsRow_setCell_other (a:=⟨gg,i * 3 + 1,none⟩) h.past (z3i h.past hO deT rfl) _,by show (w.setCell _ _).ownsRow _ _ _ _ _ _;rw [← eC];exact j4d hO,ownsRow_setCell_other (a:=⟨gg,i * 3 + 1,none⟩) h.inner (z3i h.inner hO deT rfl) _,ownsRow_setCell_other (a:=⟨gg,i * 3 + 1,none⟩) h.outer (z3i h.outer hO deT rfl) _,ownsRow_setCell_other (a:=⟨gg,i * 3 + 1,none⟩) h.timers (z3i h.timers hO deT rfl) _,ownsRow_setCell_other (a:=⟨gg,i * 3 + 1,none⟩) h.taken (z3i h.taken hO deT rfl) _,ownsRow_setCell_other (a:=⟨gg,i * 3 + 1,none⟩) h.out (z3i h.out hO deT rfl) _,h.io,h.iu,h.ou⟩⟩
theorem up_inner {w:World} {B gg:Nat} {s s':Sn} {pa:Option Addr} {pc:Nat} {da:Option Addr} {dc:Nat} {ic:Nat} {oa:Option Addr} {oc:Nat} {ta:Option Addr} {tc:Nat} {ka:Option Addr} {kc:Nat} {ua:Option Addr} {uc:Nat} (i:Nat) (hi:i < s.inner.length) (h:SnUp w B s { s' with inner:=y8d j1k s.inner i } pa pc da dc (some ⟨gg,0,none⟩) ic oa oc ta tc ka kc ua uc) :
  gg < w.heap.size ∧ B ≤ gg ∧ w.cell? ⟨gg,i,none⟩ = some (.string s.inner[i]) ∧ w.frozen? ⟨gg,i,none⟩ = false ∧ (∀ b cs (fr:Nat × Nat),w.heap[b]? = some (.cells cs 44 fr) → b ≠ gg) ∧ SnUp (w.setCell ⟨gg,i,none⟩ (.string (s.inner[i] ++ ⟨#[120]⟩))) B s { s' with inner:=y8d j1k s.inner (i + 1) } pa pc da dc (some ⟨gg,0,none⟩) ic oa oc ta tc ka kc ua uc:=by
 have hO:=h.inner
 have hlen:0 < s.inner.length:=by omega
 have hl':i < (y8d j1k s.inner i).length:=by rw [x1b _ _ _ omT];exact hi
 obtain ⟨g,cap,e,hg,-,-,hcell⟩:=z1g hO hlen
 cases e
 have hc:=hcell (i * 1 + 0) _ ((z9o z3j 1 q0h (y8d j1k s.inner i) i hl' 0 deT).trans rfl)
 rw [x2s _ _ _ hi hl'] at hc
 have eC:((y8d j1k s.inner i).flatMap z3j).set (i * 1 + 0) (.string (s.inner[i] ++ ⟨#[120]⟩)) = (y8d j1k s.inner (i + 1)).flatMap z3j:=by
  rw [← x0g j1k s.inner i hi]
  exact q6b z3j 1 q0h _ i 0 _ _ hl' deT (by rw [x2s _ _ _ hi hl'];rfl)
 rw [Nat.mul_one,Nat.add_zero] at hc eC
 exact ⟨hg,(hO.lt gg rfl).1,hc,q4p hO _,fun b cs fr hb e=>z0n hO hb deT (by rw [e];rfl),⟨ownsRow_setCell_other (a:=⟨gg,i,none⟩) h.past (z3i h.past hO deT rfl) _,ownsRow_setCell_other (a:=⟨gg,i,none⟩) h.data (z3i h.data hO deT rfl) _,by show (w.setCell _ _).ownsRow _ _ _ _ _ _;rw [← eC];exact j4d hO,ownsRow_setCell_other (a:=⟨gg,i,none⟩) h.outer (h.io gg rfl) _,ownsRow_setCell_other (a:=⟨gg,i,none⟩) h.timers (z3i h.timers hO deT rfl) _,ownsRow_setCell_other (a:=⟨gg,i,none⟩) h.taken (z3i h.taken hO deT rfl) _,ownsRow_setCell_other (a:=⟨gg,i,none⟩) h.out (h.iu gg rfl) _,h.io,h.iu,h.ou⟩⟩
theorem up_outer {w:World} {B gg:Nat} {s s':Sn} {pa:Option Addr} {pc:Nat} {da:Option Addr} {dc:Nat} {ia:Option Addr} {ic:Nat} {oc:Nat} {ta:Option Addr} {tc:Nat} {ka:Option Addr} {kc:Nat} {ua:Option Addr} {uc:Nat} (i:Nat) (hi:i < s.outer.length) (h:SnUp w B s { s' with outer:=y8d j1k s.outer i } pa pc da dc ia ic (some ⟨gg,0,none⟩) oc ta tc ka kc ua uc) :
  gg < w.heap.size ∧ B ≤ gg ∧ w.cell? ⟨gg,i,none⟩ = some (.string s.outer[i]) ∧ w.frozen? ⟨gg,i,none⟩ = false ∧ (∀ b cs (fr:Nat × Nat),w.heap[b]? = some (.cells cs 44 fr) → b ≠ gg) ∧ SnUp (w.setCell ⟨gg,i,none⟩ (.string (s.outer[i] ++ ⟨#[120]⟩))) B s { s' with outer:=y8d j1k s.outer (i + 1) } pa pc da dc ia ic (some ⟨gg,0,none⟩) oc ta tc ka kc ua uc:=by
 have hO:=h.outer
 have hlen:0 < s.outer.length:=by omega
 have hl':i < (y8d j1k s.outer i).length:=by rw [x1b _ _ _ omT];exact hi
 obtain ⟨g,cap,e,hg,-,-,hcell⟩:=z1g hO hlen
 cases e
 have hc:=hcell (i * 1 + 0) _ ((z9o z3j 1 q0h (y8d j1k s.outer i) i hl' 0 deT).trans rfl)
 rw [x2s _ _ _ hi hl'] at hc
 have eC:((y8d j1k s.outer i).flatMap z3j).set (i * 1 + 0) (.string (s.outer[i] ++ ⟨#[120]⟩)) = (y8d j1k s.outer (i + 1)).flatMap z3j:=by
  rw [← x0g j1k s.outer i hi]
  exact q6b z3j 1 q0h _ i 0 _ _ hl' deT (by rw [x2s _ _ _ hi hl'];rfl)
 rw [Nat.mul_one,Nat.add_zero] at hc eC
 exact ⟨hg,(hO.lt gg rfl).1,hc,q4p hO _,fun b cs fr hb e=>z0n hO hb deT (by rw [e];rfl),⟨ownsRow_setCell_other (a:=⟨gg,i,none⟩) h.past (z3i h.past hO deT rfl) _,ownsRow_setCell_other (a:=⟨gg,i,none⟩) h.data (z3i h.data hO deT rfl) _,ownsRow_setCell_other (a:=⟨gg,i,none⟩) h.inner (q7c h.io gg rfl) _,by show (w.setCell _ _).ownsRow _ _ _ _ _ _;rw [← eC];exact j4d hO,ownsRow_setCell_other (a:=⟨gg,i,none⟩) h.timers (z3i h.timers hO deT rfl) _,ownsRow_setCell_other (a:=⟨gg,i,none⟩) h.taken (z3i h.taken hO deT rfl) _,ownsRow_setCell_other (a:=⟨gg,i,none⟩) h.out (h.ou gg rfl) _,h.io,h.iu,h.ou⟩⟩
theorem up_timers {w:World} {B gg:Nat} {s s':Sn} {pa:Option Addr} {pc:Nat} {da:Option Addr} {dc:Nat} {ia:Option Addr} {ic:Nat} {oa:Option Addr} {oc:Nat} {tc:Nat} {ka:Option Addr} {kc:Nat} {ua:Option Addr} {uc:Nat} (i:Nat) (hi:i < s.timers.length) (h:SnUp w B s { s' with timers:=y8d v1q s.timers i } pa pc da dc ia ic oa oc (some ⟨gg,0,none⟩) tc ka kc ua uc) :
  gg < w.heap.size ∧ B ≤ gg ∧ w.cell? ⟨gg,i * 3 + 1,none⟩ = some (.int .i64 s.timers[i].seq) ∧ w.frozen? ⟨gg,i * 3 + 1,none⟩ = false ∧ (∀ b cs (fr:Nat × Nat),w.heap[b]? = some (.cells cs 44 fr) → b ≠ gg) ∧ SnUp (w.setCell ⟨gg,i * 3 + 1,none⟩ (.int .i64 (wrap64 (s.timers[i].seq + 1)))) B s { s' with timers:=y8d v1q s.timers (i + 1) } pa pc da dc ia ic oa oc (some ⟨gg,0,none⟩) tc ka kc ua uc:=by
 have hO:=h.timers
 have hlen:0 < s.timers.length:=by omega
 have hl':i < (y8d v1q s.timers i).length:=by rw [x1b _ _ _ omT];exact hi
 obtain ⟨g,cap,e,hg,-,-,hcell⟩:=z1g hO hlen
 cases e
 have hc:=hcell (i * 3 + 1) _ ((z9o tmC 3 j8b (y8d v1q s.timers i) i hl' 1 deT).trans rfl)
 rw [x2s _ _ _ hi hl'] at hc
 have eC:((y8d v1q s.timers i).flatMap tmC).set (i * 3 + 1) (.int .i64 (wrap64 (s.timers[i].seq + 1))) = (y8d v1q s.timers (i + 1)).flatMap tmC:=by
  rw [← x0g v1q s.timers i hi]
  exact q6b tmC 3 j8b _ i 1 _ _ hl' deT (by rw [x2s _ _ _ hi hl'];rfl)
 exact ⟨hg,(hO.lt gg rfl).1,hc,q4p hO _,fun b cs fr hb e=>z0n hO hb deT (by rw [e];rfl),⟨ownsRow_setCell_other (a:=⟨gg,i * 3 + 1,none⟩) h.past (z3i h.past hO deT rfl) _,ownsRow_setCell_other (a:=⟨gg,i * 3 + 1,none⟩) h.data (z3i h.data hO deT rfl) _,ownsRow_setCell_other (a:=⟨gg,i * 3 + 1,none⟩) h.inner (z3i h.inner hO deT rfl) _,ownsRow_setCell_other (a:=⟨gg,i * 3 + 1,none⟩) h.outer (z3i h.outer hO deT rfl) _,by show (w.setCell _ _).ownsRow _ _ _ _ _ _;rw [← eC];exact j4d hO,ownsRow_setCell_other (a:=⟨gg,i * 3 + 1,none⟩) h.taken (z3i h.taken hO deT rfl) _,ownsRow_setCell_other (a:=⟨gg,i * 3 + 1,none⟩) h.out (z3i h.out hO deT rfl) _,h.io,h.iu,h.ou⟩⟩
theorem up_taken {w:World} {B gg:Nat} {s s':Sn} {pa:Option Addr} {pc:Nat} {da:Option Addr} {dc:Nat} {ia:Option Addr} {ic:Nat} {oa:Option Addr} {oc:Nat} {ta:Option Addr} {tc:Nat} {kc:Nat} {ua:Option Addr} {uc:Nat} (i:Nat) (hi:i < s.taken.length) (h:SnUp w B s { s' with taken:=y8d v1o s.taken i } pa pc da dc ia ic oa oc ta tc (some ⟨gg,0,none⟩) kc ua uc) :
  gg < w.heap.size ∧ B ≤ gg ∧ w.cell? ⟨gg,i,none⟩ = some (.int .i64 s.taken[i]) ∧ w.frozen? ⟨gg,i,none⟩ = false ∧ (∀ b cs (fr:Nat × Nat),w.heap[b]? = some (.cells cs 44 fr) → b ≠ gg) ∧ SnUp (w.setCell ⟨gg,i,none⟩ (.int .i64 (wrap64 (s.taken[i] + 1)))) B s { s' with taken:=y8d v1o s.taken (i + 1) } pa pc da dc ia ic oa oc ta tc (some ⟨gg,0,none⟩) kc ua uc:=by
 have hO:=h.taken
 have hlen:0 < s.taken.length:=by omega
 have hl':i < (y8d v1o s.taken i).length:=by rw [x1b _ _ _ omT];exact hi
 obtain ⟨g,cap,e,hg,-,-,hcell⟩:=z1g hO hlen
 cases e
 have hc:=hcell (i * 1 + 0) _ ((z9o inC 1 k0r (y8d v1o s.taken i) i hl' 0 deT).trans rfl)
 rw [x2s _ _ _ hi hl'] at hc
 have eC:((y8d v1o s.taken i).flatMap inC).set (i * 1 + 0) (.int .i64 (wrap64 (s.taken[i] + 1))) = (y8d v1o s.taken (i + 1)).flatMap inC:=by
  rw [← x0g v1o s.taken i hi]
  exact q6b inC 1 k0r _ i 0 _ _ hl' deT (by rw [x2s _ _ _ hi hl'];rfl)
 rw [Nat.mul_one,Nat.add_zero] at hc eC
 exact ⟨hg,(hO.lt gg rfl).1,hc,q4p hO _,fun b cs fr hb e=>z0n hO hb deT (by rw [e];rfl),⟨ownsRow_setCell_other (a:=⟨gg,i,none⟩) h.past (z3i h.past hO deT rfl) _,ownsRow_setCell_other (a:=⟨gg,i,none⟩) h.data (z3i h.data hO deT rfl) _,ownsRow_setCell_other (a:=⟨gg,i,none⟩) h.inner (z3i h.inner hO deT rfl) _,ownsRow_setCell_other (a:=⟨gg,i,none⟩) h.outer (z3i h.outer hO deT rfl) _,ownsRow_setCell_other (a:=⟨gg,i,none⟩) h.timers (z3i h.timers hO deT rfl) _,by show (w.setCell _ _).ownsRow _ _ _ _ _ _;rw [← eC];exact j4d hO,ownsRow_setCell_other (a:=⟨gg,i,none⟩) h.out (z3i h.out hO deT rfl) _,h.io,h.iu,h.ou⟩⟩
theorem up_out {w:World} {B gg:Nat} {s s':Sn} {pa:Option Addr} {pc:Nat} {da:Option Addr} {dc:Nat} {ia:Option Addr} {ic:Nat} {oa:Option Addr} {oc:Nat} {ta:Option Addr} {tc:Nat} {ka:Option Addr} {kc:Nat} {uc:Nat} (i:Nat) (hi:i < s.out.length) (h:SnUp w B s { s' with out:=y8d j1k s.out i } pa pc da dc ia ic oa oc ta tc ka kc (some ⟨gg,0,none⟩) uc) :
  gg < w.heap.size ∧ B ≤ gg ∧ w.cell? ⟨gg,i,none⟩ = some (.string s.out[i]) ∧ w.frozen? ⟨gg,i,none⟩ = false ∧ (∀ b cs (fr:Nat × Nat),w.heap[b]? = some (.cells cs 44 fr) → b ≠ gg) ∧ SnUp (w.setCell ⟨gg,i,none⟩ (.string (s.out[i] ++ ⟨#[120]⟩))) B s { s' with out:=y8d j1k s.out (i + 1) } pa pc da dc ia ic oa oc ta tc ka kc (some ⟨gg,0,none⟩) uc:=by
 have hO:=h.out
 have hlen:0 < s.out.length:=by omega
 have hl':i < (y8d j1k s.out i).length:=by rw [x1b _ _ _ omT];exact hi
 obtain ⟨g,cap,e,hg,-,-,hcell⟩:=z1g hO hlen
 cases e
 have hc:=hcell (i * 1 + 0) _ ((z9o z3j 1 q0h (y8d j1k s.out i) i hl' 0 deT).trans rfl)
 rw [x2s _ _ _ hi hl'] at hc
 have eC:((y8d j1k s.out i).flatMap z3j).set (i * 1 + 0) (.string (s.out[i] ++ ⟨#[120]⟩)) = (y8d j1k s.out (i + 1)).flatMap z3j:=by
  rw [← x0g j1k s.out i hi]
  exact q6b z3j 1 q0h _ i 0 _ _ hl' deT (by rw [x2s _ _ _ hi hl'];rfl)
 rw [Nat.mul_one,Nat.add_zero] at hc eC
 exact ⟨hg,(hO.lt gg rfl).1,hc,q4p hO _,fun b cs fr hb e=>z0n hO hb deT (by rw [e];rfl),⟨ownsRow_setCell_other (a:=⟨gg,i,none⟩) h.past (z3i h.past hO deT rfl) _,ownsRow_setCell_other (a:=⟨gg,i,none⟩) h.data (z3i h.data hO deT rfl) _,ownsRow_setCell_other (a:=⟨gg,i,none⟩) h.inner (q7c h.iu gg rfl) _,ownsRow_setCell_other (a:=⟨gg,i,none⟩) h.outer (q7c h.ou gg rfl) _,ownsRow_setCell_other (a:=⟨gg,i,none⟩) h.timers (z3i h.timers hO deT rfl) _,ownsRow_setCell_other (a:=⟨gg,i,none⟩) h.taken (z3i h.taken hO deT rfl) _,by show (w.setCell _ _).ownsRow _ _ _ _ _ _;rw [← eC];exact j4d hO,h.io,h.iu,h.ou⟩⟩
def sJ (s:Sn) (j:Nat):Sn:={ { { { { s with past:=s.past.map v1p } with data:=s.data.map v1r } with timers:=s.timers.map v1q } with taken:=s.taken.map v1o } with inner:=if 0 < j then s.inner.map j1k else s.inner,outer:=if 1 < j then s.outer.map j1k else s.outer,out:=if 2 < j then s.out.map j1k else s.out }
theorem ownV_eq (s:Sn) (pa:Option Addr) (pc:Nat) (da:Option Addr) (dc:Nat) (ia:Option Addr) (ic:Nat) (oa:Option Addr) (oc:Nat) (ta:Option Addr) (tc:Nat) (ka:Option Addr) (kc:Nat) (ua:Option Addr) (uc:Nat):snV (x3x s) pa pc da dc ia ic oa oc ta tc ka kc ua uc = snV s pa pc da dc ia ic oa oc ta tc ka kc ua uc:=by
 unfold snV x3x
 simp only [List.length_map]
theorem own_few {s:Sn} (h:s.past.length ≤ 400 ∧ s.data.length ≤ 400 ∧ s.inner.length ≤ 400 ∧ s.outer.length ≤ 400 ∧ s.timers.length ≤ 400 ∧ s.taken.length ≤ 400 ∧ s.out.length ≤ 400):(x3x s).past.length ≤ 400 ∧ (x3x s).data.length ≤ 400 ∧ (x3x s).inner.length ≤ 400 ∧ (x3x s).outer.length ≤ 400 ∧ (x3x s).timers.length ≤ 400 ∧ (x3x s).taken.length ≤ 400 ∧ (x3x s).out.length ≤ 400:=by
 unfold x3x
 simp only [List.length_map]
 exact h
abbrev ops5:Array Oper:=#[{ dst:=some 45,op:=Op.load 44 (Operand.tmp 1),type:=44,pos := "law.go:213",after:=#[],guard:=none },
 { dst:=some 46,op:=Op.call { callee:=Callee.value (Operand.func 15),args:=#[Operand.tmp 45],argTypes:=#[44] },type:=44,pos := "law.go:213",after:=#[{ on:=0,ground:=Ground.data }],guard:=none },
 { dst:=some 47,op:=Op.load 44 (Operand.tmp 1),type:=44,pos := "law.go:213",after:=#[],guard:=none },
 { dst:=some 48,op:=Op.call { callee:=Callee.value (Operand.func 15),args:=#[Operand.tmp 47],argTypes:=#[44] },type:=44,pos := "law.go:213",after:=#[{ on:=2,ground:=Ground.data },{ on:=1,ground:=Ground.chain }],guard:=none },
 { dst:=some 3,op:=Op.alloc 44,type:=0,pos := "law.go:213",after:=#[],guard:=none },
 { dst:=some 4,op:=Op.alloc 44,type:=0,pos := "law.go:213",after:=#[],guard:=none },
 { dst:=none,op:=Op.store 44 (Operand.tmp 3) (Operand.tmp 46),type:=0,pos := "law.go:213",after:=#[{ on:=4,ground:=Ground.data },{ on:=1,ground:=Ground.data },{ on:=3,ground:=Ground.chain },{ on:=0,ground:=Ground.phase },{ on:=1,ground:=Ground.phase },{ on:=2,ground:=Ground.textOnly Departure.lateStores },{ on:=3,ground:=Ground.textOnly Departure.lateStoresUnsure },{ on:=4,ground:=Ground.phase },{ on:=5,ground:=Ground.phase }],guard:=none },
 { dst:=none,op:=Op.store 44 (Operand.tmp 4) (Operand.tmp 48),type:=0,pos := "law.go:213",after:=#[{ on:=5,ground:=Ground.data },{ on:=3,ground:=Ground.data },{ on:=6,ground:=Ground.chain },{ on:=0,ground:=Ground.phase },{ on:=1,ground:=Ground.phase },{ on:=2,ground:=Ground.phase },{ on:=3,ground:=Ground.phase },{ on:=4,ground:=Ground.phase },{ on:=5,ground:=Ground.phase },{ on:=6,ground:=Ground.phase }],guard:=none }]
abbrev fr5 (sv:Value) (sb:Nat) (u5 u6 u7 u8 u9 u10 u11 u12 u13 u14 u15 u16 u17 u18 u19 u20 u21 u22 u23 u24 u25 u26 u27 u28 u29 u30 u31 u32 u33 u34 u35 u36 u37 u38 u39 u40 u41 u42 u43 u44 v45 x46 v47 x48 x3 x4:Value):Array Value:=#[sv,.pointer (some ⟨sb,0,none⟩),.bool false,x3,x4,u5,u6,u7,u8,u9,u10,u11,u12,u13,u14,u15,u16,u17,u18,u19,u20,u21,u22,u23,u24,u25,u26,u27,u28,u29,u30,u31,u32,u33,u34,u35,u36,u37,u38,u39,u40,u41,u42,u43,u44,v45,x46,v47,x48,undef,undef,undef,undef,undef,undef,undef,undef,undef,undef,undef,undef,undef,undef,undef,undef,undef,undef,undef,undef,undef,undef,undef,undef,undef,undef,undef,undef,undef,undef,undef,undef,undef,undef,undef,undef,undef,undef,undef,undef,undef,undef,undef,undef,undef,undef,undef,undef,undef,undef,undef,undef,undef,undef,undef,undef,undef,undef,undef,undef,undef,undef,undef,undef,undef,undef,undef,undef,undef,undef,undef,undef,undef,undef,undef,undef,undef,undef,undef,undef,undef,undef,undef,undef,undef,undef,undef,undef,undef,undef,undef,undef,undef,undef,undef,undef,undef,undef,undef,undef,undef,undef,undef,undef,undef,undef,undef,undef,undef,undef,undef,undef,undef,undef,undef,undef,undef,undef,undef,undef,undef,undef,undef,undef,undef,undef,undef,undef]
set_option maxRecDepth 100000 in
set_option maxHeartbeats 8000000 in
theorem own_two_in {Q:Exit → Act → World → Prop} {S:World → Prop} {X0 v:World} {s:Sn} {pa3:Option Addr} {pc3:Nat} {da3:Option Addr} {dc3:Nat} {ia3:Option Addr} {ic3:Nat} {oa3:Option Addr} {oc3:Nat} {ta3:Option Addr} {tc3:Nat} {ka3:Option Addr} {kc3:Nat} {ua3:Option Addr} {uc3:Nat} {pa4:Option Addr} {pc4:Nat} {da4:Option Addr} {dc4:Nat} {ia4:Option Addr} {ic4:Nat} {oa4:Option Addr} {oc4:Nat} {ta4:Option Addr} {tc4:Nat} {ka4:Option Addr} {kc4:Nat} {ua4:Option Addr} {uc4:Nat} {sb b3 b4:Nat} {sv u5 u6 u7 u8 u9 u10 u11 u12 u13 u14 u15 u16 u17 u18 u19 u20 u21 u22 u23 u24 u25 u26 u27 u28 u29 u30 u31 u32 u33 u34 u35 u36 u37 u38 u39 u40 u41 u42 u43 u44 v45 v47 z0 z1 z2 z3 z4 z5 z6 z7 z8 z9 z10 z11 z12 z13 y0 y1 y2 y3 y4 y5 y6 y7 y8 y9 y10 y11 y12 y13:Value} (hS:∀ X,Below X0.heap.size X0 X → S X) (hb:Below X0.heap.size X0 v) (le3:X0.heap.size ≤ b3) (hne:b3 ≠ b4) (x3:v.heap[b3]? = some (.cells #[z0,z1,z2,z3,z4,z5,z6,z7,z8,z9,z10,z11,z12,z13] 44 (0,0))) (x4:v.heap[b4]? = some (.cells #[y0,y1,y2,y3,y4,y5,y6,y7,y8,y9,y10,y11,y12,y13] 44 (0,0)))
  (hQ:Q .normal ⟨fr5 sv sb u5 u6 u7 u8 u9 u10 u11 u12 u13 u14 u15 u16 u17 u18 u19 u20 u21 u22 u23 u24 u25 u26 u27 u28 u29 u30 u31 u32 u33 u34 u35 u36 u37 u38 u39 u40 u41 u42 u43 u44 v45 (snV s pa3 pc3 da3 dc3 ia3 ic3 oa3 oc3 ta3 tc3 ka3 kc3 ua3 uc3) v47 (snV s pa4 pc4 da4 dc4 ia4 ic4 oa4 oc4 ta4 tc4 ka4 kc4 ua4 uc4) (.pointer (some ⟨b3,0,none⟩)) (.pointer (some ⟨b4,0,none⟩)),[]⟩ (y6l (y6l v b3 (.int .i64 s.status) (.int .i64 s.moves) (.int .i64 s.clock) (.int .i64 s.seq) (.int .u64 s.inn) (.slice pa3 s.past.length pc3) (.slice da3 s.data.length dc3) (.slice ia3 s.inner.length ic3) (.slice oa3 s.outer.length oc3) (.slice ta3 s.timers.length tc3) (.string s.event) (.slice ka3 s.taken.length kc3) (.int .u64 s.ent) (.slice ua3 s.out.length uc3)) b4 (.int .i64 s.status) (.int .i64 s.moves) (.int .i64 s.clock) (.int .i64 s.seq) (.int .u64 s.inn) (.slice pa4 s.past.length pc4) (.slice da4 s.data.length dc4) (.slice ia4 s.inner.length ic4) (.slice oa4 s.outer.length oc4) (.slice ta4 s.timers.length tc4) (.string s.event) (.slice ka4 s.taken.length kc4) (.int .u64 s.ent) (.slice ua4 s.out.length uc4))) :
  z5a Tryz.prog .any ops5 Q S 7 2 #[true,true,true,true,true,true,false,false] ⟨fr5 sv sb u5 u6 u7 u8 u9 u10 u11 u12 u13 u14 u15 u16 u17 u18 u19 u20 u21 u22 u23 u24 u25 u26 u27 u28 u29 u30 u31 u32 u33 u34 u35 u36 u37 u38 u39 u40 u41 u42 u43 u44 v45 (snV s pa3 pc3 da3 dc3 ia3 ic3 oa3 oc3 ta3 tc3 ka3 kc3 ua3 uc3) v47 (snV s pa4 pc4 da4 dc4 ia4 ic4 oa4 oc4 ta4 tc4 ka4 kc4 ua4 uc4) (.pointer (some ⟨b3,0,none⟩)) (.pointer (some ⟨b4,0,none⟩)),[]⟩ v:=by
 obtain ⟨⟨_,_,_,_,_,_,_,_,_,_,_,_,_,_,_,_⟩,_,_,_,_,_,_,_,_,_,_,_,_,_,_,_⟩:=all14 x3
 obtain ⟨⟨_,_,_,_,_,_,_,_,_,_,_,_,_,_,_,_⟩,_,_,_,_,_,_,_,_,_,_,_,_,_,_,_⟩:=all14 x4
 replace hQ:=hiT hQ
 replace hS:=hiT hS
 have hb':=hiT hb
 have hne':=Ne.symm hne
 clear x3 x4 hb
 refine z0f (t:=6) krT rfl rfl (fun K' hK=>?_)
 go_simp
 refine hK.out _ _ (fun _=>hS.out _ (z8s hb'.out le3)) (fun _=>?_)
 clear hK K'
 refine z0f (t:=7) krT rfl rfl (fun K' hK=>?_)
 go_simp
 exact hK.out _ _ (fun h=>absurd rfl h) (fun _=>z1j krT hQ.out)
set_option maxRecDepth 100000 in
set_option maxHeartbeats 40000000 in
theorem own_region {Q:Exit → Act → World → Prop} {S:World → Prop} {X0 v0:World} {s:Sn} {pa:Option Addr} {pc:Nat} {da:Option Addr} {dc:Nat} {ia:Option Addr} {ic:Nat} {oa:Option Addr} {oc:Nat} {ta:Option Addr} {tc:Nat} {ka:Option Addr} {kc:Nat} {ua:Option Addr} {uc:Nat} {sb:Nat} {sv u5 u6 u7 u8 u9 u10 u11 u12 u13 u14 u15 u16 u17 u18 u19 u20 u21 u22 u23 u24 u25 u26 u27 u28 u29 u30 u31 u32 u33 u34 u35 u36 u37 u38 u39 u40 u41 u42 u43 u44 w46 w48 w3 w4:Value} (Cp:∀ wx,Below X0.heap.size X0 wx → Calls Tryz.prog 15 #[snV s pa pc da dc ia ic oa oc ta tc ka kc ua uc] wx (fun e w'=>∃ (pa4:Option Addr) (pc4:Nat) (da4:Option Addr) (dc4:Nat) (ia4:Option Addr) (ic4:Nat) (oa4:Option Addr) (oc4:Nat) (ta4:Option Addr) (tc4:Nat) (ka4:Option Addr) (kc4:Nat) (ua4:Option Addr) (uc4:Nat),e = .returned (snV s pa4 pc4 da4 dc4 ia4 ic4 oa4 oc4 ta4 tc4 ka4 kc4 ua4 uc4) ∧ SnOw w' wx.heap.size s pa4 pc4 da4 dc4 ia4 ic4 oa4 oc4 ta4 tc4 ka4 kc4 ua4 uc4 ∧ Below wx.heap.size wx w')) (hS:∀ X,Below X0.heap.size X0 X → S X) (hb:Below X0.heap.size X0 v0)
  (hQ:∀ (v:World) (b3 b4 B B1:Nat) (pa3:Option Addr) (pc3:Nat) (da3:Option Addr) (dc3:Nat) (ia3:Option Addr) (ic3:Nat) (oa3:Option Addr) (oc3:Nat) (ta3:Option Addr) (tc3:Nat) (ka3:Option Addr) (kc3:Nat) (ua3:Option Addr) (uc3:Nat) (pa4:Option Addr) (pc4:Nat) (da4:Option Addr) (dc4:Nat) (ia4:Option Addr) (ic4:Nat) (oa4:Option Addr) (oc4:Nat) (ta4:Option Addr) (tc4:Nat) (ka4:Option Addr) (kc4:Nat) (ua4:Option Addr) (uc4:Nat),Below X0.heap.size X0 v → X0.heap.size ≤ b3 → X0.heap.size ≤ b4 → X0.heap.size ≤ B → B ≤ v.heap.size → b3 ≠ b4 → v.heap[b3]? = some (.cells snZ 44 (0,0)) → v.heap[b4]? = some (.cells snZ 44 (0,0)) → SnOw v B1 s pa3 pc3 da3 dc3 ia3 ic3 oa3 oc3 ta3 tc3 ka3 kc3 ua3 uc3 → SnLt B s pa3 pc3 da3 dc3 ia3 ic3 oa3 oc3 ta3 tc3 ka3 kc3 ua3 uc3 → SnOw v B s pa4 pc4 da4 dc4 ia4 ic4 oa4 oc4 ta4 tc4 ka4 kc4 ua4 uc4 →
   Q .normal ⟨fr5 sv sb u5 u6 u7 u8 u9 u10 u11 u12 u13 u14 u15 u16 u17 u18 u19 u20 u21 u22 u23 u24 u25 u26 u27 u28 u29 u30 u31 u32 u33 u34 u35 u36 u37 u38 u39 u40 u41 u42 u43 u44 (snV s pa pc da dc ia ic oa oc ta tc ka kc ua uc) (snV s pa3 pc3 da3 dc3 ia3 ic3 oa3 oc3 ta3 tc3 ka3 kc3 ua3 uc3) (snV s pa pc da dc ia ic oa oc ta tc ka kc ua uc) (snV s pa4 pc4 da4 dc4 ia4 ic4 oa4 oc4 ta4 tc4 ka4 kc4 ua4 uc4) (.pointer (some ⟨b3,0,none⟩)) (.pointer (some ⟨b4,0,none⟩)),[]⟩ (y6l (y6l v b3 (.int .i64 s.status) (.int .i64 s.moves) (.int .i64 s.clock) (.int .i64 s.seq) (.int .u64 s.inn) (.slice pa3 s.past.length pc3) (.slice da3 s.data.length dc3) (.slice ia3 s.inner.length ic3) (.slice oa3 s.outer.length oc3) (.slice ta3 s.timers.length tc3) (.string s.event) (.slice ka3 s.taken.length kc3) (.int .u64 s.ent) (.slice ua3 s.out.length uc3)) b4 (.int .i64 s.status) (.int .i64 s.moves) (.int .i64 s.clock) (.int .i64 s.seq) (.int .u64 s.inn) (.slice pa4 s.past.length pc4) (.slice da4 s.data.length dc4) (.slice ia4 s.inner.length ic4) (.slice oa4 s.outer.length oc4) (.slice ta4 s.timers.length tc4) (.string s.event) (.slice ka4 s.taken.length kc4) (.int .u64 s.ent) (.slice ua4 s.out.length uc4))) :
  z5a Tryz.prog .any ops5 Q S 7 6 #[true,false,true,false,false,false,false,false] ⟨fr5 sv sb u5 u6 u7 u8 u9 u10 u11 u12 u13 u14 u15 u16 u17 u18 u19 u20 u21 u22 u23 u24 u25 u26 u27 u28 u29 u30 u31 u32 u33 u34 u35 u36 u37 u38 u39 u40 u41 u42 u43 u44 (snV s pa pc da dc ia ic oa oc ta tc ka kc ua uc) w46 (snV s pa pc da dc ia ic oa oc ta tc ka kc ua uc) w48 w3 w4,[]⟩ v0:=by
 replace Cp:=hiT Cp
 replace hS:=hiT hS
 replace hQ:=hiT hQ
 have hz:=hb.size
 refine any3M (t1:=1) (t2:=4) (t3:=5) krT (opM (t:=1) rfl rfl fun K' hK=>?_) (opM (t:=4) rfl rfl fun K' hK=>?_) (opM (t:=5) rfl rfl fun K' hK=>?_)
 ·go_simp
  refine (Cp.out _ hb).mono ?_
  rintro e v1 ⟨pa_1,pc_1,da_1,dc_1,ia_1,ic_1,oa_1,oc_1,ta_1,tc_1,ka_1,kc_1,ua_1,uc_1,rfl,hO,bs⟩
  refine hK.out _ _ (fun _=>hS.out _ (hb.trans (bs.mono hz))) (fun _=>?_)
  clear hK K'
  replace hb:=hb.trans (bs.mono hz)
  replace hz:=hb.size
  have hO1:=hiT hO
  clear hO bs
  generalize v0.heap.size = B1 at *
  refine any3M (t1:=3) (t2:=4) (t3:=5) krT (opM (t:=3) rfl rfl fun K' hK=>?_) (opM (t:=4) rfl rfl fun K' hK=>?_) (opM (t:=5) rfl rfl fun K' hK=>?_)
  ·go_simp
   refine (Cp.out _ hb).mono ?_
   rintro e v2 ⟨pa_2,pc_2,da_2,dc_2,ia_2,ic_2,oa_2,oc_2,ta_2,tc_2,ka_2,kc_2,ua_2,uc_2,rfl,hO,bs⟩
   refine hK.out _ _ (fun _=>hS.out _ (hb.trans (bs.mono hz))) (fun _=>?_)
   clear hK K'
   have hL:=hiT (snLt_of hO1.out)
   have hBz:=bs.size
   have hB0:X0.heap.size ≤ v1.heap.size:=hz
   replace hb:=hb.trans (bs.mono hz)
   replace hO1:=hiT (q0z hO1.out bs)
   replace hz:=hb.size
   have hO2:=hiT hO
   clear hO bs
   generalize v1.heap.size = B at *
   refine any2M (t1:=4) (t2:=5) krT (opM (t:=4) rfl rfl fun K' hK=>?_) (opM (t:=5) rfl rfl fun K' hK=>?_)
   ·go_simp
    obtain ⟨v3,hv⟩:∃ X,v2.alloc (.cells snZ 44) = X:=⟨_,rfl⟩
    have bs:Below v2.heap.size v2 v3:=by rw [← hv];exact gzT
    have y3:v3.heap[v2.heap.size]? = some (.cells snZ 44 (0,0)):=by rw [← hv];exact heap_alloc_new v2 _
    rw [hv]
    clear hv
    refine hK.out _ _ (fun _=>hS.out _ (hb.trans (bs.mono hz))) (fun _=>?_)
    clear hK K'
    have le3:X0.heap.size ≤ v2.heap.size:=hz
    replace hb:=hb.trans (bs.mono hz)
    replace hO1:=hiT (q0z hO1.out bs)
    replace hO2:=hiT (q0z hO2.out bs)
    replace hBz:=Nat.le_trans hBz bs.size
    replace hz:=hb.size
    clear bs
    have x3:=y3
    clear y3
    generalize v2.heap.size = b3 at *
    refine z0f (t:=5) krT rfl rfl (fun K' hK=>?_)
    go_simp
    obtain ⟨v4,hv⟩:∃ X,v3.alloc (.cells snZ 44) = X:=⟨_,rfl⟩
    have bs:Below v3.heap.size v3 v4:=by rw [← hv];exact gzT
    have y4:v4.heap[v3.heap.size]? = some (.cells snZ 44 (0,0)):=by rw [← hv];exact heap_alloc_new v3 _
    rw [hv]
    clear hv
    refine hK.out _ _ (fun _=>hS.out _ (hb.trans (bs.mono hz))) (fun _=>?_)
    clear hK K'
    have le4:X0.heap.size ≤ v3.heap.size:=hz
    have hne:b3 ≠ v3.heap.size:=Nat.ne_of_lt (lt_of_block x3)
    replace hb:=hb.trans (bs.mono hz)
    replace hO1:=hiT (q0z hO1.out bs)
    replace hO2:=hiT (q0z hO2.out bs)
    replace hBz:=Nat.le_trans hBz bs.size
    replace x3:=z0c x3 bs
    replace hz:=hb.size
    clear bs
    have x4:=y4
    clear y4
    generalize v3.heap.size = b4 at *
    exact own_two_in hS.out hb le3 omT x3 x4 (hQ.out v4 b3 b4 B B1 pa_1 pc_1 da_1 dc_1 ia_1 ic_1 oa_1 oc_1 ta_1 tc_1 ka_1 kc_1 ua_1 uc_1 pa_2 pc_2 da_2 dc_2 ia_2 ic_2 oa_2 oc_2 ta_2 tc_2 ka_2 kc_2 ua_2 uc_2 hb le3 le4 hB0 hBz omT x3 x4 hO1.out hL.out hO2.out)
   ·go_simp
    obtain ⟨v3,hv⟩:∃ X,v2.alloc (.cells snZ 44) = X:=⟨_,rfl⟩
    have bs:Below v2.heap.size v2 v3:=by rw [← hv];exact gzT
    have y4:v3.heap[v2.heap.size]? = some (.cells snZ 44 (0,0)):=by rw [← hv];exact heap_alloc_new v2 _
    rw [hv]
    clear hv
    refine hK.out _ _ (fun _=>hS.out _ (hb.trans (bs.mono hz))) (fun _=>?_)
    clear hK K'
    have le4:X0.heap.size ≤ v2.heap.size:=hz
    replace hb:=hb.trans (bs.mono hz)
    replace hO1:=hiT (q0z hO1.out bs)
    replace hO2:=hiT (q0z hO2.out bs)
    replace hBz:=Nat.le_trans hBz bs.size
    replace hz:=hb.size
    clear bs
    have x4:=y4
    clear y4
    generalize v2.heap.size = b4 at *
    refine z0f (t:=4) krT rfl rfl (fun K' hK=>?_)
    go_simp
    obtain ⟨v4,hv⟩:∃ X,v3.alloc (.cells snZ 44) = X:=⟨_,rfl⟩
    have bs:Below v3.heap.size v3 v4:=by rw [← hv];exact gzT
    have y3:v4.heap[v3.heap.size]? = some (.cells snZ 44 (0,0)):=by rw [← hv];exact heap_alloc_new v3 _
    rw [hv]
    clear hv
    refine hK.out _ _ (fun _=>hS.out _ (hb.trans (bs.mono hz))) (fun _=>?_)
    clear hK K'
    have le3:X0.heap.size ≤ v3.heap.size:=hz
    have hne:b4 ≠ v3.heap.size:=Nat.ne_of_lt (lt_of_block x4)
    replace hb:=hb.trans (bs.mono hz)
    replace hO1:=hiT (q0z hO1.out bs)
    replace hO2:=hiT (q0z hO2.out bs)
    replace hBz:=Nat.le_trans hBz bs.size
    replace x4:=z0c x4 bs
    replace hz:=hb.size
    clear bs
    have x3:=y3
    clear y3
    generalize v3.heap.size = b3 at *
    exact own_two_in hS.out hb le3 omT x3 x4 (hQ.out v4 b3 b4 B B1 pa_1 pc_1 da_1 dc_1 ia_1 ic_1 oa_1 oc_1 ta_1 tc_1 ka_1 kc_1 ua_1 uc_1 pa_2 pc_2 da_2 dc_2 ia_2 ic_2 oa_2 oc_2 ta_2 tc_2 ka_2 kc_2 ua_2 uc_2 hb le3 le4 hB0 hBz omT x3 x4 hO1.out hL.out hO2.out)
  ·go_simp
   obtain ⟨v2,hv⟩:∃ X,v1.alloc (.cells snZ 44) = X:=⟨_,rfl⟩
   have bs:Below v1.heap.size v1 v2:=by rw [← hv];exact gzT
   have y3:v2.heap[v1.heap.size]? = some (.cells snZ 44 (0,0)):=by rw [← hv];exact heap_alloc_new v1 _
   rw [hv]
   clear hv
   refine hK.out _ _ (fun _=>hS.out _ (hb.trans (bs.mono hz))) (fun _=>?_)
   clear hK K'
   have le3:X0.heap.size ≤ v1.heap.size:=hz
   replace hb:=hb.trans (bs.mono hz)
   replace hO1:=hiT (q0z hO1.out bs)
   replace hz:=hb.size
   clear bs
   have x3:=y3
   clear y3
   generalize v1.heap.size = b3 at *
   refine any2M (t1:=3) (t2:=5) krT (opM (t:=3) rfl rfl fun K' hK=>?_) (opM (t:=5) rfl rfl fun K' hK=>?_)
   ·go_simp
    refine (Cp.out _ hb).mono ?_
    rintro e v3 ⟨pa_2,pc_2,da_2,dc_2,ia_2,ic_2,oa_2,oc_2,ta_2,tc_2,ka_2,kc_2,ua_2,uc_2,rfl,hO,bs⟩
    refine hK.out _ _ (fun _=>hS.out _ (hb.trans (bs.mono hz))) (fun _=>?_)
    clear hK K'
    have hL:=hiT (snLt_of hO1.out)
    have hBz:=bs.size
    have hB0:X0.heap.size ≤ v2.heap.size:=hz
    replace hb:=hb.trans (bs.mono hz)
    replace hO1:=hiT (q0z hO1.out bs)
    replace x3:=z0c x3 bs
    replace hz:=hb.size
    have hO2:=hiT hO
    clear hO bs
    generalize v2.heap.size = B at *
    refine z0f (t:=5) krT rfl rfl (fun K' hK=>?_)
    go_simp
    obtain ⟨v4,hv⟩:∃ X,v3.alloc (.cells snZ 44) = X:=⟨_,rfl⟩
    have bs:Below v3.heap.size v3 v4:=by rw [← hv];exact gzT
    have y4:v4.heap[v3.heap.size]? = some (.cells snZ 44 (0,0)):=by rw [← hv];exact heap_alloc_new v3 _
    rw [hv]
    clear hv
    refine hK.out _ _ (fun _=>hS.out _ (hb.trans (bs.mono hz))) (fun _=>?_)
    clear hK K'
    have le4:X0.heap.size ≤ v3.heap.size:=hz
    have hne:b3 ≠ v3.heap.size:=Nat.ne_of_lt (lt_of_block x3)
    replace hb:=hb.trans (bs.mono hz)
    replace hO1:=hiT (q0z hO1.out bs)
    replace hO2:=hiT (q0z hO2.out bs)
    replace hBz:=Nat.le_trans hBz bs.size
    replace x3:=z0c x3 bs
    replace hz:=hb.size
    clear bs
    have x4:=y4
    clear y4
    generalize v3.heap.size = b4 at *
    exact own_two_in hS.out hb le3 omT x3 x4 (hQ.out v4 b3 b4 B B1 pa_1 pc_1 da_1 dc_1 ia_1 ic_1 oa_1 oc_1 ta_1 tc_1 ka_1 kc_1 ua_1 uc_1 pa_2 pc_2 da_2 dc_2 ia_2 ic_2 oa_2 oc_2 ta_2 tc_2 ka_2 kc_2 ua_2 uc_2 hb le3 le4 hB0 hBz omT x3 x4 hO1.out hL.out hO2.out)
   ·go_simp
    obtain ⟨v3,hv⟩:∃ X,v2.alloc (.cells snZ 44) = X:=⟨_,rfl⟩
    have bs:Below v2.heap.size v2 v3:=by rw [← hv];exact gzT
    have y4:v3.heap[v2.heap.size]? = some (.cells snZ 44 (0,0)):=by rw [← hv];exact heap_alloc_new v2 _
    rw [hv]
    clear hv
    refine hK.out _ _ (fun _=>hS.out _ (hb.trans (bs.mono hz))) (fun _=>?_)
    clear hK K'
    have le4:X0.heap.size ≤ v2.heap.size:=hz
    have hne:b3 ≠ v2.heap.size:=Nat.ne_of_lt (lt_of_block x3)
    replace hb:=hb.trans (bs.mono hz)
    replace hO1:=hiT (q0z hO1.out bs)
    replace x3:=z0c x3 bs
    replace hz:=hb.size
    clear bs
    have x4:=y4
    clear y4
    generalize v2.heap.size = b4 at *
    refine z0f (t:=3) krT rfl rfl (fun K' hK=>?_)
    go_simp
    refine (Cp.out _ hb).mono ?_
    rintro e v4 ⟨pa_2,pc_2,da_2,dc_2,ia_2,ic_2,oa_2,oc_2,ta_2,tc_2,ka_2,kc_2,ua_2,uc_2,rfl,hO,bs⟩
    refine hK.out _ _ (fun _=>hS.out _ (hb.trans (bs.mono hz))) (fun _=>?_)
    clear hK K'
    have hL:=hiT (snLt_of hO1.out)
    have hBz:=bs.size
    have hB0:X0.heap.size ≤ v3.heap.size:=hz
    replace hb:=hb.trans (bs.mono hz)
    replace hO1:=hiT (q0z hO1.out bs)
    replace x3:=z0c x3 bs
    replace x4:=z0c x4 bs
    replace hz:=hb.size
    have hO2:=hiT hO
    clear hO bs
    generalize v3.heap.size = B at *
    exact own_two_in hS.out hb le3 omT x3 x4 (hQ.out v4 b3 b4 B B1 pa_1 pc_1 da_1 dc_1 ia_1 ic_1 oa_1 oc_1 ta_1 tc_1 ka_1 kc_1 ua_1 uc_1 pa_2 pc_2 da_2 dc_2 ia_2 ic_2 oa_2 oc_2 ta_2 tc_2 ka_2 kc_2 ua_2 uc_2 hb le3 le4 hB0 hBz omT x3 x4 hO1.out hL.out hO2.out)
  ·go_simp
   obtain ⟨v2,hv⟩:∃ X,v1.alloc (.cells snZ 44) = X:=⟨_,rfl⟩
   have bs:Below v1.heap.size v1 v2:=by rw [← hv];exact gzT
   have y4:v2.heap[v1.heap.size]? = some (.cells snZ 44 (0,0)):=by rw [← hv];exact heap_alloc_new v1 _
   rw [hv]
   clear hv
   refine hK.out _ _ (fun _=>hS.out _ (hb.trans (bs.mono hz))) (fun _=>?_)
   clear hK K'
   have le4:X0.heap.size ≤ v1.heap.size:=hz
   replace hb:=hb.trans (bs.mono hz)
   replace hO1:=hiT (q0z hO1.out bs)
   replace hz:=hb.size
   clear bs
   have x4:=y4
   clear y4
   generalize v1.heap.size = b4 at *
   refine any2M (t1:=3) (t2:=4) krT (opM (t:=3) rfl rfl fun K' hK=>?_) (opM (t:=4) rfl rfl fun K' hK=>?_)
   ·go_simp
    refine (Cp.out _ hb).mono ?_
    rintro e v3 ⟨pa_2,pc_2,da_2,dc_2,ia_2,ic_2,oa_2,oc_2,ta_2,tc_2,ka_2,kc_2,ua_2,uc_2,rfl,hO,bs⟩
    refine hK.out _ _ (fun _=>hS.out _ (hb.trans (bs.mono hz))) (fun _=>?_)
    clear hK K'
    have hL:=hiT (snLt_of hO1.out)
    have hBz:=bs.size
    have hB0:X0.heap.size ≤ v2.heap.size:=hz
    replace hb:=hb.trans (bs.mono hz)
    replace hO1:=hiT (q0z hO1.out bs)
    replace x4:=z0c x4 bs
    replace hz:=hb.size
    have hO2:=hiT hO
    clear hO bs
    generalize v2.heap.size = B at *
    refine z0f (t:=4) krT rfl rfl (fun K' hK=>?_)
    go_simp
    obtain ⟨v4,hv⟩:∃ X,v3.alloc (.cells snZ 44) = X:=⟨_,rfl⟩
    have bs:Below v3.heap.size v3 v4:=by rw [← hv];exact gzT
    have y3:v4.heap[v3.heap.size]? = some (.cells snZ 44 (0,0)):=by rw [← hv];exact heap_alloc_new v3 _
    rw [hv]
    clear hv
    refine hK.out _ _ (fun _=>hS.out _ (hb.trans (bs.mono hz))) (fun _=>?_)
    clear hK K'
    have le3:X0.heap.size ≤ v3.heap.size:=hz
    have hne:b4 ≠ v3.heap.size:=Nat.ne_of_lt (lt_of_block x4)
    replace hb:=hb.trans (bs.mono hz)
    replace hO1:=hiT (q0z hO1.out bs)
    replace hO2:=hiT (q0z hO2.out bs)
    replace hBz:=Nat.le_trans hBz bs.size
    replace x4:=z0c x4 bs
    replace hz:=hb.size
    clear bs
    have x3:=y3
    clear y3
    generalize v3.heap.size = b3 at *
    exact own_two_in hS.out hb le3 omT x3 x4 (hQ.out v4 b3 b4 B B1 pa_1 pc_1 da_1 dc_1 ia_1 ic_1 oa_1 oc_1 ta_1 tc_1 ka_1 kc_1 ua_1 uc_1 pa_2 pc_2 da_2 dc_2 ia_2 ic_2 oa_2 oc_2 ta_2 tc_2 ka_2 kc_2 ua_2 uc_2 hb le3 le4 hB0 hBz omT x3 x4 hO1.out hL.out hO2.out)
   ·go_simp
    obtain ⟨v3,hv⟩:∃ X,v2.alloc (.cells snZ 44) = X:=⟨_,rfl⟩
    have bs:Below v2.heap.size v2 v3:=by rw [← hv];exact gzT
    have y3:v3.heap[v2.heap.size]? = some (.cells snZ 44 (0,0)):=by rw [← hv];exact heap_alloc_new v2 _
    rw [hv]
    clear hv
    refine hK.out _ _ (fun _=>hS.out _ (hb.trans (bs.mono hz))) (fun _=>?_)
    clear hK K'
    have le3:X0.heap.size ≤ v2.heap.size:=hz
    have hne:b4 ≠ v2.heap.size:=Nat.ne_of_lt (lt_of_block x4)
    replace hb:=hb.trans (bs.mono hz)
    replace hO1:=hiT (q0z hO1.out bs)
    replace x4:=z0c x4 bs
    replace hz:=hb.size
    clear bs
    have x3:=y3
    clear y3
    generalize v2.heap.size = b3 at *
    refine z0f (t:=3) krT rfl rfl (fun K' hK=>?_)
    go_simp
    refine (Cp.out _ hb).mono ?_
    rintro e v4 ⟨pa_2,pc_2,da_2,dc_2,ia_2,ic_2,oa_2,oc_2,ta_2,tc_2,ka_2,kc_2,ua_2,uc_2,rfl,hO,bs⟩
    refine hK.out _ _ (fun _=>hS.out _ (hb.trans (bs.mono hz))) (fun _=>?_)
    clear hK K'
    have hL:=hiT (snLt_of hO1.out)
    have hBz:=bs.size
    have hB0:X0.heap.size ≤ v3.heap.size:=hz
    replace hb:=hb.trans (bs.mono hz)
    replace hO1:=hiT (q0z hO1.out bs)
    replace x3:=z0c x3 bs
    replace x4:=z0c x4 bs
    replace hz:=hb.size
    have hO2:=hiT hO
    clear hO bs
    generalize v3.heap.size = B at *
    exact own_two_in hS.out hb le3 omT x3 x4 (hQ.out v4 b3 b4 B B1 pa_1 pc_1 da_1 dc_1 ia_1 ic_1 oa_1 oc_1 ta_1 tc_1 ka_1 kc_1 ua_1 uc_1 pa_2 pc_2 da_2 dc_2 ia_2 ic_2 oa_2 oc_2 ta_2 tc_2 ka_2 kc_2 ua_2 uc_2 hb le3 le4 hB0 hBz omT x3 x4 hO1.out hL.out hO2.out)
 ·go_simp
  obtain ⟨v1,hv⟩:∃ X,v0.alloc (.cells snZ 44) = X:=⟨_,rfl⟩
  have bs:Below v0.heap.size v0 v1:=by rw [← hv];exact gzT
  have y3:v1.heap[v0.heap.size]? = some (.cells snZ 44 (0,0)):=by rw [← hv];exact heap_alloc_new v0 _
  rw [hv]
  clear hv
  refine hK.out _ _ (fun _=>hS.out _ (hb.trans (bs.mono hz))) (fun _=>?_)
  clear hK K'
  have le3:X0.heap.size ≤ v0.heap.size:=hz
  replace hb:=hb.trans (bs.mono hz)
  replace hz:=hb.size
  clear bs
  have x3:=y3
  clear y3
  generalize v0.heap.size = b3 at *
  refine any2M (t1:=1) (t2:=5) krT (opM (t:=1) rfl rfl fun K' hK=>?_) (opM (t:=5) rfl rfl fun K' hK=>?_)
  ·go_simp
   refine (Cp.out _ hb).mono ?_
   rintro e v2 ⟨pa_1,pc_1,da_1,dc_1,ia_1,ic_1,oa_1,oc_1,ta_1,tc_1,ka_1,kc_1,ua_1,uc_1,rfl,hO,bs⟩
   refine hK.out _ _ (fun _=>hS.out _ (hb.trans (bs.mono hz))) (fun _=>?_)
   clear hK K'
   replace hb:=hb.trans (bs.mono hz)
   replace x3:=z0c x3 bs
   replace hz:=hb.size
   have hO1:=hiT hO
   clear hO bs
   generalize v1.heap.size = B1 at *
   refine any2M (t1:=3) (t2:=5) krT (opM (t:=3) rfl rfl fun K' hK=>?_) (opM (t:=5) rfl rfl fun K' hK=>?_)
   ·go_simp
    refine (Cp.out _ hb).mono ?_
    rintro e v3 ⟨pa_2,pc_2,da_2,dc_2,ia_2,ic_2,oa_2,oc_2,ta_2,tc_2,ka_2,kc_2,ua_2,uc_2,rfl,hO,bs⟩
    refine hK.out _ _ (fun _=>hS.out _ (hb.trans (bs.mono hz))) (fun _=>?_)
    clear hK K'
    have hL:=hiT (snLt_of hO1.out)
    have hBz:=bs.size
    have hB0:X0.heap.size ≤ v2.heap.size:=hz
    replace hb:=hb.trans (bs.mono hz)
    replace hO1:=hiT (q0z hO1.out bs)
    replace x3:=z0c x3 bs
    replace hz:=hb.size
    have hO2:=hiT hO
    clear hO bs
    generalize v2.heap.size = B at *
    refine z0f (t:=5) krT rfl rfl (fun K' hK=>?_)
    go_simp
    obtain ⟨v4,hv⟩:∃ X,v3.alloc (.cells snZ 44) = X:=⟨_,rfl⟩
    have bs:Below v3.heap.size v3 v4:=by rw [← hv];exact gzT
    have y4:v4.heap[v3.heap.size]? = some (.cells snZ 44 (0,0)):=by rw [← hv];exact heap_alloc_new v3 _
    rw [hv]
    clear hv
    refine hK.out _ _ (fun _=>hS.out _ (hb.trans (bs.mono hz))) (fun _=>?_)
    clear hK K'
    have le4:X0.heap.size ≤ v3.heap.size:=hz
    have hne:b3 ≠ v3.heap.size:=Nat.ne_of_lt (lt_of_block x3)
    replace hb:=hb.trans (bs.mono hz)
    replace hO1:=hiT (q0z hO1.out bs)
    replace hO2:=hiT (q0z hO2.out bs)
    replace hBz:=Nat.le_trans hBz bs.size
    replace x3:=z0c x3 bs
    replace hz:=hb.size
    clear bs
    have x4:=y4
    clear y4
    generalize v3.heap.size = b4 at *
    exact own_two_in hS.out hb le3 omT x3 x4 (hQ.out v4 b3 b4 B B1 pa_1 pc_1 da_1 dc_1 ia_1 ic_1 oa_1 oc_1 ta_1 tc_1 ka_1 kc_1 ua_1 uc_1 pa_2 pc_2 da_2 dc_2 ia_2 ic_2 oa_2 oc_2 ta_2 tc_2 ka_2 kc_2 ua_2 uc_2 hb le3 le4 hB0 hBz omT x3 x4 hO1.out hL.out hO2.out)
   ·go_simp
    obtain ⟨v3,hv⟩:∃ X,v2.alloc (.cells snZ 44) = X:=⟨_,rfl⟩
    have bs:Below v2.heap.size v2 v3:=by rw [← hv];exact gzT
    have y4:v3.heap[v2.heap.size]? = some (.cells snZ 44 (0,0)):=by rw [← hv];exact heap_alloc_new v2 _
    rw [hv]
    clear hv
    refine hK.out _ _ (fun _=>hS.out _ (hb.trans (bs.mono hz))) (fun _=>?_)
    clear hK K'
    have le4:X0.heap.size ≤ v2.heap.size:=hz
    have hne:b3 ≠ v2.heap.size:=Nat.ne_of_lt (lt_of_block x3)
    replace hb:=hb.trans (bs.mono hz)
    replace hO1:=hiT (q0z hO1.out bs)
    replace x3:=z0c x3 bs
    replace hz:=hb.size
    clear bs
    have x4:=y4
    clear y4
    generalize v2.heap.size = b4 at *
    refine z0f (t:=3) krT rfl rfl (fun K' hK=>?_)
    go_simp
    refine (Cp.out _ hb).mono ?_
    rintro e v4 ⟨pa_2,pc_2,da_2,dc_2,ia_2,ic_2,oa_2,oc_2,ta_2,tc_2,ka_2,kc_2,ua_2,uc_2,rfl,hO,bs⟩
    refine hK.out _ _ (fun _=>hS.out _ (hb.trans (bs.mono hz))) (fun _=>?_)
    clear hK K'
    have hL:=hiT (snLt_of hO1.out)
    have hBz:=bs.size
    have hB0:X0.heap.size ≤ v3.heap.size:=hz
    replace hb:=hb.trans (bs.mono hz)
    replace hO1:=hiT (q0z hO1.out bs)
    replace x3:=z0c x3 bs
    replace x4:=z0c x4 bs
    replace hz:=hb.size
    have hO2:=hiT hO
    clear hO bs
    generalize v3.heap.size = B at *
    exact own_two_in hS.out hb le3 omT x3 x4 (hQ.out v4 b3 b4 B B1 pa_1 pc_1 da_1 dc_1 ia_1 ic_1 oa_1 oc_1 ta_1 tc_1 ka_1 kc_1 ua_1 uc_1 pa_2 pc_2 da_2 dc_2 ia_2 ic_2 oa_2 oc_2 ta_2 tc_2 ka_2 kc_2 ua_2 uc_2 hb le3 le4 hB0 hBz omT x3 x4 hO1.out hL.out hO2.out)
  ·go_simp
   obtain ⟨v2,hv⟩:∃ X,v1.alloc (.cells snZ 44) = X:=⟨_,rfl⟩
   have bs:Below v1.heap.size v1 v2:=by rw [← hv];exact gzT
   have y4:v2.heap[v1.heap.size]? = some (.cells snZ 44 (0,0)):=by rw [← hv];exact heap_alloc_new v1 _
   rw [hv]
   clear hv
   refine hK.out _ _ (fun _=>hS.out _ (hb.trans (bs.mono hz))) (fun _=>?_)
   clear hK K'
   have le4:X0.heap.size ≤ v1.heap.size:=hz
   have hne:b3 ≠ v1.heap.size:=Nat.ne_of_lt (lt_of_block x3)
   replace hb:=hb.trans (bs.mono hz)
   replace x3:=z0c x3 bs
   replace hz:=hb.size
   clear bs
   have x4:=y4
   clear y4
   generalize v1.heap.size = b4 at *
   refine z0f (t:=1) krT rfl rfl (fun K' hK=>?_)
   go_simp
   refine (Cp.out _ hb).mono ?_
   rintro e v3 ⟨pa_1,pc_1,da_1,dc_1,ia_1,ic_1,oa_1,oc_1,ta_1,tc_1,ka_1,kc_1,ua_1,uc_1,rfl,hO,bs⟩
   refine hK.out _ _ (fun _=>hS.out _ (hb.trans (bs.mono hz))) (fun _=>?_)
   clear hK K'
   replace hb:=hb.trans (bs.mono hz)
   replace x3:=z0c x3 bs
   replace x4:=z0c x4 bs
   replace hz:=hb.size
   have hO1:=hiT hO
   clear hO bs
   generalize v2.heap.size = B1 at *
   refine z0f (t:=3) krT rfl rfl (fun K' hK=>?_)
   go_simp
   refine (Cp.out _ hb).mono ?_
   rintro e v4 ⟨pa_2,pc_2,da_2,dc_2,ia_2,ic_2,oa_2,oc_2,ta_2,tc_2,ka_2,kc_2,ua_2,uc_2,rfl,hO,bs⟩
   refine hK.out _ _ (fun _=>hS.out _ (hb.trans (bs.mono hz))) (fun _=>?_)
   clear hK K'
   have hL:=hiT (snLt_of hO1.out)
   have hBz:=bs.size
   have hB0:X0.heap.size ≤ v3.heap.size:=hz
   replace hb:=hb.trans (bs.mono hz)
   replace hO1:=hiT (q0z hO1.out bs)
   replace x3:=z0c x3 bs
   replace x4:=z0c x4 bs
   replace hz:=hb.size
   have hO2:=hiT hO
   clear hO bs
   generalize v3.heap.size = B at *
   exact own_two_in hS.out hb le3 omT x3 x4 (hQ.out v4 b3 b4 B B1 pa_1 pc_1 da_1 dc_1 ia_1 ic_1 oa_1 oc_1 ta_1 tc_1 ka_1 kc_1 ua_1 uc_1 pa_2 pc_2 da_2 dc_2 ia_2 ic_2 oa_2 oc_2 ta_2 tc_2 ka_2 kc_2 ua_2 uc_2 hb le3 le4 hB0 hBz omT x3 x4 hO1.out hL.out hO2.out)
 ·go_simp
  obtain ⟨v1,hv⟩:∃ X,v0.alloc (.cells snZ 44) = X:=⟨_,rfl⟩
  have bs:Below v0.heap.size v0 v1:=by rw [← hv];exact gzT
  have y4:v1.heap[v0.heap.size]? = some (.cells snZ 44 (0,0)):=by rw [← hv];exact heap_alloc_new v0 _
  rw [hv]
  clear hv
  refine hK.out _ _ (fun _=>hS.out _ (hb.trans (bs.mono hz))) (fun _=>?_)
  clear hK K'
  have le4:X0.heap.size ≤ v0.heap.size:=hz
  replace hb:=hb.trans (bs.mono hz)
  replace hz:=hb.size
  clear bs
  have x4:=y4
  clear y4
  generalize v0.heap.size = b4 at *
  refine any2M (t1:=1) (t2:=4) krT (opM (t:=1) rfl rfl fun K' hK=>?_) (opM (t:=4) rfl rfl fun K' hK=>?_)
  ·go_simp
   refine (Cp.out _ hb).mono ?_
   rintro e v2 ⟨pa_1,pc_1,da_1,dc_1,ia_1,ic_1,oa_1,oc_1,ta_1,tc_1,ka_1,kc_1,ua_1,uc_1,rfl,hO,bs⟩
   refine hK.out _ _ (fun _=>hS.out _ (hb.trans (bs.mono hz))) (fun _=>?_)
   clear hK K'
   replace hb:=hb.trans (bs.mono hz)
   replace x4:=z0c x4 bs
   replace hz:=hb.size
   have hO1:=hiT hO
   clear hO bs
   generalize v1.heap.size = B1 at *
   refine any2M (t1:=3) (t2:=4) krT (opM (t:=3) rfl rfl fun K' hK=>?_) (opM (t:=4) rfl rfl fun K' hK=>?_)
   ·go_simp
    refine (Cp.out _ hb).mono ?_
    rintro e v3 ⟨pa_2,pc_2,da_2,dc_2,ia_2,ic_2,oa_2,oc_2,ta_2,tc_2,ka_2,kc_2,ua_2,uc_2,rfl,hO,bs⟩
    refine hK.out _ _ (fun _=>hS.out _ (hb.trans (bs.mono hz))) (fun _=>?_)
    clear hK K'
    have hL:=hiT (snLt_of hO1.out)
    have hBz:=bs.size
    have hB0:X0.heap.size ≤ v2.heap.size:=hz
    replace hb:=hb.trans (bs.mono hz)
    replace hO1:=hiT (q0z hO1.out bs)
    replace x4:=z0c x4 bs
    replace hz:=hb.size
    have hO2:=hiT hO
    clear hO bs
    generalize v2.heap.size = B at *
    refine z0f (t:=4) krT rfl rfl (fun K' hK=>?_)
    go_simp
    obtain ⟨v4,hv⟩:∃ X,v3.alloc (.cells snZ 44) = X:=⟨_,rfl⟩
    have bs:Below v3.heap.size v3 v4:=by rw [← hv];exact gzT
    have y3:v4.heap[v3.heap.size]? = some (.cells snZ 44 (0,0)):=by rw [← hv];exact heap_alloc_new v3 _
    rw [hv]
    clear hv
    refine hK.out _ _ (fun _=>hS.out _ (hb.trans (bs.mono hz))) (fun _=>?_)
    clear hK K'
    have le3:X0.heap.size ≤ v3.heap.size:=hz
    have hne:b4 ≠ v3.heap.size:=Nat.ne_of_lt (lt_of_block x4)
    replace hb:=hb.trans (bs.mono hz)
    replace hO1:=hiT (q0z hO1.out bs)
    replace hO2:=hiT (q0z hO2.out bs)
    replace hBz:=Nat.le_trans hBz bs.size
    replace x4:=z0c x4 bs
    replace hz:=hb.size
    clear bs
    have x3:=y3
    clear y3
    generalize v3.heap.size = b3 at *
    exact own_two_in hS.out hb le3 omT x3 x4 (hQ.out v4 b3 b4 B B1 pa_1 pc_1 da_1 dc_1 ia_1 ic_1 oa_1 oc_1 ta_1 tc_1 ka_1 kc_1 ua_1 uc_1 pa_2 pc_2 da_2 dc_2 ia_2 ic_2 oa_2 oc_2 ta_2 tc_2 ka_2 kc_2 ua_2 uc_2 hb le3 le4 hB0 hBz omT x3 x4 hO1.out hL.out hO2.out)
   ·go_simp
    obtain ⟨v3,hv⟩:∃ X,v2.alloc (.cells snZ 44) = X:=⟨_,rfl⟩
    have bs:Below v2.heap.size v2 v3:=by rw [← hv];exact gzT
    have y3:v3.heap[v2.heap.size]? = some (.cells snZ 44 (0,0)):=by rw [← hv];exact heap_alloc_new v2 _
    rw [hv]
    clear hv
    refine hK.out _ _ (fun _=>hS.out _ (hb.trans (bs.mono hz))) (fun _=>?_)
    clear hK K'
    have le3:X0.heap.size ≤ v2.heap.size:=hz
    have hne:b4 ≠ v2.heap.size:=Nat.ne_of_lt (lt_of_block x4)
    replace hb:=hb.trans (bs.mono hz)
    replace hO1:=hiT (q0z hO1.out bs)
    replace x4:=z0c x4 bs
    replace hz:=hb.size
    clear bs
    have x3:=y3
    clear y3
    generalize v2.heap.size = b3 at *
    refine z0f (t:=3) krT rfl rfl (fun K' hK=>?_)
    go_simp
    refine (Cp.out _ hb).mono ?_
    rintro e v4 ⟨pa_2,pc_2,da_2,dc_2,ia_2,ic_2,oa_2,oc_2,ta_2,tc_2,ka_2,kc_2,ua_2,uc_2,rfl,hO,bs⟩
    refine hK.out _ _ (fun _=>hS.out _ (hb.trans (bs.mono hz))) (fun _=>?_)
    clear hK K'
    have hL:=hiT (snLt_of hO1.out)
    have hBz:=bs.size
    have hB0:X0.heap.size ≤ v3.heap.size:=hz
    replace hb:=hb.trans (bs.mono hz)
    replace hO1:=hiT (q0z hO1.out bs)
    replace x3:=z0c x3 bs
    replace x4:=z0c x4 bs
    replace hz:=hb.size
    have hO2:=hiT hO
    clear hO bs
    generalize v3.heap.size = B at *
    exact own_two_in hS.out hb le3 omT x3 x4 (hQ.out v4 b3 b4 B B1 pa_1 pc_1 da_1 dc_1 ia_1 ic_1 oa_1 oc_1 ta_1 tc_1 ka_1 kc_1 ua_1 uc_1 pa_2 pc_2 da_2 dc_2 ia_2 ic_2 oa_2 oc_2 ta_2 tc_2 ka_2 kc_2 ua_2 uc_2 hb le3 le4 hB0 hBz omT x3 x4 hO1.out hL.out hO2.out)
  ·go_simp
   obtain ⟨v2,hv⟩:∃ X,v1.alloc (.cells snZ 44) = X:=⟨_,rfl⟩
   have bs:Below v1.heap.size v1 v2:=by rw [← hv];exact gzT
   have y3:v2.heap[v1.heap.size]? = some (.cells snZ 44 (0,0)):=by rw [← hv];exact heap_alloc_new v1 _
   rw [hv]
   clear hv
   refine hK.out _ _ (fun _=>hS.out _ (hb.trans (bs.mono hz))) (fun _=>?_)
   clear hK K'
   have le3:X0.heap.size ≤ v1.heap.size:=hz
   have hne:b4 ≠ v1.heap.size:=Nat.ne_of_lt (lt_of_block x4)
   replace hb:=hb.trans (bs.mono hz)
   replace x4:=z0c x4 bs
   replace hz:=hb.size
   clear bs
   have x3:=y3
   clear y3
   generalize v1.heap.size = b3 at *
   refine z0f (t:=1) krT rfl rfl (fun K' hK=>?_)
   go_simp
   refine (Cp.out _ hb).mono ?_
   rintro e v3 ⟨pa_1,pc_1,da_1,dc_1,ia_1,ic_1,oa_1,oc_1,ta_1,tc_1,ka_1,kc_1,ua_1,uc_1,rfl,hO,bs⟩
   refine hK.out _ _ (fun _=>hS.out _ (hb.trans (bs.mono hz))) (fun _=>?_)
   clear hK K'
   replace hb:=hb.trans (bs.mono hz)
   replace x3:=z0c x3 bs
   replace x4:=z0c x4 bs
   replace hz:=hb.size
   have hO1:=hiT hO
   clear hO bs
   generalize v2.heap.size = B1 at *
   refine z0f (t:=3) krT rfl rfl (fun K' hK=>?_)
   go_simp
   refine (Cp.out _ hb).mono ?_
   rintro e v4 ⟨pa_2,pc_2,da_2,dc_2,ia_2,ic_2,oa_2,oc_2,ta_2,tc_2,ka_2,kc_2,ua_2,uc_2,rfl,hO,bs⟩
   refine hK.out _ _ (fun _=>hS.out _ (hb.trans (bs.mono hz))) (fun _=>?_)
   clear hK K'
   have hL:=hiT (snLt_of hO1.out)
   have hBz:=bs.size
   have hB0:X0.heap.size ≤ v3.heap.size:=hz
   replace hb:=hb.trans (bs.mono hz)
   replace hO1:=hiT (q0z hO1.out bs)
   replace x3:=z0c x3 bs
   replace x4:=z0c x4 bs
   replace hz:=hb.size
   have hO2:=hiT hO
   clear hO bs
   generalize v3.heap.size = B at *
   exact own_two_in hS.out hb le3 omT x3 x4 (hQ.out v4 b3 b4 B B1 pa_1 pc_1 da_1 dc_1 ia_1 ic_1 oa_1 oc_1 ta_1 tc_1 ka_1 kc_1 ua_1 uc_1 pa_2 pc_2 da_2 dc_2 ia_2 ic_2 oa_2 oc_2 ta_2 tc_2 ka_2 kc_2 ua_2 uc_2 hb le3 le4 hB0 hBz omT x3 x4 hO1.out hL.out hO2.out)
end Go.Proofs.YtacnlghljmgdiaaGreatDoor
