/- Several texts of this proof, joined: LM, HT, LR, LT, LU. -/
import Derived.Test.YtacnlghljmgdiaaGreatDoorY6
import Derived.Test.YtacnlghljmgdiaaGreatDoorZ1
import Derived.WalkKit
import Derived.ProofKit
import Derived.OpenShut
import Derived.Handy
import Derived.Test.YtacnlghljmgdiaaGreatDoorV3
import Derived.BigQuiet
import Derived.OwnWalk
import Derived.Lib.Hide
import Derived.WalkSmall
import Derived.WalkLawsBesides
import Derived.Deep.RegionHeld3
namespace Go.Proofs.YtacnlghljmgdiaaGreatDoor
structure Ln where
 kind:Int
 name:List UInt8
 start:List UInt8
 vk:Int
 vn:Int
 vs:List UInt8
 acts:List Ac
 event:List UInt8
 cond:List Nd
 goes:List (List UInt8)
 inner:Bool
 thn:List Ac
def ln0 (k:Int):Ln:=⟨k,[],[],0,0,[],[],[],[],[],false,[]⟩
def j6i:List (List UInt8) :=
 [[],[99,104,97,114,116],[118,97,114],[115,116,97,116,101],[112,97,114,97,108,108,101,108],[102,105,110,97,108],[100,101,101,112],[115,104,97,108,108,111,119],[101,110,116,101,114],[101,120,105,116],[111,110],[97,117,116,111],[101,110,100]]
def lwL (k:Nat):List UInt8:=j6i.getD k []
def z5w (ts:List Tk) (a:Nat):Nat → Nat → Nat
 | 0,_=>0
 | f + 1,k=>if z2t ts a (lwL k) then k else z5w ts a f (k + 1)
def q1q (ts:List Tk) (a:Nat):Nat:=z5w ts a 12 1
def z9g (ts:List Tk) (a:Nat):Option (Int × Int × List UInt8 × Nat) :=
 if z2t ts a [45] then
  match ts[a + 1]? with
  | some t=>if t.k == 3 then some (1,-t.n,[],a + 2) else none
  | none=>none
 else
  match ts[a]? with
  | some t =>
   if t.k == 3 then some (1,t.n,[],a + 1)
   else if t.k == 4 then some (3,0,t.s,a + 1)
   else if q0n t [116,114,117,101] then some (2,1,[],a + 1)
   else if q0n t [102,97,108,115,101] then some (2,0,[],a + 1)
   else none
  | none=>none
def q5h (ts:List Tk) (a:Nat):Option (List UInt8) :=
 match ts[a]? with
 | some t=>if ((t.k == 1 || t.k == 2) && z9u true t.s) || q0n t [42] then some t.s else none
 | none=>none
def q2z (ts:List Tk):Nat → List (List UInt8) → Nat → Except Int (List (List UInt8) × Nat)
 | f,gs,a =>
  match z2b ts a with
  | none=>if gs.length = 0 then .error 11 else .ok (gs,a)
  | some s =>
   match f with
   | 0 => .error 13
   | f + 1=>q2z ts f (gs ++ [s]) (a + 1)
def ifL (ts:List Tk) (a:Nat):Except Int (List Nd × Nat):=if z2t ts a [105,102] then z3f ts ((a + 1:Nat):Int) else .ok ([],a)
def goL (ts:List Tk) (a:Nat):Except Int (List (List UInt8) × Nat):=if z2t ts a [103,111] then q2z ts 4 [] (a + 1) else .ok ([],a)
def k0t (ts:List Tk) (a:Nat):Bool:=z2t ts a [105,110,110,101,114]
def doL (ts:List Tk) (a:Nat):Except Int (List Ac × Nat):=if z2t ts a [100,111] then z9a ts ((a + 1:Nat):Int) else .ok ([],a)
def q1v (ts:List Tk) (n:Ln) (a:Nat):Except Int (Ln × Nat) :=
 match ifL ts a with
 | .error x => .error x
 | .ok (cond,a1) =>
  match goL ts a1 with
  | .error x => .error x
  | .ok (goes,a2) =>
   match doL ts (if k0t ts a2 then a2 + 1 else a2) with
   | .error x => .error x
   | .ok (thn,a3) => .ok ({ n with cond:=cond,goes:=goes,inner:=k0t ts a2,thn:=thn },a3)
def q1s (ts:List Tk) (k:Nat) (a:Nat):Option (Ln × Nat) :=
 match z2b ts a with
 | none=>none
 | some s =>
  if k = 2 then
   match z9g ts (a + 1) with
   | none=>none
   | some (vk,vn,vs,b)=>some ({ ln0 k with name:=s,vk:=vk,vn:=vn,vs:=vs },b)
  else if k = 1 ∨ k = 3 then
   match z2b ts (a + 1) with
   | none=>some ({ ln0 k with name:=s },a + 1)
   | some t=>some ({ ln0 k with name:=s,start:=t },a + 2)
  else if k = 6 ∨ k = 7 then
   match z2b ts (a + 1) with
   | none=>none
   | some t=>some ({ ln0 k with name:=s,start:=t },a + 2)
  else some ({ ln0 k with name:=s },a + 1)
def j0e (ts:List Tk) (k:Nat) (a:Nat):Except Int (Ln × Nat) :=
 if k = 12 then .ok (ln0 k,a)
 else if k = 8 ∨ k = 9 then
  match z9a ts (a:Int) with
  | .error x => .error x
  | .ok (cs,b) => .ok ({ ln0 k with acts:=cs },b)
 else if k = 10 then
  match q5h ts a with
  | none => .error 11
  | some s=>q1v ts { ln0 k with event:=s } (a + 1)
 else if k = 11 then q1v ts (ln0 k) a
 else
  match q1s ts k a with
  | none => .error 11
  | some x => .ok x
def y5l (ts:List Tk):Except Int Ln :=
 if q1q ts 0 = 0 then .error 25
 else
  match j0e ts (q1q ts 0) 1 with
  | .error x => .error x
  | .ok (n,b)=>if b < ts.length then .error 11 else .ok n
def z7j (l:List UInt8):Except Int Ln :=
 match z5b 120 0 l with
 | .error (e,_) => .error e
 | .ok ts=>y5l ts
theorem q1z {ts:List Tk} {a:Nat}:∀ (f k:Nat),z5w ts a f k = 0 ∨ (k ≤ z5w ts a f k ∧ z5w ts a f k < k + f ∧ z2t ts a (lwL (z5w ts a f k)) = true)
 | 0,k => .inl rfl
 | f + 1,k=>by
  rw [z5w]
  by_cases h:z2t ts a (lwL k) = true
  ·rw [if_pos h]
   exact .inr ⟨Nat.le_refl _,by omega,h⟩
  ·rw [if_neg h]
   rcases q1z (ts:=ts) (a:=a) f (k + 1) with h1 | ⟨h1,h2,h3⟩
   ·exact .inl h1
   ·exact .inr ⟨by omega,by omega,h3⟩
theorem j6f {ts:List Tk} {a:Nat} (h:¬ q1q ts a = 0):1 ≤ q1q ts a ∧ q1q ts a ≤ 12 ∧ a < ts.length:=by
 rcases q1z (ts:=ts) (a:=a) 12 1 with h1 | ⟨h1,h2,h3⟩
 ·exact absurd h1 h
 ·exact ⟨h1,by unfold q1q;omega,z4w h3⟩
end Go.Proofs.YtacnlghljmgdiaaGreatDoor
namespace Go.Proofs.YtacnlghljmgdiaaGreatDoor
open Go.RowKit
class IsTop (n:Nat) (w:World):Prop where
 eq:n = w.heap.size
instance isTop_self (w:World):IsTop w.heap.size w:=⟨rfl⟩
instance isTop_set (n:Nat) (w:World) (a:Addr) (v:Value) [h:IsTop n w]:IsTop n (w.setCell a v):=⟨by rw [World.size_setCell];exact h.eq⟩
instance isTop_drew (n:Nat) (w:World) [h:IsTop n w]:IsTop n w.drew:=⟨h.eq⟩
@[go_sem] theorem v3q (w:World) (n i:Nat) (cs:Array Value) (t:TypeId) (fr:Nat × Nat) [h:IsTop n w]:(w.alloc (.cells cs t fr)).cell? ⟨n,i,none⟩ = cs[i]?:=by
 rw [h.eq]
 exact cell_of_row _ _ _ _ _ _ (heap_alloc_new w _)
instance inW_top (n:Nat) (w:World) (o:Obj) [h:IsTop n w]:InW n (w.alloc o):=⟨by rw [h.eq,World.size_alloc];omega⟩
def v8t:Array Value:=(j6i.map fun l=>Value.string ⟨l.toArray⟩).toArray
def Lw (w:World):Prop:=w.var? Tryz.prog "whirligig/line.words" = some v8t
theorem z8c:Tryz.prog.globalNamed "whirligig/line.words" = some 3:=by kernel_rfl
theorem v9b {w:World} (h:Lw w):3 < w.heap.size:=z6o z8c h
theorem v5b {B:Nat} {w w':World} (h:Lw w) (hB:3 < B) (hb:Below B w w'):Lw w':=var?_below hb z8c hB h
theorem v5a {w:World} (h:Lw w) (i:Nat):w.cell? ⟨3,i,none⟩ = v8t[i]?:=World.var?_cell z8c h i
theorem v5c {w:World} (h:Lw w) (k:Nat) (hk:k ≤ 12):w.cell? ⟨3,k,none⟩ = some (.string ⟨(lwL k).toArray⟩):=by
 rw [v5a h]
 rcases (by omega:k = 0 ∨ k = 1 ∨ k = 2 ∨ k = 3 ∨ k = 4 ∨ k = 5 ∨ k = 6 ∨ k = 7 ∨ k = 8 ∨ k = 9 ∨ k = 10 ∨ k = 11 ∨ k = 12) with rfl | rfl | rfl | rfl | rfl | rfl | rfl | rfl | rfl | rfl | rfl | rfl | rfl <;> rfl
structure Al (w:World):Prop where
 ax:Ax w
 lw:Lw w
theorem z2o {w w':World} (h:Al w) (hb:Below w.heap.size w w'):Al w':=⟨z5u h.ax hb,v5b h.lw (v9b h.lw) hb⟩
structure BaseL (w0:World) (ao:Option Addr) (ts:List Tk):Prop where
 al:Al w0
 sl:Sl w0 ao ts
 few:ts.length ≤ 120
 short:∀ t ∈ ts,t.s.length ≤ 140737488351232
 ok:∀ t ∈ ts,TkOk t
abbrev x3m (ao:Option Addr) (cap:Nat) (ts:List Tk) (a:Nat):Obj := .cells #[.slice ao ts.length cap,.int .i64 (a:Int)] 221 (0,0)
structure RdrAt (w0:World) (rb:Nat) (ao:Option Addr) (cap:Nat) (ts:List Tk) (a:Nat) (w:World):Prop where
 blk:w.heap[rb]? = some (x3m ao cap ts a)
 own:w0.heap.size ≤ rb
 le:a ≤ ts.length
 env:Below w0.heap.size w0 w
section
variable {w0:World} {rb:Nat} {ao:Option Addr} {cap:Nat} {ts:List Tk} {a b:Nat} {w w':World}
theorem z2m (h:RdrAt w0 rb ao cap ts a w) :
  w.cell? ⟨rb,0,none⟩ = some (.slice ao ts.length cap) ∧ w.cell? ⟨rb,1,none⟩ = some (.int .i64 (a:Int)) ∧ rb < w.heap.size ∧ w.frozen? ⟨rb,1,none⟩ = false:=by
 refine ⟨?_,?_,lt_of_block h.blk,frozen_of_row w rb 1 _ _ h.blk⟩
 all_goals
  rw [cell_of_row w rb _ _ _ _ h.blk]
  rfl
theorem z2e (h:RdrAt w0 rb ao cap ts a w) (hb:Below w.heap.size w w'):RdrAt w0 rb ao cap ts a w' :=
 ⟨(hb.block rb (lt_of_block h.blk)).trans h.blk,h.own,h.le,h.env.trans (hb.mono h.env.size)⟩
theorem y3c (h:RdrAt w0 rb ao cap ts a w) (hle:b ≤ ts.length) (hb:Below w.heap.size (w.setCell ⟨rb,1,none⟩ (.int .i64 (b:Int))) w'):RdrAt w0 rb ao cap ts b w':=by
 refine ⟨(hb.block rb (lt_of_block h.blk)).trans (z0l h.blk),h.own,hle,(h.env.setCell (p:=⟨rb,1,none⟩) h.own _).trans (hb.mono ?_)⟩
 exact h.env.size
theorem y0l {i c:Nat} {v:Value} (h:RdrAt w0 rb ao cap ts a w) (hb:w0.heap.size ≤ c) (hne:rb ≠ c):RdrAt w0 rb ao cap ts a (w.setCell ⟨c,i,none⟩ v) :=
 ⟨z0i h.blk hne,h.own,h.le,h.env.setCell (p:=⟨c,i,none⟩) hb _⟩
end
def v2g (ts:List Tk) (a:Nat):Value :=
 match ts[a]? with
 | some t => .agg #[.int .i64 t.k,.string ⟨t.s.toArray⟩,.int .i64 t.n,.int .i64 (t.a:Int)]
 | none => .agg #[.int .i64 0,.string ⟨#[]⟩,.int .i64 0,.int .i64 0]
structure TokIsL (ts:List Tk) (a:Nat) (k n p:Int) (s:List UInt8):Prop where
 val:v2g ts a = .agg #[.int .i64 k,.string ⟨s.toArray⟩,.int .i64 n,.int .i64 p]
 at_:∀ x,z2t ts a x = ((k == 1 || k == 5) && s == x)
 name:z2b ts a = if k == 1 && !z4k s then some s else none
 event:q5h ts a = if ((k == 1 || k == 2) && z9u true s) || ((k == 1 || k == 5) && s == [42]) then some s else none
 short:s.length ≤ 140737488351232
 num:k = 3 → 0 ≤ n ∧ I64 n
 tok:(∃ q,ts[a]? = some ⟨k,s,n,q⟩) ∨ (ts[a]? = none ∧ k = 0 ∧ s = [])
theorem q0j (ts:List Tk) (a:Nat) (hs:∀ t ∈ ts,t.s.length ≤ 140737488351232) (hk:∀ t ∈ ts,TkOk t):∃ k n p s,TokIsL ts a k n p s:=by
 rcases Nat.lt_or_ge a ts.length with h | h
 ·have e:=List.getElem?_eq_getElem h
  have hm:=List.getElem_mem h
  refine ⟨ts[a].k,ts[a].n,(ts[a].a:Int),ts[a].s,?_,fun x=>?_,?_,?_,hs _ hm,fun h3=>(hk _ hm).num h3,.inl ⟨_,e⟩⟩
  ·unfold v2g;rw [e]
  ·unfold z2t;rw [e];rfl
  ·unfold z2b;rw [e]
  ·unfold q5h;rw [e];rfl
 ·have e:=List.getElem?_eq_none h
  refine ⟨0,0,0,[],?_,fun x=>?_,?_,?_,by decide,fun h3=>by omega,.inr ⟨e,rfl,rfl⟩⟩
  ·unfold v2g;rw [e]
  ·unfold z2t;rw [e];rfl
  ·unfold z2b;rw [e];rfl
  ·unfold q5h;rw [e];rfl
def z8q (w0:World) (rb:Nat) (ao:Option Addr) (cap:Nat) (ts:List Tk) (b:Nat) (w w':World):Prop:=RdrAt w0 rb ao cap ts b w' ∧ KeptA w0.heap.size rb rb w w'
section
variable {w0:World} {rb:Nat} {ao:Option Addr} {cap:Nat} {ts:List Tk} {a b:Nat} {w wx wy:World}
theorem z3k (h:RdrAt w0 rb ao cap ts a w) (hb:Below w.heap.size w wx):z8q w0 rb ao cap ts a w wx:=⟨z2e h hb,z0w hb h.env.size⟩
theorem q8p (h:RdrAt w0 rb ao cap ts a w) (hle:b ≤ ts.length) (hb:Below w.heap.size (w.setCell ⟨rb,1,none⟩ (.int .i64 (b:Int))) wx):z8q w0 rb ao cap ts b w wx:=⟨y3c h hle hb,z2l h.own h.env.size hb⟩
theorem z2u (h:z8q w0 rb ao cap ts a w wx) (k:z8q w0 rb ao cap ts b wx wy):z8q w0 rb ao cap ts b w wy:=⟨k.1,z0e h.2 k.2⟩
theorem q4r (h:z8q w0 rb ao cap ts a w wx) (hb:Below wx.heap.size wx wy):z8q w0 rb ao cap ts a w wy:=z2u h (z3k h.1 hb)
end
abbrev str (l:List UInt8):Value := .string ⟨l.toArray⟩
def z6a (ls:List (List UInt8)):List Value:=ls.map str
abbrev lnC (n:Ln) (av iv gv tv:Value):Array Value :=
 #[.int .i64 n.kind,str n.name,str n.start,.int .i64 n.vk,.int .i64 n.vn,str n.vs,av,str n.event,iv,gv,.bool n.inner,tv]
structure LnV (B:Nat) (w:World) (n:Ln) (av iv gv tv:Value):Prop where
 acts:z4d 239 235 B w av n.acts
 cond:w.ownsRow B 239 7 iv n.cond.length (z9j n.cond)
 goes:w.ownsRow B 9 1 gv n.goes.length (z6a n.goes)
 thn:z4d 239 235 B w tv n.thn
def x1k (B nb:Nat) (n:Ln) (w:World):Prop:=∃ av iv gv tv,w.heap[nb]? = some (.cells (lnC n av iv gv tv) 164 (0,0)) ∧ LnV B w n av iv gv tv
theorem z7v {T E t B b i:Nat} {w:World} {v u:Value} {cs:List Ac} {cells:Array Value} {fr:Nat × Nat} (h:z4d T E B w v cs) (hb:w.heap[b]? = some (.cells cells t fr)) (h1:t ≠ T) (h2:t ≠ E):z4d T E B (w.setCell ⟨b,i,none⟩ u) v cs :=
 z6l (B':=0) h (z2f (B:=0) (tb:=b) (ab:=b) (.inl rfl) (Nat.zero_le _)) hb h1 h2
theorem z5g {B b i t:Nat} {w:World} {n:Ln} {av iv gv tv u:Value} {cells:Array Value} {fr:Nat × Nat} (h:LnV B w n av iv gv tv) (hb:w.heap[b]? = some (.cells cells t fr)) (h1:t ≠ 239) (h2:t ≠ 235) (h3:t ≠ 9):LnV B (w.setCell ⟨b,i,none⟩ u) n av iv gv tv :=
 ⟨z7v h.acts hb h1 h2,ownsRow_setCell_other h.cond (z0n h.cond hb h1) _,ownsRow_setCell_other h.goes (z0n h.goes hb h3) _,z7v h.thn hb h1 h2⟩
theorem q6e {B:Nat} {w w':World} {n:Ln} {av iv gv tv:Value} (h:LnV B w n av iv gv tv) (hb:Below w.heap.size w w'):LnV B w' n av iv gv tv :=
 ⟨z6e h.acts hb,z0a h.cond hb,z0a h.goes hb,z6e h.thn hb⟩
theorem k1n {B nb:Nat} {w w':World} {n:Ln} (h:x1k B nb n w) (hb:Below w.heap.size w w'):x1k B nb n w':=by
 obtain ⟨av,iv,gv,tv,h1,h2⟩:=h
 exact ⟨av,iv,gv,tv,z0c h1 hb,q6e h2 hb⟩
structure LnSt (w0:World) (rb nb:Nat) (ao:Option Addr) (cap:Nat) (ts:List Tk) (n:Ln) (a:Nat) (wx:World):Prop where
 rdr:RdrAt w0 rb ao cap ts a wx
 ln:x1k w0.heap.size nb n wx
 own:w0.heap.size ≤ nb
 ne:rb ≠ nb
section
variable {w0:World} {rb nb:Nat} {ao:Option Addr} {cap:Nat} {ts:List Tk} {n:Ln} {a b:Nat} {wx wy:World}
theorem z0y (h:LnSt w0 rb nb ao cap ts n a wx) (hb:Below wx.heap.size wx wy):LnSt w0 rb nb ao cap ts n a wy :=
 ⟨z2e h.rdr hb,k1n h.ln hb,h.own,h.ne⟩
theorem j3n (h:LnSt w0 rb nb ao cap ts n a wx) (hle:b ≤ ts.length) (hb:Below wx.heap.size (wx.setCell ⟨rb,1,none⟩ (.int .i64 (b:Int))) wy):LnSt w0 rb nb ao cap ts n b wy:=by
 obtain ⟨av,iv,gv,tv,h1,h2⟩:=h.ln
 refine ⟨y3c h.rdr hle hb,⟨av,iv,gv,tv,z0x (z0i h1 h.ne.symm) hb,q6e (z5g h2 h.rdr.blk deT deT deT) (by rw [z1w];exact hb)⟩,h.own,h.ne⟩
theorem j1h (h:LnSt w0 rb nb ao cap ts n a wx) (k:z8q w0 rb ao cap ts b wx wy):LnSt w0 rb nb ao cap ts n b wy:=by
 obtain ⟨av,iv,gv,tv,h1,h2⟩:=h.ln
 have ho:∀ {e s m:Nat} {v:Value} {xs:List Value},wx.ownsRow w0.heap.size e s v m xs → 221 ≠ e → wy.ownsRow w0.heap.size e s v m xs:=fun hv he=>z8d hv k.2 (z0n hv h.rdr.blk he) (z0n hv h.rdr.blk he)
 exact ⟨k.1,⟨av,iv,gv,tv,z2y k.2 h1 h.ne.symm h.ne.symm,z6l h2.acts k.2 h.rdr.blk deT deT,ho h2.cond deT,ho h2.goes deT,z6l h2.thn k.2 h.rdr.blk deT deT⟩,h.own,h.ne⟩
theorem z3a (h:LnSt w0 rb nb ao cap ts n a wx):∃ xo xc io ic go gc to' tc,wx.heap[nb]? = some (.cells (lnC n (.slice xo n.acts.length xc) (.slice io n.cond.length ic) (.slice go n.goes.length gc) (.slice to' n.thn.length tc)) 164 (0,0)) ∧ LnV w0.heap.size wx n (.slice xo n.acts.length xc) (.slice io n.cond.length ic) (.slice go n.goes.length gc) (.slice to' n.thn.length tc) ∧ nb < wx.heap.size ∧ (∀ i,wx.frozen? ⟨nb,i,none⟩ = false) ∧ ∀ i,wx.cell? ⟨nb,i,none⟩ = (lnC n (.slice xo n.acts.length xc) (.slice io n.cond.length ic) (.slice go n.goes.length gc) (.slice to' n.thn.length tc))[i]?:=by
 obtain ⟨av,iv,gv,tv,h1,h2⟩:=h.ln
 obtain ⟨xo,xc,rfl⟩:=z0g h2.acts.choose_spec.2
 obtain ⟨io,ic,rfl⟩:=z0g h2.cond
 obtain ⟨go,gc,rfl⟩:=z0g h2.goes
 obtain ⟨to',tc,rfl⟩:=z0g h2.thn.choose_spec.2
 exact ⟨xo,xc,io,ic,go,gc,to',tc,h1,h2,lt_of_block h1,fun i=>frozen_of_row wx nb i _ _ h1,fun i=>cell_of_row wx nb _ _ _ _ h1⟩
theorem q1r {i:Nat} {m:Ln} {u:Value} (h:LnSt w0 rb nb ao cap ts n a wx) (hm:∀ av iv gv tv,wx.heap[nb]? = some (.cells (lnC n av iv gv tv) 164 (0,0)) → LnV w0.heap.size wx n av iv gv tv → ∃ av' iv' gv' tv',(lnC n av iv gv tv).setIfInBounds i u = lnC m av' iv' gv' tv' ∧ LnV w0.heap.size (wx.setCell ⟨nb,i,none⟩ u) m av' iv' gv' tv') :
  LnSt w0 rb nb ao cap ts m a (wx.setCell ⟨nb,i,none⟩ u):=by
 obtain ⟨av,iv,gv,tv,h1,h2⟩:=h.ln
 obtain ⟨av',iv',gv',tv',h3,h4⟩:=hm av iv gv tv h1 h2
 refine ⟨y0l h.rdr h.own h.ne,⟨av',iv',gv',tv',?_,h4⟩,h.own,h.ne⟩
 rw [← h3]
 exact z0l h1
theorem z8w {w:World} {B:Nat} {m:Ln} {av iv gv tv:Value} (h:LnV B w n av iv gv tv) (h1:m.acts = n.acts) (h2:m.cond = n.cond) (h3:m.goes = n.goes) (h4:m.thn = n.thn):LnV B w m av iv gv tv :=
 ⟨by rw [h1];exact h.acts,by rw [h2];exact h.cond,by rw [h3];exact h.goes,by rw [h4];exact h.thn⟩
theorem j3o (s:List UInt8) (h:LnSt w0 rb nb ao cap ts n a wx):LnSt w0 rb nb ao cap ts { n with name:=s } a (wx.setCell ⟨nb,1,none⟩ (str s)) :=
 q1r h fun av iv gv tv h1 h2=>⟨av,iv,gv,tv,rfl,z8w (z5g h2 h1 deT deT deT) rfl rfl rfl rfl⟩
theorem j3p (s:List UInt8) (h:LnSt w0 rb nb ao cap ts n a wx):LnSt w0 rb nb ao cap ts { n with start:=s } a (wx.setCell ⟨nb,2,none⟩ (str s)) :=
 q1r h fun av iv gv tv h1 h2=>⟨av,iv,gv,tv,rfl,z8w (z5g h2 h1 deT deT deT) rfl rfl rfl rfl⟩
theorem v8w (x:Int) (h:LnSt w0 rb nb ao cap ts n a wx):LnSt w0 rb nb ao cap ts { n with vk:=x } a (wx.setCell ⟨nb,3,none⟩ (.int .i64 x)) :=
 q1r h fun av iv gv tv h1 h2=>⟨av,iv,gv,tv,rfl,z8w (z5g h2 h1 deT deT deT) rfl rfl rfl rfl⟩
theorem v8x (x:Int) (h:LnSt w0 rb nb ao cap ts n a wx):LnSt w0 rb nb ao cap ts { n with vn:=x } a (wx.setCell ⟨nb,4,none⟩ (.int .i64 x)) :=
 q1r h fun av iv gv tv h1 h2=>⟨av,iv,gv,tv,rfl,z8w (z5g h2 h1 deT deT deT) rfl rfl rfl rfl⟩
theorem v8y (s:List UInt8) (h:LnSt w0 rb nb ao cap ts n a wx):LnSt w0 rb nb ao cap ts { n with vs:=s } a (wx.setCell ⟨nb,5,none⟩ (str s)) :=
 q1r h fun av iv gv tv h1 h2=>⟨av,iv,gv,tv,rfl,z8w (z5g h2 h1 deT deT deT) rfl rfl rfl rfl⟩
theorem y2n (s:List UInt8) (h:LnSt w0 rb nb ao cap ts n a wx):LnSt w0 rb nb ao cap ts { n with event:=s } a (wx.setCell ⟨nb,7,none⟩ (str s)) :=
 q1r h fun av iv gv tv h1 h2=>⟨av,iv,gv,tv,rfl,z8w (z5g h2 h1 deT deT deT) rfl rfl rfl rfl⟩
theorem k7u (x:Bool) (h:LnSt w0 rb nb ao cap ts n a wx):LnSt w0 rb nb ao cap ts { n with inner:=x } a (wx.setCell ⟨nb,10,none⟩ (.bool x)) :=
 q1r h fun av iv gv tv h1 h2=>⟨av,iv,gv,tv,rfl,z8w (z5g h2 h1 deT deT deT) rfl rfl rfl rfl⟩
theorem v4z {v:Value} (cs:List Nd) (hv:wx.ownsRow w0.heap.size 239 7 v cs.length (z9j cs)) (h:LnSt w0 rb nb ao cap ts n a wx):LnSt w0 rb nb ao cap ts { n with cond:=cs } a (wx.setCell ⟨nb,8,none⟩ v) :=
 q1r h fun av iv gv tv h1 h2=>⟨av,v,gv,tv,rfl,by
  have h3:=z5g (i:=8) (u:=v) h2 h1 deT deT deT
  exact ⟨h3.acts,ownsRow_setCell_other hv (z0n hv h1 deT) _,h3.goes,h3.thn⟩⟩
theorem v4y {v:Value} (cs:List Ac) (hv:z4d 239 235 w0.heap.size wx v cs) (h:LnSt w0 rb nb ao cap ts n a wx):LnSt w0 rb nb ao cap ts { n with acts:=cs } a (wx.setCell ⟨nb,6,none⟩ v) :=
 q1r h fun av iv gv tv h1 h2=>⟨v,iv,gv,tv,rfl,by
  have h3:=z5g (i:=6) (u:=v) h2 h1 deT deT deT
  exact ⟨z7v hv h1 deT deT,h3.cond,h3.goes,h3.thn⟩⟩
theorem v8v {v:Value} (cs:List Ac) (hv:z4d 239 235 w0.heap.size wx v cs) (h:LnSt w0 rb nb ao cap ts n a wx):LnSt w0 rb nb ao cap ts { n with thn:=cs } a (wx.setCell ⟨nb,11,none⟩ v) :=
 q1r h fun av iv gv tv h1 h2=>⟨av,iv,gv,v,rfl,by
  have h3:=z5g (i:=11) (u:=v) h2 h1 deT deT deT
  exact ⟨h3.acts,h3.cond,h3.goes,z7v hv h1 deT deT⟩⟩
theorem j0l {T E t B B' s m:Nat} {w w':World} {v u:Value} {cs:List Ac} {ys:List Value} (h:z4d T E B w v cs) (k:w.ownsRow B' t s u m ys) (h1:T ≠ t) (h2:E ≠ t) (hg:w.grownBy w' u.ownBlock):z4d T E B w' v cs:=by
 obtain ⟨vs,h3,h4⟩:=h
 exact ⟨vs,z8r h3 fun v n xs hv=>z0o hv k (z1a hv k h1) hg,z0o h4 k (z1a h4 k h2) hg⟩
theorem k7t {go:Option Addr} {gc g' cap':Nat} {s:List UInt8} (h:LnSt w0 rb nb ao cap ts n a wx) (hk:wx.ownsRow w0.heap.size 9 1 (.slice go n.goes.length gc) n.goes.length (z6a n.goes)) (hg:wx.grownBy wy (Value.slice go n.goes.length gc).ownBlock)
  (ho:wy.ownsRow w0.heap.size 9 1 (.slice (some ⟨g',0,none⟩) (n.goes.length + 1) cap') (n.goes.length + 1) (z6a n.goes ++ [str s])):LnSt w0 rb nb ao cap ts { n with goes:=n.goes ++ [s] } a (wy.setCell ⟨nb,9,none⟩ (.slice (some ⟨g',0,none⟩) (n.goes.length + 1) cap')):=by
 obtain ⟨av,iv,gv,tv,h1,h2⟩:=h.ln
 have b1:=z0h hk h1 deT hg
 have b2:=z0h hk h.rdr.blk deT hg
 have hr:RdrAt w0 rb ao cap ts a wy:=⟨b2,h.rdr.own,h.rdr.le,Below.grown h.rdr.env hg h.rdr.env.size (fun k hj=>(hk.lt k hj).1)⟩
 refine ⟨y0l hr h.own h.ne,⟨av,iv,_,tv,z0l b1,?_⟩,h.own,h.ne⟩
 have hc:=z0o h2.cond hk (z1a h2.cond hk deT) hg
 refine ⟨z7v (j0l h2.acts hk deT deT hg) b1 deT deT,ownsRow_setCell_other hc (z0n hc b1 deT) _,?_,z7v (j0l h2.thn hk deT deT hg) b1 deT deT⟩
 have e1:(n.goes ++ [s]).length = n.goes.length + 1:=by simp
 have e2:z6a (n.goes ++ [s]) = z6a n.goes ++ [str s]:=by simp [z6a]
 show (wy.setCell _ _).ownsRow _ _ _ _ (n.goes ++ [s]).length (z6a (n.goes ++ [s]))
 rw [e1,e2]
 exact ownsRow_setCell_other ho (z0n ho b1 deT) _
end
section
variable {w0:World} {rb:Nat} {ao:Option Addr} {cap:Nat} {ts:List Tk} {a:Nat}
set_option maxRecDepth 100000 in
set_option maxHeartbeats 2000000 in
theorem z9t (hB:BaseL w0 ao ts) (w:World) (h:RdrAt w0 rb ao cap ts a w) :
  Calls Tryz.prog 174 #[.pointer (some ⟨rb,0,none⟩)] w (Ret (v2g ts a) w):=by
 obtain ⟨c0,c1,htb,f1⟩:=z2m h
 have hle:=h.le
 have hfew:=hB.few
 have hl:Sl w ao ts:=z4g hB.sl h.env
 have i1:InW rb w:=⟨htb⟩
 clear h hB
 by_cases he:a = ts.length
 ·have hn:v2g ts a = .agg #[.int .i64 0,.string ⟨#[]⟩,.int .i64 0,.int .i64 0]:=by unfold v2g;rw [List.getElem?_eq_none omT]
  rw [hn]
  have hd:((a:Int) == (ts.length:Int)) = true:=by rw [beq_iff_eq];omega
  clear hn hl he
  go_enter Tryz.func174,Tryz.ntmps174
  go_wp2_with fail
  (refine z0d krT krT ?_;(repeat (go_big_quiet_step (fail)));refine wpQuiet_nil ?_;intro _ hw';obtain ⟨pg,hw''⟩:=hw';subst hw'')
  go_wp2
  go_returns
  exact ⟨rfl,gzT⟩
 ·have hlt:a < ts.length:=by omega
  obtain ⟨g,rfl,hg,ht⟩:=hl omT
  obtain ⟨a0,a1,a2,a3⟩:=ht a hlt
  have i2:InW g w:=⟨hg⟩
  have hd:((a:Int) == (ts.length:Int)) = false:=by rw [beq_eq_false_iff_ne];omega
  have hn:v2g ts a = .agg #[.int .i64 ts[a].k,.string ⟨ts[a].s.toArray⟩,.int .i64 ts[a].n,.int .i64 (ts[a].a:Int)]:=by unfold v2g;rw [List.getElem?_eq_getElem hlt]
  rw [hn]
  clear hn hl ht he
  generalize ts[a].k = tk at *
  generalize (⟨ts[a].s.toArray⟩:ByteArray) = tx at *
  generalize ts[a].n = tn at *
  generalize (ts[a].a:Int) = ta at *
  go_enter Tryz.func174,Tryz.ntmps174
  go_wp2_with fail
  (refine z0d krT krT ?_;(repeat (go_big_quiet_step (fail)));refine wpQuiet_nil ?_;intro _ hw';obtain ⟨pg,hw''⟩:=hw';subst hw'')
  go_wp2_with fail
  go_region_held3 (fun w'=>w'.cell? ⟨rb,0,none⟩ = some (.slice (some ⟨g,0,none⟩) ts.length cap) ∧ w'.cell? ⟨rb,1,none⟩ = some (.int .i64 (a:Int)) ∧ w'.cell? ⟨g,a * 4,none⟩ = some (.int .i64 tk) ∧ w'.cell? ⟨g,a * 4 + 1,none⟩ = some (.string tx) ∧ w'.cell? ⟨g,a * 4 + 2,none⟩ = some (.int .i64 tn) ∧ w'.cell? ⟨g,a * 4 + 3,none⟩ = some (.int .i64 ta)) ((refine ⟨?_,?_,?_,?_,?_,?_⟩ <;> first | assumption | (simp [go_sem, *];done))) (fail)
  go_wp2_with fail
  go_returns
  exact ⟨rfl,gzT⟩
set_option maxRecDepth 100000 in
set_option maxHeartbeats 2000000 in
theorem y5u (x:ByteArray) (hB:BaseL w0 ao ts) (w:World) (h:RdrAt w0 rb ao cap ts a w) :
  Calls Tryz.prog 141 #[.pointer (some ⟨rb,0,none⟩),.string x] w (y1o rb (z2t ts a x.data.toList) a w):=by
 obtain ⟨k,n,p,s,hT⟩:=q0j ts a hB.short hB.ok
 have N:=fun wx (hb:Below w.heap.size w wx)=>z9t hB wx (z2e h hb)
 rw [hT.val] at N
 replace N:=hiT N
 obtain ⟨c0,c1,htb,f1⟩:=z2m h
 have hle:=h.le
 have hfew:=hB.few
 have hl1:z2t ts a x.data.toList = true → a < ts.length:=z4w
 obtain ⟨b,hb⟩:∃ b,z2t ts a x.data.toList = b:=⟨_,rfl⟩
 have hb':((k == 1 || k == 5) && (⟨s.toArray⟩:ByteArray).data.toList == x.data.toList) = b:=by rw [← hb,hT.at_]
 have I:=fun g wx hc=>hiT (q1y k ⟨s.toArray⟩ n p x b hb' g wx hc)
 replace I:=hiT I
 rw [hb] at hl1 ⊢
 clear hb hb' hT h hB
 have i1:InW rb w:=⟨htb⟩
 generalize (⟨s.toArray⟩:ByteArray) = tx at *
 cases b
 ·go_enter Tryz.func141,Tryz.ntmps141
  go_wp2_with (first | ((with_reducible refine (N.out _ gzT).mono ?_);intro e w1 hr;obtain ⟨rfl,p,rfl⟩:=hr.out;clear hr) | ((with_reducible refine ((I.out _ _ (by simp [go_sem])).out).mono ?_);intro e w1 hr;obtain ⟨rfl,p,rfl⟩:=hr.out;clear hr))
  go_returns
  exact ⟨rfl,show Below w.heap.size w _ from gzT⟩
 ·have hlt:=hl1 rfl
  go_enter Tryz.func141,Tryz.ntmps141
  go_wp2_with (first | ((with_reducible refine (N.out _ gzT).mono ?_);intro e w1 hr;obtain ⟨rfl,p,rfl⟩:=hr.out;clear hr) | ((with_reducible refine ((I.out _ _ (by simp [go_sem])).out).mono ?_);intro e w1 hr;obtain ⟨rfl,p,rfl⟩:=hr.out;clear hr))
  go_returns
  exact ⟨rfl,show Below w.heap.size (w.setCell ⟨rb,1,none⟩ (.int .i64 ((a:Int) + 1))) _ from gzT⟩
def x3t (rb:Nat) (o:Option (List UInt8)) (a:Nat) (w:World) (e:Ending) (w':World):Prop :=
 match o with
 | none=>e = .returned (.tuple #[.string ⟨#[]⟩,.bool false]) ∧ Below w.heap.size w w'
 | some s=>e = .returned (.tuple #[.string ⟨s.toArray⟩,.bool true]) ∧ Below w.heap.size (w.setCell ⟨rb,1,none⟩ (.int .i64 ((a + 1:Nat):Int))) w'
set_option maxRecDepth 100000 in
set_option maxHeartbeats 2000000 in
theorem k1o (hB:BaseL w0 ao ts) (w:World) (h:RdrAt w0 rb ao cap ts a w) :
  Calls Tryz.prog 180 #[.pointer (some ⟨rb,0,none⟩)] w (x3t rb (z2b ts a) a w):=by
 obtain ⟨k,n,p,s,hT⟩:=q0j ts a hB.short hB.ok
 have N:=fun wx (hb:Below w.heap.size w wx)=>z9t hB wx (z2e h hb)
 rw [hT.val] at N
 replace N:=hiT N
 obtain ⟨c0,c1,htb,f1⟩:=z2m h
 have hle:=h.le
 have hfew:=hB.few
 have hl1:∀ s,z2b ts a = some s → a < ts.length:=fun s h=>q3i h
 rw [hT.name] at hl1 ⊢
 have M:=fun wx=>hiT (q1e ⟨s.toArray⟩ wx)
 simp only at M
 replace M:=hiT M
 generalize z4k s = m at *
 have hq:=hiT (rfl:(⟨s.toArray⟩:ByteArray) = ⟨s.toArray⟩)
 clear hT h hB
 have i1:InW rb w:=⟨htb⟩
 by_cases hk:k = 1
 ·subst hk
  cases m
  ·have hlt:=hl1 s rfl
   rw [if_pos (by rfl)]
   clear hl1
   have hset:=hiT (fun w1 (hb:Below w.heap.size w w1)=>q8s (i:=1) (v := .int .i64 ((a:Int) + 1)) hb htb)
   go_enter Tryz.func180,Tryz.ntmps180
   go_wp2_with fail
   refine (N.out _ gzT).mono ?_
   intro e w1 hr
   obtain ⟨rfl,hb⟩:=hr
   replace hb:Below w.heap.size w w1:=hb
   have d1:=(hb.cell (p:=⟨rb,1,none⟩) htb).trans c1
   have g1:w1.frozen? ⟨rb,1,none⟩ = false:=(hb.frozen (p:=⟨rb,1,none⟩) htb).trans f1
   have i2:InW rb w1:=⟨Nat.lt_of_lt_of_le htb hb.size⟩
   have hf:=hset.out w1 hb
   have hz:=hb.size
   have hz2:w.heap.size ≤ (w1.setCell ⟨rb,1,none⟩ (.int .i64 ((a:Int) + 1))).heap.size:=by rw [z1w];exact hz
   clear c0 c1 f1 i1 hb hset N
   go_wp2_with (first | ((with_reducible refine ((M.out _).out).mono ?_);rintro e w1 ⟨rfl,rfl⟩))
   go_returns
   exact ⟨rfl,show Below w.heap.size (w.setCell ⟨rb,1,none⟩ (.int .i64 ((a:Int) + 1))) _ from gzT⟩
  ·rw [if_neg deT]
   clear hl1
   go_enter Tryz.func180,Tryz.ntmps180
   go_wp2_with (first | ((with_reducible refine (N.out _ gzT).mono ?_);intro e w1 hr;obtain ⟨rfl,p,rfl⟩:=hr.out;clear hr) | ((with_reducible refine ((M.out _).out).mono ?_);rintro e w1 ⟨rfl,rfl⟩))
   go_returns
   exact ⟨rfl,show Below w.heap.size w _ from gzT⟩
 ·have e1:(k == 1) = false:=beq_eq_false_iff_ne.2 hk
  have e2:(k != 1) = true:=bne_iff_ne.2 hk
  rw [e1,Bool.false_and,if_neg deT]
  clear hl1 M
  go_enter Tryz.func180,Tryz.ntmps180
  go_wp2_with (first | ((with_reducible refine (N.out _ gzT).mono ?_);intro e w1 hr;obtain ⟨rfl,p,rfl⟩:=hr.out;clear hr))
  go_returns
  exact ⟨rfl,show Below w.heap.size w _ from gzT⟩
end
section
variable {w0:World} {rb nb:Nat} {ao:Option Addr} {cap:Nat} {ts:List Tk} {a:Nat}
theorem q0w (x:ByteArray) (hB:BaseL w0 ao ts) (w:World) (h:RdrAt w0 rb ao cap ts a w) {b:Bool} (hb:z2t ts a x.data.toList = b) :
  Calls Tryz.prog 141 #[.pointer (some ⟨rb,0,none⟩),.string x] w fun e w'=>e = .returned (.bool b) ∧ z8q w0 rb ao cap ts (if b then a + 1 else a) w w':=by
 have T:=y5u x hB w h
 rw [hb] at T
 refine T.mono fun e w' hr=>?_
 obtain ⟨h1,h2⟩:=hr
 cases b
 ·exact ⟨h1,z3k h h2⟩
 ·exact ⟨h1,q8p h (z4w hb) h2⟩
theorem j6j (hB:BaseL w0 ao ts) (w:World) (h:RdrAt w0 rb ao cap ts a w) {o:Option (List UInt8)} (ho:z2b ts a = o) :
  Calls Tryz.prog 180 #[.pointer (some ⟨rb,0,none⟩)] w fun e w'=>e = .returned (.tuple #[str (o.getD []),.bool o.isSome]) ∧ z8q w0 rb ao cap ts (if o.isSome then a + 1 else a) w w':=by
 have T:=k1o hB w h
 rw [ho] at T
 refine T.mono fun e w' hr=>?_
 cases o with
 | none =>
  obtain ⟨h1,h2⟩:=hr
  exact ⟨h1,z3k h h2⟩
 | some s =>
  obtain ⟨h1,h2⟩:=hr
  exact ⟨h1,q8p h (q3i ho) h2⟩
theorem j8d {k n p:Int} {s:List UInt8} (h:z2t ts a [45] = true) (hT:TokIsL ts (a + 1) k n p s):z9g ts a = if k == 3 then some (1,-n,[],a + 2) else none:=by
 unfold z9g
 rw [if_pos h]
 rcases hT.tok with ⟨q,e⟩ | ⟨e,rfl,rfl⟩
 ·rw [e]
 ·rw [e];rfl
theorem j8e {k n p:Int} {s:List UInt8} (h:z2t ts a [45] = false) (hT:TokIsL ts a k n p s):z9g ts a = if k == 3 then some (1,n,[],a + 1) else if k == 4 then some (3,0,s,a + 1) else if (k == 1 || k == 5) && s == [116,114,117,101] then some (2,1,[],a + 1) else if (k == 1 || k == 5) && s == [102,97,108,115,101] then some (2,0,[],a + 1) else none:=by
 unfold z9g
 rw [if_neg (by rw [h];decide)]
 rcases hT.tok with ⟨q,e⟩ | ⟨e,rfl,rfl⟩
 ·rw [e];rfl
 ·rw [e];rfl
abbrev j8l:Obj := .cells #[.int .i64 0,.int .i64 0,.string ⟨#[]⟩] 66 (0,0)
theorem three {w:World} {b:Nat} {t:TypeId} {v0 v1 v2:Value} (h:w.heap[b]? = some (.cells #[v0,v1,v2] t (0,0))) :
  w.cell? ⟨b,0,none⟩ = some v0 ∧ w.cell? ⟨b,1,none⟩ = some v1 ∧ w.cell? ⟨b,2,none⟩ = some v2 ∧ b < w.heap.size ∧ ∀ i,w.frozen? ⟨b,i,none⟩ = false:=by
 refine ⟨?_,?_,?_,lt_of_block h,fun i=>frozen_of_row w b i _ _ h⟩
 all_goals
  rw [cell_of_row w b _ _ _ _ h]
  rfl
theorem z7l {c i:Nat} {v:Value} {b:Nat} {w wx:World} (h:z8q w0 rb ao cap ts b w wx) (hc:w.heap.size ≤ c) (hB:w0.heap.size ≤ w.heap.size) (hne:rb ≠ c):z8q w0 rb ao cap ts b w (wx.setCell ⟨c,i,none⟩ v) :=
 ⟨y0l h.1 (Nat.le_trans hB hc) hne,z7g h.2 hc hB⟩
theorem q5n {b:Nat} {w W:World} {p:Regrown} (h:z8q w0 rb ao cap ts b w W):z8q w0 rb ao cap ts b w (G p W):=q4r h (z1e p W)
theorem z4l {b:Nat} {w W:World} {o:Obj} (h:z8q w0 rb ao cap ts b w W):z8q w0 rb ao cap ts b w (W.alloc o):=q4r h ((Below.refl _ W).alloc (Nat.le_refl _) o)
theorem z5o {b:Nat} {w W:World} (h:z8q w0 rb ao cap ts b w W):z8q w0 rb ao cap ts b w W.drew:=q4r h ((Below.refl _ W).drew)
theorem z4m {b k:Nat} {w W:World} (h:z8q w0 rb ao cap ts b w W):z8q w0 rb ao cap ts b w (W.drewN k):=q4r h (v1e (Below.refl _ W) k)
theorem z7m {b c:Nat} {v:Value} {w W:World} (h:z8q w0 rb ao cap ts b w W) (hc:c ≤ ts.length) (hv:v = .int .i64 (c:Int)):z8q w0 rb ao cap ts c w (W.setCell ⟨rb,1,none⟩ v):=by
 rw [hv]
 exact z2u h (q8p h.1 hc (Below.refl _ _))
def x1v (w0:World) (rb:Nat) (ao:Option Addr) (cap:Nat) (ts:List Tk) (o:Option (Int × Int × List UInt8 × Nat)) (w:World) (e:Ending) (w':World):Prop :=
 match o with
 | none=>e = .returned (.tuple #[.agg #[.int .i64 0,.int .i64 0,.string ⟨#[]⟩],.bool false]) ∧ ∃ b,z8q w0 rb ao cap ts b w w'
 | some (k,n,s,b)=>e = .returned (.tuple #[.agg #[.int .i64 k,.int .i64 n,str s],.bool true]) ∧ z8q w0 rb ao cap ts b w w'
set_option maxRecDepth 100000 in
set_option maxHeartbeats 4000000 in
theorem j6m (hB:BaseL w0 ao ts) (w:World) (h:RdrAt w0 rb ao cap ts a w) (hbl:z2t ts a [45] = true) :
  Calls Tryz.prog 181 #[.pointer (some ⟨rb,0,none⟩)] w (x1v w0 rb ao cap ts (z9g ts a) w):=by
 have T:=hiT (fun wx (k:RdrAt w0 rb ao cap ts a wx)=>q0w ⟨#[45]⟩ hB wx k hbl)
 have hR:=hiT h
 have htb:=(z2m h).2.2.1
 have hne:w.heap.size ≠ rb:=by omega
 have hsz0:=h.env.size
 have hfew:=hB.few
 obtain ⟨k,n,p,s,hT⟩:=q0j ts (a + 1) hB.short hB.ok
 have N:=hiT (fun wx (k:RdrAt w0 rb ao cap ts (a + 1) wx)=>z9t hB wx k)
 rw [hT.val] at N
 rw [j8d hbl hT]
 by_cases h3:k = 3
 ·have hnum:=hT.num h3
  have hlt:a + 1 < ts.length:=by
   rcases hT.tok with ⟨q,e⟩ | ⟨e,h0,_⟩
   ·exact (List.getElem?_eq_some_iff.1 e).1
   ·omega
  subst h3
  rw [if_pos (by rfl)]
  have O:=fun wx=>hiT (q8d (-n) wx)
  replace O:=hiT O
  obtain ⟨n0,n1,n2⟩:=hnum
  clear hT h hB hbl
  go_enter Tryz.func181,Tryz.ntmps181
  go_wp2_with fail
  refine (T.out _ (z2e hR.out gzT)).mono ?_
  intro e w1 hr
  obtain ⟨rfl,hM⟩:=hr
  replace hM:z8q w0 rb ao cap ts (a + 1) (w.alloc j8l) w1:=hM
  obtain ⟨r0,r1,r2,hrb,hrf⟩:=three (z2y hM.2 (heap_alloc_new w j8l) hne hne)
  have q0:=hrf 0
  have q1:=hrf 1
  have q2:=hrf 2
  have i2:=InW.mk hrb
  have e0:=z0b r0
  have e1:=z0b r1
  have e2:=z0b r2
  replace hM:=z2u (z3k hR.out gzT) hM
  clear hrf
  have N1:=hiT (fun wx (hb:Below w1.heap.size w1 wx)=>N.out wx (z2e hM.1 hb))
  obtain ⟨c0,c1,htb1,f1⟩:=z2m hM.1
  have i1:InW rb w1:=⟨htb1⟩
  have hMh:=hiT hM
  clear hM T N hR
  go_wp2_with (first | ((with_reducible refine (N1.out _ gzT).mono ?_);intro e w1 hr;obtain ⟨rfl,p,rfl⟩:=hr.out;clear hr) | ((with_reducible refine ((O.out _).out).mono ?_);intro e w1 hr;obtain ⟨rfl,p,rfl⟩:=hr.out;clear hr))
  go_returns
  have hM:=hMh.out
  exact ⟨rfl,by repeat' (first | (with_reducible assumption) | (with_reducible refine q5n ?_) | (with_reducible refine z4l ?_) | (with_reducible refine z5o ?_) | (with_reducible refine z4m ?_) | (with_reducible refine z7l ?_ (by first | assumption | omega) (by first | assumption | omega) (by first | assumption | omega)) | (exact z7m (by with_reducible assumption) (by omega) (by first | rfl | (congr 1;omega))))⟩
 ·have h3b:(k == 3) = false:=beq_eq_false_iff_ne.2 h3
  rw [h3b,if_neg deT]
  clear hT h hB hbl
  go_enter Tryz.func181,Tryz.ntmps181
  go_wp2_with fail
  refine (T.out _ (z2e hR.out gzT)).mono ?_
  intro e w1 hr
  obtain ⟨rfl,hM⟩:=hr
  replace hM:z8q w0 rb ao cap ts (a + 1) (w.alloc j8l) w1:=hM
  obtain ⟨r0,r1,r2,hrb,hrf⟩:=three (z2y hM.2 (heap_alloc_new w j8l) hne hne)
  have q0:=hrf 0
  have q1:=hrf 1
  have q2:=hrf 2
  have i2:=InW.mk hrb
  have e0:=z0b r0
  have e1:=z0b r1
  have e2:=z0b r2
  replace hM:=z2u (z3k hR.out gzT) hM
  clear hrf
  have N1:=hiT (fun wx (hb:Below w1.heap.size w1 wx)=>N.out wx (z2e hM.1 hb))
  have hMh:=hiT hM
  clear hM T N hR
  go_wp2_with (first | ((with_reducible refine (N1.out _ gzT).mono ?_);intro e w1 hr;obtain ⟨rfl,p,rfl⟩:=hr.out;clear hr))
  go_returns
  have hM:=hMh.out
  exact ⟨rfl,a + 1,by repeat' (first | (with_reducible assumption) | (with_reducible refine q5n ?_) | (with_reducible refine z4l ?_) | (with_reducible refine z5o ?_) | (with_reducible refine z4m ?_) | (with_reducible refine z7l ?_ (by first | assumption | omega) (by first | assumption | omega) (by first | assumption | omega)) | (exact z7m (by with_reducible assumption) (by omega) (by first | rfl | (congr 1;omega))))⟩
set_option maxRecDepth 100000 in
set_option maxHeartbeats 4000000 in
theorem j6n (hB:BaseL w0 ao ts) (w:World) (h:RdrAt w0 rb ao cap ts a w) (hbl:z2t ts a [45] = false) :
  Calls Tryz.prog 181 #[.pointer (some ⟨rb,0,none⟩)] w (x1v w0 rb ao cap ts (z9g ts a) w):=by
 have T:=hiT (fun wx (k:RdrAt w0 rb ao cap ts a wx)=>q0w ⟨#[45]⟩ hB wx k hbl)
 have hR:=hiT h
 have htb:=(z2m h).2.2.1
 have hne:w.heap.size ≠ rb:=by omega
 have hsz0:=h.env.size
 have hfew:=hB.few
 obtain ⟨k,n,p,s,hT⟩:=q0j ts a hB.short hB.ok
 have N:=hiT (fun wx (k:RdrAt w0 rb ao cap ts a wx)=>z9t hB wx k)
 rw [hT.val] at N
 rw [j8e hbl hT]
 have hlt:k ≠ 0 → a < ts.length:=fun h0=>by
  rcases hT.tok with ⟨q,e⟩ | ⟨e,h1,_⟩
  ·exact (List.getElem?_eq_some_iff.1 e).1
  ·exact absurd h1 h0
 by_cases h3:k = 3
 ·have hlt1:=hlt omT
  subst h3
  rw [if_pos (by rfl)]
  have O:=fun wx=>hiT (q8d n wx)
  replace O:=hiT O
  clear hT h hB hbl hlt
  go_enter Tryz.func181,Tryz.ntmps181
  go_wp2_with fail
  refine (T.out _ (z2e hR.out gzT)).mono ?_
  intro e w1 hr
  obtain ⟨rfl,hM⟩:=hr
  replace hM:z8q w0 rb ao cap ts a (w.alloc j8l) w1:=hM
  obtain ⟨r0,r1,r2,hrb,hrf⟩:=three (z2y hM.2 (heap_alloc_new w j8l) hne hne)
  have q0:=hrf 0
  have q1:=hrf 1
  have q2:=hrf 2
  have i2:=InW.mk hrb
  have e0:=z0b r0
  have e1:=z0b r1
  have e2:=z0b r2
  replace hM:=z2u (z3k hR.out gzT) hM
  clear hrf
  have N1:=hiT (fun wx (hb:Below w1.heap.size w1 wx)=>N.out wx (z2e hM.1 hb))
  obtain ⟨c0,c1,htb1,f1⟩:=z2m hM.1
  have i1:InW rb w1:=⟨htb1⟩
  have hMh:=hiT hM
  clear hM T N hR
  go_wp2_with (first | ((with_reducible refine (N1.out _ gzT).mono ?_);intro e w1 hr;obtain ⟨rfl,p,rfl⟩:=hr.out;clear hr) | ((with_reducible refine ((O.out _).out).mono ?_);intro e w1 hr;obtain ⟨rfl,p,rfl⟩:=hr.out;clear hr))
  go_returns
  have hM:=hMh.out
  exact ⟨rfl,by repeat' (first | (with_reducible assumption) | (with_reducible refine q5n ?_) | (with_reducible refine z4l ?_) | (with_reducible refine z5o ?_) | (with_reducible refine z4m ?_) | (with_reducible refine z7l ?_ (by first | assumption | omega) (by first | assumption | omega) (by first | assumption | omega)) | (exact z7m (by with_reducible assumption) (by omega) (by first | rfl | (congr 1;omega))))⟩
 ·have h3b:(k == 3) = false:=beq_eq_false_iff_ne.2 h3
  rw [h3b,if_neg deT]
  by_cases h4:k = 4
  ·have hlt1:=hlt omT
   subst h4
   rw [if_pos (by rfl)]
   have O:=fun wx=>hiT (q1g ⟨s.toArray⟩ wx)
   replace O:=hiT O
   clear hT h hB hbl hlt h3b h3
   go_enter Tryz.func181,Tryz.ntmps181
   go_wp2_with fail
   refine (T.out _ (z2e hR.out gzT)).mono ?_
   intro e w1 hr
   obtain ⟨rfl,hM⟩:=hr
   replace hM:z8q w0 rb ao cap ts a (w.alloc j8l) w1:=hM
   obtain ⟨r0,r1,r2,hrb,hrf⟩:=three (z2y hM.2 (heap_alloc_new w j8l) hne hne)
   have q0:=hrf 0
   have q1:=hrf 1
   have q2:=hrf 2
   have i2:=InW.mk hrb
   have e0:=z0b r0
   have e1:=z0b r1
   have e2:=z0b r2
   replace hM:=z2u (z3k hR.out gzT) hM
   clear hrf
   have N1:=hiT (fun wx (hb:Below w1.heap.size w1 wx)=>N.out wx (z2e hM.1 hb))
   obtain ⟨c0,c1,htb1,f1⟩:=z2m hM.1
   have i1:InW rb w1:=⟨htb1⟩
   have hMh:=hiT hM
   clear hM T N hR
   go_wp2_with (first | ((with_reducible refine (N1.out _ gzT).mono ?_);intro e w1 hr;obtain ⟨rfl,p,rfl⟩:=hr.out;clear hr) | ((with_reducible refine ((O.out _).out).mono ?_);intro e w1 hr;obtain ⟨rfl,p,rfl⟩:=hr.out;clear hr))
   go_returns
   have hM:=hMh.out
   exact ⟨rfl,by repeat' (first | (with_reducible assumption) | (with_reducible refine q5n ?_) | (with_reducible refine z4l ?_) | (with_reducible refine z5o ?_) | (with_reducible refine z4m ?_) | (with_reducible refine z7l ?_ (by first | assumption | omega) (by first | assumption | omega) (by first | assumption | omega)) | (exact z7m (by with_reducible assumption) (by omega) (by first | rfl | (congr 1;omega))))⟩
  ·have h4b:(k == 4) = false:=beq_eq_false_iff_ne.2 h4
   rw [h4b,if_neg deT]
   obtain ⟨kb,hkb⟩:∃ b,(k == 1 || k == 5) = b:=⟨_,rfl⟩
   obtain ⟨st,hst⟩:∃ b,(s == [116,114,117,101]) = b:=⟨_,rfl⟩
   obtain ⟨sf,hsf⟩:∃ b,(s == [102,97,108,115,101]) = b:=⟨_,rfl⟩
   have I2:=fun g wx hc hd=>hiT (k0w k ⟨s.toArray⟩ n p ⟨#[116,114,117,101]⟩ ⟨#[102,97,108,115,101]⟩ (kb && (st || sf)) (by rw [← hkb,← hst,← hsf]) g wx hc hd)
   have I1:=fun g wx hc=>hiT (q1y k ⟨s.toArray⟩ n p ⟨#[116,114,117,101]⟩ (kb && st) (by rw [← hkb,← hst]) g wx hc)
   replace I2:=hiT I2
   replace I1:=hiT I1
   have hlt1:kb = true → a < ts.length:=fun h=>hlt (by rintro rfl;rw [← hkb] at h;cases h)
   rw [hkb,hst,hsf]
   have O:=fun b wx=>hiT (z8m b wx)
   replace O:=hiT O
   clear hT h hB hbl hlt h3 h4 hkb hst hsf
   generalize (⟨s.toArray⟩:ByteArray) = tx at *
   cases kb
   ·rw [Bool.false_and,Bool.false_and,if_neg deT,if_neg deT]
    rw [Bool.false_and] at I2
    clear hlt1 I1
    go_enter Tryz.func181,Tryz.ntmps181
    go_wp2_with fail
    refine (T.out _ (z2e hR.out gzT)).mono ?_
    intro e w1 hr
    obtain ⟨rfl,hM⟩:=hr
    replace hM:z8q w0 rb ao cap ts a (w.alloc j8l) w1:=hM
    obtain ⟨r0,r1,r2,hrb,hrf⟩:=three (z2y hM.2 (heap_alloc_new w j8l) hne hne)
    have q0:=hrf 0
    have q1:=hrf 1
    have q2:=hrf 2
    have i2:=InW.mk hrb
    have e0:=z0b r0
    have e1:=z0b r1
    have e2:=z0b r2
    replace hM:=z2u (z3k hR.out gzT) hM
    clear hrf
    have N1:=hiT (fun wx (hb:Below w1.heap.size w1 wx)=>N.out wx (z2e hM.1 hb))
    have hMh:=hiT hM
    clear hM T N hR
    go_wp2_with (first | ((with_reducible refine (N1.out _ gzT).mono ?_);intro e w1 hr;obtain ⟨rfl,p,rfl⟩:=hr.out;clear hr) | ((with_reducible refine ((I2.out _ _ (by simp [go_sem]) (by simp [go_sem])).out).mono ?_);intro e w1 hr;obtain ⟨rfl,p,rfl⟩:=hr.out;clear hr))
    go_returns
    have hM:=hMh.out
    exact ⟨rfl,a,by repeat' (first | (with_reducible assumption) | (with_reducible refine q5n ?_) | (with_reducible refine z4l ?_) | (with_reducible refine z5o ?_) | (with_reducible refine z4m ?_) | (with_reducible refine z7l ?_ (by first | assumption | omega) (by first | assumption | omega) (by first | assumption | omega)) | (exact z7m (by with_reducible assumption) (by omega) (by first | rfl | (congr 1;omega))))⟩
   ·have hlt2:=hlt1 rfl
    clear hlt1
    rw [Bool.true_and,Bool.true_and]
    cases st
    ·cases sf
     ·go_enter Tryz.func181,Tryz.ntmps181
      go_wp2_with fail
      refine (T.out _ (z2e hR.out gzT)).mono ?_
      intro e w1 hr
      obtain ⟨rfl,hM⟩:=hr
      replace hM:z8q w0 rb ao cap ts a (w.alloc j8l) w1:=hM
      obtain ⟨r0,r1,r2,hrb,hrf⟩:=three (z2y hM.2 (heap_alloc_new w j8l) hne hne)
      have q0:=hrf 0
      have q1:=hrf 1
      have q2:=hrf 2
      have i2:=InW.mk hrb
      have e0:=z0b r0
      have e1:=z0b r1
      have e2:=z0b r2
      replace hM:=z2u (z3k hR.out gzT) hM
      clear hrf
      have N1:=hiT (fun wx (hb:Below w1.heap.size w1 wx)=>N.out wx (z2e hM.1 hb))
      have hMh:=hiT hM
      clear hM T N hR
      go_wp2_with (first | ((with_reducible refine (N1.out _ gzT).mono ?_);intro e w1 hr;obtain ⟨rfl,p,rfl⟩:=hr.out;clear hr) | ((with_reducible refine ((I2.out _ _ (by simp [go_sem]) (by simp [go_sem])).out).mono ?_);intro e w1 hr;obtain ⟨rfl,p,rfl⟩:=hr.out;clear hr))
      go_returns
      have hM:=hMh.out
      exact ⟨rfl,a,by repeat' (first | (with_reducible assumption) | (with_reducible refine q5n ?_) | (with_reducible refine z4l ?_) | (with_reducible refine z5o ?_) | (with_reducible refine z4m ?_) | (with_reducible refine z7l ?_ (by first | assumption | omega) (by first | assumption | omega) (by first | assumption | omega)) | (exact z7m (by with_reducible assumption) (by omega) (by first | rfl | (congr 1;omega))))⟩
     ·go_enter Tryz.func181,Tryz.ntmps181
      go_wp2_with fail
      refine (T.out _ (z2e hR.out gzT)).mono ?_
      intro e w1 hr
      obtain ⟨rfl,hM⟩:=hr
      replace hM:z8q w0 rb ao cap ts a (w.alloc j8l) w1:=hM
      obtain ⟨r0,r1,r2,hrb,hrf⟩:=three (z2y hM.2 (heap_alloc_new w j8l) hne hne)
      have q0:=hrf 0
      have q1:=hrf 1
      have q2:=hrf 2
      have i2:=InW.mk hrb
      have e0:=z0b r0
      have e1:=z0b r1
      have e2:=z0b r2
      replace hM:=z2u (z3k hR.out gzT) hM
      clear hrf
      have N1:=hiT (fun wx (hb:Below w1.heap.size w1 wx)=>N.out wx (z2e hM.1 hb))
      obtain ⟨c0,c1,htb1,f1⟩:=z2m hM.1
      have i1:InW rb w1:=⟨htb1⟩
      have hMh:=hiT hM
      clear hM T N hR
      go_wp2_with (first | ((with_reducible refine (N1.out _ gzT).mono ?_);intro e w1 hr;obtain ⟨rfl,p,rfl⟩:=hr.out;clear hr) | ((with_reducible refine ((I2.out _ _ (by simp [go_sem]) (by simp [go_sem])).out).mono ?_);intro e w1 hr;obtain ⟨rfl,p,rfl⟩:=hr.out;clear hr) | ((with_reducible refine ((I1.out _ _ (by simp [go_sem])).out).mono ?_);intro e w1 hr;obtain ⟨rfl,p,rfl⟩:=hr.out;clear hr) | ((with_reducible refine ((O.out _ _).out).mono ?_);intro e w1 hr;obtain ⟨rfl,p,rfl⟩:=hr.out;clear hr))
      go_returns
      have hM:=hMh.out
      exact ⟨rfl,by repeat' (first | (with_reducible assumption) | (with_reducible refine q5n ?_) | (with_reducible refine z4l ?_) | (with_reducible refine z5o ?_) | (with_reducible refine z4m ?_) | (with_reducible refine z7l ?_ (by first | assumption | omega) (by first | assumption | omega) (by first | assumption | omega)) | (exact z7m (by with_reducible assumption) (by omega) (by first | rfl | (congr 1;omega))))⟩
    ·have e4:(true && (true || sf)) = true:=rfl
     rw [e4] at I2
     go_enter Tryz.func181,Tryz.ntmps181
     go_wp2_with fail
     refine (T.out _ (z2e hR.out gzT)).mono ?_
     intro e w1 hr
     obtain ⟨rfl,hM⟩:=hr
     replace hM:z8q w0 rb ao cap ts a (w.alloc j8l) w1:=hM
     obtain ⟨r0,r1,r2,hrb,hrf⟩:=three (z2y hM.2 (heap_alloc_new w j8l) hne hne)
     have q0:=hrf 0
     have q1:=hrf 1
     have q2:=hrf 2
     have i2:=InW.mk hrb
     have e0:=z0b r0
     have e1:=z0b r1
     have e2:=z0b r2
     replace hM:=z2u (z3k hR.out gzT) hM
     clear hrf
     have N1:=hiT (fun wx (hb:Below w1.heap.size w1 wx)=>N.out wx (z2e hM.1 hb))
     obtain ⟨c0,c1,htb1,f1⟩:=z2m hM.1
     have i1:InW rb w1:=⟨htb1⟩
     have hMh:=hiT hM
     clear hM T N hR
     go_wp2_with (first | ((with_reducible refine (N1.out _ gzT).mono ?_);intro e w1 hr;obtain ⟨rfl,p,rfl⟩:=hr.out;clear hr) | ((with_reducible refine ((I2.out _ _ (by simp [go_sem]) (by simp [go_sem])).out).mono ?_);intro e w1 hr;obtain ⟨rfl,p,rfl⟩:=hr.out;clear hr) | ((with_reducible refine ((I1.out _ _ (by simp [go_sem])).out).mono ?_);intro e w1 hr;obtain ⟨rfl,p,rfl⟩:=hr.out;clear hr) | ((with_reducible refine ((O.out _ _).out).mono ?_);intro e w1 hr;obtain ⟨rfl,p,rfl⟩:=hr.out;clear hr))
     go_returns
     have hM:=hMh.out
     exact ⟨rfl,by repeat' (first | (with_reducible assumption) | (with_reducible refine q5n ?_) | (with_reducible refine z4l ?_) | (with_reducible refine z5o ?_) | (with_reducible refine z4m ?_) | (with_reducible refine z7l ?_ (by first | assumption | omega) (by first | assumption | omega) (by first | assumption | omega)) | (exact z7m (by with_reducible assumption) (by omega) (by first | rfl | (congr 1;omega))))⟩
theorem y5v (hB:BaseL w0 ao ts) (w:World) (h:RdrAt w0 rb ao cap ts a w) :
  Calls Tryz.prog 181 #[.pointer (some ⟨rb,0,none⟩)] w (x1v w0 rb ao cap ts (z9g ts a) w):=by
 cases hbl:z2t ts a [45]
 ·exact j6n hB w h hbl
 ·exact j6m hB w h hbl
end
end Go.Proofs.YtacnlghljmgdiaaGreatDoor
