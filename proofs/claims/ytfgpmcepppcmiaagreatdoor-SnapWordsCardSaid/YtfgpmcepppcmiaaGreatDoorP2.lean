/- Several texts of this proof, joined: LM, HT, LR, LT, LU. -/
import Derived.Test.YtfgpmcepppcmiaaGreatDoorV1
import Derived.Test.YtfgpmcepppcmiaaGreatDoorY6
import Derived.Test.YtfgpmcepppcmiaaGreatDoorZ1
import Derived.WalkKit
import Derived.ProofKit
import Derived.OpenShut
import Derived.Handy
import Derived.Test.YtfgpmcepppcmiaaGreatDoorV3
import Derived.BigQuiet
import Derived.OwnWalk
import Derived.Lib.Hide
import Derived.WalkSmall
import Derived.WalkLawsBesides
import Derived.Deep.RegionHeld3
namespace Go.Proofs.YtfgpmcepppcmiaaGreatDoor
structure Ln where
 kind:Int
 name:List UInt8
 start:List UInt8
 vk:Int
 vn:Int
 vs:List UInt8
 acts:List Ac
 event:List UInt8
 cond:List Nd
 goes:List (List UInt8)
 inner:Bool
 thn:List Ac
def ln0 (k:Int):Ln:=⟨k,[],[],0,0,[],[],[],[],[],false,[]⟩
def lineWs:List (List UInt8) :=
 [[],[99,104,97,114,116],[118,97,114],[115,116,97,116,101],[112,97,114,97,108,108,101,108],[102,105,110,97,108],[100,101,101,112],[115,104,97,108,108,111,119],[101,110,116,101,114],[101,120,105,116],[111,110],[97,117,116,111],[101,110,100]]
def lwL (k:Nat):List UInt8:=lineWs.getD k []
def kindFrom (ts:List Tk) (a:Nat):Nat → Nat → Nat
 | 0,_=>0
 | f + 1,k=>if tkAt ts a (lwL k) then k else kindFrom ts a f (k + 1)
def kindAt (ts:List Tk) (a:Nat):Nat:=kindFrom ts a 12 1
def valueL (ts:List Tk) (a:Nat):Option (Int × Int × List UInt8 × Nat) :=
 if tkAt ts a [45] then
  match ts[a + 1]? with
  | some t=>if t.k == 3 then some (1,-t.n,[],a + 2) else none
  | none=>none
 else
  match ts[a]? with
  | some t =>
   if t.k == 3 then some (1,t.n,[],a + 1)
   else if t.k == 4 then some (3,0,t.s,a + 1)
   else if wordB t [116,114,117,101] then some (2,1,[],a + 1)
   else if wordB t [102,97,108,115,101] then some (2,0,[],a + 1)
   else none
  | none=>none
def eventL (ts:List Tk) (a:Nat):Option (List UInt8) :=
 match ts[a]? with
 | some t=>if ((t.k == 1 || t.k == 2) && namedB true t.s) || wordB t [42] then some t.s else none
 | none=>none
def goesA (ts:List Tk):Nat → List (List UInt8) → Nat → Except Int (List (List UInt8) × Nat)
 | f,gs,a =>
  match nameAt ts a with
  | none=>if gs.length = 0 then .error 11 else .ok (gs,a)
  | some s =>
   match f with
   | 0 => .error 13
   | f + 1=>goesA ts f (gs ++ [s]) (a + 1)
def ifL (ts:List Tk) (a:Nat):Except Int (List Nd × Nat):=if tkAt ts a [105,102] then parseT ts ((a + 1:Nat):Int) else .ok ([],a)
def goL (ts:List Tk) (a:Nat):Except Int (List (List UInt8) × Nat):=if tkAt ts a [103,111] then goesA ts 4 [] (a + 1) else .ok ([],a)
def innerL (ts:List Tk) (a:Nat):Bool:=tkAt ts a [105,110,110,101,114]
def doL (ts:List Tk) (a:Nat):Except Int (List Ac × Nat):=if tkAt ts a [100,111] then takeT ts ((a + 1:Nat):Int) else .ok ([],a)
def transL (ts:List Tk) (n:Ln) (a:Nat):Except Int (Ln × Nat) :=
 match ifL ts a with
 | .error x => .error x
 | .ok (cond,a1) =>
  match goL ts a1 with
  | .error x => .error x
  | .ok (goes,a2) =>
   match doL ts (if innerL ts a2 then a2 + 1 else a2) with
   | .error x => .error x
   | .ok (thn,a3) => .ok ({ n with cond:=cond,goes:=goes,inner:=innerL ts a2,thn:=thn },a3)
def namedL (ts:List Tk) (k:Nat) (a:Nat):Option (Ln × Nat) :=
 match nameAt ts a with
 | none=>none
 | some s =>
  if k = 2 then
   match valueL ts (a + 1) with
   | none=>none
   | some (vk,vn,vs,b)=>some ({ ln0 k with name:=s,vk:=vk,vn:=vn,vs:=vs },b)
  else if k = 1 ∨ k = 3 then
   match nameAt ts (a + 1) with
   | none=>some ({ ln0 k with name:=s },a + 1)
   | some t=>some ({ ln0 k with name:=s,start:=t },a + 2)
  else if k = 6 ∨ k = 7 then
   match nameAt ts (a + 1) with
   | none=>none
   | some t=>some ({ ln0 k with name:=s,start:=t },a + 2)
  else some ({ ln0 k with name:=s },a + 1)
def restL (ts:List Tk) (k:Nat) (a:Nat):Except Int (Ln × Nat) :=
 if k = 12 then .ok (ln0 k,a)
 else if k = 8 ∨ k = 9 then
  match takeT ts (a:Int) with
  | .error x => .error x
  | .ok (cs,b) => .ok ({ ln0 k with acts:=cs },b)
 else if k = 10 then
  match eventL ts a with
  | none => .error 11
  | some s=>transL ts { ln0 k with event:=s } (a + 1)
 else if k = 11 then transL ts (ln0 k) a
 else
  match namedL ts k a with
  | none => .error 11
  | some x => .ok x
def lineT (ts:List Tk):Except Int Ln :=
 if kindAt ts 0 = 0 then .error 25
 else
  match restL ts (kindAt ts 0) 1 with
  | .error x => .error x
  | .ok (n,b)=>if b < ts.length then .error 11 else .ok n
def parseL (l:List UInt8):Except Int Ln :=
 match lexT 120 0 l with
 | .error (e,_) => .error e
 | .ok ts=>lineT ts
theorem kindFrom_lt {ts:List Tk} {a:Nat}:∀ (f k:Nat),kindFrom ts a f k = 0 ∨ (k ≤ kindFrom ts a f k ∧ kindFrom ts a f k < k + f ∧ tkAt ts a (lwL (kindFrom ts a f k)) = true)
 | 0,k => .inl rfl
 | f + 1,k=>by
  rw [kindFrom]
  by_cases h:tkAt ts a (lwL k) = true
  ·rw [if_pos h]
   exact .inr ⟨Nat.le_refl _,by omega,h⟩
  ·rw [if_neg h]
   rcases kindFrom_lt (ts:=ts) (a:=a) f (k + 1) with h1 | ⟨h1,h2,h3⟩
   ·exact .inl h1
   ·exact .inr ⟨by omega,by omega,h3⟩
theorem kindAt_lt {ts:List Tk} {a:Nat} (h:¬ kindAt ts a = 0):1 ≤ kindAt ts a ∧ kindAt ts a ≤ 12 ∧ a < ts.length:=by
 rcases kindFrom_lt (ts:=ts) (a:=a) 12 1 with h1 | ⟨h1,h2,h3⟩
 ·exact absurd h1 h
 ·exact ⟨h1,by unfold kindAt;omega,tkAt_lt h3⟩
end Go.Proofs.YtfgpmcepppcmiaaGreatDoor
namespace Go.Proofs.YtfgpmcepppcmiaaGreatDoor
open Go.RowKit
class IsTop (n:Nat) (w:World):Prop where
 eq:n = w.heap.size
instance isTop_self (w:World):IsTop w.heap.size w:=⟨rfl⟩
instance isTop_set (n:Nat) (w:World) (a:Addr) (v:Value) [h:IsTop n w]:IsTop n (w.setCell a v):=⟨by rw [World.size_setCell];exact h.eq⟩
instance isTop_drew (n:Nat) (w:World) [h:IsTop n w]:IsTop n w.drew:=⟨h.eq⟩
@[go_sem] theorem cell_allocT (w:World) (n i:Nat) (cs:Array Value) (t:TypeId) (fr:Nat × Nat) [h:IsTop n w]:(w.alloc (.cells cs t fr)).cell? ⟨n,i,none⟩ = cs[i]?:=by
 rw [h.eq]
 exact cell_of_row _ _ _ _ _ _ (heap_alloc_new w _)
instance inW_top (n:Nat) (w:World) (o:Obj) [h:IsTop n w]:InW n (w.alloc o):=⟨by rw [h.eq,World.size_alloc];omega⟩
end Go.Proofs.YtfgpmcepppcmiaaGreatDoor
namespace Go.Proofs.YtfgpmcepppcmiaaGreatDoor
open Go.RowKit
def lineV:Array Value:=(lineWs.map fun l=>Value.string ⟨l.toArray⟩).toArray
def Lw (w:World):Prop:=w.var? Tryz.prog "whirligig/line.words" = some lineV
theorem lw_global:Tryz.prog.globalNamed "whirligig/line.words" = some 3:=by kernel_rfl
theorem lw_lt {w:World} (h:Lw w):3 < w.heap.size:=global_lt lw_global h
theorem lw_keep {B:Nat} {w w':World} (h:Lw w) (hB:3 < B) (hb:Below B w w'):Lw w':=var?_below hb lw_global hB h
theorem lw_cell {w:World} (h:Lw w) (i:Nat):w.cell? ⟨3,i,none⟩ = lineV[i]?:=World.var?_cell lw_global h i
theorem lw_word {w:World} (h:Lw w) (k:Nat) (hk:k ≤ 12):w.cell? ⟨3,k,none⟩ = some (.string ⟨(lwL k).toArray⟩):=by
 rw [lw_cell h]
 rcases (by omega:k = 0 ∨ k = 1 ∨ k = 2 ∨ k = 3 ∨ k = 4 ∨ k = 5 ∨ k = 6 ∨ k = 7 ∨ k = 8 ∨ k = 9 ∨ k = 10 ∨ k = 11 ∨ k = 12) with rfl | rfl | rfl | rfl | rfl | rfl | rfl | rfl | rfl | rfl | rfl | rfl | rfl <;> rfl
structure Al (w:World):Prop where
 ax:Ax w
 lw:Lw w
theorem al_below {w w':World} (h:Al w) (hb:Below w.heap.size w w'):Al w':=⟨ax_below h.ax hb,lw_keep h.lw (lw_lt h.lw) hb⟩
structure BaseL (w0:World) (ao:Option Addr) (ts:List Tk):Prop where
 al:Al w0
 sl:Sl w0 ao ts
 few:ts.length ≤ 120
 short:∀ t ∈ ts,t.s.length ≤ 140737488351232
 ok:∀ t ∈ ts,TkOk t
abbrev rdrB (ao:Option Addr) (cap:Nat) (ts:List Tk) (a:Nat):Obj := .cells #[.slice ao ts.length cap,.int .i64 (a:Int)] 221 (0,0)
structure RdrAt (w0:World) (rb:Nat) (ao:Option Addr) (cap:Nat) (ts:List Tk) (a:Nat) (w:World):Prop where
 blk:w.heap[rb]? = some (rdrB ao cap ts a)
 own:w0.heap.size ≤ rb
 le:a ≤ ts.length
 env:Below w0.heap.size w0 w
section
variable {w0:World} {rb:Nat} {ao:Option Addr} {cap:Nat} {ts:List Tk} {a b:Nat} {w w':World}
theorem rdr_cells (h:RdrAt w0 rb ao cap ts a w) :
  w.cell? ⟨rb,0,none⟩ = some (.slice ao ts.length cap) ∧ w.cell? ⟨rb,1,none⟩ = some (.int .i64 (a:Int)) ∧ rb < w.heap.size ∧ w.frozen? ⟨rb,1,none⟩ = false:=by
 refine ⟨?_,?_,lt_of_block h.blk,frozen_of_row w rb 1 _ _ h.blk⟩
 all_goals
  rw [cell_of_row w rb _ _ _ _ h.blk]
  rfl
theorem rdr_keep (h:RdrAt w0 rb ao cap ts a w) (hb:Below w.heap.size w w'):RdrAt w0 rb ao cap ts a w' :=
 ⟨(hb.block rb (lt_of_block h.blk)).trans h.blk,h.own,h.le,h.env.trans (hb.mono h.env.size)⟩
theorem rdr_move (h:RdrAt w0 rb ao cap ts a w) (hle:b ≤ ts.length) (hb:Below w.heap.size (w.setCell ⟨rb,1,none⟩ (.int .i64 (b:Int))) w'):RdrAt w0 rb ao cap ts b w':=by
 refine ⟨(hb.block rb (lt_of_block h.blk)).trans (blk_set h.blk),h.own,hle,(h.env.setCell (p:=⟨rb,1,none⟩) h.own _).trans (hb.mono ?_)⟩
 exact h.env.size
theorem rdr_far {i c:Nat} {v:Value} (h:RdrAt w0 rb ao cap ts a w) (hb:w0.heap.size ≤ c) (hne:rb ≠ c):RdrAt w0 rb ao cap ts a (w.setCell ⟨c,i,none⟩ v) :=
 ⟨blk_far h.blk hne,h.own,h.le,h.env.setCell (p:=⟨c,i,none⟩) hb _⟩
end
def tokV (ts:List Tk) (a:Nat):Value :=
 match ts[a]? with
 | some t => .agg #[.int .i64 t.k,.string ⟨t.s.toArray⟩,.int .i64 t.n,.int .i64 (t.a:Int)]
 | none => .agg #[.int .i64 0,.string ⟨#[]⟩,.int .i64 0,.int .i64 0]
structure TokIsL (ts:List Tk) (a:Nat) (k n p:Int) (s:List UInt8):Prop where
 val:tokV ts a = .agg #[.int .i64 k,.string ⟨s.toArray⟩,.int .i64 n,.int .i64 p]
 at_:∀ x,tkAt ts a x = ((k == 1 || k == 5) && s == x)
 name:nameAt ts a = if k == 1 && !meansB s then some s else none
 event:eventL ts a = if ((k == 1 || k == 2) && namedB true s) || ((k == 1 || k == 5) && s == [42]) then some s else none
 short:s.length ≤ 140737488351232
 num:k = 3 → 0 ≤ n ∧ I64 n
 tok:(∃ q,ts[a]? = some ⟨k,s,n,q⟩) ∨ (ts[a]? = none ∧ k = 0 ∧ s = [])
theorem tok_parts (ts:List Tk) (a:Nat) (hs:∀ t ∈ ts,t.s.length ≤ 140737488351232) (hk:∀ t ∈ ts,TkOk t):∃ k n p s,TokIsL ts a k n p s:=by
 rcases Nat.lt_or_ge a ts.length with h | h
 ·have e:=List.getElem?_eq_getElem h
  have hm:=List.getElem_mem h
  refine ⟨ts[a].k,ts[a].n,(ts[a].a:Int),ts[a].s,?_,fun x=>?_,?_,?_,hs _ hm,fun h3=>(hk _ hm).num h3,.inl ⟨_,e⟩⟩
  ·unfold tokV;rw [e]
  ·unfold tkAt;rw [e];rfl
  ·unfold nameAt;rw [e]
  ·unfold eventL;rw [e];rfl
 ·have e:=List.getElem?_eq_none h
  refine ⟨0,0,0,[],?_,fun x=>?_,?_,?_,by decide,fun h3=>by omega,.inr ⟨e,rfl,rfl⟩⟩
  ·unfold tokV;rw [e]
  ·unfold tkAt;rw [e];rfl
  ·unfold nameAt;rw [e];rfl
  ·unfold eventL;rw [e];rfl
def RMov (w0:World) (rb:Nat) (ao:Option Addr) (cap:Nat) (ts:List Tk) (b:Nat) (w w':World):Prop:=RdrAt w0 rb ao cap ts b w' ∧ KeptA w0.heap.size rb rb w w'
section
variable {w0:World} {rb:Nat} {ao:Option Addr} {cap:Nat} {ts:List Tk} {a b:Nat} {w wx wy:World}
theorem rmov_keep (h:RdrAt w0 rb ao cap ts a w) (hb:Below w.heap.size w wx):RMov w0 rb ao cap ts a w wx:=⟨rdr_keep h hb,keptA_below hb h.env.size⟩
theorem rmov_move (h:RdrAt w0 rb ao cap ts a w) (hle:b ≤ ts.length) (hb:Below w.heap.size (w.setCell ⟨rb,1,none⟩ (.int .i64 (b:Int))) wx):RMov w0 rb ao cap ts b w wx:=⟨rdr_move h hle hb,keptA_moved h.own h.env.size hb⟩
theorem rmov_trans (h:RMov w0 rb ao cap ts a w wx) (k:RMov w0 rb ao cap ts b wx wy):RMov w0 rb ao cap ts b w wy:=⟨k.1,keptA_trans h.2 k.2⟩
theorem rmov_on (h:RMov w0 rb ao cap ts a w wx) (hb:Below wx.heap.size wx wy):RMov w0 rb ao cap ts a w wy:=rmov_trans h (rmov_keep h.1 hb)
end
abbrev str (l:List UInt8):Value := .string ⟨l.toArray⟩
def strsC (ls:List (List UInt8)):List Value:=ls.map str
abbrev lnC (n:Ln) (av iv gv tv:Value):Array Value :=
 #[.int .i64 n.kind,str n.name,str n.start,.int .i64 n.vk,.int .i64 n.vn,str n.vs,av,str n.event,iv,gv,.bool n.inner,tv]
structure LnV (B:Nat) (w:World) (n:Ln) (av iv gv tv:Value):Prop where
 acts:AcRow 239 235 B w av n.acts
 cond:w.ownsRow B 239 7 iv n.cond.length (ndsC n.cond)
 goes:w.ownsRow B 9 1 gv n.goes.length (strsC n.goes)
 thn:AcRow 239 235 B w tv n.thn
def LnAt (B nb:Nat) (n:Ln) (w:World):Prop:=∃ av iv gv tv,w.heap[nb]? = some (.cells (lnC n av iv gv tv) 164 (0,0)) ∧ LnV B w n av iv gv tv
theorem acRow_set {T E t B b i:Nat} {w:World} {v u:Value} {cs:List Ac} {cells:Array Value} {fr:Nat × Nat} (h:AcRow T E B w v cs) (hb:w.heap[b]? = some (.cells cells t fr)) (h1:t ≠ T) (h2:t ≠ E):AcRow T E B (w.setCell ⟨b,i,none⟩ u) v cs :=
 acRow_keptA (B':=0) h (keptA_set (B:=0) (tb:=b) (ab:=b) (.inl rfl) (Nat.zero_le _)) hb h1 h2
theorem lnV_set {B b i t:Nat} {w:World} {n:Ln} {av iv gv tv u:Value} {cells:Array Value} {fr:Nat × Nat} (h:LnV B w n av iv gv tv) (hb:w.heap[b]? = some (.cells cells t fr)) (h1:t ≠ 239) (h2:t ≠ 235) (h3:t ≠ 9):LnV B (w.setCell ⟨b,i,none⟩ u) n av iv gv tv :=
 ⟨acRow_set h.acts hb h1 h2,ownsRow_setCell_other h.cond (own_ne h.cond hb h1) _,ownsRow_setCell_other h.goes (own_ne h.goes hb h3) _,acRow_set h.thn hb h1 h2⟩
theorem lnV_keep {B:Nat} {w w':World} {n:Ln} {av iv gv tv:Value} (h:LnV B w n av iv gv tv) (hb:Below w.heap.size w w'):LnV B w' n av iv gv tv :=
 ⟨acRow_keep h.acts hb,owns_below h.cond hb,owns_below h.goes hb,acRow_keep h.thn hb⟩
theorem lnAt_keep {B nb:Nat} {w w':World} {n:Ln} (h:LnAt B nb n w) (hb:Below w.heap.size w w'):LnAt B nb n w':=by
 obtain ⟨av,iv,gv,tv,h1,h2⟩:=h
 exact ⟨av,iv,gv,tv,blk_keep h1 hb,lnV_keep h2 hb⟩
structure LnSt (w0:World) (rb nb:Nat) (ao:Option Addr) (cap:Nat) (ts:List Tk) (n:Ln) (a:Nat) (wx:World):Prop where
 rdr:RdrAt w0 rb ao cap ts a wx
 ln:LnAt w0.heap.size nb n wx
 own:w0.heap.size ≤ nb
 ne:rb ≠ nb
section
variable {w0:World} {rb nb:Nat} {ao:Option Addr} {cap:Nat} {ts:List Tk} {n:Ln} {a b:Nat} {wx wy:World}
theorem ln_keep (h:LnSt w0 rb nb ao cap ts n a wx) (hb:Below wx.heap.size wx wy):LnSt w0 rb nb ao cap ts n a wy :=
 ⟨rdr_keep h.rdr hb,lnAt_keep h.ln hb,h.own,h.ne⟩
theorem ln_move (h:LnSt w0 rb nb ao cap ts n a wx) (hle:b ≤ ts.length) (hb:Below wx.heap.size (wx.setCell ⟨rb,1,none⟩ (.int .i64 (b:Int))) wy):LnSt w0 rb nb ao cap ts n b wy:=by
 obtain ⟨av,iv,gv,tv,h1,h2⟩:=h.ln
 refine ⟨rdr_move h.rdr hle hb,⟨av,iv,gv,tv,blk_moved (blk_far h1 h.ne.symm) hb,lnV_keep (lnV_set h2 h.rdr.blk (by decide) (by decide) (by decide)) (by rw [size_set];exact hb)⟩,h.own,h.ne⟩
theorem ln_mov (h:LnSt w0 rb nb ao cap ts n a wx) (k:RMov w0 rb ao cap ts b wx wy):LnSt w0 rb nb ao cap ts n b wy:=by
 obtain ⟨av,iv,gv,tv,h1,h2⟩:=h.ln
 have ho:∀ {e s m:Nat} {v:Value} {xs:List Value},wx.ownsRow w0.heap.size e s v m xs → 221 ≠ e → wy.ownsRow w0.heap.size e s v m xs:=fun hv he=>owns_keptA hv k.2 (own_ne hv h.rdr.blk he) (own_ne hv h.rdr.blk he)
 exact ⟨k.1,⟨av,iv,gv,tv,keptA_blk k.2 h1 h.ne.symm h.ne.symm,acRow_keptA h2.acts k.2 h.rdr.blk (by decide) (by decide),ho h2.cond (by decide),ho h2.goes (by decide),acRow_keptA h2.thn k.2 h.rdr.blk (by decide) (by decide)⟩,h.own,h.ne⟩
theorem ln_cells (h:LnSt w0 rb nb ao cap ts n a wx):∃ xo xc io ic go gc to' tc,wx.heap[nb]? = some (.cells (lnC n (.slice xo n.acts.length xc) (.slice io n.cond.length ic) (.slice go n.goes.length gc) (.slice to' n.thn.length tc)) 164 (0,0)) ∧ LnV w0.heap.size wx n (.slice xo n.acts.length xc) (.slice io n.cond.length ic) (.slice go n.goes.length gc) (.slice to' n.thn.length tc) ∧ nb < wx.heap.size ∧ (∀ i,wx.frozen? ⟨nb,i,none⟩ = false) ∧ ∀ i,wx.cell? ⟨nb,i,none⟩ = (lnC n (.slice xo n.acts.length xc) (.slice io n.cond.length ic) (.slice go n.goes.length gc) (.slice to' n.thn.length tc))[i]?:=by
 obtain ⟨av,iv,gv,tv,h1,h2⟩:=h.ln
 obtain ⟨xo,xc,rfl⟩:=own_form h2.acts.choose_spec.2
 obtain ⟨io,ic,rfl⟩:=own_form h2.cond
 obtain ⟨go,gc,rfl⟩:=own_form h2.goes
 obtain ⟨to',tc,rfl⟩:=own_form h2.thn.choose_spec.2
 exact ⟨xo,xc,io,ic,go,gc,to',tc,h1,h2,lt_of_block h1,fun i=>frozen_of_row wx nb i _ _ h1,fun i=>cell_of_row wx nb _ _ _ _ h1⟩
theorem ln_put {i:Nat} {m:Ln} {u:Value} (h:LnSt w0 rb nb ao cap ts n a wx) (hm:∀ av iv gv tv,wx.heap[nb]? = some (.cells (lnC n av iv gv tv) 164 (0,0)) → LnV w0.heap.size wx n av iv gv tv → ∃ av' iv' gv' tv',(lnC n av iv gv tv).setIfInBounds i u = lnC m av' iv' gv' tv' ∧ LnV w0.heap.size (wx.setCell ⟨nb,i,none⟩ u) m av' iv' gv' tv') :
  LnSt w0 rb nb ao cap ts m a (wx.setCell ⟨nb,i,none⟩ u):=by
 obtain ⟨av,iv,gv,tv,h1,h2⟩:=h.ln
 obtain ⟨av',iv',gv',tv',h3,h4⟩:=hm av iv gv tv h1 h2
 refine ⟨rdr_far h.rdr h.own h.ne,⟨av',iv',gv',tv',?_,h4⟩,h.own,h.ne⟩
 rw [← h3]
 exact blk_set h1
theorem lnV_like {w:World} {B:Nat} {m:Ln} {av iv gv tv:Value} (h:LnV B w n av iv gv tv) (h1:m.acts = n.acts) (h2:m.cond = n.cond) (h3:m.goes = n.goes) (h4:m.thn = n.thn):LnV B w m av iv gv tv :=
 ⟨by rw [h1];exact h.acts,by rw [h2];exact h.cond,by rw [h3];exact h.goes,by rw [h4];exact h.thn⟩
theorem ln_name (s:List UInt8) (h:LnSt w0 rb nb ao cap ts n a wx):LnSt w0 rb nb ao cap ts { n with name:=s } a (wx.setCell ⟨nb,1,none⟩ (str s)) :=
 ln_put h fun av iv gv tv h1 h2=>⟨av,iv,gv,tv,rfl,lnV_like (lnV_set h2 h1 (by decide) (by decide) (by decide)) rfl rfl rfl rfl⟩
theorem ln_start (s:List UInt8) (h:LnSt w0 rb nb ao cap ts n a wx):LnSt w0 rb nb ao cap ts { n with start:=s } a (wx.setCell ⟨nb,2,none⟩ (str s)) :=
 ln_put h fun av iv gv tv h1 h2=>⟨av,iv,gv,tv,rfl,lnV_like (lnV_set h2 h1 (by decide) (by decide) (by decide)) rfl rfl rfl rfl⟩
theorem ln_vk (x:Int) (h:LnSt w0 rb nb ao cap ts n a wx):LnSt w0 rb nb ao cap ts { n with vk:=x } a (wx.setCell ⟨nb,3,none⟩ (.int .i64 x)) :=
 ln_put h fun av iv gv tv h1 h2=>⟨av,iv,gv,tv,rfl,lnV_like (lnV_set h2 h1 (by decide) (by decide) (by decide)) rfl rfl rfl rfl⟩
theorem ln_vn (x:Int) (h:LnSt w0 rb nb ao cap ts n a wx):LnSt w0 rb nb ao cap ts { n with vn:=x } a (wx.setCell ⟨nb,4,none⟩ (.int .i64 x)) :=
 ln_put h fun av iv gv tv h1 h2=>⟨av,iv,gv,tv,rfl,lnV_like (lnV_set h2 h1 (by decide) (by decide) (by decide)) rfl rfl rfl rfl⟩
theorem ln_vs (s:List UInt8) (h:LnSt w0 rb nb ao cap ts n a wx):LnSt w0 rb nb ao cap ts { n with vs:=s } a (wx.setCell ⟨nb,5,none⟩ (str s)) :=
 ln_put h fun av iv gv tv h1 h2=>⟨av,iv,gv,tv,rfl,lnV_like (lnV_set h2 h1 (by decide) (by decide) (by decide)) rfl rfl rfl rfl⟩
theorem ln_event (s:List UInt8) (h:LnSt w0 rb nb ao cap ts n a wx):LnSt w0 rb nb ao cap ts { n with event:=s } a (wx.setCell ⟨nb,7,none⟩ (str s)) :=
 ln_put h fun av iv gv tv h1 h2=>⟨av,iv,gv,tv,rfl,lnV_like (lnV_set h2 h1 (by decide) (by decide) (by decide)) rfl rfl rfl rfl⟩
theorem ln_inner (x:Bool) (h:LnSt w0 rb nb ao cap ts n a wx):LnSt w0 rb nb ao cap ts { n with inner:=x } a (wx.setCell ⟨nb,10,none⟩ (.bool x)) :=
 ln_put h fun av iv gv tv h1 h2=>⟨av,iv,gv,tv,rfl,lnV_like (lnV_set h2 h1 (by decide) (by decide) (by decide)) rfl rfl rfl rfl⟩
theorem ln_cond {v:Value} (cs:List Nd) (hv:wx.ownsRow w0.heap.size 239 7 v cs.length (ndsC cs)) (h:LnSt w0 rb nb ao cap ts n a wx):LnSt w0 rb nb ao cap ts { n with cond:=cs } a (wx.setCell ⟨nb,8,none⟩ v) :=
 ln_put h fun av iv gv tv h1 h2=>⟨av,v,gv,tv,rfl,by
  have h3:=lnV_set (i:=8) (u:=v) h2 h1 (by decide) (by decide) (by decide)
  exact ⟨h3.acts,ownsRow_setCell_other hv (own_ne hv h1 (by decide)) _,h3.goes,h3.thn⟩⟩
theorem ln_acts {v:Value} (cs:List Ac) (hv:AcRow 239 235 w0.heap.size wx v cs) (h:LnSt w0 rb nb ao cap ts n a wx):LnSt w0 rb nb ao cap ts { n with acts:=cs } a (wx.setCell ⟨nb,6,none⟩ v) :=
 ln_put h fun av iv gv tv h1 h2=>⟨v,iv,gv,tv,rfl,by
  have h3:=lnV_set (i:=6) (u:=v) h2 h1 (by decide) (by decide) (by decide)
  exact ⟨acRow_set hv h1 (by decide) (by decide),h3.cond,h3.goes,h3.thn⟩⟩
theorem ln_thn {v:Value} (cs:List Ac) (hv:AcRow 239 235 w0.heap.size wx v cs) (h:LnSt w0 rb nb ao cap ts n a wx):LnSt w0 rb nb ao cap ts { n with thn:=cs } a (wx.setCell ⟨nb,11,none⟩ v) :=
 ln_put h fun av iv gv tv h1 h2=>⟨av,iv,gv,v,rfl,by
  have h3:=lnV_set (i:=11) (u:=v) h2 h1 (by decide) (by decide) (by decide)
  exact ⟨h3.acts,h3.cond,h3.goes,acRow_set hv h1 (by decide) (by decide)⟩⟩
theorem acRow_grow {T E t B B' s m:Nat} {w w':World} {v u:Value} {cs:List Ac} {ys:List Value} (h:AcRow T E B w v cs) (k:w.ownsRow B' t s u m ys) (h1:T ≠ t) (h2:E ≠ t) (hg:w.grownBy w' u.ownBlock):AcRow T E B w' v cs:=by
 obtain ⟨vs,h3,h4⟩:=h
 exact ⟨vs,acVs_map h3 fun v n xs hv=>grown_other hv k (own_apart hv k h1) hg,grown_other h4 k (own_apart h4 k h2) hg⟩
theorem ln_grown {go:Option Addr} {gc g' cap':Nat} {s:List UInt8} (h:LnSt w0 rb nb ao cap ts n a wx) (hk:wx.ownsRow w0.heap.size 9 1 (.slice go n.goes.length gc) n.goes.length (strsC n.goes)) (hg:wx.grownBy wy (Value.slice go n.goes.length gc).ownBlock)
  (ho:wy.ownsRow w0.heap.size 9 1 (.slice (some ⟨g',0,none⟩) (n.goes.length + 1) cap') (n.goes.length + 1) (strsC n.goes ++ [str s])):LnSt w0 rb nb ao cap ts { n with goes:=n.goes ++ [s] } a (wy.setCell ⟨nb,9,none⟩ (.slice (some ⟨g',0,none⟩) (n.goes.length + 1) cap')):=by
 obtain ⟨av,iv,gv,tv,h1,h2⟩:=h.ln
 have b1:=grown_blk hk h1 (by decide) hg
 have b2:=grown_blk hk h.rdr.blk (by decide) hg
 have hr:RdrAt w0 rb ao cap ts a wy:=⟨b2,h.rdr.own,h.rdr.le,Below.grown h.rdr.env hg h.rdr.env.size (fun k hj=>(hk.lt k hj).1)⟩
 refine ⟨rdr_far hr h.own h.ne,⟨av,iv,_,tv,blk_set b1,?_⟩,h.own,h.ne⟩
 have hc:=grown_other h2.cond hk (own_apart h2.cond hk (by decide)) hg
 refine ⟨acRow_set (acRow_grow h2.acts hk (by decide) (by decide) hg) b1 (by decide) (by decide),ownsRow_setCell_other hc (own_ne hc b1 (by decide)) _,?_,acRow_set (acRow_grow h2.thn hk (by decide) (by decide) hg) b1 (by decide) (by decide)⟩
 have e1:(n.goes ++ [s]).length = n.goes.length + 1:=by simp
 have e2:strsC (n.goes ++ [s]) = strsC n.goes ++ [str s]:=by simp [strsC]
 show (wy.setCell _ _).ownsRow _ _ _ _ (n.goes ++ [s]).length (strsC (n.goes ++ [s]))
 rw [e1,e2]
 exact ownsRow_setCell_other ho (own_ne ho b1 (by decide)) _
end
end Go.Proofs.YtfgpmcepppcmiaaGreatDoor
namespace Go.Proofs.YtfgpmcepppcmiaaGreatDoor
open Go.RowKit
section
variable {w0:World} {rb:Nat} {ao:Option Addr} {cap:Nat} {ts:List Tk} {a:Nat}
set_option maxRecDepth 100000 in
set_option maxHeartbeats 2000000 in
theorem lnext_any (hB:BaseL w0 ao ts) (w:World) (h:RdrAt w0 rb ao cap ts a w) :
  Calls Tryz.prog 175 #[.pointer (some ⟨rb,0,none⟩)] w (Ret (tokV ts a) w):=by
 obtain ⟨c0,c1,htb,f1⟩:=rdr_cells h
 have hle:=h.le
 have hfew:=hB.few
 have hl:Sl w ao ts:=sl_below hB.sl h.env
 have i1:InW rb w:=⟨htb⟩
 clear h hB
 by_cases he:a = ts.length
 ·have hn:tokV ts a = .agg #[.int .i64 0,.string ⟨#[]⟩,.int .i64 0,.int .i64 0]:=by unfold tokV;rw [List.getElem?_eq_none (by omega)]
  rw [hn]
  have hd:((a:Int) == (ts.length:Int)) = true:=by rw [beq_iff_eq];omega
  clear hn hl he
  go_enter Tryz.func175,Tryz.ntmps175
  go_wp2_with fail
  (refine wp_region_G (by kernel_rfl) (by kernel_rfl) ?_;(repeat (go_big_quiet_step (fail)));refine wpQuiet_nil ?_;intro _ hw';obtain ⟨pg,hw''⟩:=hw';subst hw'')
  go_wp2
  go_returns
  exact ⟨rfl,by (first | exact gwT | exact lzT)⟩
 ·have hlt:a < ts.length:=by omega
  obtain ⟨g,rfl,hg,ht⟩:=hl (by omega)
  obtain ⟨a0,a1,a2,a3⟩:=ht a hlt
  have i2:InW g w:=⟨hg⟩
  have hd:((a:Int) == (ts.length:Int)) = false:=by rw [beq_eq_false_iff_ne];omega
  have hn:tokV ts a = .agg #[.int .i64 ts[a].k,.string ⟨ts[a].s.toArray⟩,.int .i64 ts[a].n,.int .i64 (ts[a].a:Int)]:=by unfold tokV;rw [List.getElem?_eq_getElem hlt]
  rw [hn]
  clear hn hl ht he
  generalize ts[a].k = tk at *
  generalize (⟨ts[a].s.toArray⟩:ByteArray) = tx at *
  generalize ts[a].n = tn at *
  generalize (ts[a].a:Int) = ta at *
  go_enter Tryz.func175,Tryz.ntmps175
  go_wp2_with fail
  (refine wp_region_G (by kernel_rfl) (by kernel_rfl) ?_;(repeat (go_big_quiet_step (fail)));refine wpQuiet_nil ?_;intro _ hw';obtain ⟨pg,hw''⟩:=hw';subst hw'')
  go_wp2_with fail
  go_region_held3 (fun w'=>w'.cell? ⟨rb,0,none⟩ = some (.slice (some ⟨g,0,none⟩) ts.length cap) ∧ w'.cell? ⟨rb,1,none⟩ = some (.int .i64 (a:Int)) ∧ w'.cell? ⟨g,a * 4,none⟩ = some (.int .i64 tk) ∧ w'.cell? ⟨g,a * 4 + 1,none⟩ = some (.string tx) ∧ w'.cell? ⟨g,a * 4 + 2,none⟩ = some (.int .i64 tn) ∧ w'.cell? ⟨g,a * 4 + 3,none⟩ = some (.int .i64 ta)) ((refine ⟨?_,?_,?_,?_,?_,?_⟩ <;> first | assumption | (simp [go_sem, *];done))) (fail)
  go_wp2_with fail
  go_returns
  exact ⟨rfl,by (first | exact gwT | exact lzT)⟩
set_option maxRecDepth 100000 in
set_option maxHeartbeats 2000000 in
theorem ltakes_any (x:ByteArray) (hB:BaseL w0 ao ts) (w:World) (h:RdrAt w0 rb ao cap ts a w) :
  Calls Tryz.prog 142 #[.pointer (some ⟨rb,0,none⟩),.string x] w (TookIs rb (tkAt ts a x.data.toList) a w):=by
 obtain ⟨k,n,p,s,hT⟩:=tok_parts ts a hB.short hB.ok
 have N:=fun wx (hb:Below w.heap.size w wx)=>lnext_any hB wx (rdr_keep h hb)
 rw [hT.val] at N
 replace N:=Lib.hid N
 obtain ⟨c0,c1,htb,f1⟩:=rdr_cells h
 have hle:=h.le
 have hfew:=hB.few
 have hl1:tkAt ts a x.data.toList = true → a < ts.length:=tkAt_lt
 obtain ⟨b,hb⟩:∃ b,tkAt ts a x.data.toList = b:=⟨_,rfl⟩
 have hb':((k == 1 || k == 5) && (⟨s.toArray⟩:ByteArray).data.toList == x.data.toList) = b:=by rw [← hb,hT.at_]
 have I:=fun g wx hc=>Lib.hid (is1_any k ⟨s.toArray⟩ n p x b hb' g wx hc)
 replace I:=Lib.hid I
 rw [hb] at hl1 ⊢
 clear hb hb' hT h hB
 have i1:InW rb w:=⟨htb⟩
 generalize (⟨s.toArray⟩:ByteArray) = tx at *
 cases b
 ·go_enter Tryz.func142,Tryz.ntmps142
  go_wp2_with (first | ((with_reducible refine (N.out _ (by (first | exact gwT | exact lzT))).mono ?_);intro e w1 hr;obtain ⟨rfl,p,rfl⟩:=hr.out;clear hr) | ((with_reducible refine ((I.out _ _ (by simp [go_sem])).out).mono ?_);intro e w1 hr;obtain ⟨rfl,p,rfl⟩:=hr.out;clear hr))
  go_returns
  exact ⟨rfl,show Below w.heap.size w _ by (first | exact gwT | exact lzT)⟩
 ·have hlt:=hl1 rfl
  go_enter Tryz.func142,Tryz.ntmps142
  go_wp2_with (first | ((with_reducible refine (N.out _ (by (first | exact gwT | exact lzT))).mono ?_);intro e w1 hr;obtain ⟨rfl,p,rfl⟩:=hr.out;clear hr) | ((with_reducible refine ((I.out _ _ (by simp [go_sem])).out).mono ?_);intro e w1 hr;obtain ⟨rfl,p,rfl⟩:=hr.out;clear hr))
  go_returns
  exact ⟨rfl,show Below w.heap.size (w.setCell ⟨rb,1,none⟩ (.int .i64 ((a:Int) + 1))) _ by (first | exact gwT | exact lzT)⟩
def NmIs (rb:Nat) (o:Option (List UInt8)) (a:Nat) (w:World) (e:Ending) (w':World):Prop :=
 match o with
 | none=>e = .returned (.tuple #[.string ⟨#[]⟩,.bool false]) ∧ Below w.heap.size w w'
 | some s=>e = .returned (.tuple #[.string ⟨s.toArray⟩,.bool true]) ∧ Below w.heap.size (w.setCell ⟨rb,1,none⟩ (.int .i64 ((a + 1:Nat):Int))) w'
set_option maxRecDepth 100000 in
set_option maxHeartbeats 2000000 in
theorem lname_any (hB:BaseL w0 ao ts) (w:World) (h:RdrAt w0 rb ao cap ts a w) :
  Calls Tryz.prog 181 #[.pointer (some ⟨rb,0,none⟩)] w (NmIs rb (nameAt ts a) a w):=by
 obtain ⟨k,n,p,s,hT⟩:=tok_parts ts a hB.short hB.ok
 have N:=fun wx (hb:Below w.heap.size w wx)=>lnext_any hB wx (rdr_keep h hb)
 rw [hT.val] at N
 replace N:=Lib.hid N
 obtain ⟨c0,c1,htb,f1⟩:=rdr_cells h
 have hle:=h.le
 have hfew:=hB.few
 have hl1:∀ s,nameAt ts a = some s → a < ts.length:=fun s h=>nameAt_lt h
 rw [hT.name] at hl1 ⊢
 have M:=fun wx=>Lib.hid (tmeans_any ⟨s.toArray⟩ wx)
 simp only at M
 replace M:=Lib.hid M
 generalize meansB s = m at *
 have hq:=Lib.hid (rfl:(⟨s.toArray⟩:ByteArray) = ⟨s.toArray⟩)
 clear hT h hB
 have i1:InW rb w:=⟨htb⟩
 by_cases hk:k = 1
 ·subst hk
  cases m
  ·have hlt:=hl1 s rfl
   rw [if_pos (by rfl)]
   clear hl1
   have hset:=Lib.hid (fun w1 (hb:Below w.heap.size w w1)=>set_below (i:=1) (v := .int .i64 ((a:Int) + 1)) hb htb)
   go_enter Tryz.func181,Tryz.ntmps181
   go_wp2_with fail
   refine (N.out _ (by (first | exact gwT | exact lzT))).mono ?_
   intro e w1 hr
   obtain ⟨rfl,hb⟩:=hr
   replace hb:Below w.heap.size w w1:=hb
   have d1:=(hb.cell (p:=⟨rb,1,none⟩) htb).trans c1
   have g1:w1.frozen? ⟨rb,1,none⟩ = false:=(hb.frozen (p:=⟨rb,1,none⟩) htb).trans f1
   have i2:InW rb w1:=⟨Nat.lt_of_lt_of_le htb hb.size⟩
   have hf:=hset.out w1 hb
   have hz:=hb.size
   have hz2:w.heap.size ≤ (w1.setCell ⟨rb,1,none⟩ (.int .i64 ((a:Int) + 1))).heap.size:=by rw [size_set];exact hz
   clear c0 c1 f1 i1 hb hset N
   go_wp2_with (first | ((with_reducible refine ((M.out _).out).mono ?_);rintro e w1 ⟨rfl,rfl⟩))
   go_returns
   exact ⟨rfl,show Below w.heap.size (w.setCell ⟨rb,1,none⟩ (.int .i64 ((a:Int) + 1))) _ by (first | exact gwT | exact lzT)⟩
  ·rw [if_neg (by decide)]
   clear hl1
   go_enter Tryz.func181,Tryz.ntmps181
   go_wp2_with (first | ((with_reducible refine (N.out _ (by (first | exact gwT | exact lzT))).mono ?_);intro e w1 hr;obtain ⟨rfl,p,rfl⟩:=hr.out;clear hr) | ((with_reducible refine ((M.out _).out).mono ?_);rintro e w1 ⟨rfl,rfl⟩))
   go_returns
   exact ⟨rfl,show Below w.heap.size w _ by (first | exact gwT | exact lzT)⟩
 ·have e1:(k == 1) = false:=beq_eq_false_iff_ne.2 hk
  have e2:(k != 1) = true:=bne_iff_ne.2 hk
  rw [e1,Bool.false_and,if_neg (by decide)]
  clear hl1 M
  go_enter Tryz.func181,Tryz.ntmps181
  go_wp2_with (first | ((with_reducible refine (N.out _ (by (first | exact gwT | exact lzT))).mono ?_);intro e w1 hr;obtain ⟨rfl,p,rfl⟩:=hr.out;clear hr))
  go_returns
  exact ⟨rfl,show Below w.heap.size w _ by (first | exact gwT | exact lzT)⟩
end
end Go.Proofs.YtfgpmcepppcmiaaGreatDoor
namespace Go.Proofs.YtfgpmcepppcmiaaGreatDoor
open Go.RowKit
section
variable {w0:World} {rb nb:Nat} {ao:Option Addr} {cap:Nat} {ts:List Tk} {a:Nat}
theorem ltakes_mov (x:ByteArray) (hB:BaseL w0 ao ts) (w:World) (h:RdrAt w0 rb ao cap ts a w) {b:Bool} (hb:tkAt ts a x.data.toList = b) :
  Calls Tryz.prog 142 #[.pointer (some ⟨rb,0,none⟩),.string x] w fun e w'=>e = .returned (.bool b) ∧ RMov w0 rb ao cap ts (if b then a + 1 else a) w w':=by
 have T:=ltakes_any x hB w h
 rw [hb] at T
 refine T.mono fun e w' hr=>?_
 obtain ⟨h1,h2⟩:=hr
 cases b
 ·exact ⟨h1,rmov_keep h h2⟩
 ·exact ⟨h1,rmov_move h (tkAt_lt hb) h2⟩
theorem lname_mov (hB:BaseL w0 ao ts) (w:World) (h:RdrAt w0 rb ao cap ts a w) {o:Option (List UInt8)} (ho:nameAt ts a = o) :
  Calls Tryz.prog 181 #[.pointer (some ⟨rb,0,none⟩)] w fun e w'=>e = .returned (.tuple #[str (o.getD []),.bool o.isSome]) ∧ RMov w0 rb ao cap ts (if o.isSome then a + 1 else a) w w':=by
 have T:=lname_any hB w h
 rw [ho] at T
 refine T.mono fun e w' hr=>?_
 cases o with
 | none =>
  obtain ⟨h1,h2⟩:=hr
  exact ⟨h1,rmov_keep h h2⟩
 | some s =>
  obtain ⟨h1,h2⟩:=hr
  exact ⟨h1,rmov_move h (nameAt_lt ho) h2⟩
theorem valueL_below {k n p:Int} {s:List UInt8} (h:tkAt ts a [45] = true) (hT:TokIsL ts (a + 1) k n p s):valueL ts a = if k == 3 then some (1,-n,[],a + 2) else none:=by
 unfold valueL
 rw [if_pos h]
 rcases hT.tok with ⟨q,e⟩ | ⟨e,rfl,rfl⟩
 ·rw [e]
 ·rw [e];rfl
theorem valueL_plain {k n p:Int} {s:List UInt8} (h:tkAt ts a [45] = false) (hT:TokIsL ts a k n p s):valueL ts a = if k == 3 then some (1,n,[],a + 1) else if k == 4 then some (3,0,s,a + 1) else if (k == 1 || k == 5) && s == [116,114,117,101] then some (2,1,[],a + 1) else if (k == 1 || k == 5) && s == [102,97,108,115,101] then some (2,0,[],a + 1) else none:=by
 unfold valueL
 rw [if_neg (by rw [h];decide)]
 rcases hT.tok with ⟨q,e⟩ | ⟨e,rfl,rfl⟩
 ·rw [e];rfl
 ·rw [e];rfl
abbrev valB:Obj := .cells #[.int .i64 0,.int .i64 0,.string ⟨#[]⟩] 66 (0,0)
theorem three {w:World} {b:Nat} {t:TypeId} {v0 v1 v2:Value} (h:w.heap[b]? = some (.cells #[v0,v1,v2] t (0,0))) :
  w.cell? ⟨b,0,none⟩ = some v0 ∧ w.cell? ⟨b,1,none⟩ = some v1 ∧ w.cell? ⟨b,2,none⟩ = some v2 ∧ b < w.heap.size ∧ ∀ i,w.frozen? ⟨b,i,none⟩ = false:=by
 refine ⟨?_,?_,?_,lt_of_block h,fun i=>frozen_of_row w b i _ _ h⟩
 all_goals
  rw [cell_of_row w b _ _ _ _ h]
  rfl
theorem rmov_far {c i:Nat} {v:Value} {b:Nat} {w wx:World} (h:RMov w0 rb ao cap ts b w wx) (hc:w.heap.size ≤ c) (hB:w0.heap.size ≤ w.heap.size) (hne:rb ≠ c):RMov w0 rb ao cap ts b w (wx.setCell ⟨c,i,none⟩ v) :=
 ⟨rdr_far h.1 (Nat.le_trans hB hc) hne,kept_far h.2 hc hB⟩
theorem rmov_G {b:Nat} {w W:World} {p:Regrown} (h:RMov w0 rb ao cap ts b w W):RMov w0 rb ao cap ts b w (G p W):=rmov_on h (belowG0 p W)
theorem rmov_alloc {b:Nat} {w W:World} {o:Obj} (h:RMov w0 rb ao cap ts b w W):RMov w0 rb ao cap ts b w (W.alloc o):=rmov_on h ((Below.refl _ W).alloc (Nat.le_refl _) o)
theorem rmov_drew {b:Nat} {w W:World} (h:RMov w0 rb ao cap ts b w W):RMov w0 rb ao cap ts b w W.drew:=rmov_on h ((Below.refl _ W).drew)
theorem rmov_drewN {b k:Nat} {w W:World} (h:RMov w0 rb ao cap ts b w W):RMov w0 rb ao cap ts b w (W.drewN k):=rmov_on h (belowN (Below.refl _ W) k)
theorem rmov_set {b c:Nat} {v:Value} {w W:World} (h:RMov w0 rb ao cap ts b w W) (hc:c ≤ ts.length) (hv:v = .int .i64 (c:Int)):RMov w0 rb ao cap ts c w (W.setCell ⟨rb,1,none⟩ v):=by
 rw [hv]
 exact rmov_trans h (rmov_move h.1 hc (Below.refl _ _))
def VlIs (w0:World) (rb:Nat) (ao:Option Addr) (cap:Nat) (ts:List Tk) (o:Option (Int × Int × List UInt8 × Nat)) (w:World) (e:Ending) (w':World):Prop :=
 match o with
 | none=>e = .returned (.tuple #[.agg #[.int .i64 0,.int .i64 0,.string ⟨#[]⟩],.bool false]) ∧ ∃ b,RMov w0 rb ao cap ts b w w'
 | some (k,n,s,b)=>e = .returned (.tuple #[.agg #[.int .i64 k,.int .i64 n,str s],.bool true]) ∧ RMov w0 rb ao cap ts b w w'
set_option maxRecDepth 100000 in
set_option maxHeartbeats 4000000 in
theorem lvalue_below (hB:BaseL w0 ao ts) (w:World) (h:RdrAt w0 rb ao cap ts a w) (hbl:tkAt ts a [45] = true) :
  Calls Tryz.prog 182 #[.pointer (some ⟨rb,0,none⟩)] w (VlIs w0 rb ao cap ts (valueL ts a) w):=by
 have T:=Lib.hid (fun wx (k:RdrAt w0 rb ao cap ts a wx)=>ltakes_mov ⟨#[45]⟩ hB wx k hbl)
 have hR:=Lib.hid h
 have htb:=(rdr_cells h).2.2.1
 have hne:w.heap.size ≠ rb:=by omega
 have hsz0:=h.env.size
 have hfew:=hB.few
 obtain ⟨k,n,p,s,hT⟩:=tok_parts ts (a + 1) hB.short hB.ok
 have N:=Lib.hid (fun wx (k:RdrAt w0 rb ao cap ts (a + 1) wx)=>lnext_any hB wx k)
 rw [hT.val] at N
 rw [valueL_below hbl hT]
 by_cases h3:k = 3
 ·have hnum:=hT.num h3
  have hlt:a + 1 < ts.length:=by
   rcases hT.tok with ⟨q,e⟩ | ⟨e,h0,_⟩
   ·exact (List.getElem?_eq_some_iff.1 e).1
   ·omega
  subst h3
  rw [if_pos (by rfl)]
  have O:=fun wx=>Lib.hid (of_any (-n) wx)
  replace O:=Lib.hid O
  obtain ⟨n0,n1,n2⟩:=hnum
  clear hT h hB hbl
  go_enter Tryz.func182,Tryz.ntmps182
  go_wp2_with fail
  refine (T.out _ (rdr_keep hR.out (by (first | exact gwT | exact lzT)))).mono ?_
  intro e w1 hr
  obtain ⟨rfl,hM⟩:=hr
  replace hM:RMov w0 rb ao cap ts (a + 1) (w.alloc valB) w1:=hM
  obtain ⟨r0,r1,r2,hrb,hrf⟩:=three (keptA_blk hM.2 (heap_alloc_new w valB) hne hne)
  have q0:=hrf 0
  have q1:=hrf 1
  have q2:=hrf 2
  have i2:=InW.mk hrb
  have e0:=hasC_of r0
  have e1:=hasC_of r1
  have e2:=hasC_of r2
  replace hM:=rmov_trans (rmov_keep hR.out (by (first | exact gwT | exact lzT))) hM
  clear hrf
  have N1:=Lib.hid (fun wx (hb:Below w1.heap.size w1 wx)=>N.out wx (rdr_keep hM.1 hb))
  obtain ⟨c0,c1,htb1,f1⟩:=rdr_cells hM.1
  have i1:InW rb w1:=⟨htb1⟩
  have hMh:=Lib.hid hM
  clear hM T N hR
  go_wp2_with (first | ((with_reducible refine (N1.out _ (by (first | exact gwT | exact lzT))).mono ?_);intro e w1 hr;obtain ⟨rfl,p,rfl⟩:=hr.out;clear hr) | ((with_reducible refine ((O.out _).out).mono ?_);intro e w1 hr;obtain ⟨rfl,p,rfl⟩:=hr.out;clear hr))
  go_returns
  have hM:=hMh.out
  exact ⟨rfl,by repeat' (first | (with_reducible assumption) | (with_reducible refine rmov_G ?_) | (with_reducible refine rmov_alloc ?_) | (with_reducible refine rmov_drew ?_) | (with_reducible refine rmov_drewN ?_) | (with_reducible refine rmov_far ?_ (by first | assumption | omega) (by first | assumption | omega) (by first | assumption | omega)) | (exact rmov_set (by with_reducible assumption) (by omega) (by first | rfl | (congr 1;omega))))⟩
 ·have h3b:(k == 3) = false:=beq_eq_false_iff_ne.2 h3
  rw [h3b,if_neg (by decide)]
  clear hT h hB hbl
  go_enter Tryz.func182,Tryz.ntmps182
  go_wp2_with fail
  refine (T.out _ (rdr_keep hR.out (by (first | exact gwT | exact lzT)))).mono ?_
  intro e w1 hr
  obtain ⟨rfl,hM⟩:=hr
  replace hM:RMov w0 rb ao cap ts (a + 1) (w.alloc valB) w1:=hM
  obtain ⟨r0,r1,r2,hrb,hrf⟩:=three (keptA_blk hM.2 (heap_alloc_new w valB) hne hne)
  have q0:=hrf 0
  have q1:=hrf 1
  have q2:=hrf 2
  have i2:=InW.mk hrb
  have e0:=hasC_of r0
  have e1:=hasC_of r1
  have e2:=hasC_of r2
  replace hM:=rmov_trans (rmov_keep hR.out (by (first | exact gwT | exact lzT))) hM
  clear hrf
  have N1:=Lib.hid (fun wx (hb:Below w1.heap.size w1 wx)=>N.out wx (rdr_keep hM.1 hb))
  have hMh:=Lib.hid hM
  clear hM T N hR
  go_wp2_with (first | ((with_reducible refine (N1.out _ (by (first | exact gwT | exact lzT))).mono ?_);intro e w1 hr;obtain ⟨rfl,p,rfl⟩:=hr.out;clear hr))
  go_returns
  have hM:=hMh.out
  exact ⟨rfl,a + 1,by repeat' (first | (with_reducible assumption) | (with_reducible refine rmov_G ?_) | (with_reducible refine rmov_alloc ?_) | (with_reducible refine rmov_drew ?_) | (with_reducible refine rmov_drewN ?_) | (with_reducible refine rmov_far ?_ (by first | assumption | omega) (by first | assumption | omega) (by first | assumption | omega)) | (exact rmov_set (by with_reducible assumption) (by omega) (by first | rfl | (congr 1;omega))))⟩
set_option maxRecDepth 100000 in
set_option maxHeartbeats 4000000 in
theorem lvalue_plain (hB:BaseL w0 ao ts) (w:World) (h:RdrAt w0 rb ao cap ts a w) (hbl:tkAt ts a [45] = false) :
  Calls Tryz.prog 182 #[.pointer (some ⟨rb,0,none⟩)] w (VlIs w0 rb ao cap ts (valueL ts a) w):=by
 have T:=Lib.hid (fun wx (k:RdrAt w0 rb ao cap ts a wx)=>ltakes_mov ⟨#[45]⟩ hB wx k hbl)
 have hR:=Lib.hid h
 have htb:=(rdr_cells h).2.2.1
 have hne:w.heap.size ≠ rb:=by omega
 have hsz0:=h.env.size
 have hfew:=hB.few
 obtain ⟨k,n,p,s,hT⟩:=tok_parts ts a hB.short hB.ok
 have N:=Lib.hid (fun wx (k:RdrAt w0 rb ao cap ts a wx)=>lnext_any hB wx k)
 rw [hT.val] at N
 rw [valueL_plain hbl hT]
 have hlt:k ≠ 0 → a < ts.length:=fun h0=>by
  rcases hT.tok with ⟨q,e⟩ | ⟨e,h1,_⟩
  ·exact (List.getElem?_eq_some_iff.1 e).1
  ·exact absurd h1 h0
 by_cases h3:k = 3
 ·have hlt1:=hlt (by omega)
  subst h3
  rw [if_pos (by rfl)]
  have O:=fun wx=>Lib.hid (of_any n wx)
  replace O:=Lib.hid O
  clear hT h hB hbl hlt
  go_enter Tryz.func182,Tryz.ntmps182
  go_wp2_with fail
  refine (T.out _ (rdr_keep hR.out (by (first | exact gwT | exact lzT)))).mono ?_
  intro e w1 hr
  obtain ⟨rfl,hM⟩:=hr
  replace hM:RMov w0 rb ao cap ts a (w.alloc valB) w1:=hM
  obtain ⟨r0,r1,r2,hrb,hrf⟩:=three (keptA_blk hM.2 (heap_alloc_new w valB) hne hne)
  have q0:=hrf 0
  have q1:=hrf 1
  have q2:=hrf 2
  have i2:=InW.mk hrb
  have e0:=hasC_of r0
  have e1:=hasC_of r1
  have e2:=hasC_of r2
  replace hM:=rmov_trans (rmov_keep hR.out (by (first | exact gwT | exact lzT))) hM
  clear hrf
  have N1:=Lib.hid (fun wx (hb:Below w1.heap.size w1 wx)=>N.out wx (rdr_keep hM.1 hb))
  obtain ⟨c0,c1,htb1,f1⟩:=rdr_cells hM.1
  have i1:InW rb w1:=⟨htb1⟩
  have hMh:=Lib.hid hM
  clear hM T N hR
  go_wp2_with (first | ((with_reducible refine (N1.out _ (by (first | exact gwT | exact lzT))).mono ?_);intro e w1 hr;obtain ⟨rfl,p,rfl⟩:=hr.out;clear hr) | ((with_reducible refine ((O.out _).out).mono ?_);intro e w1 hr;obtain ⟨rfl,p,rfl⟩:=hr.out;clear hr))
  go_returns
  have hM:=hMh.out
  exact ⟨rfl,by repeat' (first | (with_reducible assumption) | (with_reducible refine rmov_G ?_) | (with_reducible refine rmov_alloc ?_) | (with_reducible refine rmov_drew ?_) | (with_reducible refine rmov_drewN ?_) | (with_reducible refine rmov_far ?_ (by first | assumption | omega) (by first | assumption | omega) (by first | assumption | omega)) | (exact rmov_set (by with_reducible assumption) (by omega) (by first | rfl | (congr 1;omega))))⟩
 ·have h3b:(k == 3) = false:=beq_eq_false_iff_ne.2 h3
  rw [h3b,if_neg (by decide)]
  by_cases h4:k = 4
  ·have hlt1:=hlt (by omega)
   subst h4
   rw [if_pos (by rfl)]
   have O:=fun wx=>Lib.hid (word_any ⟨s.toArray⟩ wx)
   replace O:=Lib.hid O
   clear hT h hB hbl hlt h3b h3
   go_enter Tryz.func182,Tryz.ntmps182
   go_wp2_with fail
   refine (T.out _ (rdr_keep hR.out (by (first | exact gwT | exact lzT)))).mono ?_
   intro e w1 hr
   obtain ⟨rfl,hM⟩:=hr
   replace hM:RMov w0 rb ao cap ts a (w.alloc valB) w1:=hM
   obtain ⟨r0,r1,r2,hrb,hrf⟩:=three (keptA_blk hM.2 (heap_alloc_new w valB) hne hne)
   have q0:=hrf 0
   have q1:=hrf 1
   have q2:=hrf 2
   have i2:=InW.mk hrb
   have e0:=hasC_of r0
   have e1:=hasC_of r1
   have e2:=hasC_of r2
   replace hM:=rmov_trans (rmov_keep hR.out (by (first | exact gwT | exact lzT))) hM
   clear hrf
   have N1:=Lib.hid (fun wx (hb:Below w1.heap.size w1 wx)=>N.out wx (rdr_keep hM.1 hb))
   obtain ⟨c0,c1,htb1,f1⟩:=rdr_cells hM.1
   have i1:InW rb w1:=⟨htb1⟩
   have hMh:=Lib.hid hM
   clear hM T N hR
   go_wp2_with (first | ((with_reducible refine (N1.out _ (by (first | exact gwT | exact lzT))).mono ?_);intro e w1 hr;obtain ⟨rfl,p,rfl⟩:=hr.out;clear hr) | ((with_reducible refine ((O.out _).out).mono ?_);intro e w1 hr;obtain ⟨rfl,p,rfl⟩:=hr.out;clear hr))
   go_returns
   have hM:=hMh.out
   exact ⟨rfl,by repeat' (first | (with_reducible assumption) | (with_reducible refine rmov_G ?_) | (with_reducible refine rmov_alloc ?_) | (with_reducible refine rmov_drew ?_) | (with_reducible refine rmov_drewN ?_) | (with_reducible refine rmov_far ?_ (by first | assumption | omega) (by first | assumption | omega) (by first | assumption | omega)) | (exact rmov_set (by with_reducible assumption) (by omega) (by first | rfl | (congr 1;omega))))⟩
  ·have h4b:(k == 4) = false:=beq_eq_false_iff_ne.2 h4
   rw [h4b,if_neg (by decide)]
   obtain ⟨kb,hkb⟩:∃ b,(k == 1 || k == 5) = b:=⟨_,rfl⟩
   obtain ⟨st,hst⟩:∃ b,(s == [116,114,117,101]) = b:=⟨_,rfl⟩
   obtain ⟨sf,hsf⟩:∃ b,(s == [102,97,108,115,101]) = b:=⟨_,rfl⟩
   have I2:=fun g wx hc hd=>Lib.hid (is2_any k ⟨s.toArray⟩ n p ⟨#[116,114,117,101]⟩ ⟨#[102,97,108,115,101]⟩ (kb && (st || sf)) (by rw [← hkb,← hst,← hsf]) g wx hc hd)
   have I1:=fun g wx hc=>Lib.hid (is1_any k ⟨s.toArray⟩ n p ⟨#[116,114,117,101]⟩ (kb && st) (by rw [← hkb,← hst]) g wx hc)
   replace I2:=Lib.hid I2
   replace I1:=Lib.hid I1
   have hlt1:kb = true → a < ts.length:=fun h=>hlt (by rintro rfl;rw [← hkb] at h;cases h)
   rw [hkb,hst,hsf]
   have O:=fun b wx=>Lib.hid (truth_any b wx)
   replace O:=Lib.hid O
   clear hT h hB hbl hlt h3 h4 hkb hst hsf
   generalize (⟨s.toArray⟩:ByteArray) = tx at *
   cases kb
   ·rw [Bool.false_and,Bool.false_and,if_neg (by decide),if_neg (by decide)]
    rw [Bool.false_and] at I2
    clear hlt1 I1
    go_enter Tryz.func182,Tryz.ntmps182
    go_wp2_with fail
    refine (T.out _ (rdr_keep hR.out (by (first | exact gwT | exact lzT)))).mono ?_
    intro e w1 hr
    obtain ⟨rfl,hM⟩:=hr
    replace hM:RMov w0 rb ao cap ts a (w.alloc valB) w1:=hM
    obtain ⟨r0,r1,r2,hrb,hrf⟩:=three (keptA_blk hM.2 (heap_alloc_new w valB) hne hne)
    have q0:=hrf 0
    have q1:=hrf 1
    have q2:=hrf 2
    have i2:=InW.mk hrb
    have e0:=hasC_of r0
    have e1:=hasC_of r1
    have e2:=hasC_of r2
    replace hM:=rmov_trans (rmov_keep hR.out (by (first | exact gwT | exact lzT))) hM
    clear hrf
    have N1:=Lib.hid (fun wx (hb:Below w1.heap.size w1 wx)=>N.out wx (rdr_keep hM.1 hb))
    have hMh:=Lib.hid hM
    clear hM T N hR
    go_wp2_with (first | ((with_reducible refine (N1.out _ (by (first | exact gwT | exact lzT))).mono ?_);intro e w1 hr;obtain ⟨rfl,p,rfl⟩:=hr.out;clear hr) | ((with_reducible refine ((I2.out _ _ (by simp [go_sem]) (by simp [go_sem])).out).mono ?_);intro e w1 hr;obtain ⟨rfl,p,rfl⟩:=hr.out;clear hr))
    go_returns
    have hM:=hMh.out
    exact ⟨rfl,a,by repeat' (first | (with_reducible assumption) | (with_reducible refine rmov_G ?_) | (with_reducible refine rmov_alloc ?_) | (with_reducible refine rmov_drew ?_) | (with_reducible refine rmov_drewN ?_) | (with_reducible refine rmov_far ?_ (by first | assumption | omega) (by first | assumption | omega) (by first | assumption | omega)) | (exact rmov_set (by with_reducible assumption) (by omega) (by first | rfl | (congr 1;omega))))⟩
   ·have hlt2:=hlt1 rfl
    clear hlt1
    rw [Bool.true_and,Bool.true_and]
    cases st
    ·cases sf
     ·go_enter Tryz.func182,Tryz.ntmps182
      go_wp2_with fail
      refine (T.out _ (rdr_keep hR.out (by (first | exact gwT | exact lzT)))).mono ?_
      intro e w1 hr
      obtain ⟨rfl,hM⟩:=hr
      replace hM:RMov w0 rb ao cap ts a (w.alloc valB) w1:=hM
      obtain ⟨r0,r1,r2,hrb,hrf⟩:=three (keptA_blk hM.2 (heap_alloc_new w valB) hne hne)
      have q0:=hrf 0
      have q1:=hrf 1
      have q2:=hrf 2
      have i2:=InW.mk hrb
      have e0:=hasC_of r0
      have e1:=hasC_of r1
      have e2:=hasC_of r2
      replace hM:=rmov_trans (rmov_keep hR.out (by (first | exact gwT | exact lzT))) hM
      clear hrf
      have N1:=Lib.hid (fun wx (hb:Below w1.heap.size w1 wx)=>N.out wx (rdr_keep hM.1 hb))
      have hMh:=Lib.hid hM
      clear hM T N hR
      go_wp2_with (first | ((with_reducible refine (N1.out _ (by (first | exact gwT | exact lzT))).mono ?_);intro e w1 hr;obtain ⟨rfl,p,rfl⟩:=hr.out;clear hr) | ((with_reducible refine ((I2.out _ _ (by simp [go_sem]) (by simp [go_sem])).out).mono ?_);intro e w1 hr;obtain ⟨rfl,p,rfl⟩:=hr.out;clear hr))
      go_returns
      have hM:=hMh.out
      exact ⟨rfl,a,by repeat' (first | (with_reducible assumption) | (with_reducible refine rmov_G ?_) | (with_reducible refine rmov_alloc ?_) | (with_reducible refine rmov_drew ?_) | (with_reducible refine rmov_drewN ?_) | (with_reducible refine rmov_far ?_ (by first | assumption | omega) (by first | assumption | omega) (by first | assumption | omega)) | (exact rmov_set (by with_reducible assumption) (by omega) (by first | rfl | (congr 1;omega))))⟩
     ·go_enter Tryz.func182,Tryz.ntmps182
      go_wp2_with fail
      refine (T.out _ (rdr_keep hR.out (by (first | exact gwT | exact lzT)))).mono ?_
      intro e w1 hr
      obtain ⟨rfl,hM⟩:=hr
      replace hM:RMov w0 rb ao cap ts a (w.alloc valB) w1:=hM
      obtain ⟨r0,r1,r2,hrb,hrf⟩:=three (keptA_blk hM.2 (heap_alloc_new w valB) hne hne)
      have q0:=hrf 0
      have q1:=hrf 1
      have q2:=hrf 2
      have i2:=InW.mk hrb
      have e0:=hasC_of r0
      have e1:=hasC_of r1
      have e2:=hasC_of r2
      replace hM:=rmov_trans (rmov_keep hR.out (by (first | exact gwT | exact lzT))) hM
      clear hrf
      have N1:=Lib.hid (fun wx (hb:Below w1.heap.size w1 wx)=>N.out wx (rdr_keep hM.1 hb))
      obtain ⟨c0,c1,htb1,f1⟩:=rdr_cells hM.1
      have i1:InW rb w1:=⟨htb1⟩
      have hMh:=Lib.hid hM
      clear hM T N hR
      go_wp2_with (first | ((with_reducible refine (N1.out _ (by (first | exact gwT | exact lzT))).mono ?_);intro e w1 hr;obtain ⟨rfl,p,rfl⟩:=hr.out;clear hr) | ((with_reducible refine ((I2.out _ _ (by simp [go_sem]) (by simp [go_sem])).out).mono ?_);intro e w1 hr;obtain ⟨rfl,p,rfl⟩:=hr.out;clear hr) | ((with_reducible refine ((I1.out _ _ (by simp [go_sem])).out).mono ?_);intro e w1 hr;obtain ⟨rfl,p,rfl⟩:=hr.out;clear hr) | ((with_reducible refine ((O.out _ _).out).mono ?_);intro e w1 hr;obtain ⟨rfl,p,rfl⟩:=hr.out;clear hr))
      go_returns
      have hM:=hMh.out
      exact ⟨rfl,by repeat' (first | (with_reducible assumption) | (with_reducible refine rmov_G ?_) | (with_reducible refine rmov_alloc ?_) | (with_reducible refine rmov_drew ?_) | (with_reducible refine rmov_drewN ?_) | (with_reducible refine rmov_far ?_ (by first | assumption | omega) (by first | assumption | omega) (by first | assumption | omega)) | (exact rmov_set (by with_reducible assumption) (by omega) (by first | rfl | (congr 1;omega))))⟩
    ·have e4:(true && (true || sf)) = true:=rfl
     rw [e4] at I2
     go_enter Tryz.func182,Tryz.ntmps182
     go_wp2_with fail
     refine (T.out _ (rdr_keep hR.out (by (first | exact gwT | exact lzT)))).mono ?_
     intro e w1 hr
     obtain ⟨rfl,hM⟩:=hr
     replace hM:RMov w0 rb ao cap ts a (w.alloc valB) w1:=hM
     obtain ⟨r0,r1,r2,hrb,hrf⟩:=three (keptA_blk hM.2 (heap_alloc_new w valB) hne hne)
     have q0:=hrf 0
     have q1:=hrf 1
     have q2:=hrf 2
     have i2:=InW.mk hrb
     have e0:=hasC_of r0
     have e1:=hasC_of r1
     have e2:=hasC_of r2
     replace hM:=rmov_trans (rmov_keep hR.out (by (first | exact gwT | exact lzT))) hM
     clear hrf
     have N1:=Lib.hid (fun wx (hb:Below w1.heap.size w1 wx)=>N.out wx (rdr_keep hM.1 hb))
     obtain ⟨c0,c1,htb1,f1⟩:=rdr_cells hM.1
     have i1:InW rb w1:=⟨htb1⟩
     have hMh:=Lib.hid hM
     clear hM T N hR
     go_wp2_with (first | ((with_reducible refine (N1.out _ (by (first | exact gwT | exact lzT))).mono ?_);intro e w1 hr;obtain ⟨rfl,p,rfl⟩:=hr.out;clear hr) | ((with_reducible refine ((I2.out _ _ (by simp [go_sem]) (by simp [go_sem])).out).mono ?_);intro e w1 hr;obtain ⟨rfl,p,rfl⟩:=hr.out;clear hr) | ((with_reducible refine ((I1.out _ _ (by simp [go_sem])).out).mono ?_);intro e w1 hr;obtain ⟨rfl,p,rfl⟩:=hr.out;clear hr) | ((with_reducible refine ((O.out _ _).out).mono ?_);intro e w1 hr;obtain ⟨rfl,p,rfl⟩:=hr.out;clear hr))
     go_returns
     have hM:=hMh.out
     exact ⟨rfl,by repeat' (first | (with_reducible assumption) | (with_reducible refine rmov_G ?_) | (with_reducible refine rmov_alloc ?_) | (with_reducible refine rmov_drew ?_) | (with_reducible refine rmov_drewN ?_) | (with_reducible refine rmov_far ?_ (by first | assumption | omega) (by first | assumption | omega) (by first | assumption | omega)) | (exact rmov_set (by with_reducible assumption) (by omega) (by first | rfl | (congr 1;omega))))⟩
theorem lvalue_any (hB:BaseL w0 ao ts) (w:World) (h:RdrAt w0 rb ao cap ts a w) :
  Calls Tryz.prog 182 #[.pointer (some ⟨rb,0,none⟩)] w (VlIs w0 rb ao cap ts (valueL ts a) w):=by
 cases hbl:tkAt ts a [45]
 ·exact lvalue_plain hB w h hbl
 ·exact lvalue_below hB w h hbl
end
end Go.Proofs.YtfgpmcepppcmiaaGreatDoor
