/- Several texts of this proof, joined: MU, MV, VA, VB, VC. -/
import Derived.Test.YtacnlghljmgdiaaGreatDoorQ7
import Derived.WalkKit
import Derived.ProofKit
import Derived.OpenShut
import Derived.Handy
import Derived.BigQuiet
import Derived.OwnWalk
import Derived.Lib.Hide
import Derived.WalkSmall
import Derived.WalkLawsBesides
import Derived.Test.YtacnlghljmgdiaaGreatDoorQ8
import Derived.Test.YtacnlghljmgdiaaGreatDoorQ1
import Derived.Deep.AppendLies
import Derived.Deep.RegionHeld3
import Derived.Test.YtacnlghljmgdiaaGreatDoorY7
import Derived.Test.YtacnlghljmgdiaaGreatDoorY9
import Derived.Laws.OwnMore
namespace Go.Proofs.YtacnlghljmgdiaaGreatDoor
open Go.RowKit
section
variable {B:Nat} {c:Ch} {rv:Nat → Value} {vv:Value}
theorem j9d {τ:CT} (so:Option Addr) (sc:Nat) (i outer:Int) (hn:c.states.length ≤ 1000) (hp:Par c.states) (w:World) (h:ChV τ B w c rv vv (.slice so c.states.length sc)) :
  Calls Tryz.prog 123 #[.agg #[str c.name,vv,.slice so c.states.length sc],.int .i64 i,.int .i64 outer] w (Ret (.bool (q4b c.states i outer)) w):=by
 unfold q4b
 by_cases hi:i < 0 ∨ (c.states.length:Int) ≤ i
 ·rw [if_pos hi]
  exact j9e so sc i outer hi w
 ·rw [if_neg hi]
  obtain ⟨a,rfl⟩:∃ a:Nat,i = (a:Int):=⟨i.toNat,by omega⟩
  exact q0s so sc a outer hn hp omT w h
end
theorem y1u {τ:CT} {B B':Nat} {w:World} {c:Ch} {rv:Nat → Value} {vv sv:Value} (h:ChV τ B w c rv vv sv) (hB:B' ≤ B):ChV τ B' w c rv vv sv :=
 ⟨z0m h.vars hB,z0m h.sts hB,fun i=>z1c (z9q hB) (h.ent i) fun _ _ k=>z0m k hB,fun i=>z1c (z9q hB) (h.exi i) fun _ _ k=>z0m k hB,fun i=>z4x (z9q hB) (h.trs i) fun _ _ k=>z0m k hB⟩
theorem v9j {c:Ch} {o:Int} (h:GoodC c o):Par c.states:=⟨h.root,h.par⟩
theorem k1d {c:Ch} {o:Int} (h:GoodC c o):∀ i,i < c.states.length → (c.states.getD i st0).enter.length ≤ 8 ∧ (c.states.getD i st0).exit.length ≤ 8 ∧ (c.states.getD i st0).trans.length ≤ 96:=fun i hi =>
 ⟨(h.lists i hi).1,(h.lists i hi).2,Nat.le_trans (j3r _ _) h.trans⟩
theorem v9e {w:World} {B:Nat} {ao:Option Addr} {n cap:Nat} {ks:List Nat} (h:w.ownsRow B 3 1 (.slice ao n cap) ks.length (z1h ks)) (i:Nat) (hi:i < ks.length):∃ g,ao = some ⟨g,0,none⟩ ∧ g < w.heap.size ∧ w.cell? ⟨g,i,none⟩ = some (.int .i64 (ks[i]:Int)):=by
 obtain ⟨g,cap',e,hg,_,_,hc⟩:=z1g h omT
 cases e
 exact ⟨g,rfl,hg,hc _ _ (by unfold z1h;rw [List.getElem?_map,List.getElem?_eq_getElem hi];rfl)⟩
structure ToldC (x:Except (Int × Nat) Ch) (c:Ch) (y n:Int):Prop where
 ok:∀ d,x = .ok d → c = d ∧ y = 0 ∧ n = 0
 er:∀ k m,x = .error (k,m) → c = ch0 ∧ y = k ∧ n = (m:Int)
theorem k6j (τ:CT) (B:Nat) (w:World):ChV τ B w ch0 (fun _ => .slice none 0 0) (.slice none 0 0) (.slice none 0 0) :=
 ⟨World.ownsRow_nil _ _ _ _,World.ownsRow_nil _ _ _ _,fun _=>z3v _ _ _,fun _=>z3v _ _ _,fun _=>q3y _ _ _⟩
def x1f (x:Except (Int × Nat) Ch) (w:World) (e:Ending) (w':World):Prop:=∃ c y n rv va vc sa sc,ToldC x c y n ∧ e = .returned (.tuple #[.agg #[str c.name,.slice va c.vars.length vc,.slice sa c.states.length sc],.int .i64 y,.int .i64 n]) ∧ ChV ct0 w.heap.size w' c rv (.slice va c.vars.length vc) (.slice sa c.states.length sc) ∧ Below w.heap.size w w'
theorem y4l (s:ByteArray) (hs:s.size ≤ 140737488351232) (w:World) (hw:Al w):Calls Tryz.prog 18 #[.string s] w (x1f (z3q s.data.toList) w):=by
 refine (j0v s hs w hw).mono fun e w' hr=>?_
 cases hx:z3q s.data.toList with
 | error y =>
  obtain ⟨y,n⟩:=y
  rw [hx] at hr
  obtain ⟨rfl,hy,hb⟩:=hr
  exact ⟨ch0,y,n,fun _ => .slice none 0 0,none,0,none,0,⟨fun d hd=>(by cases hd),fun k m hk=>(by cases hk;exact ⟨rfl,rfl,rfl⟩)⟩,rfl,k6j _ _ _,hb⟩
 | ok c =>
  rw [hx] at hr
  obtain ⟨rv,vv,sv,rfl,hV,hb⟩:=hr
  obtain ⟨va,vc,sa,sc,rfl,rfl⟩:=q6a hV
  exact ⟨c,0,0,rv,va,vc,sa,sc,⟨fun d hd=>(by cases hd;exact ⟨rfl,rfl,rfl⟩),fun k m hk=>(by cases hk)⟩,rfl,hV,hb⟩
structure SizeC (c:Ch):Prop where
 vars:c.vars.length ≤ 16
 sts:c.states.length ≤ 49
 lens:∀ i,i < c.states.length → (c.states.getD i st0).enter.length ≤ 8 ∧ (c.states.getD i st0).exit.length ≤ 8 ∧ (c.states.getD i st0).trans.length ≤ 96
 small:q1n c
theorem j7q {l:List UInt8} {c:Ch} {y n:Int} (h:ToldC (z3q l) c y n):SizeC c:=by
 cases hx:z3q l with
 | error z =>
  obtain ⟨k,m⟩:=z
  obtain ⟨rfl,_,_⟩:=h.er k m hx
  exact ⟨by decide,by decide,fun i hi=>absurd hi (Nat.not_lt_zero _),fun s hs=>by cases hs⟩
 | ok d =>
  obtain ⟨rfl,_,_⟩:=h.ok d hx
  have g:=z6g hx
  exact ⟨g.vars,g.few,k1d g,q8x hx⟩
theorem j1j {B:Nat} {c:Ch} {rv:Nat → Value} {vv sv:Value} (hc:SizeC c) (w:World) (hBw:B ≤ w.heap.size) (h:ChV ct0 B w c rv vv sv):Calls Tryz.prog 20 #[.agg #[str c.name,vv,sv]] w (k5m B c w) :=
 y5x c rv vv sv hc.vars hc.sts hc.lens hc.small w hBw h
end Go.Proofs.YtacnlghljmgdiaaGreatDoor
namespace Go.Proofs.YtacnlghljmgdiaaGreatDoor
def z3o (s:St):Bool:=s.kind == 6 || s.kind == 7
def scV (vs:List Vr):List (ByteArray × Int):=vs.map fun v=>(⟨v.name.toArray⟩,v.vk)
def scS (ss:List St):List ByteArray:=(ss.filter fun s => !z3o s).map fun s=>⟨s.name.toArray⟩
def kdE (vs:List (ByteArray × Int)) (ss:List ByteArray) (x:List Nd):Int × Int :=
 if z5t x then (match k1k (y0g vs ss) [] x with | .error (e,_)=>(0,e) | .ok ks=>(ks.getD (x.length - 1) 0,0)) else (0,11)
def unl (b:Bool) (e:Int):Int:=if b then 0 else e
def z6y (a b:Int):Int:=if a = 0 then b else a
def z3e {α:Type} (f:α → Int):List α → Int
 | []=>0
 | a :: r=>z6y (f a) (z3e f r)
def j1d (nm:List UInt8):List Vr → Nat → Option Nat
 | [],_=>none
 | v :: r,i=>if v.name = nm then some i else j1d nm r (i + 1)
structure Lk where
 c:Ch
 vs:List (ByteArray × Int)
 ss:List ByteArray
def kdL (l:Lk) (x:List Nd):Int × Int:=kdE l.vs l.ss x
def v6r (l:Lk) (x:List Nd):Int:=if x.length = 0 then 0 else isI (kdL l x).1 (kdL l x).2 2
def x0y (l:Lk) (k:Int):Option Nat → Int
 | none=>24
 | some i=>unl ((l.c.vars.getD i ⟨[],0,0,[]⟩).vk == k) 20
def v6a (l:Lk) (a:Ac):Int:=z6y (kdL l a.x).2 (x0y l (kdL l a.x).1 (j1d a.name l.c.vars 0))
def k5d (l:Lk) (a:Ac):Int:=z6y (v6r l a.cond) (if a.kind = 1 then v6a l a else if a.kind = 5 then (kdL l a.x).2 else 0)
def q4f (l:Lk) (b:List Ac):Int:=z3e (k5d l) b
def q5t (ss:List St) (a b:Int):Nat → Option Nat
 | 0=>none
 | n + 1=>if q4b ss a n && q4b ss b n then some n else q5t ss a b n
def q2u (ss:List St) (a b:Nat):Bool :=
 if a = b then false else if q4b ss a b then false else if q4b ss b a then false
 else match q5t ss a b ss.length with | none=>false | some i=>(ss.getD i st0).kind == 4
def y3t (ss:List St):List (List UInt8) → List Nat → Int
 | [],_=>0
 | nm :: r,ahead=>match z7b nm ss 0 with
  | none=>32
  | some at_=>if ahead.any fun o => !q2u ss at_ o then 32 else y3t ss r (ahead ++ [at_])
def y1j (l:Lk) (t:Tr):Int :=
 if t.event = [] ∧ t.cond.length = 0 ∧ t.goes.length = 0 then 11
 else z6y (v6r l t.cond) (z6y (y3t l.c.states t.goes []) (q4f l t.thn))
def stL (l:Lk) (i:Nat):St:=l.c.states.getD i st0
def fnd (l:Lk) (nm:List UInt8):Nat:=(z7b nm l.c.states 0).getD 0
def isF (l:Lk) (nm:List UInt8):Bool:=(z7b nm l.c.states 0).isSome
def y6d (l:Lk) (i:Nat):Int:=unl (i == 0 || fnd l (stL l i).name == i) 16
def v9f (l:Lk) (i:Nat):Bool :=
 if (stL l i).kind = 6 then q4b l.c.states (fnd l (stL l i).start) (stL l i).parent else (stL l (fnd l (stL l i).start)).parent == (stL l i).parent
def k8n (l:Lk) (i:Nat):Int:=unl (isF l (stL l i).start && v9f l i && !z3o (stL l (fnd l (stL l i).start))) 33
def y0i (s:St):Bool:=s.kind == 3 || s.kind == 4
def v1n (l:Lk) (i:Nat):Bool :=
 let ks:=z3c (i:Int) l.c.states 0
 let ok:=ks.any fun k => !z3o (stL l k)
 if (stL l i).kind = 5 then ks.length == 0 && (stL l i).trans.length == 0
 else if (stL l i).kind = 4 then ok && !(ks.any fun k => !y0i (stL l k))
 else if (stL l i).kind = 3 then ok || ks.length == 0
 else ok
def k7f (l:Lk) (i:Nat):Int:=unl (v1n l i) 34
def x3l (l:Lk) (i:Nat):Bool:=isF l (stL l i).start && (stL l (fnd l (stL l i).start)).parent == (i:Int) && !z3o (stL l (fnd l (stL l i).start))
def y3k (l:Lk) (i:Nat):Int:=unl ((stL l i).start == [] || x3l l i) 31
def k5r (l:Lk) (i:Nat):Int:=z3e (q4f l) ((stL l i).enter ++ (stL l i).exit)
def v0s (l:Lk) (i:Nat):Int:=z3e (y1j l) (stL l i).trans
def j2c (l:Lk) (i:Nat):Int :=
 if z3o (stL l i) then z6y (y6d l i) (k8n l i)
 else z6y (y6d l i) (z6y (k7f l i) (z6y (y3k l i) (z6y (k5r l i) (v0s l i))))
def k5g (l:Lk):Nat → List St → Int × List UInt8
 | _,[]=>(0,[])
 | i,s :: r=>if j2c l i = 0 then k5g l (i + 1) r else (j2c l i,s.name)
def z9f:List Vr → List Vr → Option (List UInt8)
 | _,[]=>none
 | a,v :: r=>if a.any fun u=>u.name == v.name then some v.name else z9f (a ++ [v]) r
def lkC (c:Ch):Lk:=⟨c,scV c.vars,scS (c.states.drop 1)⟩
def z4r (c:Ch):Int × List UInt8 :=
 if c.states.length = 0 then (50,[])
 else match z9f [] c.vars with
  | some nm=>(16,nm)
  | none=>k5g (lkC c) 0 c.states
def k5k (ns:List Nd):Prop:=ns.length ≤ 2000000 ∧ ∀ n ∈ ns,n.s.length ≤ 140737488351232 ∧ n.name.length ≤ 140737488351232
def v7b (b:List Ac):Prop:=b.length ≤ 1000 ∧ ∀ a ∈ b,k5k a.cond ∧ k5k a.x
structure FitT (t:Tr):Prop where
 cond:k5k t.cond
 goes:t.goes.length ≤ 1000
 thn:v7b t.thn
structure FitS (s:St):Prop where
 enter:∀ b ∈ s.enter,v7b b
 exit:∀ b ∈ s.exit,v7b b
 trans:∀ t ∈ s.trans,FitT t
end Go.Proofs.YtacnlghljmgdiaaGreatDoor
namespace Go.Proofs.YtacnlghljmgdiaaGreatDoor
open Go.RowKit
structure LkV (w:World) (lb:Nat) (l:Lk) (B:Nat) (rv:Nat → Value) (va sa oa pa:Option Addr) (vc sc oc pc:Nat):Prop where
 blk:w.heap[lb]? = some (.cells #[str l.c.name,.slice va l.c.vars.length vc,.slice sa l.c.states.length sc,.slice oa l.vs.length oc,.slice pa l.ss.length pc] 176 (0,0))
 ch:ChV ct0 B w l.c rv (.slice va l.c.vars.length vc) (.slice sa l.c.states.length sc)
 vs:q2p w oa l.vs
 ss:q2o w pa l.ss
 lb:Lb w
def q9y (w:World) (lb:Nat) (l:Lk):Prop:=∃ B rv va sa oa pa vc sc oc pc,LkV w lb l B rv va sa oa pa vc sc oc pc
structure LkP (l:Lk):Prop where
 some:0 < l.c.states.length
 few:l.c.states.length ≤ 49
 vars:l.c.vars.length ≤ 16
 vn:l.vs.length ≤ 1000000
 sn:l.ss.length ≤ 1000
 par:Par l.c.states
 fit:∀ i,i < l.c.states.length → FitS (l.c.states.getD i st0)
 lens:∀ i,i < l.c.states.length → (l.c.states.getD i st0).enter.length ≤ 8 ∧ (l.c.states.getD i st0).exit.length ≤ 8 ∧ (l.c.states.getD i st0).trans.length ≤ 96
theorem z5r {w w':World} {lb:Nat} {l:Lk} (h:q9y w lb l) (hb:Below w.heap.size w w'):q9y w' lb l:=by
 obtain ⟨B,rv,va,sa,oa,pa,vc,sc,oc,pc,h⟩:=h
 exact ⟨B,rv,va,sa,oa,pa,vc,sc,oc,pc,(hb.block lb (lt_of_block h.blk)).trans h.blk,z1u h.ch hb,z3m h.vs hb,z5i h.ss hb,z1v h.lb hb⟩
theorem z3r {w:World} {lb:Nat} {l:Lk} {B:Nat} {rv:Nat → Value} {va sa oa pa:Option Addr} {vc sc oc pc:Nat} (h:LkV w lb l B rv va sa oa pa vc sc oc pc):lb < w.heap.size ∧ w.cell? ⟨lb,0,none⟩ = some (str l.c.name) ∧ w.cell? ⟨lb,1,none⟩ = some (.slice va l.c.vars.length vc) ∧ w.cell? ⟨lb,2,none⟩ = some (.slice sa l.c.states.length sc) ∧ w.cell? ⟨lb,3,none⟩ = some (.slice oa l.vs.length oc) ∧ w.cell? ⟨lb,4,none⟩ = some (.slice pa l.ss.length pc) :=
 ⟨lt_of_block h.blk,(cell_of_row w lb 0 _ _ _ h.blk).trans rfl,(cell_of_row w lb 1 _ _ _ h.blk).trans rfl,(cell_of_row w lb 2 _ _ _ h.blk).trans rfl,(cell_of_row w lb 3 _ _ _ h.blk).trans rfl,(cell_of_row w lb 4 _ _ _ h.blk).trans rfl⟩
theorem z8n (b:Bool) (e:Int) (w:World):Calls Tryz.prog 149 #[.bool b,.int .i64 e] w (Ret (.int .i64 (unl b e)) w):=by
 unfold unl
 cases b
 all_goals
  go_enter Tryz.func149,Tryz.ntmps149
  go_wp2
  go_returns
  exact ⟨rfl,gzT⟩
theorem q0l (s:St) (e x t:Value) (w:World):Calls Tryz.prog 116 #[.agg #[str s.name,.int .i64 s.kind,.int .i64 s.parent,str s.start,e,x,t]] w (Ret (.bool (z3o s)) w):=by
 unfold z3o
 obtain ⟨nm,k,p,st,en,ex,tr⟩:=s
 simp only
 rcases h6:(k == 6) <;> rcases h7:(k == 7)
 all_goals
  go_enter Tryz.func116,Tryz.ntmps116
  go_wp2
  go_returns
  exact ⟨rfl,gzT⟩
theorem k4t (s:St) (e x t:Value) (w:World):Calls Tryz.prog 153 #[.agg #[str s.name,.int .i64 s.kind,.int .i64 s.parent,str s.start,e,x,t]] w (Ret (.bool (y0i s)) w):=by
 unfold y0i
 obtain ⟨nm,k,p,st,en,ex,tr⟩:=s
 simp only
 rcases h6:(k == 3) <;> rcases h7:(k == 4)
 all_goals
  go_enter Tryz.func153,Tryz.ntmps153
  go_wp2
  go_returns
  exact ⟨rfl,gzT⟩
theorem j9q (oa pa:Option Addr) (oc pc:Nat) (vs:List (ByteArray × Int)) (ss:List ByteArray) (ao:Option Addr) (cap:Nat) (ns:List Nd) (hf:k5k ns) (hvn:vs.length ≤ 1000000) (hsn:ss.length ≤ 1000) (w:World) (h:q1i w ao ns) (hv:q2p w oa vs) (hs:q2o w pa ss) (hw:Lb w) :
  Calls Tryz.prog 209 #[.slice ao ns.length cap,.agg #[.slice oa vs.length oc,.slice pa ss.length pc]] w (Ret (.tuple #[.int .i64 (kdE vs ss ns).1,.int .i64 (kdE vs ss ns).2]) w):=by
 have R:=fun wx (hb:Below w.heap.size w wx)=>y8j ao cap ns hf.1 hf.2 wx (z1t h hb) (z1v hw hb)
 unfold kdE
 cases hr:z5t ns with
 | false =>
  rw [hr] at R
  exact v8p oa oc pa pc ao cap ns w _ _ R
 | true =>
  rw [hr] at R
  rw [if_pos rfl]
  have:=v4s oa oc vs pa pc ss ao cap ns hr hvn hsn w h hv hs R
  cases hl:k1k (y0g vs ss) [] ns with
  | error y =>
   obtain ⟨e,j⟩:=y
   rw [hl] at this
   exact this
  | ok ks =>
   rw [hl] at this
   exact this
theorem j2n {l:Lk} {lb:Nat} (P:LkP l) (ao:Option Addr) (cap:Nat) (x:List Nd) (hf:k5k x) (w:World) (h:q1i w ao x) (H:q9y w lb l) :
  Calls Tryz.prog 185 #[.pointer (some ⟨lb,0,none⟩),.slice ao x.length cap] w (Ret (.int .i64 (v6r l x)) w):=by
 obtain ⟨B,rv,va,sa,oa,pa,vc,sc,oc,pc,H⟩:=H
 have K:=hiT (fun wx (hb:Below w.heap.size w wx)=>j9q oa pa oc pc l.vs l.ss ao cap x hf P.vn P.sn wx (z1t h hb) (z3m H.vs hb) (z5i H.ss hb) (z1v H.lb hb))
 obtain ⟨hl,c0,c1,c2,c3,c4⟩:=z3r H
 have I:=hiT (fun wx (hb:Below w.heap.size w wx)=>v4r oa oc pa pc (.slice ao x.length cap) (kdE l.vs l.ss x).1 (kdE l.vs l.ss x).2 2 wx l.vs.length l.ss.length (fun wy hy=>K.out wy (hb.trans (hy.mono hb.size))))
 have i1:InW lb w:=⟨hl⟩
 unfold v6r kdL
 clear K H h hf
 by_cases h0:x.length = 0
 ·rw [if_pos h0]
  have e0:((x.length:Int) == 0) = true:=by rw [h0];rfl
  replace h0:=hiT h0
  go_enter Tryz.func185,Tryz.ntmps185
  go_wp2
  go_returns
  exact ⟨rfl,gzT⟩
 ·rw [if_neg h0]
  have e0:((x.length:Int) == 0) = false:=by rw [beq_eq_false_iff_ne];omega
  replace h0:=hiT h0
  go_enter Tryz.func185,Tryz.ntmps185
  go_wp2_with ((with_reducible refine (I.out _ gzT).mono ?_);intro e w1 hr;obtain ⟨rfl,p,rfl⟩:=hr.out;clear hr)
  go_returns
  exact ⟨rfl,gzT⟩
def j8n (w:World) (va:Option Addr) (vs:List Vr):Prop:=∀ i (hi:i < vs.length),∃ g,va = some ⟨g,0,none⟩ ∧ g < w.heap.size ∧ w.cell? ⟨g,i * 4,none⟩ = some (str vs[i].name) ∧ w.cell? ⟨g,i * 4 + 1,none⟩ = some (.int .i64 vs[i].vk) ∧ w.cell? ⟨g,i * 4 + 2,none⟩ = some (.int .i64 vs[i].vn) ∧ w.cell? ⟨g,i * 4 + 3,none⟩ = some (str vs[i].vs)
theorem q6r {w w':World} {va:Option Addr} {vs:List Vr} (h:j8n w va vs) (hb:Below w.heap.size w w'):j8n w' va vs:=fun i hi=>by
 obtain ⟨g,e,hg,h1,h2,h3,h4⟩:=h i hi
 exact ⟨g,e,Nat.lt_of_lt_of_le hg hb.size,(hb.cell (p:=⟨g,_,none⟩) hg).trans h1,(hb.cell (p:=⟨g,_,none⟩) hg).trans h2,(hb.cell (p:=⟨g,_,none⟩) hg).trans h3,(hb.cell (p:=⟨g,_,none⟩) hg).trans h4⟩
theorem k4v {τ:CT} {B:Nat} {w:World} {c:Ch} {rv:Nat → Value} {va:Option Addr} {n vc:Nat} {sv:Value} (h:ChV τ B w c rv (.slice va n vc) sv):j8n w va c.vars:=fun i hi=>j8f h i hi
theorem v0r {w:World} {va:Option Addr} {vs:List Vr} (h:j8n w va vs) (n:Nat):j8n w va (vs.take n):=fun i hi=>by
 rw [List.length_take] at hi
 have:=h i omT
 rw [List.getElem_take]
 exact this
theorem k0q {nm:List UInt8} {vs:List Vr} {i:Nat} (h:i < vs.length):j1d nm (vs.drop i) i = if vs[i].name = nm then some i else j1d nm (vs.drop (i + 1)) (i + 1):=by
 rw [List.drop_eq_getElem_cons h,j1d]
theorem k7d {nm:List UInt8} {vs:List Vr} {i:Nat} (h:vs.length ≤ i):j1d nm (vs.drop i) i = none:=by
 rw [List.drop_of_length_le h,j1d]
theorem y2e {nm:List UInt8}:∀ (vs:List Vr) (i:Nat),(j1d nm vs i).isSome = vs.any fun u=>u.name == nm
 | [],_=>rfl
 | v :: r,i=>by
  rw [j1d,List.any_cons]
  by_cases h:v.name = nm
  ·rw [if_pos h,h];simp
  ·rw [if_neg h,y2e r,beq_eq_false_iff_ne.2 h,Bool.false_or]
theorem k0p {nm:List UInt8}:∀ {vs:List Vr} {i j:Nat},j1d nm vs i = some j → j < i + vs.length
 | [],_,_,h=>by cases h
 | v :: r,i,j,h=>by
  rw [j1d] at h
  rw [List.length_cons]
  split at h
  ·cases h;omega
  ·have:=k0p h
   omega
def x2b (o:Option Nat):Int:=match o with | some i=>(i:Int) | none => -1
theorem v5g (nm:Value) (n:List UInt8) (hn:nm = str n) (k m s:Value) (x:ByteArray) (b:Nat) (w:World) (hb:w.cell? ⟨b,0,none⟩ = some (.string x)) :
  Calls Tryz.prog 115 #[.agg #[nm,k,m,s],.pointer (some ⟨b,0,none⟩)] w (Ret (.bool (n == x.toList)) w):=by
 subst hn
 have i1:InW b w:=⟨World.block_lt_of_cell? _ _ hb⟩
 go_enter Tryz.func115,Tryz.ntmps115
 go_wp2
 go_returns
 exact ⟨rfl,gzT⟩
abbrev nmF (b:Nat):Value := .func (.func 115) #[] #[.pointer (some ⟨b,0,none⟩)]
set_option maxRecDepth 100000 in
set_option maxHeartbeats 4000000 in
theorem k4r (va:Option Addr) (cap:Nat) (vs:List Vr) (x:ByteArray) (hn:vs.length ≤ 1000) (b:Nat) (w:World) (h:j8n w va vs) (hb:w.cell? ⟨b,0,none⟩ = some (.string x)) :
  Calls Tryz.prog 114 #[.slice va vs.length cap,nmF b] w (Ret (.int .i64 (x2b (j1d x.toList vs 0))) w):=by
 have H:=hiT (fun wx hk=>q6r (w':=wx) h hk)
 have hlt:=World.block_lt_of_cell? _ _ hb
 have C:=hiT (fun nm n hn k m s wx (hk:Below w.heap.size w wx)=>v5g nm n hn k m s x b wx ((hk.cell (p:=⟨b,0,none⟩) hlt).trans hb))
 have hF':Hid (j1d x.toList (vs.drop 0) 0 = j1d x.toList vs 0):=hiT (by rw [List.drop_zero])
 generalize j1d x.toList vs 0 = F at *
 clear h hb hlt
 unfold nmF
 go_enter Tryz.func114,Tryz.ntmps114
 go_wp2
 go_loopw [8] (fun v wr=>∃ i:Nat,v = .int .i64 (i:Int) ∧ i ≤ vs.length ∧ Hid (j1d x.toList (vs.drop i) i = F) ∧ Below w.heap.size w wr) (fun v _=>vs.length - (intOf v).toNat)
 case atStart=>exact ⟨0,rfl,Nat.zero_le _,hF',gzT⟩
 case round =>
  obtain ⟨i,rfl,hi,hf,hk⟩:=hrel
  rename World=>wr
  have hwz:=hk.size
  by_cases hlt:i < vs.length
  ·obtain ⟨g,rfl,hg,n1,n2,n3,n4⟩:=H.out wr hk i hlt
   have hm:=k0q (nm:=x.toList) hlt
   have hI:(i:Int) < (vs.length:Int):=by omega
   have i1:InW g wr:=⟨hg⟩
   have C1:=hiT (fun wx (hx:Below wr.heap.size wr wx)=>C.out (str vs[i].name) vs[i].name rfl (.int .i64 vs[i].vk) (.int .i64 vs[i].vn) (str vs[i].vs) wx (hk.trans (hx.mono hwz)))
   generalize vs[i] = v at *
   rcases he:(v.name == x.toList)
   ·rw [if_neg (by simpa using he),hf.out] at hm
    rw [he] at C1
    have hm':=hiT hm.symm
    clear he hf hm C
    go_wp2_with ((with_reducible refine (C1.out _ gzT).mono ?_);intro e w1 hr;obtain ⟨rfl,p,rfl⟩:=hr.out;clear hr)
    go_roundw
    case rel=>exact ⟨i + 1,by go_num,by omega,hm',gzT⟩
    case measure=>simp [intOf];omega
   ·rw [if_pos (by simpa using he),hf.out] at hm
    rw [he] at C1
    subst hm
    clear he hf C
    go_wp2_with ((with_reducible refine (C1.out _ gzT).mono ?_);intro e w1 hr;obtain ⟨rfl,p,rfl⟩:=hr.out;clear hr)
    go_returns
    exact ⟨rfl,gzT⟩
  ·have hge:¬ (i:Int) < (vs.length:Int):=by omega
   have hm:=k7d (nm:=x.toList) (show vs.length ≤ i by omega)
   rw [hf.out] at hm
   subst hm
   clear hf
   go_wp2
   go_returns
   exact ⟨rfl,gzT⟩
theorem v6u (va:Option Addr) (cap:Nat) (vs:List Vr) (x:ByteArray) (hn:vs.length ≤ 1000) (b:Nat) (w:World) (h:j8n w va vs) (hb:w.cell? ⟨b,0,none⟩ = some (.string x)) :
  Calls Tryz.prog 76 #[.slice va vs.length cap,nmF b] w (Ret (.bool (vs.any fun u=>u.name == x.toList)) w):=by
 have I:=hiT (fun wx (hk:Below w.heap.size w wx)=>k4r va cap vs x hn b wx (q6r h hk) ((hk.cell (p:=⟨b,0,none⟩) (World.block_lt_of_cell? _ _ hb)).trans hb))
 rw [← y2e vs 0]
 generalize j1d x.toList vs 0 = o at *
 clear h hb
 unfold nmF at *
 cases o with
 | none =>
  go_enter Tryz.func76,Tryz.ntmps76
  go_wp2_with ((with_reducible refine (I.out _ gzT).mono ?_);intro e w1 hr;obtain ⟨rfl,p,rfl⟩:=hr.out;clear hr)
  go_returns
  exact ⟨rfl,gzT⟩
 | some i =>
  have hI:(0:Int) ≤ (i:Int):=by omega
  go_enter Tryz.func76,Tryz.ntmps76
  go_wp2_with ((with_reducible refine (I.out _ gzT).mono ?_);intro e w1 hr;obtain ⟨rfl,p,rfl⟩:=hr.out;clear hr)
  go_returns
  exact ⟨rfl,gzT⟩
def x1n (x:ByteArray) (w:World) (e:Ending) (w':World):Prop:=e = .returned (nmF w.heap.size) ∧ w'.cell? ⟨w.heap.size,0,none⟩ = some (.string x) ∧ Below w.heap.size w w'
theorem q8a (x:ByteArray) (w:World):Calls Tryz.prog 77 #[.string x] w (x1n x w):=by
 have hmf:∀ (fn:Fn) (first cap:Array Value) (w:World),(Instr.makeFunc fn first cap).run Tryz.prog w = .ok (.func fn first cap) w:=fun _ _ _ _=>rfl
 go_enter Tryz.func77,Tryz.ntmps77
 go_wp2
 go_returns
 exact ⟨rfl,by simp [go_sem],gzT⟩
theorem k2q {P:Program} {f:FuncId} {args:Array Value} {w:World} {p g:Regrown} {v:Value} (h:Calls P f args (G (pq p g) w) (Ret v (G (pq p g) w))) :
  Calls P f args (G (pq p g) w) fun e w''=>e = .returned v ∧ ∃ q,w'' = G q (G g w) :=
 h.mono fun _ _ hr=>by
  obtain ⟨he,q,hq⟩:=hr.out
  exact ⟨he,pq q p,by rw [hq,← G_G p g,G_G q p]⟩
theorem k2r {P:Program} {f:FuncId} {args:Array Value} {w:World} {p g:Regrown} {v:Value} (h:Calls P f args (G (pq p g) w) (Ret v (G (pq p g) w))) :
  Calls P f args (G (pq p g) w) fun e w''=>e = .returned v ∧ ∃ q,w'' = G (pq q g) w :=
 h.mono fun _ _ hr=>by
  obtain ⟨he,q,hq⟩:=hr.out
  exact ⟨he,pq q p,by rw [hq,← G_G p g,G_G q p,G_G]⟩
section
variable {l:Lk} {lb:Nat}
theorem v6c {a:Ac} (h:(kdL l a.x).2 ≠ 0):v6a l a = (kdL l a.x).2:=by unfold v6a z6y;rw [if_neg h]
theorem v6b {a:Ac} (h:(kdL l a.x).2 = 0):v6a l a = x0y l (kdL l a.x).1 (j1d a.name l.c.vars 0):=by unfold v6a z6y;rw [if_pos h]
abbrev acV (a:Ac) (io xo:Option Addr) (ic xc:Nat):Value := .agg #[.int .i64 a.kind,.slice io a.cond.length ic,.string ⟨a.name.toArray⟩,.slice xo a.x.length xc,.int .i64 a.n]
set_option maxRecDepth 100000 in
set_option maxHeartbeats 4000000 in
theorem v6d (P:LkP l) (a:Ac) (io xo:Option Addr) (ic xc:Nat) (hf:k5k a.x) (w:World) (h:q1i w xo a.x) (H:q9y w lb l) :
  Calls Tryz.prog 208 #[.pointer (some ⟨lb,0,none⟩),acV a io xo ic xc] w (Ret (.int .i64 (v6a l a)) w):=by
 obtain ⟨B,rv,va,sa,oa,pa,vc,sc,oc,pc,H⟩:=H
 have K:=hiT (fun wx (hb:Below w.heap.size w wx)=>j9q oa pa oc pc l.vs l.ss xo xc a.x hf P.vn P.sn wx (z1t h hb) (z3m H.vs hb) (z5i H.ss hb) (z1v H.lb hb))
 obtain ⟨hl,c0,c1,c2,c3,c4⟩:=z3r H
 have V:=hiT (fun b wx (hb:Below w.heap.size w wx) hx=>k4r va vc l.c.vars ⟨a.name.toArray⟩ (by have:=P.vars;omega) b wx (q6r (k4v H.ch) hb) hx)
 have R:=hiT (k4v H.ch)
 have i1:InW lb w:=⟨hl⟩
 have hlt:∀ i,j1d a.name l.c.vars 0 = some i → i < l.c.vars.length:=fun i hi=>by have:=k0p hi;omega
 have e1:=@v6c l a
 have e2:=@v6b l a
 unfold kdL at e1 e2
 obtain ⟨k,hk⟩:∃ k,kdE l.vs l.ss a.x = k:=⟨_,rfl⟩
 rw [hk] at K e1 e2
 replace hk:=hiT hk
 clear H h hf hk
 by_cases h0:k.2 = 0
 ·have e2:=e2 h0
  have z0:(k.2 == 0) = true:=by rw [h0];rfl
  have z1:(k.2 != 0) = false:=by rw [bne,z0];rfl
  clear e1
  replace h0:=hiT h0
  have en:(⟨a.name.toArray⟩:ByteArray).toList = a.name:=by rw [Lib.toList_data]
  rw [en] at V
  cases hi:j1d a.name l.c.vars 0 with
  | none =>
   rw [hi] at V e2
   rw [e2]
   rw [show x0y l k.1 none = 24 from rfl]
   rw [show x2b none = -1 from rfl] at V
   clear e2 hlt hi
   go_enter Tryz.func208,Tryz.ntmps208
   go_wp2
   (refine z0d krT krT ?_;(repeat (go_big_quiet_step (exact z1i (K.out _ gzT))));refine wpQuiet_nil ?_;intro _ hw';obtain ⟨pg,hw''⟩:=hw';subst hw'')
   go_wp2
   go_region_held3 (fun w'=>w'.cell? ⟨lb,1,none⟩ = some (.slice va l.c.vars.length vc) ∧ w'.cell? ⟨w.heap.size,2,none⟩ = some (.string ⟨a.name.toArray⟩)) ((refine ⟨?_,?_⟩ <;> first | assumption | (rw [z1f];assumption) | (simp [go_sem, *];done)))
    (first
     | ((with_reducible refine (q8a _ _).mono ?_);intro e w3 hr;obtain ⟨rfl,hx3,hb3⟩:=hr;obtain ⟨p3,rfl⟩:=toG hb3;clear hb3;(try simp only [z5j,G_G,World.size_drew] at hx3))
     | ((with_reducible refine (V.out _ _ gzT (by first | assumption | exact hx3 | (rw [← G_G];exact hx3))).mono ?_);intro e w4 hr;obtain ⟨rfl,p4,rfl⟩:=hr.out;clear hr))
   go_wp2
   go_returns
   exact ⟨rfl,gzT⟩
  | some i =>
   have hil:=hlt i hi
   obtain ⟨g,rfl,hg,n1,n2,n3,n4⟩:=R.out i hil
   rw [hi] at V e2
   rw [e2]
   rw [show x0y l k.1 (some i) = unl (l.c.vars[i].vk == k.1) 20 by show unl ((l.c.vars.getD i ⟨[],0,0,[]⟩).vk == k.1) 20 = _;rw [show l.c.vars.getD i ⟨[],0,0,[]⟩ = l.c.vars[i] by simp [List.getD,hil]]]
   rw [show x2b (some i) = (i:Int) from rfl] at V
   generalize l.c.vars[i] = v at *
   have U:=hiT (fun b wx=>z8n b 20 wx)
   have i2:InW g w:=⟨hg⟩
   have hI:(i:Int) < (l.c.vars.length:Int):=by omega
   clear e2 hlt hi
   go_enter Tryz.func208,Tryz.ntmps208
   go_wp2
   (refine z0d krT krT ?_;(repeat (go_big_quiet_step (exact z1i (K.out _ gzT))));refine wpQuiet_nil ?_;intro _ hw';obtain ⟨pg,hw''⟩:=hw';subst hw'')
   go_wp2
   go_region_held3 (fun w'=>w'.cell? ⟨lb,1,none⟩ = some (.slice (some ⟨g,0,none⟩) l.c.vars.length vc) ∧ w'.cell? ⟨w.heap.size,2,none⟩ = some (.string ⟨a.name.toArray⟩)) ((refine ⟨?_,?_⟩ <;> first | assumption | (rw [z1f];assumption) | (simp [go_sem, *];done)))
    (first
     | ((with_reducible refine (q8a _ _).mono ?_);intro e w3 hr;obtain ⟨rfl,hx3,hb3⟩:=hr;obtain ⟨p3,rfl⟩:=toG hb3;clear hb3;(try simp only [z5j,G_G,World.size_drew] at hx3))
     | ((with_reducible refine (V.out _ _ gzT (by first | assumption | exact hx3 | (rw [← G_G];exact hx3))).mono ?_);intro e w4 hr;obtain ⟨rfl,p4,rfl⟩:=hr.out;clear hr))
   go_wp2_with ((with_reducible refine (U.out _ _).mono ?_);intro e w1 hr;obtain ⟨rfl,p,rfl⟩:=hr.out;clear hr)
   go_returns
   exact ⟨rfl,gzT⟩
 ·have e1:=e1 h0
  have z0:(k.2 == 0) = false:=beq_eq_false_iff_ne.2 h0
  have z1:(k.2 != 0) = true:=by rw [bne,z0];rfl
  rw [e1]
  clear e1 e2
  replace h0:=hiT h0
  go_enter Tryz.func208,Tryz.ntmps208
  go_wp2
  (refine z0d krT krT ?_;(repeat (go_big_quiet_step (exact z1i (K.out _ gzT))));refine wpQuiet_nil ?_;intro _ hw';obtain ⟨pg,hw''⟩:=hw';subst hw'')
  go_wp2
  go_returns
  exact ⟨rfl,gzT⟩
end
end Go.Proofs.YtacnlghljmgdiaaGreatDoor
