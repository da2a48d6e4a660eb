/- Several texts of this proof, joined: MU, MV, VA, VB, VC. -/
import Derived.Test.YtfgpmcepppcmiaaGreatDoorQ7
import Derived.WalkKit
import Derived.ProofKit
import Derived.OpenShut
import Derived.Handy
import Derived.BigQuiet
import Derived.OwnWalk
import Derived.Lib.Hide
import Derived.WalkSmall
import Derived.WalkLawsBesides
import Derived.Test.YtfgpmcepppcmiaaGreatDoorQ8
import Derived.Test.YtfgpmcepppcmiaaGreatDoorQ1
import Derived.Deep.AppendLies
import Derived.Deep.RegionHeld3
import Derived.Test.YtfgpmcepppcmiaaGreatDoorY7
import Derived.Test.YtfgpmcepppcmiaaGreatDoorY9
import Derived.Laws.OwnMore
namespace Go.Proofs.YtfgpmcepppcmiaaGreatDoor
open Go.RowKit
section
variable {B:Nat} {c:Ch} {rv:Nat → Value} {vv:Value}
theorem cwithin_any {τ:CT} (so:Option Addr) (sc:Nat) (i outer:Int) (hn:c.states.length ≤ 1000) (hp:Par c.states) (w:World) (h:ChV τ B w c rv vv (.slice so c.states.length sc)) :
  Calls Tryz.prog 124 #[.agg #[str c.name,vv,.slice so c.states.length sc],.int .i64 i,.int .i64 outer] w (Ret (.bool (wthC c.states i outer)) w):=by
 unfold wthC
 by_cases hi:i < 0 ∨ (c.states.length:Int) ≤ i
 ·rw [if_pos hi]
  exact cwithin_out so sc i outer hi w
 ·rw [if_neg hi]
  obtain ⟨a,rfl⟩:∃ a:Nat,i = (a:Int):=⟨i.toNat,by omega⟩
  exact cwithin_in so sc a outer hn hp (by omega) w h
end
theorem chV_base {τ:CT} {B B':Nat} {w:World} {c:Ch} {rv:Nat → Value} {vv sv:Value} (h:ChV τ B w c rv vv sv) (hB:B' ≤ B):ChV τ B' w c rv vv sv :=
 ⟨owns_base h.vars hB,owns_base h.sts hB,fun i=>blkRow_tp (fx_base hB) (h.ent i) fun _ _ k=>owns_base k hB,fun i=>blkRow_tp (fx_base hB) (h.exi i) fun _ _ k=>owns_base k hB,fun i=>trRow_tp (fx_base hB) (h.trs i) fun _ _ k=>owns_base k hB⟩
theorem par_of {c:Ch} {o:Int} (h:GoodC c o):Par c.states:=⟨h.root,h.par⟩
theorem lens_of {c:Ch} {o:Int} (h:GoodC c o):∀ i,i < c.states.length → (c.states.getD i st0).enter.length ≤ 8 ∧ (c.states.getD i st0).exit.length ≤ 8 ∧ (c.states.getD i st0).trans.length ≤ 96:=fun i hi =>
 ⟨(h.lists i hi).1,(h.lists i hi).2,Nat.le_trans (manyT_at _ _) h.trans⟩
theorem nat_at {w:World} {B:Nat} {ao:Option Addr} {n cap:Nat} {ks:List Nat} (h:w.ownsRow B 3 1 (.slice ao n cap) ks.length (natsC ks)) (i:Nat) (hi:i < ks.length):∃ g,ao = some ⟨g,0,none⟩ ∧ g < w.heap.size ∧ w.cell? ⟨g,i,none⟩ = some (.int .i64 (ks[i]:Int)):=by
 obtain ⟨g,cap',e,hg,_,_,hc⟩:=own_head h (by omega)
 cases e
 exact ⟨g,rfl,hg,hc _ _ (by unfold natsC;rw [List.getElem?_map,List.getElem?_eq_getElem hi];rfl)⟩
end Go.Proofs.YtfgpmcepppcmiaaGreatDoor
namespace Go.Proofs.YtfgpmcepppcmiaaGreatDoor
open Go.RowKit
structure ToldC (x:Except (Int × Nat) Ch) (c:Ch) (y n:Int):Prop where
 ok:∀ d,x = .ok d → c = d ∧ y = 0 ∧ n = 0
 er:∀ k m,x = .error (k,m) → c = ch0 ∧ y = k ∧ n = (m:Int)
theorem chV_zero (τ:CT) (B:Nat) (w:World):ChV τ B w ch0 (fun _ => .slice none 0 0) (.slice none 0 0) (.slice none 0 0) :=
 ⟨World.ownsRow_nil _ _ _ _,World.ownsRow_nil _ _ _ _,fun _=>blkRow_nil _ _ _,fun _=>blkRow_nil _ _ _,fun _=>trRow_nil _ _ _⟩
def CpAll (x:Except (Int × Nat) Ch) (w:World) (e:Ending) (w':World):Prop:=∃ c y n rv va vc sa sc,ToldC x c y n ∧ e = .returned (.tuple #[.agg #[str c.name,.slice va c.vars.length vc,.slice sa c.states.length sc],.int .i64 y,.int .i64 n]) ∧ ChV ct0 w.heap.size w' c rv (.slice va c.vars.length vc) (.slice sa c.states.length sc) ∧ Below w.heap.size w w'
theorem cparse_all (s:ByteArray) (hs:s.size ≤ 140737488351232) (w:World) (hw:Al w):Calls Tryz.prog 20 #[.string s] w (CpAll (chartT s.data.toList) w):=by
 refine (cparse_any s hs w hw).mono fun e w' hr=>?_
 cases hx:chartT s.data.toList with
 | error y =>
  obtain ⟨y,n⟩:=y
  rw [hx] at hr
  obtain ⟨rfl,hy,hb⟩:=hr
  exact ⟨ch0,y,n,fun _ => .slice none 0 0,none,0,none,0,⟨fun d hd=>(by cases hd),fun k m hk=>(by cases hk;exact ⟨rfl,rfl,rfl⟩)⟩,rfl,chV_zero _ _ _,hb⟩
 | ok c =>
  rw [hx] at hr
  obtain ⟨rv,vv,sv,rfl,hV,hb⟩:=hr
  obtain ⟨va,vc,sa,sc,rfl,rfl⟩:=chV_form hV
  exact ⟨c,0,0,rv,va,vc,sa,sc,⟨fun d hd=>(by cases hd;exact ⟨rfl,rfl,rfl⟩),fun k m hk=>(by cases hk)⟩,rfl,hV,hb⟩
structure SizeC (c:Ch):Prop where
 vars:c.vars.length ≤ 16
 sts:c.states.length ≤ 49
 lens:∀ i,i < c.states.length → (c.states.getD i st0).enter.length ≤ 8 ∧ (c.states.getD i st0).exit.length ≤ 8 ∧ (c.states.getD i st0).trans.length ≤ 96
 small:SmallC c
theorem size_told {l:List UInt8} {c:Ch} {y n:Int} (h:ToldC (chartT l) c y n):SizeC c:=by
 cases hx:chartT l with
 | error z =>
  obtain ⟨k,m⟩:=z
  obtain ⟨rfl,_,_⟩:=h.er k m hx
  exact ⟨by decide,by decide,fun i hi=>absurd hi (Nat.not_lt_zero _),fun s hs=>by cases hs⟩
 | ok d =>
  obtain ⟨rfl,_,_⟩:=h.ok d hx
  have g:=good_chart hx
  exact ⟨g.vars,g.few,lens_of g,small_chart hx⟩
theorem mchart_all {B:Nat} {c:Ch} {rv:Nat → Value} {vv sv:Value} (hc:SizeC c) (w:World) (hBw:B ≤ w.heap.size) (h:ChV ct0 B w c rv vv sv):Calls Tryz.prog 22 #[.agg #[str c.name,vv,sv]] w (MChIs B c w) :=
 mchart_any c rv vv sv hc.vars hc.sts hc.lens hc.small w hBw h
end Go.Proofs.YtfgpmcepppcmiaaGreatDoor
namespace Go.Proofs.YtfgpmcepppcmiaaGreatDoor
def pastS (s:St):Bool:=s.kind == 6 || s.kind == 7
def scV (vs:List Vr):List (ByteArray × Int):=vs.map fun v=>(⟨v.name.toArray⟩,v.vk)
def scS (ss:List St):List ByteArray:=(ss.filter fun s => !pastS s).map fun s=>⟨s.name.toArray⟩
def kdE (vs:List (ByteArray × Int)) (ss:List ByteArray) (x:List Nd):Int × Int :=
 if rightT x then (match linK (ownR vs ss) [] x with | .error (e,_)=>(0,e) | .ok ks=>(ks.getD (x.length - 1) 0,0)) else (0,11)
def unl (b:Bool) (e:Int):Int:=if b then 0 else e
def thenE (a b:Int):Int:=if a = 0 then b else a
def firstE {α:Type} (f:α → Int):List α → Int
 | []=>0
 | a :: r=>thenE (f a) (firstE f r)
def idxV (nm:List UInt8):List Vr → Nat → Option Nat
 | [],_=>none
 | v :: r,i=>if v.name = nm then some i else idxV nm r (i + 1)
structure Lk where
 c:Ch
 vs:List (ByteArray × Int)
 ss:List ByteArray
def kdL (l:Lk) (x:List Nd):Int × Int:=kdE l.vs l.ss x
def truE (l:Lk) (x:List Nd):Int:=if x.length = 0 then 0 else isI (kdL l x).1 (kdL l x).2 2
def setI (l:Lk) (k:Int):Option Nat → Int
 | none=>24
 | some i=>unl ((l.c.vars.getD i ⟨[],0,0,[]⟩).vk == k) 20
def setE (l:Lk) (a:Ac):Int:=thenE (kdL l a.x).2 (setI l (kdL l a.x).1 (idxV a.name l.c.vars 0))
def actE (l:Lk) (a:Ac):Int:=thenE (truE l a.cond) (if a.kind = 1 then setE l a else if a.kind = 5 then (kdL l a.x).2 else 0)
def eachE (l:Lk) (b:List Ac):Int:=firstE (actE l) b
def lastW (ss:List St) (a b:Int):Nat → Option Nat
 | 0=>none
 | n + 1=>if wthC ss a n && wthC ss b n then some n else lastW ss a b n
def apartE (ss:List St) (a b:Nat):Bool :=
 if a = b then false else if wthC ss a b then false else if wthC ss b a then false
 else match lastW ss a b ss.length with | none=>false | some i=>(ss.getD i st0).kind == 4
def tgsE (ss:List St):List (List UInt8) → List Nat → Int
 | [],_=>0
 | nm :: r,ahead=>match findA nm ss 0 with
  | none=>32
  | some at_=>if ahead.any fun o => !apartE ss at_ o then 32 else tgsE ss r (ahead ++ [at_])
def wayE (l:Lk) (t:Tr):Int :=
 if t.event = [] ∧ t.cond.length = 0 ∧ t.goes.length = 0 then 11
 else thenE (truE l t.cond) (thenE (tgsE l.c.states t.goes []) (eachE l t.thn))
def stL (l:Lk) (i:Nat):St:=l.c.states.getD i st0
def fnd (l:Lk) (nm:List UInt8):Nat:=(findA nm l.c.states 0).getD 0
def isF (l:Lk) (nm:List UInt8):Bool:=(findA nm l.c.states 0).isSome
def onceE (l:Lk) (i:Nat):Int:=unl (i == 0 || fnd l (stL l i).name == i) 16
def nearE (l:Lk) (i:Nat):Bool :=
 if (stL l i).kind = 6 then wthC l.c.states (fnd l (stL l i).start) (stL l i).parent else (stL l (fnd l (stL l i).start)).parent == (stL l i).parent
def pastE (l:Lk) (i:Nat):Int:=unl (isF l (stL l i).start && nearE l i && !pastS (stL l (fnd l (stL l i).start))) 33
def partS (s:St):Bool:=s.kind == 3 || s.kind == 4
def kidsOk (l:Lk) (i:Nat):Bool :=
 let ks:=kidsA (i:Int) l.c.states 0
 let ok:=ks.any fun k => !pastS (stL l k)
 if (stL l i).kind = 5 then ks.length == 0 && (stL l i).trans.length == 0
 else if (stL l i).kind = 4 then ok && !(ks.any fun k => !partS (stL l k))
 else if (stL l i).kind = 3 then ok || ks.length == 0
 else ok
def kidsE (l:Lk) (i:Nat):Int:=unl (kidsOk l i) 34
def ownE (l:Lk) (i:Nat):Bool:=isF l (stL l i).start && (stL l (fnd l (stL l i).start)).parent == (i:Int) && !pastS (stL l (fnd l (stL l i).start))
def startE (l:Lk) (i:Nat):Int:=unl ((stL l i).start == [] || ownE l i) 31
def actsE (l:Lk) (i:Nat):Int:=firstE (eachE l) ((stL l i).enter ++ (stL l i).exit)
def waysE (l:Lk) (i:Nat):Int:=firstE (wayE l) (stL l i).trans
def stateE (l:Lk) (i:Nat):Int :=
 if pastS (stL l i) then thenE (onceE l i) (pastE l i)
 else thenE (onceE l i) (thenE (kidsE l i) (thenE (startE l i) (thenE (actsE l i) (waysE l i))))
def stsE (l:Lk):Nat → List St → Int × List UInt8
 | _,[]=>(0,[])
 | i,s :: r=>if stateE l i = 0 then stsE l (i + 1) r else (stateE l i,s.name)
def twiceE:List Vr → List Vr → Option (List UInt8)
 | _,[]=>none
 | a,v :: r=>if a.any fun u=>u.name == v.name then some v.name else twiceE (a ++ [v]) r
def lkC (c:Ch):Lk:=⟨c,scV c.vars,scS (c.states.drop 1)⟩
def checkE (c:Ch):Int × List UInt8 :=
 if c.states.length = 0 then (50,[])
 else match twiceE [] c.vars with
  | some nm=>(16,nm)
  | none=>stsE (lkC c) 0 c.states
def FitN (ns:List Nd):Prop:=ns.length ≤ 2000000 ∧ ∀ n ∈ ns,n.s.length ≤ 140737488351232 ∧ n.name.length ≤ 140737488351232
def FitB (b:List Ac):Prop:=b.length ≤ 1000 ∧ ∀ a ∈ b,FitN a.cond ∧ FitN a.x
structure FitT (t:Tr):Prop where
 cond:FitN t.cond
 goes:t.goes.length ≤ 1000
 thn:FitB t.thn
structure FitS (s:St):Prop where
 enter:∀ b ∈ s.enter,FitB b
 exit:∀ b ∈ s.exit,FitB b
 trans:∀ t ∈ s.trans,FitT t
end Go.Proofs.YtfgpmcepppcmiaaGreatDoor
namespace Go.Proofs.YtfgpmcepppcmiaaGreatDoor
open Go.RowKit
structure LkV (w:World) (lb:Nat) (l:Lk) (B:Nat) (rv:Nat → Value) (va sa oa pa:Option Addr) (vc sc oc pc:Nat):Prop where
 blk:w.heap[lb]? = some (.cells #[str l.c.name,.slice va l.c.vars.length vc,.slice sa l.c.states.length sc,.slice oa l.vs.length oc,.slice pa l.ss.length pc] 176 (0,0))
 ch:ChV ct0 B w l.c rv (.slice va l.c.vars.length vc) (.slice sa l.c.states.length sc)
 vs:VarsAt w oa l.vs
 ss:StrsAt w pa l.ss
 lb:Lb w
def LkAt (w:World) (lb:Nat) (l:Lk):Prop:=∃ B rv va sa oa pa vc sc oc pc,LkV w lb l B rv va sa oa pa vc sc oc pc
structure LkP (l:Lk):Prop where
 some:0 < l.c.states.length
 few:l.c.states.length ≤ 49
 vars:l.c.vars.length ≤ 16
 vn:l.vs.length ≤ 1000000
 sn:l.ss.length ≤ 1000
 par:Par l.c.states
 fit:∀ i,i < l.c.states.length → FitS (l.c.states.getD i st0)
 lens:∀ i,i < l.c.states.length → (l.c.states.getD i st0).enter.length ≤ 8 ∧ (l.c.states.getD i st0).exit.length ≤ 8 ∧ (l.c.states.getD i st0).trans.length ≤ 96
theorem lk_keep {w w':World} {lb:Nat} {l:Lk} (h:LkAt w lb l) (hb:Below w.heap.size w w'):LkAt w' lb l:=by
 obtain ⟨B,rv,va,sa,oa,pa,vc,sc,oc,pc,h⟩:=h
 exact ⟨B,rv,va,sa,oa,pa,vc,sc,oc,pc,(hb.block lb (lt_of_block h.blk)).trans h.blk,chV_keep h.ch hb,vars_below h.vs hb,strs_below h.ss hb,lb_below h.lb hb⟩
theorem lk_cells {w:World} {lb:Nat} {l:Lk} {B:Nat} {rv:Nat → Value} {va sa oa pa:Option Addr} {vc sc oc pc:Nat} (h:LkV w lb l B rv va sa oa pa vc sc oc pc):lb < w.heap.size ∧ w.cell? ⟨lb,0,none⟩ = some (str l.c.name) ∧ w.cell? ⟨lb,1,none⟩ = some (.slice va l.c.vars.length vc) ∧ w.cell? ⟨lb,2,none⟩ = some (.slice sa l.c.states.length sc) ∧ w.cell? ⟨lb,3,none⟩ = some (.slice oa l.vs.length oc) ∧ w.cell? ⟨lb,4,none⟩ = some (.slice pa l.ss.length pc) :=
 ⟨lt_of_block h.blk,(cell_of_row w lb 0 _ _ _ h.blk).trans rfl,(cell_of_row w lb 1 _ _ _ h.blk).trans rfl,(cell_of_row w lb 2 _ _ _ h.blk).trans rfl,(cell_of_row w lb 3 _ _ _ h.blk).trans rfl,(cell_of_row w lb 4 _ _ _ h.blk).trans rfl⟩
theorem unless_any (b:Bool) (e:Int) (w:World):Calls Tryz.prog 150 #[.bool b,.int .i64 e] w (Ret (.int .i64 (unl b e)) w):=by
 unfold unl
 cases b
 all_goals
  go_enter Tryz.func150,Tryz.ntmps150
  go_wp2
  go_returns
  exact ⟨rfl,by (first | exact gwT | exact lzT)⟩
theorem vpast_any (s:St) (e x t:Value) (w:World):Calls Tryz.prog 117 #[.agg #[str s.name,.int .i64 s.kind,.int .i64 s.parent,str s.start,e,x,t]] w (Ret (.bool (pastS s)) w):=by
 unfold pastS
 obtain ⟨nm,k,p,st,en,ex,tr⟩:=s
 simp only
 rcases h6:(k == 6) <;> rcases h7:(k == 7)
 all_goals
  go_enter Tryz.func117,Tryz.ntmps117
  go_wp2
  go_returns
  exact ⟨rfl,by (first | exact gwT | exact lzT)⟩
theorem vpart_any (s:St) (e x t:Value) (w:World):Calls Tryz.prog 154 #[.agg #[str s.name,.int .i64 s.kind,.int .i64 s.parent,str s.start,e,x,t]] w (Ret (.bool (partS s)) w):=by
 unfold partS
 obtain ⟨nm,k,p,st,en,ex,tr⟩:=s
 simp only
 rcases h6:(k == 3) <;> rcases h7:(k == 4)
 all_goals
  go_enter Tryz.func154,Tryz.ntmps154
  go_wp2
  go_returns
  exact ⟨rfl,by (first | exact gwT | exact lzT)⟩
theorem kof_all (oa pa:Option Addr) (oc pc:Nat) (vs:List (ByteArray × Int)) (ss:List ByteArray) (ao:Option Addr) (cap:Nat) (ns:List Nd) (hf:FitN ns) (hvn:vs.length ≤ 1000000) (hsn:ss.length ≤ 1000) (w:World) (h:NdsAt w ao ns) (hv:VarsAt w oa vs) (hs:StrsAt w pa ss) (hw:Lb w) :
  Calls Tryz.prog 210 #[.slice ao ns.length cap,.agg #[.slice oa vs.length oc,.slice pa ss.length pc]] w (Ret (.tuple #[.int .i64 (kdE vs ss ns).1,.int .i64 (kdE vs ss ns).2]) w):=by
 have R:=fun wx (hb:Below w.heap.size w wx)=>xright_any ao cap ns hf.1 hf.2 wx (nds_below h hb) (lb_below hw hb)
 unfold kdE
 cases hr:rightT ns with
 | false =>
  rw [hr] at R
  exact kof_no oa oc pa pc ao cap ns w _ _ R
 | true =>
  rw [hr] at R
  rw [if_pos rfl]
  have:=kof_any oa oc vs pa pc ss ao cap ns hr hvn hsn w h hv hs R
  cases hl:linK (ownR vs ss) [] ns with
  | error y =>
   obtain ⟨e,j⟩:=y
   rw [hl] at this
   exact this
  | ok ks =>
   rw [hl] at this
   exact this
theorem vtruth_any {l:Lk} {lb:Nat} (P:LkP l) (ao:Option Addr) (cap:Nat) (x:List Nd) (hf:FitN x) (w:World) (h:NdsAt w ao x) (H:LkAt w lb l) :
  Calls Tryz.prog 186 #[.pointer (some ⟨lb,0,none⟩),.slice ao x.length cap] w (Ret (.int .i64 (truE l x)) w):=by
 obtain ⟨B,rv,va,sa,oa,pa,vc,sc,oc,pc,H⟩:=H
 have K:=Lib.hid (fun wx (hb:Below w.heap.size w wx)=>kof_all oa pa oc pc l.vs l.ss ao cap x hf P.vn P.sn wx (nds_below h hb) (vars_below H.vs hb) (strs_below H.ss hb) (lb_below H.lb hb))
 obtain ⟨hl,c0,c1,c2,c3,c4⟩:=lk_cells H
 have I:=Lib.hid (fun wx (hb:Below w.heap.size w wx)=>kis_any oa oc pa pc (.slice ao x.length cap) (kdE l.vs l.ss x).1 (kdE l.vs l.ss x).2 2 wx l.vs.length l.ss.length (fun wy hy=>K.out wy (hb.trans (hy.mono hb.size))))
 have i1:InW lb w:=⟨hl⟩
 unfold truE kdL
 clear K H h hf
 by_cases h0:x.length = 0
 ·rw [if_pos h0]
  have e0:((x.length:Int) == 0) = true:=by rw [h0];rfl
  replace h0:=Lib.hid h0
  go_enter Tryz.func186,Tryz.ntmps186
  go_wp2
  go_returns
  exact ⟨rfl,by (first | exact gwT | exact lzT)⟩
 ·rw [if_neg h0]
  have e0:((x.length:Int) == 0) = false:=by rw [beq_eq_false_iff_ne];omega
  replace h0:=Lib.hid h0
  go_enter Tryz.func186,Tryz.ntmps186
  go_wp2_with ((with_reducible refine (I.out _ (by (first | exact gwT | exact lzT))).mono ?_);intro e w1 hr;obtain ⟨rfl,p,rfl⟩:=hr.out;clear hr)
  go_returns
  exact ⟨rfl,by (first | exact gwT | exact lzT)⟩
def VrsRd (w:World) (va:Option Addr) (vs:List Vr):Prop:=∀ i (hi:i < vs.length),∃ g,va = some ⟨g,0,none⟩ ∧ g < w.heap.size ∧ w.cell? ⟨g,i * 4,none⟩ = some (str vs[i].name) ∧ w.cell? ⟨g,i * 4 + 1,none⟩ = some (.int .i64 vs[i].vk) ∧ w.cell? ⟨g,i * 4 + 2,none⟩ = some (.int .i64 vs[i].vn) ∧ w.cell? ⟨g,i * 4 + 3,none⟩ = some (str vs[i].vs)
theorem vrs_keep {w w':World} {va:Option Addr} {vs:List Vr} (h:VrsRd w va vs) (hb:Below w.heap.size w w'):VrsRd w' va vs:=fun i hi=>by
 obtain ⟨g,e,hg,h1,h2,h3,h4⟩:=h i hi
 exact ⟨g,e,Nat.lt_of_lt_of_le hg hb.size,(hb.cell (p:=⟨g,_,none⟩) hg).trans h1,(hb.cell (p:=⟨g,_,none⟩) hg).trans h2,(hb.cell (p:=⟨g,_,none⟩) hg).trans h3,(hb.cell (p:=⟨g,_,none⟩) hg).trans h4⟩
theorem vrs_of {τ:CT} {B:Nat} {w:World} {c:Ch} {rv:Nat → Value} {va:Option Addr} {n vc:Nat} {sv:Value} (h:ChV τ B w c rv (.slice va n vc) sv):VrsRd w va c.vars:=fun i hi=>var_at h i hi
theorem vrs_take {w:World} {va:Option Addr} {vs:List Vr} (h:VrsRd w va vs) (n:Nat):VrsRd w va (vs.take n):=fun i hi=>by
 rw [List.length_take] at hi
 have:=h i (by omega)
 rw [List.getElem_take]
 exact this
theorem idxV_more {nm:List UInt8} {vs:List Vr} {i:Nat} (h:i < vs.length):idxV nm (vs.drop i) i = if vs[i].name = nm then some i else idxV nm (vs.drop (i + 1)) (i + 1):=by
 rw [List.drop_eq_getElem_cons h,idxV]
theorem idxV_end {nm:List UInt8} {vs:List Vr} {i:Nat} (h:vs.length ≤ i):idxV nm (vs.drop i) i = none:=by
 rw [List.drop_of_length_le h,idxV]
theorem idxV_any {nm:List UInt8}:∀ (vs:List Vr) (i:Nat),(idxV nm vs i).isSome = vs.any fun u=>u.name == nm
 | [],_=>rfl
 | v :: r,i=>by
  rw [idxV,List.any_cons]
  by_cases h:v.name = nm
  ·rw [if_pos h,h];simp
  ·rw [if_neg h,idxV_any r,beq_eq_false_iff_ne.2 h,Bool.false_or]
theorem idxV_lt {nm:List UInt8}:∀ {vs:List Vr} {i j:Nat},idxV nm vs i = some j → j < i + vs.length
 | [],_,_,h=>by cases h
 | v :: r,i,j,h=>by
  rw [idxV] at h
  rw [List.length_cons]
  split at h
  ·cases h;omega
  ·have:=idxV_lt h
   omega
def idxI (o:Option Nat):Int:=match o with | some i=>(i:Int) | none => -1
theorem named_c (nm:Value) (n:List UInt8) (hn:nm = str n) (k m s:Value) (x:ByteArray) (b:Nat) (w:World) (hb:w.cell? ⟨b,0,none⟩ = some (.string x)) :
  Calls Tryz.prog 116 #[.agg #[nm,k,m,s],.pointer (some ⟨b,0,none⟩)] w (Ret (.bool (n == x.toList)) w):=by
 subst hn
 have i1:InW b w:=⟨World.block_lt_of_cell? _ _ hb⟩
 go_enter Tryz.func116,Tryz.ntmps116
 go_wp2
 go_returns
 exact ⟨rfl,by (first | exact gwT | exact lzT)⟩
abbrev nmF (b:Nat):Value := .func (.func 116) #[] #[.pointer (some ⟨b,0,none⟩)]
set_option maxRecDepth 100000 in
set_option maxHeartbeats 4000000 in
theorem vidx_of (va:Option Addr) (cap:Nat) (vs:List Vr) (x:ByteArray) (hn:vs.length ≤ 1000) (b:Nat) (w:World) (h:VrsRd w va vs) (hb:w.cell? ⟨b,0,none⟩ = some (.string x)) :
  Calls Tryz.prog 115 #[.slice va vs.length cap,nmF b] w (Ret (.int .i64 (idxI (idxV x.toList vs 0))) w):=by
 have H:=Lib.hid (fun wx hk=>vrs_keep (w':=wx) h hk)
 have hlt:=World.block_lt_of_cell? _ _ hb
 have C:=Lib.hid (fun nm n hn k m s wx (hk:Below w.heap.size w wx)=>named_c nm n hn k m s x b wx ((hk.cell (p:=⟨b,0,none⟩) hlt).trans hb))
 have hF':Hid (idxV x.toList (vs.drop 0) 0 = idxV x.toList vs 0):=Lib.hid (by rw [List.drop_zero])
 generalize idxV x.toList vs 0 = F at *
 clear h hb hlt
 unfold nmF
 go_enter Tryz.func115,Tryz.ntmps115
 go_wp2
 go_loopw [8] (fun v wr=>∃ i:Nat,v = .int .i64 (i:Int) ∧ i ≤ vs.length ∧ Hid (idxV x.toList (vs.drop i) i = F) ∧ Below w.heap.size w wr) (fun v _=>vs.length - (intOf v).toNat)
 case atStart=>exact ⟨0,rfl,Nat.zero_le _,hF',by (first | exact gwT | exact lzT)⟩
 case round =>
  obtain ⟨i,rfl,hi,hf,hk⟩:=hrel
  rename World=>wr
  have hwz:=hk.size
  by_cases hlt:i < vs.length
  ·obtain ⟨g,rfl,hg,n1,n2,n3,n4⟩:=H.out wr hk i hlt
   have hm:=idxV_more (nm:=x.toList) hlt
   have hI:(i:Int) < (vs.length:Int):=by omega
   have i1:InW g wr:=⟨hg⟩
   have C1:=Lib.hid (fun wx (hx:Below wr.heap.size wr wx)=>C.out (str vs[i].name) vs[i].name rfl (.int .i64 vs[i].vk) (.int .i64 vs[i].vn) (str vs[i].vs) wx (hk.trans (hx.mono hwz)))
   generalize vs[i] = v at *
   rcases he:(v.name == x.toList)
   ·rw [if_neg (by simpa using he),hf.out] at hm
    rw [he] at C1
    have hm':=Lib.hid hm.symm
    clear he hf hm C
    go_wp2_with ((with_reducible refine (C1.out _ (by (first | exact gwT | exact lzT))).mono ?_);intro e w1 hr;obtain ⟨rfl,p,rfl⟩:=hr.out;clear hr)
    go_roundw
    case rel=>exact ⟨i + 1,by go_num,by omega,hm',by (first | exact gwT | exact lzT)⟩
    case measure=>simp [intOf];omega
   ·rw [if_pos (by simpa using he),hf.out] at hm
    rw [he] at C1
    subst hm
    clear he hf C
    go_wp2_with ((with_reducible refine (C1.out _ (by (first | exact gwT | exact lzT))).mono ?_);intro e w1 hr;obtain ⟨rfl,p,rfl⟩:=hr.out;clear hr)
    go_returns
    exact ⟨rfl,by (first | exact gwT | exact lzT)⟩
  ·have hge:¬ (i:Int) < (vs.length:Int):=by omega
   have hm:=idxV_end (nm:=x.toList) (show vs.length ≤ i by omega)
   rw [hf.out] at hm
   subst hm
   clear hf
   go_wp2
   go_returns
   exact ⟨rfl,by (first | exact gwT | exact lzT)⟩
theorem vhas_of (va:Option Addr) (cap:Nat) (vs:List Vr) (x:ByteArray) (hn:vs.length ≤ 1000) (b:Nat) (w:World) (h:VrsRd w va vs) (hb:w.cell? ⟨b,0,none⟩ = some (.string x)) :
  Calls Tryz.prog 77 #[.slice va vs.length cap,nmF b] w (Ret (.bool (vs.any fun u=>u.name == x.toList)) w):=by
 have I:=Lib.hid (fun wx (hk:Below w.heap.size w wx)=>vidx_of va cap vs x hn b wx (vrs_keep h hk) ((hk.cell (p:=⟨b,0,none⟩) (World.block_lt_of_cell? _ _ hb)).trans hb))
 rw [← idxV_any vs 0]
 generalize idxV x.toList vs 0 = o at *
 clear h hb
 unfold nmF at *
 cases o with
 | none =>
  go_enter Tryz.func77,Tryz.ntmps77
  go_wp2_with ((with_reducible refine (I.out _ (by (first | exact gwT | exact lzT))).mono ?_);intro e w1 hr;obtain ⟨rfl,p,rfl⟩:=hr.out;clear hr)
  go_returns
  exact ⟨rfl,by (first | exact gwT | exact lzT)⟩
 | some i =>
  have hI:(0:Int) ≤ (i:Int):=by omega
  go_enter Tryz.func77,Tryz.ntmps77
  go_wp2_with ((with_reducible refine (I.out _ (by (first | exact gwT | exact lzT))).mono ?_);intro e w1 hr;obtain ⟨rfl,p,rfl⟩:=hr.out;clear hr)
  go_returns
  exact ⟨rfl,by (first | exact gwT | exact lzT)⟩
def NamIs (x:ByteArray) (w:World) (e:Ending) (w':World):Prop:=e = .returned (nmF w.heap.size) ∧ w'.cell? ⟨w.heap.size,0,none⟩ = some (.string x) ∧ Below w.heap.size w w'
theorem named_any (x:ByteArray) (w:World):Calls Tryz.prog 78 #[.string x] w (NamIs x w):=by
 have hmf:∀ (fn:Fn) (first cap:Array Value) (w:World),(Instr.makeFunc fn first cap).run Tryz.prog w = .ok (.func fn first cap) w:=fun _ _ _ _=>rfl
 go_enter Tryz.func78,Tryz.ntmps78
 go_wp2
 go_returns
 exact ⟨rfl,by simp [go_sem],by (first | exact gwT | exact lzT)⟩
end Go.Proofs.YtfgpmcepppcmiaaGreatDoor
namespace Go.Proofs.YtfgpmcepppcmiaaGreatDoor
open Go.RowKit
theorem quietH2 {P:Program} {f:FuncId} {args:Array Value} {w:World} {p g:Regrown} {v:Value} (h:Calls P f args (G (pq p g) w) (Ret v (G (pq p g) w))) :
  Calls P f args (G (pq p g) w) fun e w''=>e = .returned v ∧ ∃ q,w'' = G q (G g w) :=
 h.mono fun _ _ hr=>by
  obtain ⟨he,q,hq⟩:=hr.out
  exact ⟨he,pq q p,by rw [hq,← G_G p g,G_G q p]⟩
theorem quietH3 {P:Program} {f:FuncId} {args:Array Value} {w:World} {p g:Regrown} {v:Value} (h:Calls P f args (G (pq p g) w) (Ret v (G (pq p g) w))) :
  Calls P f args (G (pq p g) w) fun e w''=>e = .returned v ∧ ∃ q,w'' = G (pq q g) w :=
 h.mono fun _ _ hr=>by
  obtain ⟨he,q,hq⟩:=hr.out
  exact ⟨he,pq q p,by rw [hq,← G_G p g,G_G q p,G_G]⟩
section
variable {l:Lk} {lb:Nat}
theorem setE_kd {a:Ac} (h:(kdL l a.x).2 ≠ 0):setE l a = (kdL l a.x).2:=by unfold setE thenE;rw [if_neg h]
theorem setE_go {a:Ac} (h:(kdL l a.x).2 = 0):setE l a = setI l (kdL l a.x).1 (idxV a.name l.c.vars 0):=by unfold setE thenE;rw [if_pos h]
abbrev acV (a:Ac) (io xo:Option Addr) (ic xc:Nat):Value := .agg #[.int .i64 a.kind,.slice io a.cond.length ic,.string ⟨a.name.toArray⟩,.slice xo a.x.length xc,.int .i64 a.n]
set_option maxRecDepth 100000 in
set_option maxHeartbeats 4000000 in
theorem set_any (P:LkP l) (a:Ac) (io xo:Option Addr) (ic xc:Nat) (hf:FitN a.x) (w:World) (h:NdsAt w xo a.x) (H:LkAt w lb l) :
  Calls Tryz.prog 209 #[.pointer (some ⟨lb,0,none⟩),acV a io xo ic xc] w (Ret (.int .i64 (setE l a)) w):=by
 obtain ⟨B,rv,va,sa,oa,pa,vc,sc,oc,pc,H⟩:=H
 have K:=Lib.hid (fun wx (hb:Below w.heap.size w wx)=>kof_all oa pa oc pc l.vs l.ss xo xc a.x hf P.vn P.sn wx (nds_below h hb) (vars_below H.vs hb) (strs_below H.ss hb) (lb_below H.lb hb))
 obtain ⟨hl,c0,c1,c2,c3,c4⟩:=lk_cells H
 have V:=Lib.hid (fun b wx (hb:Below w.heap.size w wx) hx=>vidx_of va vc l.c.vars ⟨a.name.toArray⟩ (by have:=P.vars;omega) b wx (vrs_keep (vrs_of H.ch) hb) hx)
 have R:=Lib.hid (vrs_of H.ch)
 have i1:InW lb w:=⟨hl⟩
 have hlt:∀ i,idxV a.name l.c.vars 0 = some i → i < l.c.vars.length:=fun i hi=>by have:=idxV_lt hi;omega
 have e1:=@setE_kd l a
 have e2:=@setE_go l a
 unfold kdL at e1 e2
 obtain ⟨k,hk⟩:∃ k,kdE l.vs l.ss a.x = k:=⟨_,rfl⟩
 rw [hk] at K e1 e2
 replace hk:=Lib.hid hk
 clear H h hf hk
 by_cases h0:k.2 = 0
 ·have e2:=e2 h0
  have z0:(k.2 == 0) = true:=by rw [h0];rfl
  have z1:(k.2 != 0) = false:=by rw [bne,z0];rfl
  clear e1
  replace h0:=Lib.hid h0
  have en:(⟨a.name.toArray⟩:ByteArray).toList = a.name:=by rw [Lib.toList_data]
  rw [en] at V
  cases hi:idxV a.name l.c.vars 0 with
  | none =>
   rw [hi] at V e2
   rw [e2]
   rw [show setI l k.1 none = 24 from rfl]
   rw [show idxI none = -1 from rfl] at V
   clear e2 hlt hi
   go_enter Tryz.func209,Tryz.ntmps209
   go_wp2
   (refine wp_region_G (by kernel_rfl) (by kernel_rfl) ?_;(repeat (go_big_quiet_step (exact quietG (K.out _ (by (first | exact gwT | exact lzT))))));refine wpQuiet_nil ?_;intro _ hw';obtain ⟨pg,hw''⟩:=hw';subst hw'')
   go_wp2
   go_region_held3 (fun w'=>w'.cell? ⟨lb,1,none⟩ = some (.slice va l.c.vars.length vc) ∧ w'.cell? ⟨w.heap.size,2,none⟩ = some (.string ⟨a.name.toArray⟩)) ((refine ⟨?_,?_⟩ <;> first | assumption | (rw [cell_GI];assumption) | (simp [go_sem, *];done)))
    (first
     | ((with_reducible refine (named_any _ _).mono ?_);intro e w3 hr;obtain ⟨rfl,hx3,hb3⟩:=hr;obtain ⟨p3,rfl⟩:=toG hb3;clear hb3;(try simp only [G_drew,G_G,World.size_drew] at hx3))
     | ((with_reducible refine (V.out _ _ (by (first | exact gwT | exact lzT)) (by first | assumption | exact hx3 | (rw [← G_G];exact hx3))).mono ?_);intro e w4 hr;obtain ⟨rfl,p4,rfl⟩:=hr.out;clear hr))
   go_wp2
   go_returns
   exact ⟨rfl,by (first | exact gwT | exact lzT)⟩
  | some i =>
   have hil:=hlt i hi
   obtain ⟨g,rfl,hg,n1,n2,n3,n4⟩:=R.out i hil
   rw [hi] at V e2
   rw [e2]
   rw [show setI l k.1 (some i) = unl (l.c.vars[i].vk == k.1) 20 by show unl ((l.c.vars.getD i ⟨[],0,0,[]⟩).vk == k.1) 20 = _;rw [show l.c.vars.getD i ⟨[],0,0,[]⟩ = l.c.vars[i] by simp [List.getD,hil]]]
   rw [show idxI (some i) = (i:Int) from rfl] at V
   generalize l.c.vars[i] = v at *
   have U:=Lib.hid (fun b wx=>unless_any b 20 wx)
   have i2:InW g w:=⟨hg⟩
   have hI:(i:Int) < (l.c.vars.length:Int):=by omega
   clear e2 hlt hi
   go_enter Tryz.func209,Tryz.ntmps209
   go_wp2
   (refine wp_region_G (by kernel_rfl) (by kernel_rfl) ?_;(repeat (go_big_quiet_step (exact quietG (K.out _ (by (first | exact gwT | exact lzT))))));refine wpQuiet_nil ?_;intro _ hw';obtain ⟨pg,hw''⟩:=hw';subst hw'')
   go_wp2
   go_region_held3 (fun w'=>w'.cell? ⟨lb,1,none⟩ = some (.slice (some ⟨g,0,none⟩) l.c.vars.length vc) ∧ w'.cell? ⟨w.heap.size,2,none⟩ = some (.string ⟨a.name.toArray⟩)) ((refine ⟨?_,?_⟩ <;> first | assumption | (rw [cell_GI];assumption) | (simp [go_sem, *];done)))
    (first
     | ((with_reducible refine (named_any _ _).mono ?_);intro e w3 hr;obtain ⟨rfl,hx3,hb3⟩:=hr;obtain ⟨p3,rfl⟩:=toG hb3;clear hb3;(try simp only [G_drew,G_G,World.size_drew] at hx3))
     | ((with_reducible refine (V.out _ _ (by (first | exact gwT | exact lzT)) (by first | assumption | exact hx3 | (rw [← G_G];exact hx3))).mono ?_);intro e w4 hr;obtain ⟨rfl,p4,rfl⟩:=hr.out;clear hr))
   go_wp2_with ((with_reducible refine (U.out _ _).mono ?_);intro e w1 hr;obtain ⟨rfl,p,rfl⟩:=hr.out;clear hr)
   go_returns
   exact ⟨rfl,by (first | exact gwT | exact lzT)⟩
 ·have e1:=e1 h0
  have z0:(k.2 == 0) = false:=beq_eq_false_iff_ne.2 h0
  have z1:(k.2 != 0) = true:=by rw [bne,z0];rfl
  rw [e1]
  clear e1 e2
  replace h0:=Lib.hid h0
  go_enter Tryz.func209,Tryz.ntmps209
  go_wp2
  (refine wp_region_G (by kernel_rfl) (by kernel_rfl) ?_;(repeat (go_big_quiet_step (exact quietG (K.out _ (by (first | exact gwT | exact lzT))))));refine wpQuiet_nil ?_;intro _ hw';obtain ⟨pg,hw''⟩:=hw';subst hw'')
  go_wp2
  go_returns
  exact ⟨rfl,by (first | exact gwT | exact lzT)⟩
end
end Go.Proofs.YtfgpmcepppcmiaaGreatDoor
