/- Several texts of this proof, joined: MQ, MN. -/
import Derived.Test.YtacnlghljmgdiaaGreatDoorQ7
import Derived.WalkKit
import Derived.ProofKit
import Derived.OpenShut
import Derived.Handy
import Derived.BigQuiet
import Derived.OwnWalk
import Derived.Deep.AppendLies
import Derived.Lib.Hide
import Derived.WalkSmall
import Derived.WalkLawsBesides
namespace Go.Proofs.YtacnlghljmgdiaaGreatDoor
open Go.RowKit
def z7b (nm:List UInt8):List St → Nat → Option Nat
 | [],_=>none
 | s :: r,k=>if 0 < k ∧ s.name = nm then some k else z7b nm r (k + 1)
def z3c (p:Int):List St → Nat → List Nat
 | [],_=>[]
 | s :: r,k=>if s.parent = p then k :: z3c p r (k + 1) else z3c p r (k + 1)
def j5b (ss:List St) (outer:Int):Nat → Int → Bool
 | 0,_=>false
 | f + 1,i=>if i ≤ 0 then false else if (ss.getD i.toNat st0).parent = outer then true else j5b ss outer f (ss.getD i.toNat st0).parent
def q4b (ss:List St) (i outer:Int):Bool:=if i < 0 ∨ (ss.length:Int) ≤ i then false else j5b ss outer ss.length i
theorem y4n {nm:List UInt8} {ss:List St} {i:Nat} (h:i < ss.length):z7b nm (ss.drop i) i = if 0 < i ∧ ss[i].name = nm then some i else z7b nm (ss.drop (i + 1)) (i + 1):=by
 rw [List.drop_eq_getElem_cons h,z7b]
theorem y9z {nm:List UInt8} {ss:List St} {i:Nat} (h:ss.length ≤ i):z7b nm (ss.drop i) i = none:=by
 rw [List.drop_of_length_le h,z7b]
theorem y5b {p:Int} {ss:List St} {i:Nat} (h:i < ss.length):z3c p (ss.drop i) i = if ss[i].parent = p then i :: z3c p (ss.drop (i + 1)) (i + 1) else z3c p (ss.drop (i + 1)) (i + 1):=by
 rw [List.drop_eq_getElem_cons h,z3c]
theorem k0y {p:Int} {ss:List St} {i:Nat} (h:ss.length ≤ i):z3c p (ss.drop i) i = []:=by
 rw [List.drop_of_length_le h,z3c]
theorem q3b (p:Int):∀ (ss:List St) (k:Nat),(z3c p ss k).length ≤ ss.length
 | [],_=>by simp [z3c]
 | s :: r,k=>by
  have:=q3b p r (k + 1)
  rw [z3c]
  split <;> simp <;> omega
structure Par (ss:List St):Prop where
 root:(ss.getD 0 st0).parent = -1
 par:∀ i,0 < i → i < ss.length → 0 ≤ (ss.getD i st0).parent ∧ (ss.getD i st0).parent < (i:Int)
theorem k5a {ss:List St} {outer:Int} {f i:Nat}:j5b ss outer (f + 1) (i:Int) = if i = 0 then false else if (ss.getD i st0).parent = outer then true else j5b ss outer f (ss.getD i st0).parent:=by
 rw [j5b,Int.toNat_natCast]
 by_cases h:i = 0
 ·subst h;rfl
 ·rw [if_neg omT,if_neg h]
section
variable {B:Nat} {c:Ch} {rv:Nat → Value} {vv:Value}
theorem j8v {τ:CT} {vv sv:Value} {w:World} (h:ChV τ B w c rv vv sv):Hid (∀ wx,Below w.heap.size w wx → ChV τ B wx c rv vv sv):=hiT fun _ hb=>z1u h hb
set_option maxRecDepth 100000 in
set_option maxHeartbeats 4000000 in
theorem j5t {τ:CT} (so:Option Addr) (sc:Nat) (q:ByteArray) (hn:c.states.length ≤ 1000) (w:World) (h:ChV τ B w c rv vv (.slice so c.states.length sc)) :
  Calls Tryz.prog 148 #[.agg #[str c.name,vv,.slice so c.states.length sc],.string q] w (Ret (.tuple #[.int .i64 (((z7b q.data.toList c.states 0).getD 0:Nat):Int),.bool (z7b q.data.toList c.states 0).isSome]) w):=by
 have H:=j8v h
 have hS:=hiT (List.drop_zero (l:=c.states))
 clear h
 generalize hF:z7b q.data.toList c.states 0 = F
 have hF':Hid (z7b q.data.toList (c.states.drop 0) 0 = F):=hiT (by rw [hS.out];exact hF)
 clear hF hS
 go_enter Tryz.func148,Tryz.ntmps148
 go_wp2
 go_loopw [11] (fun x wr=>∃ (i:Nat),x = .int .i64 (i:Int) ∧ i ≤ c.states.length ∧ Hid (z7b q.data.toList (c.states.drop i) i = F) ∧ Below w.heap.size w wr) (fun x _=>c.states.length - (intOf x).toNat)
 case atStart=>exact ⟨0,rfl,Nat.zero_le _,hF',gzT⟩
 case round =>
  obtain ⟨i,rfl,hi,hf,hb⟩:=hrel
  rename World=>wr
  have hwz:=hb.size
  by_cases hlt:i < c.states.length
  ·obtain ⟨g,eo,ec,xo,xc,to',tc,rfl,hg,n1,n2,n3,n4,n5,n6,n7,_,_,_⟩:=z8h (H.out wr hb) i hlt
   have hm:=y4n (nm:=q.data.toList) hlt
   generalize c.states[i] = s at *
   have i1:InW g wr:=⟨hg⟩
   have hI:(i:Int) < (c.states.length:Int):=by omega
   by_cases hh:0 < i ∧ s.name = q.data.toList
   ·have hI0:(0:Int) < (i:Int):=by omega
    have e1:(s.name == q.toList) = true:=by rw [Lib.toList_data];simpa using hh.2
    rw [if_pos hh,hf.out] at hm
    subst hm
    replace hh:=hiT hh
    clear hf
    go_wp2
    go_returns
    exact ⟨rfl,gzT⟩
   ·rw [if_neg hh,hf.out] at hm
    have hm':=hiT hm.symm
    clear hf hm
    by_cases h0:0 < i
    ·have e1:(s.name == q.toList) = false:=by rw [Lib.toList_data];simpa using fun e=>hh ⟨h0,e⟩
     have hI0:(0:Int) < (i:Int):=by omega
     replace hh:=hiT hh
     go_wp2
     go_roundw
     case rel=>exact ⟨i + 1,by go_num,by omega,hm',gzT⟩
     case measure=>simp [intOf];omega
    ·have hI0:¬ (0:Int) < (i:Int):=by omega
     replace hh:=hiT hh
     go_wp2
     go_roundw
     case rel=>exact ⟨i + 1,by go_num,by omega,hm',gzT⟩
     case measure=>simp [intOf];omega
  ·have hI:¬ (i:Int) < (c.states.length:Int):=by omega
   have hm:=y9z (nm:=q.data.toList) (show c.states.length ≤ i by omega)
   rw [hf.out] at hm
   subst hm
   clear hf
   go_wp2
   go_returns
   exact ⟨rfl,gzT⟩
def v1b (ks:List Nat) (w:World) (e:Ending) (w':World):Prop:=∃ v,e = .returned v ∧ w'.ownsRow w.heap.size 3 1 v ks.length (z1h ks) ∧ Below w.heap.size w w'
set_option maxRecDepth 100000 in
set_option maxHeartbeats 4000000 in
theorem j5u {τ:CT} (so:Option Addr) (sc:Nat) (p:Int) (hn:c.states.length ≤ 1000) (w:World) (h:ChV τ B w c rv vv (.slice so c.states.length sc)) :
  Calls Tryz.prog 125 #[.agg #[str c.name,vv,.slice so c.states.length sc],.int .i64 p] w (v1b (z3c p c.states 0) w):=by
 have H:=j8v h
 have hk0:=q3b p c.states 0
 have hF':Hid (z3c p c.states 0 = [] ++ z3c p (c.states.drop 0) 0):=hiT (by rw [List.drop_zero];rfl)
 clear h
 generalize z3c p c.states 0 = F at *
 obtain ⟨j0,hj,hy1,hy2,hy3⟩:=info_parts Tryz.infoInt
 go_enter Tryz.func125,Tryz.ntmps125
 go_wp2
 go_loopw [5,11] (fun v x wr=>∃ (i:Nat) (ks:List Nat) (oa:Option Addr) (oc:Nat),x = .int .i64 (i:Int) ∧ i ≤ c.states.length ∧ Hid (F = ks ++ z3c p (c.states.drop i) i) ∧ v = .slice oa ks.length oc ∧ wr.ownsRow w.heap.size 3 1 (.slice oa ks.length oc) ks.length (z1h ks) ∧ Below w.heap.size w wr) (fun _ x _=>c.states.length - (intOf x).toNat)
 case atStart=>exact ⟨0,[],none,0,rfl,Nat.zero_le _,hF',rfl,World.ownsRow_nil _ _ _ _,gzT⟩
 case round =>
  obtain ⟨i,ks,oa,oc,rfl,hi,hf,rfl,hown,hb⟩:=hrel
  rename World=>wr
  have hwz:=hb.size
  have hkl:ks.length ≤ 1000:=by
   have:=congrArg List.length hf.out
   rw [List.length_append] at this
   omega
  have hownK:=hiT hown
  clear hown
  by_cases hlt:i < c.states.length
  ·obtain ⟨g,eo,ec,xo,xc,to',tc,rfl,hg,n1,n2,n3,n4,n5,n6,n7,_,_,_⟩:=z8h (H.out wr hb) i hlt
   have hm:=y5b (p:=p) hlt
   generalize c.states[i] = s at *
   have i1:InW g wr:=⟨hg⟩
   have hI:(i:Int) < (c.states.length:Int):=by omega
   by_cases hh:s.parent = p
   ·have e1:(s.parent == p) = true:=by simpa using hh
    rw [if_pos hh] at hm
    have hf2:Hid (F = (ks ++ [i]) ++ z3c p (c.states.drop (i + 1)) (i + 1)):=hiT (by rw [hf.out,hm];simp)
    replace hh:=hiT hh
    clear hf hm
    go_wp2_with (at_builtin;refine wpList_append_lies _ rfl _ _ 40 rfl w.heap.size 3 j0 _ 1 8 Tryz.underlying40 hj hy1 hy2 hy3 rfl deT (.slice oa ks.length oc) ks.length (z1h ks) rfl (z0a hownK.out gzT) ⟨_,0,none⟩ 1 1 [.int .i64 (i:Int)] rfl rfl (World.news_of_block (z0s (by simp))) (by intro u hu;simp at hu;subst hu;rfl) deT (by unfold maxLen;omega) omT (by simp [go_sem];omega) _ rfl ?_)
    intro g' cap' w1 hown1 hgrow hat1 hg1
    have hb1:Below w.heap.size w w1:=Below.grown gzT hgrow (by simp [go_sem];omega) (fun k hk=>(hownK.out.lt k hk).1)
    have hown2:=hiT hown1
    clear hown1 hgrow hat1 hg1 hownK hb
    go_wp2
    go_roundw
    case rel=>exact ⟨i + 1,ks ++ [i],_,cap',by go_num,by omega,hf2,by rw [List.length_append];rfl,by rw [List.length_append,show z1h (ks ++ [i]) = z1h ks ++ [.int .i64 (i:Int)] by simp [z1h]];exact hown2.out,hb1⟩
    case measure=>simp [intOf];omega
   ·have e1:(s.parent == p) = false:=by simpa using hh
    rw [if_neg hh] at hm
    have hf2:Hid (F = ks ++ z3c p (c.states.drop (i + 1)) (i + 1)):=hiT (by rw [hf.out,hm])
    replace hh:=hiT hh
    clear hf hm
    go_wp2
    go_roundw
    case rel=>exact ⟨i + 1,ks,oa,oc,by go_num,by omega,hf2,rfl,z0a hownK.out gzT,gzT⟩
    case measure=>simp [intOf];omega
  ·have hI:¬ (i:Int) < (c.states.length:Int):=by omega
   have hm:=k0y (p:=p) (show c.states.length ≤ i by omega)
   have hf2:F = ks:=by rw [hf.out,hm,List.append_nil]
   subst hf2
   clear hf hm
   go_wp2
   go_returns
   exact ⟨_,rfl,z0a hownK.out gzT,gzT⟩
set_option maxRecDepth 100000 in
set_option maxHeartbeats 4000000 in
theorem j9e (so:Option Addr) (sc:Nat) (i outer:Int) (hi:i < 0 ∨ (c.states.length:Int) ≤ i) (w:World) :
  Calls Tryz.prog 123 #[.agg #[str c.name,vv,.slice so c.states.length sc],.int .i64 i,.int .i64 outer] w (Ret (.bool false) w):=by
 rcases hi with hi | hi
 ·go_enter Tryz.func123,Tryz.ntmps123
  go_wp2
  go_returns
  exact ⟨rfl,gzT⟩
 ·by_cases h0:i < 0
  ·go_enter Tryz.func123,Tryz.ntmps123
   go_wp2
   go_returns
   exact ⟨rfl,gzT⟩
  ·go_enter Tryz.func123,Tryz.ntmps123
   go_wp2
   go_returns
   exact ⟨rfl,gzT⟩
set_option maxRecDepth 100000 in
set_option maxHeartbeats 4000000 in
theorem q0s {τ:CT} (so:Option Addr) (sc:Nat) (a:Nat) (outer:Int) (hn:c.states.length ≤ 1000) (hp:Par c.states) (ha:a < c.states.length) (w:World) (h:ChV τ B w c rv vv (.slice so c.states.length sc)) :
  Calls Tryz.prog 123 #[.agg #[str c.name,vv,.slice so c.states.length sc],.int .i64 (a:Int),.int .i64 outer] w (Ret (.bool (j5b c.states outer c.states.length (a:Int))) w):=by
 have H:=j8v h
 have hp':=hiT hp
 clear h hp
 obtain ⟨f,hf,hF⟩:∃ f,a ≤ f ∧ Hid (j5b c.states outer c.states.length (a:Int) = j5b c.states outer (f + 1) (a:Int)):=⟨c.states.length - 1,by omega,hiT (by rw [show c.states.length - 1 + 1 = c.states.length by omega])⟩
 generalize j5b c.states outer c.states.length (a:Int) = F at *
 obtain ⟨g,eo,ec,xo,xc,to',tc,rfl,hg,n1,n2,n3,n4,n5,n6,n7,_,_,_⟩:=z8h (H.out w (Below.refl _ _)) a ha
 have hpe:c.states[a].parent = (c.states.getD a st0).parent:=by rw [z9r ha]
 rw [hpe] at n3
 replace hpe:=hiT hpe
 have i1:InW g w:=⟨hg⟩
 have hA:(a:Int) < (c.states.length:Int):=by omega
 obtain ⟨p0,hp0⟩:∃ p0,(c.states.getD a st0).parent = p0:=⟨_,rfl⟩
 rw [hp0] at n3
 replace hp0:=hiT hp0
 go_enter Tryz.func123,Tryz.ntmps123
 go_wp2
 go_loopw [1,7] (fun x y wr=>∃ (i f:Nat),x = .int .i64 (i:Int) ∧ i ≤ f ∧ i < c.states.length ∧ Hid (F = j5b c.states outer (f + 1) (i:Int)) ∧ y = .int .i64 (c.states.getD i st0).parent ∧ Below w.heap.size w wr ∧ wr.cell? ⟨w.heap.size,2,none⟩ = some (.slice (some ⟨g,0,none⟩) c.states.length sc) ∧ w.heap.size < wr.heap.size) (fun x _ _=>(intOf x).toNat)
 case atStart=>exact ⟨a,f,rfl,hf,ha,hF,by rw [hp0.out],gzT,by simp [go_sem],by simp⟩
 case round =>
  obtain ⟨i,f,rfl,hif,hi,hF,rfl,hb,hc2,hlw⟩:=hrel
  rename World=>wr
  have hwz:=hb.size
  have i0:InW w.heap.size wr:=⟨hlw⟩
  have hm:=k5a (ss:=c.states) (outer:=outer) (f:=f) (i:=i)
  by_cases hi0:i = 0
  ·subst hi0
   rw [if_pos rfl] at hm
   have hF2:F = false:=by rw [hF.out,hm]
   subst hF2
   have hr:=hp'.out.root
   generalize (c.states.getD 0 st0).parent = pr at *
   subst hr
   clear hF hm
   go_wp2
   go_returns
   exact ⟨rfl,gzT⟩
  ·obtain ⟨q1,q2⟩:=hp'.out.par i omT hi
   rw [if_neg hi0] at hm
   obtain ⟨p,hpp⟩:∃ p:Nat,(c.states.getD i st0).parent = (p:Int):=⟨(c.states.getD i st0).parent.toNat,by omega⟩
   have hpl:p < c.states.length:=by omega
   rw [hpp] at hm q1 q2 ⊢
   have hpp':=hiT hpp
   clear hpp
   by_cases ho:(p:Int) = outer
   ·rw [if_pos ho] at hm
    have hF2:F = true:=by rw [hF.out,hm]
    subst hF2
    have e1:((p:Int) == outer) = true:=by simpa using ho
    replace ho:=hiT ho
    clear hF hm
    go_wp2
    go_returns
    exact ⟨rfl,gzT⟩
   ·rw [if_neg ho] at hm
    obtain ⟨f',rfl⟩:∃ f',f = f' + 1:=⟨f - 1,by omega⟩
    have hF2:Hid (F = j5b c.states outer (f' + 1) (p:Int)):=hiT (by rw [hF.out,hm])
    have e1:((p:Int) == outer) = false:=by simpa using ho
    replace ho:=hiT ho
    clear hF hm
    obtain ⟨g2,eo,ec,xo,xc,to',tc,hge,hg2,k1,k2,k3,k4,k5,k6,k7,_,_,_⟩:=z8h (H.out wr hb) p hpl
    cases hge
    rw [← z9r hpl] at k3
    have i2:InW g wr:=⟨hg2⟩
    have hP:(p:Int) < (c.states.length:Int):=by omega
    obtain ⟨pv,hpv⟩:∃ pv,(c.states.getD p st0).parent = pv:=⟨_,rfl⟩
    rw [hpv] at k3
    replace hpv:=hiT hpv
    go_wp2
    go_roundw
    case rel=>exact ⟨p,f',rfl,by omega,hpl,hF2,by rw [hpv.out],gzT,hc2,hlw⟩
    case measure=>simp [intOf];omega
end
def v7v (ls:List (List UInt8)) (w:World) (e:Ending) (w':World):Prop:=∃ v,e = .returned v ∧ w'.ownsRow w.heap.size 9 1 v ls.length (z6a ls) ∧ Below w.heap.size w w'
theorem x0d {w:World} {B:Nat} {ao:Option Addr} {n cap:Nat} {ls:List (List UInt8)} (h:w.ownsRow B 9 1 (.slice ao n cap) ls.length (z6a ls)) (i:Nat) (hi:i < ls.length):∃ g,ao = some ⟨g,0,none⟩ ∧ g < w.heap.size ∧ w.cell? ⟨g,i,none⟩ = some (str ls[i]):=by
 obtain ⟨g,cap',e,hg,_,_,hc⟩:=z1g h omT
 cases e
 exact ⟨g,rfl,hg,hc _ _ (by unfold z6a;rw [List.getElem?_map,List.getElem?_eq_getElem hi];rfl)⟩
end Go.Proofs.YtacnlghljmgdiaaGreatDoor
