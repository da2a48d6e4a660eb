/- Several texts of this proof, joined: MI, MS, MJ. -/
import Derived.Test.YtacnlghljmgdiaaGreatDoorQ4
import Derived.Test.YtacnlghljmgdiaaGreatDoorShelf4
import Derived.WalkKit
import Derived.ProofKit
import Derived.OpenShut
import Derived.Handy
import Derived.BigQuiet
import Derived.Lib.Hide
import Derived.WalkSmall
import Derived.WalkLawsBesides
import Derived.Test.YtacnlghljmgdiaaGreatDoorQ1
import Derived.Test.YtacnlghljmgdiaaGreatDoorZ1
import Derived.RangeFuncNested
import Derived.RangeFuncBound
import Derived.RangeFuncCalls
import Derived.RangeFuncLeaves
import Derived.Shelf.Abstract
import Derived.Shelf.RegionOpen
import Derived.OwnWalkIn
import Derived.TacticsInMore
import Derived.LoopNIn
import Derived.LoopIn
import Derived.Lib.IndexLaws
namespace Go.Proofs.YtacnlghljmgdiaaGreatDoor
open Go.RowKit
theorem q9o {ts:List Tk} {n m:Ln} {a b:Nat} (h:q1v ts n a = .ok (m,b)):m.kind = n.kind:=by
 unfold q1v at h
 split at h
 ·cases h
 ·split at h
  ·cases h
  ·split at h
   ·cases h
   ·cases h
    rfl
theorem j9w {ts:List Tk} {k:Nat} {m:Ln} {a b:Nat} (h:q1s ts k a = some (m,b)):m.kind = k:=by
 unfold q1s at h
 repeat' split at h
 all_goals first | (cases h;done) | (cases h;rfl)
theorem y6r {ts:List Tk} {k:Nat} {m:Ln} {a b:Nat} (h:j0e ts k a = .ok (m,b)):m.kind = k:=by
 unfold j0e at h
 split at h
 ·cases h;rfl
 ·split at h
  ·split at h
   ·cases h
   ·cases h;rfl
  ·split at h
   ·split at h
    ·cases h
    ·exact q9o h
   ·split at h
    ·exact q9o h
    ·split at h
     ·cases h
     ·rename_i hn
      cases h
      exact j9w hn
theorem y0h {l:List UInt8} {n:Ln} (h:z7j l = .ok n):1 ≤ n.kind ∧ n.kind ≤ 12:=by
 unfold z7j at h
 split at h
 ·cases h
 ·unfold y5l at h
  split at h
  ·cases h
  ·rename_i ts _ h0
   obtain ⟨h1,h2,_⟩:=j6f h0
   split at h
   ·cases h
   ·rename_i hr
    split at h
    ·cases h
    ·cases h
     rw [y6r hr]
     omega
def q3e (c:Ch) (o:Int) (l:List UInt8):Except Int (Ch × Int) :=
 if 400 < l.length then .error 15
 else if j0y l then .ok (c,o)
 else match z7j l with
  | .error e => .error e
  | .ok n=>z3d c o n
theorem j0z:∀ l,j0y l = (match Lib.trimLeftB l 32 with | []=>true | c :: _=>c == 35)
 | []=>rfl
 | c :: r=>by
  rw [j0y]
  by_cases h35:c = 35
  ·subst h35
   rfl
  ·rw [if_neg h35]
   by_cases h32:c = 32
   ·subst h32
    rw [if_pos rfl,j0z r]
    rfl
   ·rw [if_neg h32]
    have h1:(c == 32) = false:=by simpa using h32
    have h2:(c == 35) = false:=by simpa using h35
    unfold Lib.trimLeftB
    rw [List.dropWhile_cons,h1]
    simp [h2]
theorem v0k (s:ByteArray) (w:World):Calls Tryz.prog 73 #[.string s,.string ⟨#[32]⟩] w (z6k (.string ⟨(Lib.trimLeftB s.data.toList 32).toArray⟩) w) :=
 (Any.strings_TrimLeft_one Tryz.lays161 s 32 deT w).mono fun _ _ ⟨he,hw⟩=>⟨he,hw.symm⟩
section
variable {w0:World} {B bb:Nat} {c:Ch} {o:Int} {w:World}
theorem z8t {w':World} (h:BSt w0 B bb c o w) (hb:Below w.heap.size w w'):BSt w0 B bb c o w':=by
 obtain ⟨op,h1,h2⟩:=h
 exact ⟨op,z2x h1 hb,h2⟩
theorem j2z (h:BSt w0 B bb c o w):Fr B bb w0 w ∧ B ≤ w.heap.size:=by
 obtain ⟨op,h1,_⟩:=h
 exact z5v h1
theorem y8v {x:Except Int (Ch × Int)} {e:Ending} {w1:World} (h:z8p w0 B bb x e w1):∃ v,e = .returned (.int .i64 v):=by
 cases x with
 | error y=>exact ⟨_,h.1⟩
 | ok p=>exact ⟨_,h.1⟩
set_option maxRecDepth 100000 in
set_option maxHeartbeats 4000000 in
theorem y9h (s:ByteArray) (hw:Al w) (h:BSt w0 B bb c o w):Calls Tryz.prog 51 #[.pointer (some ⟨bb,0,none⟩),.string s] w (z8p w0 B bb (q3e c o s.data.toList)):=by
 have hB:=(j2z h).2
 by_cases h400:400 < s.size
 ·have e4:(400:Int) < (s.size:Int):=by omega
  have hst:q3e c o s.data.toList = .error 15:=by
   unfold q3e
   rw [if_pos (by rw [← Lib.size_eq];exact h400)]
  rw [hst]
  have hk:=hiT h
  clear h hst hw
  go_enter Tryz.func51,Tryz.ntmps51
  go_wp2
  go_returns
  exact ⟨rfl,rfl,j2z (z8t hk.out gzT)⟩
 ·have e4:¬ (400:Int) < (s.size:Int):=by omega
  have T:=hiT (fun wx=>v0k s wx)
  have hem:=j0z s.data.toList
  cases ht:Lib.trimLeftB s.data.toList 32 with
  | nil =>
   rw [ht] at hem
   rw [ht] at T
   have hst:q3e c o s.data.toList = .ok (c,o):=by
    unfold q3e
    rw [if_neg (by rw [← Lib.size_eq];exact h400),if_pos hem]
   rw [hst]
   have hk:=hiT h
   clear h hst hw ht hem
   go_enter Tryz.func51,Tryz.ntmps51
   go_wp2_with fail
   refine (T.out _).mono ?_
   rintro e w1 ⟨rfl,rfl⟩
   clear T
   go_wp2
   go_returns
   exact ⟨rfl,z8t hk.out gzT⟩
  | cons ch r =>
   rw [ht] at hem
   rw [ht] at T
   by_cases h35:ch = 35
   ·subst h35
    have hem2:j0y s.data.toList = true:=hem
    have hst:q3e c o s.data.toList = .ok (c,o):=by
     unfold q3e
     rw [if_neg (by rw [← Lib.size_eq];exact h400),if_pos hem2]
    rw [hst]
    have hk:=hiT h
    have hz:∀ h,((((⟨(35 :: r).toArray⟩:ByteArray)[0]'h).toNat:Int) == 35) = true:=fun h=>rfl
    clear h hst hw ht hem hem2
    go_enter Tryz.func51,Tryz.ntmps51
    go_wp2_with fail
    refine (T.out _).mono ?_
    rintro e w1 ⟨rfl,rfl⟩
    clear T
    go_wp2
    go_returns
    exact ⟨rfl,z8t hk.out gzT⟩
   ·have hst:q3e c o s.data.toList = match z7j s.data.toList with
      | .error e => .error e
      | .ok n=>z3d c o n:=by
     unfold q3e
     rw [if_neg (by rw [← Lib.size_eq];exact h400),if_neg (by rw [hem];simpa using h35)]
    have hz:∀ h,((((⟨(ch :: r).toArray⟩:ByteArray)[0]'h).toNat:Int) == 35) = false:=fun h=>by
     rw [beq_eq_false_iff_ne]
     intro e
     refine h35 (UInt8.toNat_inj.1 ?_)
     have e2:(((⟨(ch :: r).toArray⟩:ByteArray)[0]'h).toNat:Int) = (ch.toNat:Int):=rfl
     rw [e2] at e
     have:(35:UInt8).toNat = 35:=rfl
     omega
    have L:=y5t s omT w hw
    cases hp:z7j s.data.toList with
    | error x =>
     rw [hp] at hst L
     have hst2:q3e c o s.data.toList = .error x:=hst
     rw [hst2]
     have hk:=hiT h
     replace L:=hiT L
     clear h hst hst2 hw ht hem h35 hp
     go_enter Tryz.func51,Tryz.ntmps51
     go_wp2_with fail
     refine (T.out _).mono ?_
     rintro e w1 ⟨rfl,rfl⟩
     clear T
     go_wp2_with fail
     refine (L.out).mono ?_
     intro e w1 hr
     obtain ⟨rfl,hnz,hb1⟩:=hr
     have hq:=hiT (z8t hk.out hb1)
     clear L hk
     go_wp2
     go_returns
     exact ⟨rfl,hnz,j2z (z8t hq.out gzT)⟩
    | ok n =>
     rw [hp] at hst L
     have hst2:q3e c o s.data.toList = z3d c o n:=hst
     rw [hst2]
     obtain ⟨k1,k12⟩:=y0h hp
     have hk:=hiT h
     replace L:=hiT L
     clear h hst hst2 hw ht hem h35 hp
     obtain ⟨x,hx⟩:∃ x,z3d c o n = x:=⟨_,rfl⟩
     rw [hx]
     replace hx:=hiT hx
     go_enter Tryz.func51,Tryz.ntmps51
     go_wp2_with fail
     refine (T.out _).mono ?_
     rintro e w1 ⟨rfl,rfl⟩
     clear T
     go_wp2_with fail
     refine (L.out).mono ?_
     intro e w1 hr
     obtain ⟨av,iv,gv,tv,rfl,hV,hb1⟩:=hr
     obtain ⟨xo,xc,rfl⟩:∃ ao ac,av = .slice ao n.acts.length ac:=by
      obtain ⟨_,_,hh⟩:=hV.acts
      exact z0g hh
     obtain ⟨io,ic,rfl⟩:=z0g hV.cond
     obtain ⟨go,gc,rfl⟩:=z0g hV.goes
     obtain ⟨uo,uc,rfl⟩:∃ ao ac,tv = .slice ao n.thn.length ac:=by
      obtain ⟨_,_,hh⟩:=hV.thn
      exact z0g hh
     have hq:=z8t hk.out hb1
     have hVb:=y2l hV hB
     have A:=hiT (fun wx (hb:Below w1.heap.size w1 wx)=>k5z n _ _ _ _ (z8t hq hb) (q6e hVb hb) k1 k12)
     rw [hx.out] at A
     unfold lnC at A
     clear L hk hV hVb hq
     go_wp2_with fail
     refine (A.out _ gzT).mono ?_
     intro e w2 hr
     obtain ⟨v,rfl⟩:=y8v hr
     replace hr:=hiT hr
     clear A
     go_wp2
     go_returns
     exact z5e hr.out gzT (j5l hr.out)
end
attribute [local go_sem] Oper.semAt_some
theorem k7r (l:List UInt8):(Lib.indexByte l 10 = -1 ∧ z4e l = [l]) ∨ ∃ x r,l = x ++ 10 :: r ∧ Lib.indexByte l 10 = (x.length:Int) ∧ z4e l = x :: z4e r:=by
 have hge:=Lib.indexByte_ge l 10
 by_cases h:Lib.indexByte l 10 = -1
 ·refine .inl ⟨h,q5k l fun c hc e=>?_⟩
  obtain ⟨k,hk,he⟩:=List.mem_iff_getElem.1 hc
  exact Lib.indexByte_none h k (by rw [List.getElem?_eq_getElem hk,he,e])
 ·obtain ⟨o,ho⟩:∃ o:Nat,Lib.indexByte l 10 = (o:Int):=⟨(Lib.indexByte l 10).toNat,by omega⟩
  obtain ⟨h1,h2⟩:=Lib.indexByte_some ho
  have hlt:=(List.getElem?_eq_some_iff.1 h1).1
  have hl:l = l.take o ++ 10 :: l.drop (o + 1):=by
   have e:=(List.getElem?_eq_some_iff.1 h1).2
   rw [← e,← List.drop_eq_getElem_cons hlt,List.take_append_drop]
  refine .inr ⟨l.take o,l.drop (o + 1),hl,by rw [ho,List.length_take];omega,?_⟩
  have:z4e (l.take o ++ 10 :: l.drop (o + 1)) = l.take o :: z4e (l.drop (o + 1)):=j1g _ _ fun c hc e=>by
   obtain ⟨k,hk,he⟩:=List.mem_iff_getElem.1 hc
   rw [List.length_take] at hk
   refine h2 k omT ?_
   rw [List.getElem?_eq_getElem omT]
   rw [List.getElem_take] at he
   rw [he,e]
  rwa [← hl] at this
def z1x (w:World) (b:Nat) (v:Value) (t:TypeId):Prop:=w.heap[b]? = some (.cells #[v] t (0,0))
theorem z0r {w:World} {b:Nat} {v:Value} {t:TypeId} (h:z1x w b v t):w.cell? ⟨b,0,none⟩ = some v ∧ w.frozen? ⟨b,0,none⟩ = false ∧ b < w.heap.size :=
 ⟨(cell_of_row w b 0 _ _ _ h).trans rfl,frozen_of_row w b 0 _ _ h,(Array.getElem?_eq_some_iff.1 h).1⟩
def k7l (w:World) (s:Nat):Nat:=match w.cell? ⟨s,0,none⟩ with
 | some (.string x)=>x.size
 | _=>0
theorem k7e (l:List UInt8) (w:World):Calls Tryz.prog 102 #[.string ⟨l.toArray⟩,.string ⟨#[10]⟩] w fun e w'=>e = .returned (.int .i64 (Lib.indexByte l 10)) ∧ w' = w :=
 Any.strings_Index_one Tryz.lays143 ⟨l.toArray⟩ 10 w
theorem z7s {w:World} {b:Nat} {v u:Value} {t:TypeId} (h:z1x w b v t):z1x (w.setCell ⟨b,0,none⟩ u) b u t:=by
 have hlt:=(z0r h).2.2
 have h':w.heap[b] = .cells #[v] t (0,0):=by simpa [z1x,Array.getElem?_eq_getElem hlt] using h
 show (w.heap.modify b _)[b]? = _
 rw [Array.getElem?_eq_getElem (by simpa using hlt),Array.getElem_modify_self,h']
 rfl
theorem q0g {w:World} {b c:Nat} {v u:Value} {t:TypeId} (h:z1x w b v t) (hne:c ≠ b):z1x (w.setCell ⟨c,0,none⟩ u) b v t:=by
 unfold z1x
 rw [Below.heap_setCell _ _ _ _ (fun e=>hne (by simpa using e.symm))]
 exact h
def Abides (s:Nat) (J:List (List UInt8) → World → Prop):Prop:=∀ p W v,J p W → J p (W.setCell ⟨s,0,none⟩ v)
set_option maxRecDepth 100000 in
set_option maxHeartbeats 4000000 in
theorem k9q (n:Nat) (l b s k:Nat) (text:List UInt8) (htl:text.length ≤ 140737488351232) (hbs:b ≠ s) (hks:k ≠ s) (J Jx:List (List UInt8) → World → Prop) (hJ:Abides s J)
  (hY:∀ pre x W,J pre W → YieldAt Fence.wide (n - 1) Tryz.prog l #[.string ⟨x.toArray⟩] W fun e W' =>
   (e = .returned (.bool true) ∧ J (pre ++ [x]) W' ∧ ∀ j,j = b ∨ j = s ∨ j = k → W'.heap[j]? = W.heap[j]?) ∨ (e = .returned (.bool false) ∧ Jx (pre ++ [x]) W'))
  (W:World) (hb:z1x W b (.string ⟨#[10]⟩) 9) (hs:z1x W s (.string ⟨text.toArray⟩) 9) (hk:z1x W k (.int .i64 0) 3) (h0:J [] W) :
  CallsIn Fence.wide n Tryz.prog 100 #[.func (.yield l) #[] #[],.pointer (some ⟨b,0,none⟩),.pointer (some ⟨s,0,none⟩),.pointer (some ⟨k,0,none⟩)] W fun e W'=>(∃ v,e = .returned v) ∧
   (J (z4e text) W' ∨ ∃ pre post,z4e text = pre ++ post ∧ Jx pre W'):=by
 refine callsIn_of_wp Tryz.func100 rfl trivial ?_ rfl
 simp only [Tryz.ntmps100,List.size_toArray,List.length_cons,List.length_nil,Nat.reduceAdd,Nat.reduceSub,Array.replicate_succ,Array.replicate_zero,List.push_toArray,List.append_toArray,List.nil_append,List.cons_append]
 obtain ⟨cb,fb,lb⟩:=z0r hb
 gi_wp2
 clear cb fb lb
 gi_loopw [7] (fun _ wr=>∃ (pre:List (List UInt8)) (rest:List UInt8),z4e text = pre ++ z4e rest ∧ rest.length ≤ text.length ∧ J pre wr ∧ z1x wr b (.string ⟨#[10]⟩) 9 ∧ z1x wr s (.string ⟨rest.toArray⟩) 9 ∧ z1x wr k (.int .i64 0) 3) (fun _ wr=>k7l wr s)
 case atStart=>exact ⟨[],text,rfl,Nat.le_refl _,h0,hb,hs,hk⟩
 case round =>
  obtain ⟨pre,rest,hx,hrl,hJs,hb,hs,hk⟩:=hrel
  rename World=>wr
  obtain ⟨cb,fb,lb⟩:=z0r hb
  obtain ⟨cs,fs,ls⟩:=z0r hs
  obtain ⟨ck,fk,lk⟩:=z0r hk
  have X:=fun wx=>k7e rest wx
  rcases k7r rest with ⟨h1,h2⟩ | ⟨x,r,rfl,h1,h2⟩
  ·rw [h1] at X
   rw [h2] at hx
   obtain ⟨fn,tmps,assign,body,hy,hR⟩:=hY pre rest wr hJs
   gi_wp2
   refine ⟨trivial,fun h=>(by cases h),(callsIn_wide.2 (X _)).mono ?_⟩
   rintro e w' ⟨rfl,rfl⟩
   gi_wp2
   refine ⟨fun h=>(by cases h),hR.mono ?_⟩
   rintro e W' (⟨rfl,hJ',_⟩ | ⟨rfl,hJx⟩)
   ·gi_wp2
    go_end0
    exact ⟨⟨_,rfl⟩,.inl (by rw [hx];exact hJ')⟩
   ·gi_wp2
    go_end0
    exact ⟨⟨_,rfl⟩,.inr ⟨_,[],by rw [hx,List.append_nil],hJx⟩⟩
  ·rw [h1] at X
   rw [h2] at hx
   obtain ⟨fn,tmps,assign,body,hy,hR⟩:=hY pre x wr hJs
   rw [List.length_append,List.length_cons] at hrl
   have hsz:(⟨(x ++ 10 :: r).toArray⟩:ByteArray).size = x.length + 1 + r.length:=by rw [Lib.size_eq];simp;omega
   have s1:∀ wx,(Instr.slice 9 (.string ⟨(x ++ 10 :: r).toArray⟩) none (some (.int .i64 (x.length:Int))) none).run Tryz.prog wx = .ok (.string ⟨x.toArray⟩) wx:=fun wx=>by
    have:=run_slice_string_h (P:=Tryz.prog) wx 9 ⟨(x ++ 10 :: r).toArray⟩ Tryz.underlying9 .i64 (x.length:Int) omT omT
    rw [this,Lib.extract_eq]
    simp
   have s2:∀ wx,(Instr.slice 9 (.string ⟨(x ++ 10 :: r).toArray⟩) (some (.int .i64 ((x.length:Int) + 1))) none none).run Tryz.prog wx = .ok (.string ⟨r.toArray⟩) wx:=fun wx=>by
    have:=run_slice_string_l (P:=Tryz.prog) wx 9 ⟨(x ++ 10 :: r).toArray⟩ Tryz.underlying9 .i64 ((x.length:Int) + 1) omT omT
    rw [this,Lib.extract_eq,hsz]
    simp
   gi_wp2
   refine ⟨trivial,fun h=>(by cases h),(callsIn_wide.2 (X _)).mono ?_⟩
   rintro e w' ⟨rfl,rfl⟩
   gi_wp2
   refine ⟨fun h=>(by cases h),hR.mono ?_⟩
   rintro e W' (⟨rfl,hJ',hsame⟩ | ⟨rfl,hJx⟩)
   ·have hb':z1x W' b (.string ⟨#[10]⟩) 9:=(hsame b (.inl rfl)).trans hb
    have hs':z1x W' s (.string ⟨(x ++ 10 :: r).toArray⟩) 9:=(hsame s (.inr (.inl rfl))).trans hs
    have hk':z1x W' k (.int .i64 0) 3:=(hsame k (.inr (.inr rfl))).trans hk
    have hm:k7l w' s = x.length + 1 + r.length:=by unfold k7l;rw [cs,← hsz]
    clear cb fb lb cs fs ls ck fk lk hR hy hY X
    obtain ⟨cb,fb,lb⟩:=z0r hb'
    obtain ⟨cs,fs,ls⟩:=z0r hs'
    gi_wp2
    go_roundw
    case rel=>exact ⟨pre ++ [x],r,by rw [hx,List.append_assoc];rfl,by omega,hJ _ _ _ hJ',q0g hb' hbs.symm,z7s hs',q0g hk' hks.symm⟩
    case measure =>
     rw [hm]
     unfold k7l
     rw [(z0r (z7s hs')).1]
     show (⟨r.toArray⟩:ByteArray).size < _
     rw [Lib.size_eq]
     simp
   ·gi_wp2
    refine bodyPost_ret (results_none rfl _ _ _) rfl ?_
    exact ⟨⟨_,rfl⟩,.inr ⟨_,z4e r,by rw [hx,List.append_assoc];rfl,hJx⟩⟩
abbrev z9k (fn:FuncId) (tmps:Array Value) (ps:Array Tmp) (assign body:Code) (d:Nat) (st:LoopState) (pe:Option Code):Loop:={ state:=st,pending:=pe,fn,tmps,params:=ps,assign,body,defers:=d }
def v9q (H b s k:Nat) (I Ix:List (List UInt8) → World → Prop) (xs:List (List UInt8)) (W:World):Exit → Act → World → Prop
 | .normal,_,W'=>(∀ j,j = b ∨ j = s ∨ j = k ∨ j = H ∨ j = H + 1 → W'.heap[j]? = W.heap[j]?) ∧ I xs W'
 | .ret,_,W'=>(∀ j,j = H ∨ j = H + 1 → W'.heap[j]? = W.heap[j]?) ∧ Ix xs W'
 | .exit _,_,_=>False
 | .goto _,_,_=>False
 | .panic _,_,_=>False
 | .outgrown,_,_=>False
theorem y0k {g:Operand} {ps:Array Tmp} {assign body:Code} {Q:Exit → Act → World → Prop} {a:Act} {w:World} {n b s k:Nat} {text:List UInt8} (hn:1 ≤ n) (htl:text.length ≤ 140737488351232)
  (hg:a.eval g = .func (.func 100) #[] #[.pointer (some ⟨b,0,none⟩),.pointer (some ⟨s,0,none⟩),.pointer (some ⟨k,0,none⟩)]) (hps:ps.size = 1) (hbs:b ≠ s) (hks:k ≠ s)
  (hb:z1x w b (.string ⟨#[10]⟩) 9) (hs:z1x w s (.string ⟨text.toArray⟩) 9) (hk:z1x w k (.int .i64 0) 3)
  (I Ix:List (List UInt8) → World → Prop) (hI:∀ p W W' j,I p W → W.grownBy W' (some j) → j = s ∨ j = w.heap.size ∨ j = w.heap.size + 1 → I p W') (hIx:∀ p W W' j,Ix p W → W.grownBy W' (some j) → j = w.heap.size ∨ j = w.heap.size + 1 → Ix p W')
  (h0:∀ o o',I [] ((w.alloc o).alloc o')) (a₁:List UInt8 → Act)
  (hassign:∀ (l:Nat) (x:List UInt8) (W:World) (K:Act → World → Prop),K (a₁ x) W →
   assign.wpIn (Fence.wide.inRound l) (n - 1 - 1) Tryz.prog (Exit.then K (fun _ _ _=>False)) { tmps:=(ps.zip #[.string ⟨x.toArray⟩]).foldl (fun t (p,v)=>t.setIfInBounds p v) a.tmps,defers:=[] } W)
  (hbody:∀ (l:Nat) (pre:List (List UInt8)) (x:List UInt8) (W:World),I pre W → body.wpIn (Fence.wide.inRound l) (n - 1 - 1) Tryz.prog (v9q w.heap.size b s k I Ix (pre ++ [x]) W) (a₁ x) W)
  (hdone:∀ (D:Nat) (W:World),D = w.heap.size → I (z4e text) W → W.heap[D]? = some (.deferred (some [])) → Q .normal { a with defers:={ target := .collected D,args:=#[] } :: a.defers } W)
  (hstop:∀ (D:Nat) (pre post:List (List UInt8)) (W:World),D = w.heap.size → z4e text = pre ++ post → Ix pre W → W.heap[D]? = some (.deferred (some [])) → Code.ret.wpIn Fence.wide n Tryz.prog Q { a with defers:={ target := .collected D,args:=#[] } :: a.defers } W) :
  (Code.rangeFunc g ps assign body).wpIn Fence.wide n Tryz.prog Q a w:=by
 have lb:=(z0r hb).2.2
 have ls:=(z0r hs).2.2
 have lk:=(z0r hk).2.2
 refine wpIn_rangeFunc fun fn hfn=>?_
 obtain ⟨H,hH⟩:∃ H,w.heap.size = H:=⟨_,rfl⟩
 obtain ⟨W1,hW1⟩:∃ W1,(w.alloc (.deferred (some []))).alloc (.loop (z9k fn a.tmps ps assign body H .ready none)) = W1:=⟨_,rfl⟩
 have hl1:W1.heap[H + 1]? = some (.loop (z9k fn a.tmps ps assign body H .ready none)):=by
  have:=World.alloc_heap_new (w.alloc (.deferred (some []))) (.loop (z9k fn a.tmps ps assign body H .ready none))
  rwa [World.size_alloc,hH,hW1] at this
 have hk1:W1.heap[H]? = some (.deferred (some [])):=by
  rw [← hW1,← hH]
  exact (Below.heap_alloc _ _ _ (by simp)).trans (World.alloc_heap_new w _)
 have old:∀ {j:Nat} {v:Value} {t:TypeId},z1x w j v t → z1x W1 j v t:=fun {j v t} hj=>by
  have hlt:=(z0r hj).2.2
  rw [← hW1]
  exact (Below.heap_alloc _ _ _ (by rw [World.size_alloc];omega)).trans ((Below.heap_alloc _ _ _ hlt).trans hj)
 refine ⟨H + 1,[{ target := .collected H,args:=#[] }],W1,{ target := .fn (.func 100) #[.pointer (some ⟨b,0,none⟩),.pointer (some ⟨s,0,none⟩),.pointer (some ⟨k,0,none⟩)],args:=#[.func (.yield (H + 1)) #[] #[]] },W1,100,#[.func (.yield (H + 1)) #[] #[],.pointer (some ⟨b,0,none⟩),.pointer (some ⟨s,0,none⟩),.pointer (some ⟨k,0,none⟩)],W1,?_,?_,fun _ _=>trivial,?_,fun _=>hn,?_⟩
 ·rw [← hW1,← hH]
  exact run_enterLoop_outer _ _ _ _ _
 ·simp only [resolve,hg]
  simp [go_sem]
 ·simp only [invoke]
  exact enters_of Tryz.func100 krT rfl _ _
 have turn:∀ (W:World) (o':Obj),W.grownBy (W.putObj (H + 1) o') (some (H + 1)):=fun W o'=>grownBy_putObj' W (H + 1) o'
 refine (k9q (n - 1) (H + 1) b s k text htl hbs hks
  (fun pre W=>I pre W ∧ W.heap[H + 1]? = some (.loop (z9k fn a.tmps ps assign body H .ready none)) ∧ W.heap[H]? = some (.deferred (some [])))
  (fun pre W=>Ix pre W ∧ W.heap[H + 1]? = some (.loop (z9k fn a.tmps ps assign body H .done (some .ret))) ∧ W.heap[H]? = some (.deferred (some [])))
  (fun p W v h=>?_) (fun pre x W h=>?_) W1 (old hb) (old hs) (old hk) ⟨by rw [← hW1];exact h0 _ _,hl1,hk1⟩).mono ?_
 ·obtain ⟨h1,h2,h3⟩:=h
  have hg':W.grownBy (W.setCell ⟨s,0,none⟩ v) (some s):=by
   refine ⟨rfl,rfl,rfl,Nat.le_of_eq (by simp [World.setCell]),fun j hj hne=>?_⟩
   rw [Below.heap_setCell _ _ _ _ fun e=>hne (by simp at e;rw [e])]
  refine ⟨hI _ _ _ _ h1 hg' (.inl rfl),?_,?_⟩
  ·rw [hg'.block _ (Array.getElem?_eq_some_iff.1 h2).1 (by simp;omega)];exact h2
  ·rw [hg'.block _ (Array.getElem?_eq_some_iff.1 h3).1 (by simp;omega)];exact h3
 ·obtain ⟨hi,hl,hd⟩:=h
  have hlt:=(Array.getElem?_eq_some_iff.1 hl).1
  refine ⟨fn,_,assign,body,run_yield hl (by simp [hps]),roundIn_of_wpIn trivial (hassign _ x W _ ⟨_,run_beginRound hl rfl,?_⟩)⟩
  obtain ⟨W2,hW2⟩:∃ W2,W.putObj (H + 1) (.loop { z9k fn a.tmps ps assign body H .ready none with state := .busy }) = W2:=⟨_,rfl⟩
  rw [hW2]
  have g2:W.grownBy W2 (some (H + 1)):=hW2 ▸ turn W _
  have hl2:W2.heap[H + 1]? = some (.loop (z9k fn a.tmps ps assign body H .busy none)):=hW2 ▸ World.putObj_heap_same hlt
  have hd2:W2.heap[H]? = some (.deferred (some [])):=(g2.block _ omT (by simp)).trans hd
  refine wpIn_mono (hbody _ pre x W2 (hI _ _ _ _ hi g2 (.inr (.inr (by rw [hH])))) ) ?_
  rw [hH]
  rintro e a3 W3 hp
  have fin:∀ (jump:Option Code),W3.heap[H + 1]? = W2.heap[H + 1]? → (Instr.endRound (H + 1) jump).run Tryz.prog W3 = .ok (.bool jump.isNone) (W3.putObj (H + 1) (.loop (z9k fn a.tmps ps assign body H (if jump.isNone then .ready else .done) jump))) ∧
    (W3.putObj (H + 1) (.loop (z9k fn a.tmps ps assign body H (if jump.isNone then .ready else .done) jump))).heap[H + 1]? = some (.loop (z9k fn a.tmps ps assign body H (if jump.isNone then .ready else .done) jump)):=fun jump he=>by
   have h3:=he.trans hl2
   exact ⟨run_endRound jump h3,World.putObj_heap_same (Array.getElem?_eq_some_iff.1 h3).1⟩
  have fd:∀ o',W3.heap[H]? = W2.heap[H]? → (W3.putObj (H + 1) o').heap[H]? = some (.deferred (some [])):=fun o' he=>by
   have h3:=he.trans hd2
   exact ((turn W3 o').block _ (Array.getElem?_eq_some_iff.1 h3).1 (by simp)).trans h3
  cases e with
  | normal =>
   obtain ⟨hs3,hi3⟩:=hp
   obtain ⟨hr,hl4⟩:=fin none (hs3 _ (by simp))
   refine ⟨_,_,hr,.inl ⟨rfl,⟨hI _ _ _ _ hi3 (turn W3 _) (.inr (.inr (by rw [hH]))),hl4,fd _ (hs3 _ (by simp))⟩,fun j hj=>?_⟩⟩
   have hj':j < H:=by rcases hj with rfl | rfl | rfl <;> omega
   have e1:=hs3 j (by rcases hj with e | e | e <;> simp [e])
   have e2:=g2.block j omT (by simp;omega)
   have hz:j < W3.heap.size:=by
    have:j < W2.heap.size:=Nat.lt_of_lt_of_le omT g2.size
    have h5:=Array.getElem?_eq_getElem this
    rw [← e1] at h5
    exact (Array.getElem?_eq_some_iff.1 h5).1
   exact ((turn W3 _).block j hz (by simp;omega)).trans (e1.trans e2)
  | ret =>
   obtain ⟨hs3,hi3⟩:=hp
   obtain ⟨hr,hl4⟩:=fin (some .ret) (hs3 _ (by simp))
   exact ⟨_,_,hr,.inr ⟨rfl,hIx _ _ _ _ hi3 (turn W3 _) (.inr (by rw [hH])),hl4,fd _ (hs3 _ (by simp))⟩⟩
  | exit id=>exact hp.elim
  | goto t=>exact hp.elim
  | panic ch=>exact hp.elim
  | outgrown=>exact hp.elim
 ·rintro e W2 ⟨⟨v,rfl⟩,(⟨hi,hl,hd⟩ | ⟨pre,post,hpp,hi,hl,hd⟩)⟩
  ·have ht:=turn W2 (.loop (z9k fn a.tmps ps assign body H .exhausted none))
   have hd':=(ht.block _ (Array.getElem?_eq_some_iff.1 hd).1 (by simp)).trans hd
   exact ⟨none,_,run_endLoop hl (by simp),hdone H _ hH.symm (hI _ _ _ _ hi ht (.inr (.inr (by rw [hH])))) hd'⟩
  ·have ht:=turn W2 (.loop (z9k fn a.tmps ps assign body H .exhausted (some .ret)))
   have hd':=(ht.block _ (Array.getElem?_eq_some_iff.1 hd).1 (by simp)).trans hd
   exact ⟨some .ret,_,run_endLoop hl (by simp),hstop H pre post _ hH.symm hpp (hIx _ _ _ _ hi ht (.inr (by rw [hH]))) hd'⟩
attribute [local go_sem] Oper.semAt_some
def v7t (s:ByteArray) (w:World) (e:Ending) (w':World):Prop:=∃ b i k,e = .returned (.func (.func 100) #[] #[.pointer (some ⟨b,0,none⟩),.pointer (some ⟨i,0,none⟩),.pointer (some ⟨k,0,none⟩)]) ∧
 z1x w' b (.string ⟨#[10]⟩) 9 ∧ z1x w' i (.string s) 9 ∧ z1x w' k (.int .i64 0) 3 ∧ b ≠ i ∧ k ≠ i ∧ w.heap.size ≤ b ∧ w.heap.size ≤ i ∧ w.heap.size ≤ k ∧ Below w.heap.size w w'
theorem z7x {w:World} {b:Nat} {v:Value} {t:TypeId} (o:Obj) (h:z1x w b v t):z1x (w.alloc o) b v t:=z0j h
theorem z1s {w w':World} {b:Nat} {v:Value} {t:TypeId} (h:z1x w b v t) (hb:Below w.heap.size w w'):z1x w' b v t:=z0c h hb
theorem y0v (s:ByteArray) (w:World):Calls Tryz.prog 72 #[.string s,.string ⟨#[10]⟩,.int .i64 0] w (v7t s w):=by
 go_enter Tryz.func72,Tryz.ntmps72
 go_wp2
 go_returns
 have h1:z1x (w.alloc (.cells #[.string s] 9)) w.heap.size (.string s) 9:=heap_alloc_new w _
 have h2:z1x ((w.alloc (.cells #[.string s] 9)).alloc (.cells #[.string ⟨#[10]⟩] 9)) (w.heap.size + 1) (.string ⟨#[10]⟩) 9:=z0s (by simp)
 exact ⟨w.heap.size + 1,w.heap.size,w.heap.size + 1 + 1,rfl,z7x _ h2,z7x _ (z7x _ h1),z0s (by simp),by omega,by omega,by omega,by omega,by omega,gzT⟩
theorem j7s (s:ByteArray) (w:World):Calls Tryz.prog 50 #[.string s,.string ⟨#[10]⟩] w (v7t s w):=by
 have S:=hiT (y0v s w)
 go_enter Tryz.func50,Tryz.ntmps50
 go_wp2_with fail
 refine S.out.mono ?_
 intro e w1 hr
 obtain ⟨b,i,k,rfl,hr⟩:=hr
 replace hr:=hiT hr
 clear S
 go_wp2
 go_returns
 exact ⟨b,i,k,rfl,hr.out⟩
theorem z4q {w w':World} {b j:Nat} {v:Value} {t:TypeId} (h:z1x w b v t) (hg:w.grownBy w' (some j)) (hne:b ≠ j):z1x w' b v t:=(hg.block b (z0r h).2.2 (by simpa using hne)).trans h
theorem y9f {w w':World} {b j:Nat} {o:Obj} (h:w.heap[b]? = some o) (hg:w.grownBy w' (some j)) (hne:b ≠ j):w'.heap[b]? = some o:=(hg.block b (Array.getElem?_eq_some_iff.1 h).1 (by simpa using hne)).trans h
theorem y9i {w0:World} {B bb j:Nat} {c:Ch} {o:Int} {w w':World} (h:BSt w0 B bb c o w) (hg:w.grownBy w' (some j)) (hj:j < B) (hne:bb ≠ j):BSt w' B bb c o w':=by
 obtain ⟨op,⟨rv,vv,sv,ov,h1⟩,h2⟩:=h
 exact ⟨op,⟨rv,vv,sv,ov,q7d h1 hg hj hne⟩,h2⟩
theorem k6h {w0:World} {B bb:Nat} {c:Ch} {o:Int} {w:World} (h:BSt w0 B bb c o w):BSt w B bb c o w:=by
 obtain ⟨op,⟨rv,vv,sv,ov,h1⟩,h2⟩:=h
 exact ⟨op,⟨rv,vv,sv,ov,v3e h1⟩,h2⟩
theorem k6i {B bb:Nat} {w:World} (h:w.heap[bb]? = some (.cells #[.string ⟨#[]⟩,.slice none 0 0,.slice none 0 0,.slice none 0 0,.int .i64 0] 129 (0,0))) (hlow:bb < B) (htop:B ≤ w.heap.size):BSt w B bb ch0 (-1) w:=by
 refine ⟨[],⟨fun _ => .slice none 0 0,_,_,_,⟨h,World.ownsRow_nil _ _ _ _,World.ownsRow_nil _ _ _ _,?_,World.ownsRow_nil _ _ _ _,hlow,htop,j9k _ _ _⟩⟩,.inl ⟨rfl,rfl,rfl⟩⟩
 exact ⟨fun i=>z3v _ _ _,fun i=>z3v _ _ _,fun i=>q3y _ _ _,fun _ _ _ => .inl rfl⟩
structure OutC (w:World) (a1 a2:Nat) (y n:Int) (w':World):Prop where
 ch:w'.heap[w.heap.size]? = some (.cells #[.string ⟨#[]⟩,.slice none 0 0,.slice none 0 0] 72 (0,0))
 er:z1x w' a1 (.int .i64 y) 73
 at_:z1x w' a2 (.int .i64 n) 3
 env:Below w.heap.size w w'
theorem q6i {w w1 w2:World} {a1 a2 j:Nat} {y n:Int} (h:OutC w a1 a2 y n w1) (hg:w1.grownBy w2 (some j)) (h0:w.heap.size < j) (h1:a1 ≠ j) (h2:a2 ≠ j):OutC w a1 a2 y n w2 :=
 ⟨y9f h.ch hg omT,z4q h.er hg h1,z4q h.at_ hg h2,h.env.grown hg h.env.size fun k e=>by cases e;omega⟩
theorem z6t {w w1:World} {a1 a2:Nat} {y n:Int} (h:OutC w a1 a2 y n w1):(w1.cell? ⟨w.heap.size,0,none⟩ = some (.string ⟨#[]⟩) ∧ w1.cell? ⟨w.heap.size,1,none⟩ = some (.slice none 0 0) ∧ w1.cell? ⟨w.heap.size,2,none⟩ = some (.slice none 0 0) ∧ w.heap.size < w1.heap.size ∧ ∀ i,w1.frozen? ⟨w.heap.size,i,none⟩ = false) ∧
  (w1.cell? ⟨a1,0,none⟩ = some (.int .i64 y) ∧ w1.frozen? ⟨a1,0,none⟩ = false ∧ a1 < w1.heap.size) ∧ (w1.cell? ⟨a2,0,none⟩ = some (.int .i64 n) ∧ w1.frozen? ⟨a2,0,none⟩ = false ∧ a2 < w1.heap.size):=by
 refine ⟨⟨?_,?_,?_,lt_of_block h.ch,fun i=>frozen_of_row w1 _ i _ _ h.ch⟩,z0r h.er,z0r h.at_⟩
 all_goals
  rw [cell_of_row w1 _ _ _ _ _ h.ch]
  rfl
theorem z0v {w:World} {b i j:Nat} {v:Value} (h:j ≠ b):(w.setCell ⟨b,i,none⟩ v).heap[j]? = w.heap[j]?:=Below.heap_setCell _ _ _ _ (fun e=>h (by simpa using e))
theorem z6q (w:World) (b i:Nat) (v:Value):w.grownBy (w.setCell ⟨b,i,none⟩ v) (some b):=⟨rfl,rfl,rfl,Nat.le_of_eq (by simp [World.setCell]),fun j _ hne=>z0v (by simpa using hne)⟩
theorem q7m {w:World} {j:Nat}:w.drew.heap[j]? = w.heap[j]?:=rfl
section
variable {w w1:World} {a1 a2:Nat} {y n:Int}
theorem q8f (h:OutC w a1 a2 y n w1):OutC w a1 a2 y n w1.drew:=⟨h.ch,h.er,h.at_,h.env.drew⟩
theorem j4a (h1:w.heap.size < a1) (h2:w.heap.size < a2) (h:OutC w a1 a2 y n w1):OutC w a1 a2 y n (w1.setCell ⟨w.heap.size,0,none⟩ (.string ⟨#[]⟩)):=⟨z0l h.ch,q0g h.er omT,q0g h.at_ omT,h.env.setCell (p:=⟨_,_,none⟩) (Nat.le_refl _) _⟩
theorem j4b (h1:w.heap.size < a1) (h2:w.heap.size < a2) (h:OutC w a1 a2 y n w1):OutC w a1 a2 y n (w1.setCell ⟨w.heap.size,1,none⟩ (.slice none 0 0)):=⟨z0l h.ch,(z0v omT).trans h.er,(z0v omT).trans h.at_,h.env.setCell (p:=⟨_,_,none⟩) (Nat.le_refl _) _⟩
theorem j4c (h1:w.heap.size < a1) (h2:w.heap.size < a2) (h:OutC w a1 a2 y n w1):OutC w a1 a2 y n (w1.setCell ⟨w.heap.size,2,none⟩ (.slice none 0 0)):=⟨z0l h.ch,(z0v omT).trans h.er,(z0v omT).trans h.at_,h.env.setCell (p:=⟨_,_,none⟩) (Nat.le_refl _) _⟩
theorem y0f {z:Int} (h1:w.heap.size < a1) (h2:a1 ≠ a2) (h:OutC w a1 a2 y n w1):OutC w a1 a2 z n (w1.setCell ⟨a1,0,none⟩ (.int .i64 z)):=⟨(z0v omT).trans h.ch,z7s h.er,q0g h.at_ h2,h.env.setCell (p:=⟨_,_,none⟩) (Nat.le_of_lt h1) _⟩
theorem y0e {z:Int} (h1:w.heap.size < a2) (h2:a1 ≠ a2) (h:OutC w a1 a2 y n w1):OutC w a1 a2 y z (w1.setCell ⟨a2,0,none⟩ (.int .i64 z)):=⟨(z0v omT).trans h.ch,q0g h.er h2.symm,z7s h.at_,h.env.setCell (p:=⟨_,_,none⟩) (Nat.le_of_lt h1) _⟩
theorem y2v {b i:Nat} {v:Value} (h0:w.heap.size < b) (h1:a1 ≠ b) (h2:a2 ≠ b) (h:OutC w a1 a2 y n w1):OutC w a1 a2 y n (w1.setCell ⟨b,i,none⟩ v):=⟨(z0v omT).trans h.ch,(z0v h1).trans h.er,(z0v h2).trans h.at_,h.env.setCell (p:=⟨_,_,none⟩) (Nat.le_of_lt h0) _⟩
end
theorem k5t {w0 w1:World} {B bb:Nat} {x:Except Int (Ch × Int)} {e:Ending} (h:z8p w0 B bb x e w1):Fr B bb w0 w1:=by
 cases x with
 | error y=>exact h.2.2.1
 | ok p=>exact (j2z h.2).1
theorem v5q {w w1 w2:World} {a1 a2 B bb:Nat} {y n:Int} (h:OutC w a1 a2 y n w1) (hf:Fr B bb w1 w2) (h0:w.heap.size < B) (h1:w.heap.size < bb) (h2:a1 < B) (h3:a1 ≠ bb) (h4:a2 < B) (h5:a2 ≠ bb):OutC w a1 a2 y n w2 :=
 ⟨(hf.block _ h0 omT).trans h.ch,(hf.block _ h2 h3).trans h.er,(hf.block _ h4 h5).trans h.at_,h.env.trans ⟨hf.os,hf.tape,hf.output,hf.size,fun k hk=>hf.block k omT omT⟩⟩
structure ChV (τ:CT) (B:Nat) (w:World) (c:Ch) (rv:Nat → Value) (vv sv:Value):Prop where
 vars:w.ownsRow B τ.vr 4 vv c.vars.length (j0g c.vars)
 sts:w.ownsRow B τ.st 7 sv c.states.length (q1t c.states 0 rv)
 ent:∀ i,z2i τ B w (rv (3 * i)) (c.states.getD i st0).enter
 exi:∀ i,z2i τ B w (rv (3 * i + 1)) (c.states.getD i st0).exit
 trs:∀ i,z9m τ B w (rv (3 * i + 2)) (c.states.getD i st0).trans
theorem v8c {w0 w:World} {B B' bb:Nat} {c:Ch} {op:List Nat} {m:Nat} {rv:Nat → Value} {vv sv ov:Value} (h:BdIs w0 B bb c op m rv vv sv ov w) (hB:B' ≤ B):ChV ct0 B' w c rv vv sv :=
 ⟨z0m h.vars hB,z0m h.sts hB,fun i=>z1c (z9q hB) (h.rows.ent i) fun _ _ k=>z0m k hB,fun i=>z1c (z9q hB) (h.rows.exi i) fun _ _ k=>z0m k hB,fun i=>z4x (z9q hB) (h.rows.trs i) fun _ _ k=>z0m k hB⟩
theorem v5r {w w1:World} {a1 a2:Nat} {v0 v1 v2:Value} (h:OutC w a1 a2 0 0 w1) (h1:w.heap.size < a1) (h2:w.heap.size < a2) (h12:a1 ≠ a2) :
  (((((w1.setCell ⟨w.heap.size,0,none⟩ v0).setCell ⟨w.heap.size,1,none⟩ v1).setCell ⟨w.heap.size,2,none⟩ v2).setCell ⟨a1,0,none⟩ (.int .i64 0)).setCell ⟨a2,0,none⟩ (.int .i64 0)).heap[w.heap.size]? = some (.cells #[v0,v1,v2] 72 (0,0)) ∧
  z1x (((((w1.setCell ⟨w.heap.size,0,none⟩ v0).setCell ⟨w.heap.size,1,none⟩ v1).setCell ⟨w.heap.size,2,none⟩ v2).setCell ⟨a1,0,none⟩ (.int .i64 0)).setCell ⟨a2,0,none⟩ (.int .i64 0)) a1 (.int .i64 0) 73 ∧
  z1x (((((w1.setCell ⟨w.heap.size,0,none⟩ v0).setCell ⟨w.heap.size,1,none⟩ v1).setCell ⟨w.heap.size,2,none⟩ v2).setCell ⟨a1,0,none⟩ (.int .i64 0)).setCell ⟨a2,0,none⟩ (.int .i64 0)) a2 (.int .i64 0) 3 ∧
  Below w.heap.size w (((((w1.setCell ⟨w.heap.size,0,none⟩ v0).setCell ⟨w.heap.size,1,none⟩ v1).setCell ⟨w.heap.size,2,none⟩ v2).setCell ⟨a1,0,none⟩ (.int .i64 0)).setCell ⟨a2,0,none⟩ (.int .i64 0)):=by
 refine ⟨(z0v omT).trans ((z0v omT).trans (z0l (z0l (z0l h.ch)))),?_,?_,?_⟩
 ·exact (z0v h12).trans (z7s ((z0v omT).trans ((z0v omT).trans ((z0v omT).trans h.er))))
 ·exact z7s ((z0v h12.symm).trans ((z0v omT).trans ((z0v omT).trans ((z0v omT).trans h.at_))))
 ·exact ((((h.env.setCell (p:=⟨_,_,none⟩) (Nat.le_refl _) _).setCell (p:=⟨_,_,none⟩) (Nat.le_refl _) _).setCell (p:=⟨_,_,none⟩) (Nat.le_refl _) _).setCell (p:=⟨_,_,none⟩) (Nat.le_of_lt h1) _).setCell (p:=⟨_,_,none⟩) (Nat.le_of_lt h2) _
def x2u (x:Except (Int × Nat) Ch) (w:World) (e:Ending) (w':World):Prop :=
 match x with
 | .error (y,n)=>e = .returned (.tuple #[.agg #[.string ⟨#[]⟩,.slice none 0 0,.slice none 0 0],.int .i64 y,.int .i64 (n:Int)]) ∧ (y == 0) = false ∧ Below w.heap.size w w'
 | .ok c=>∃ rv vv sv,e = .returned (.tuple #[.agg #[str c.name,vv,sv],.int .i64 0,.int .i64 0]) ∧ ChV ct0 w.heap.size w' c rv vv sv ∧ Below w.heap.size w w'
theorem q3p:∀ (ls:List (List UInt8)) (i:Nat) (x:List UInt8) (c:Ch) (o:Int),j4k i (ls ++ [x]) c o = (match j4k i ls c o with
  | .error e => .error e
  | .ok (d,p)=>if i + ls.length = 400 then .error (13,i + ls.length + 1) else match q3e d p x with
   | .error e => .error (e,i + ls.length + 1)
   | .ok q => .ok q)
 | [],i,x,c,o=>by
  simp only [List.nil_append,j4k,List.length_nil,Nat.add_zero]
  unfold q3e
  split
  ·rfl
  ·split
   ·rfl
   ·split
    ·rfl
    ·cases z7j x with
     | error e=>rfl
     | ok n =>
      simp only
      cases z3d c o n with
      | error e=>rfl
      | ok q=>rfl
 | l :: ls,i,x,c,o=>by
  rw [List.cons_append,j4k,j4k,List.length_cons,show i + (ls.length + 1) = i + 1 + ls.length by omega]
  split
  ·rfl
  ·split
   ·rfl
   ·split
    ·exact q3p ls (i + 1) x c o
    ·cases z7j l with
     | error e=>rfl
     | ok n =>
      simp only
      cases z3d c o n with
      | error e=>rfl
      | ok q=>exact q3p ls (i + 1) x q.1 q.2
theorem k9e {i:Nat} {post:List (List UInt8)} {c:Ch} {o:Int} {e:Int × Nat}:∀ {pre:List (List UInt8)},j4k i pre c o = .error e → j4k i (pre ++ post) c o = .error e:=by
 induction post with
 | nil=>intro pre h;rw [List.append_nil];exact h
 | cons x post ih =>
  intro pre h
  rw [show pre ++ x :: post = (pre ++ [x]) ++ post by simp]
  refine ih ?_
  rw [q3p,h]
set_option maxRecDepth 100000 in
set_option maxHeartbeats 4000000 in
theorem j0v (s:ByteArray) (hs:s.size ≤ 140737488351232) (w:World) (hw:Al w):Calls Tryz.prog 18 #[.string s] w (x2u (z3q s.data.toList) w):=by
 refine (callsIn_wide (n:=9)).1 ?_
 refine callsIn_of_wp_marks Tryz.func18 rfl trivial ?_ rfl
 simp only [Tryz.ntmps18,List.size_toArray,List.length_cons,List.length_nil,Nat.reduceAdd,Nat.reduceSub,Array.replicate_succ,Array.replicate_zero,List.push_toArray,List.append_toArray,List.nil_append,List.cons_append]
 gi_wp2
 refine ⟨trivial,(callsIn_wide.2 (j7s s _)).mono ?_⟩
 rintro e W ⟨b,i,k,rfl,hcb,hci,hck,hbi,hki,lb,li,lk,hW⟩
 obtain ⟨W0,hW0⟩:∃ W0,((((w.alloc (.cells #[.string ⟨#[]⟩,.slice none 0 0,.slice none 0 0] 72)).alloc (.cells #[.int .i64 0] 73)).alloc (.cells #[.int .i64 0] 3)).alloc (.cells #[.string ⟨#[]⟩,.slice none 0 0,.slice none 0 0,.slice none 0 0,.int .i64 0] 129)).alloc (.cells #[.int .i64 0] 3) = W0:=⟨_,rfl⟩
 have q2:W0.heap[w.heap.size]? = some (.cells #[.string ⟨#[]⟩,.slice none 0 0,.slice none 0 0] 72 (0,0)):=by
  rw [← hW0]
  exact z0j (z0j (z0j (z0j (heap_alloc_new w _))))
 have q3:z1x W0 (w.heap.size + 1) (.int .i64 0) 73:=by
  rw [← hW0]
  exact z0j (z0j (z0j (z0s (by simp))))
 have q4:z1x W0 (w.heap.size + 1 + 1) (.int .i64 0) 3:=by
  rw [← hW0]
  exact z0j (z0j (z0s (by simp)))
 have qb:W0.heap[w.heap.size + 1 + 1 + 1]? = some (.cells #[.string ⟨#[]⟩,.slice none 0 0,.slice none 0 0,.slice none 0 0,.int .i64 0] 129 (0,0)):=by
  rw [← hW0]
  exact z0j (z0s (by simp))
 have qa:z1x W0 (w.heap.size + 1 + 1 + 1 + 1) (.int .i64 0) 3:=by
  rw [← hW0]
  exact z0s (by simp)
 have hz0:W0.heap.size = w.heap.size + 1 + 1 + 1 + 1 + 1:=by rw [← hW0];simp
 have hb0:Below w.heap.size w W0:=by rw [← hW0];exact gzT
 rw [hW0] at hW lb li lk
 clear hW0
 have p2:=z0c q2 hW
 have p3:=z1s q3 hW
 have p4:=z1s q4 hW
 have pb:=z0c qb hW
 have pa:=z1s qa hW
 have hzW:=hW.size
 have hiW:=(z0r hci).2.2
 have hbW:Below w.heap.size w W:=hb0.trans (hW.mono omT)
 have hAl:=z2o hw hbW
 clear q2 q3 q4 qb qa hb0 hW
 generalize hx4:w.heap.size + 1 + 1 + 1 + 1 = x4 at *
 generalize hx3:w.heap.size + 1 + 1 + 1 = x3 at *
 generalize hx2:w.heap.size + 1 + 1 = x2 at *
 generalize hx1:w.heap.size + 1 = x1 at *
 gi_wp2
 refine y0k (n:=9) (b:=b) (s:=i) (k:=k) (text:=s.data.toList) deT (by simpa using hs) rfl rfl hbi hki hcb (by simpa using hci) hck
  (fun pre W'=>∃ c o,j4k 0 pre ch0 (-1) = .ok (c,o) ∧ BSt W' (W.heap.size + 2) x3 c o W' ∧ OutC w x1 x2 0 0 W' ∧ pre.length ≤ 400 ∧ z1x W' x4 (.int .i64 (pre.length:Int)) 3)
  (fun pre W'=>∃ y n,j4k 0 pre ch0 (-1) = .error (y,n) ∧ (y == 0) = false ∧ OutC w x1 x2 y (n:Int) W')
  ?sI ?sIx ?s0
  (fun x=>{ tmps:=#[.string s,undef,.pointer (some ⟨w.heap.size,0,none⟩),.pointer (some ⟨x1,0,none⟩),.pointer (some ⟨x2,0,none⟩),.pointer (some ⟨x3,0,none⟩),.pointer (some ⟨x4,0,none⟩),.string ⟨x.toArray⟩,undef,.string s,.func (.func 100) #[] #[.pointer (some ⟨b,0,none⟩),.pointer (some ⟨i,0,none⟩),.pointer (some ⟨k,0,none⟩)],.string ⟨x.toArray⟩,undef,undef,undef,undef,undef,undef,undef,undef,undef,undef,undef,undef,undef,undef,undef,undef,undef,undef,undef,undef],defers:=[] })
  ?assign ?body ?done ?stop
 case sI =>
  rintro p W1 W2 j ⟨c,o,h1,h2,h3,h4,h5⟩ hg hj
  exact ⟨c,o,h1,y9i h2 hg omT omT,q6i h3 hg omT omT omT,h4,z4q h5 hg omT⟩
 case sIx =>
  rintro p W1 W2 j ⟨y,n,h1,h2,h3⟩ hg hj
  exact ⟨y,n,h1,h2,q6i h3 hg omT omT omT⟩
 case s0 =>
  intro o o'
  have hb2:Below W.heap.size W ((W.alloc o).alloc o'):=gzT
  exact ⟨ch0,-1,rfl,k6i (z0c pb hb2) omT (by simp),⟨z0c p2 hb2,z1s p3 hb2,z1s p4 hb2,hbW.trans (hb2.mono hbW.size)⟩,by decide,z1s pa hb2⟩
 case assign =>
  intro l x W1 K hK
  gi_wp2
  exact hK
 case body =>
  rintro l pre x W1 ⟨c,o,h1,h2,h3,h4,h5⟩
  obtain ⟨ca,fa,la⟩:=z0r h5
  by_cases h400:pre.length = 400
  ·have e4:(400:Int) < (pre.length:Int) + 1:=by omega
   obtain ⟨d2,d3,d4,dn⟩:=z6t h3
   have hr:=hiT (show j4k 0 (pre ++ [x]) ch0 (-1) = .error (13,401) by
    rw [q3p,h1]
    simp only [Nat.zero_add]
    rw [if_pos h400,h400])
   gi_wp2
   gi_region
   all_goals
    gi_wp2
   all_goals
    refine ⟨fun j hj=>?_,13,401,hr.out,rfl,?_⟩
    ·repeat' (first | (with_reducible exact rfl) | (with_reducible refine (z0v omT).trans ?_) | (with_reducible refine q7m.trans ?_))
    ·change OutC w x1 x2 13 401 _
     repeat' (first | (with_reducible exact h3) | (with_reducible refine q8f ?_) | (with_reducible refine j4a omT omT ?_) | (with_reducible refine j4b omT omT ?_) | (with_reducible refine j4c omT omT ?_) | (with_reducible refine y0f (y:=0) omT omT ?_) | (with_reducible refine y0e (n:=0) omT omT ?_) | (with_reducible refine y2v omT omT omT ?_))
  ·have e4:¬ (400:Int) < (pre.length:Int) + 1:=by omega
   obtain ⟨d2,d3,d4,dn⟩:=z6t h3
   have hg4:W1.grownBy (W1.setCell ⟨x4,0,none⟩ (.int .i64 ((pre.length:Int) + 1))) (some x4):=z6q _ _ _ _
   have g2:=y9i h2 hg4 omT omT
   have hAx:Al (W1.setCell ⟨x4,0,none⟩ (.int .i64 ((pre.length:Int) + 1))):=z2o hw (h3.env.setCell (p:=⟨x4,0,none⟩) (show w.heap.size ≤ x4 by omega) _)
   have R:=hiT (y9h ⟨x.toArray⟩ hAx g2)
   have g5:=z7s (u := .int .i64 ((pre.length:Int) + 1)) h5
   have g3:=y2v (b:=x4) (i:=0) (v := .int .i64 ((pre.length:Int) + 1)) omT omT omT h3
   gi_wp2
   refine ⟨trivial,(callsIn_wide.2 R.out).inRound l |>.mono ?_⟩
   intro e w3 hr
   clear R hAx ca fa la
   have hfr:Fr (W.heap.size + 2) x3 (W1.setCell ⟨x4,0,none⟩ (.int .i64 ((pre.length:Int) + 1))) w3:=k5t hr
   have k3:=v5q g3 hfr omT omT omT omT omT omT
   have k5:z1x w3 x4 (.int .i64 ((pre.length:Int) + 1)) 3:=(hfr.block x4 omT omT).trans g5
   have hsame:∀ j,j < W.heap.size + 2 → j ≠ x3 → j ≠ x4 → w3.heap[j]? = W1.heap[j]?:=fun j j1 j2 j3=>(hfr.block j j1 j2).trans (z0v j3)
   obtain ⟨ca,fa,la⟩:=z0r k5
   have hrun:=q3p pre 0 x ch0 (-1)
   rw [h1] at hrun
   simp only [Nat.zero_add] at hrun
   rw [if_neg h400] at hrun
   have hbk:=(z0r hcb).2.2
   have hkk:=(z0r hck).2.2
   cases hx:q3e c o x with
   | error y =>
    rw [hx] at hr hrun
    simp only at hrun
    obtain ⟨rfl,hnz,_⟩:=hr
    obtain ⟨d2,d3,d4,dn⟩:=z6t k3
    have hnz2:(y != 0) = true:=by rw [bne,hnz];rfl
    replace hrun:=hiT hrun
    clear hfr hx g2 g3 g5 hg4
    gi_wp2
    gi_region
    all_goals
     gi_wp2
    all_goals
     refine ⟨fun j hj=>?_,y,pre.length + 1,hrun.out,hnz,?_⟩
     ·repeat' (first | (with_reducible exact hsame j omT omT omT) | (with_reducible refine (z0v omT).trans ?_) | (with_reducible refine q7m.trans ?_))
     ·change OutC w x1 x2 y ((pre.length:Int) + 1) _
      repeat' (first | (with_reducible exact k3) | (with_reducible refine q8f ?_) | (with_reducible refine j4a omT omT ?_) | (with_reducible refine j4b omT omT ?_) | (with_reducible refine j4c omT omT ?_) | (with_reducible refine y0f (y:=0) omT omT ?_) | (with_reducible refine y0e (n:=0) omT omT ?_))
   | ok q =>
    obtain ⟨d,p⟩:=q
    rw [hx] at hr hrun
    simp only at hrun
    obtain ⟨rfl,hb3⟩:=hr
    clear hfr hx g2 g3 g5 hg4
    gi_wp2
    refine ⟨fun j hj=>hsame j omT omT omT,d,p,hrun,k6h hb3,k3,by rw [List.length_append];simp only [List.length_singleton];omega,?_⟩
    rw [List.length_append]
    exact k5
 case done =>
  rintro D W1 hD ⟨c,o,h1,h2,h3,h4,h5⟩ hK
  obtain ⟨op,⟨rv,vv,sv,ov,hb⟩,hcase⟩:=h2
  obtain ⟨k0,k1,k2,k3,k4,kl,kf⟩:=five hb.blk
  obtain ⟨oa,oc,hov⟩:=z0g hb.opn
  rw [hov] at k3
  obtain ⟨d2,d3,d4,dn⟩:=z6t h3
  have hct:z3q s.data.toList = if o = 0 then .ok c else .error (14,0):=by
   unfold z3q
   rw [h1]
  by_cases h0:o = 0
  ·have hl1:((op.length:Int) != 1) = false:=by
    rcases hcase with ⟨e,_⟩ | ⟨_,hop,_⟩
    ·omega
    ·rw [bne,(j3z hop).2.2 h0]
     rfl
   rw [if_pos h0] at hct
   obtain ⟨va,vc,rfl⟩:=z0g hb.vars
   obtain ⟨sa,sc,rfl⟩:=z0g hb.sts
   gi_wp2
   obtain ⟨q0,q1,q2,q3⟩:=v5r (v0:=str c.name) (v1 := .slice va c.vars.length vc) (v2 := .slice sa c.states.length sc) h3 omT omT omT
   have hbW2:=q7d (q7d (q7d (q7d (q7d hb (z6q W1 w.heap.size 0 (str c.name)) omT omT) (z6q _ w.heap.size 1 (.slice va c.vars.length vc)) omT omT) (z6q _ w.heap.size 2 (.slice sa c.states.length sc)) omT omT) (z6q _ x1 0 (.int .i64 0)) omT omT) (z6q _ x2 0 (.int .i64 0)) omT omT
   have hKD:(((((W1.setCell ⟨w.heap.size,0,none⟩ (str c.name)).setCell ⟨w.heap.size,1,none⟩ (.slice va c.vars.length vc)).setCell ⟨w.heap.size,2,none⟩ (.slice sa c.states.length sc)).setCell ⟨x1,0,none⟩ (.int .i64 0)).setCell ⟨x2,0,none⟩ (.int .i64 0)).heap[D]? = some (.deferred (some [])):=by
    refine (z0v omT).trans ((z0v omT).trans ((z0v omT).trans ((z0v omT).trans ((z0v omT).trans hK))))
   generalize (((((W1.setCell ⟨w.heap.size,0,none⟩ (str c.name)).setCell ⟨w.heap.size,1,none⟩ (.slice va c.vars.length vc)).setCell ⟨w.heap.size,2,none⟩ (.slice sa c.states.length sc)).setCell ⟨x1,0,none⟩ (.int .i64 0)).setCell ⟨x2,0,none⟩ (.int .i64 0)) = W2 at *
   refine ⟨by simp,.inl ⟨_,_,rfl,run_takeDeferred hKD,?_⟩⟩
   have hgD:=grownBy_putObj' W2 D (.deferred none)
   have q0':=y9f q0 hgD omT
   have q1':=z4q q1 hgD omT
   have q2':=z4q q2 hgD omT
   have q3':Below w.heap.size w (W2.putObj D (.deferred none)):=q3.grown hgD q3.size fun k e=>by cases e;omega
   have hbF:=q7d hbW2 hgD omT omT
   obtain ⟨z3,_,_⟩:=z0r q1'
   obtain ⟨z4,_,_⟩:=z0r q2'
   have z0:=(cell_of_row _ _ 0 _ _ _ q0').trans rfl
   have z1:=(cell_of_row _ _ 1 _ _ _ q0').trans rfl
   have z2:=(cell_of_row _ _ 2 _ _ _ q0').trans rfl
   rw [hct]
   refine ⟨.tuple #[.agg #[str c.name,.slice va c.vars.length vc,.slice sa c.states.length sc],.int .i64 0,.int .i64 0],?_,rv,_,_,rfl,v8c hbF omT,q3'⟩
   simp [results,Tryz.f18,go_sem,z0,z1,z2,z3,z4]
  ·have hl1:((op.length:Int) != 1) = true:=by
    rw [bne_iff_ne]
    rcases hcase with ⟨_,_,e⟩ | ⟨_,hop,_⟩
    ·rw [e];decide
    ·intro e
     exact h0 ((j3z hop).2.1 omT)
   rw [if_neg h0] at hct
   gi_wp2
   have hK':∀ W2:World,(∀ j,j = D → W2.heap[j]? = W1.heap[j]?) → W2.heap[D]? = some (.deferred (some [])):=fun W2 h=>(h D rfl).trans hK
   refine ⟨by simp,.inl ⟨_,_,rfl,run_takeDeferred (hK' _ fun j hj=>?same),?_⟩⟩
   case same =>
    repeat' (first | (with_reducible exact rfl) | (with_reducible refine (z0v omT).trans ?_) | (with_reducible refine q7m.trans ?_))
   have hp:OutC w x1 x2 14 ((0:Nat):Int) (World.putObj _ D (.deferred none)):=q6i (w1:=((((W1.setCell ⟨w.heap.size,0,none⟩ (.string ⟨#[]⟩)).setCell ⟨w.heap.size,1,none⟩ (.slice none 0 0)).setCell ⟨w.heap.size,2,none⟩ (.slice none 0 0)).setCell ⟨x1,0,none⟩ (.int .i64 14)).setCell ⟨x2,0,none⟩ (.int .i64 0)) (by
    change OutC w x1 x2 14 0 _
    repeat' (first | (with_reducible exact h3) | (with_reducible refine q8f ?_) | (with_reducible refine j4a omT omT ?_) | (with_reducible refine j4b omT omT ?_) | (with_reducible refine j4c omT omT ?_) | (with_reducible refine y0f (y:=0) omT omT ?_) | (with_reducible refine y0e (n:=0) omT omT ?_))) (grownBy_putObj' _ D (.deferred none)) omT omT omT
   obtain ⟨⟨z0,z1,z2,_,_⟩,⟨z3,_,_⟩,⟨z4,_,_⟩⟩:=z6t hp
   rw [hct]
   refine ⟨.tuple #[.agg #[.string ⟨#[]⟩,.slice none 0 0,.slice none 0 0],.int .i64 14,.int .i64 0],?_,rfl,rfl,hp.env⟩
   simp [results,Tryz.f18,go_sem,z0,z1,z2,z3,z4]
 case stop =>
  rintro D pre post W1 hD hpp ⟨y,n,h1,h2,h3⟩ hK
  obtain ⟨d2,d3,d4,dn⟩:=z6t h3
  gi_wp2
  refine ⟨by simp,.inl ⟨_,_,rfl,run_takeDeferred hK,?_⟩⟩
  have hp:=q6i h3 (grownBy_putObj' W1 D (.deferred none)) omT omT omT
  obtain ⟨⟨z0,z1,z2,_,_⟩,⟨z3,_,_⟩,⟨z4,_,_⟩⟩:=z6t hp
  have hct:z3q s.data.toList = .error (y,n):=by
   unfold z3q
   rw [hpp,k9e h1]
  rw [hct]
  refine ⟨.tuple #[.agg #[.string ⟨#[]⟩,.slice none 0 0,.slice none 0 0],.int .i64 y,.int .i64 (n:Int)],?_,rfl,h2,hp.env⟩
  simp [results,Tryz.f18,go_sem,z0,z1,z2,z3,z4]
end Go.Proofs.YtacnlghljmgdiaaGreatDoor
