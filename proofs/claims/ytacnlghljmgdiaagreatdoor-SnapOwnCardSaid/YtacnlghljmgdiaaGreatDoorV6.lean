/- Several texts of this proof, joined: VS, VJ. -/
import Derived.Test.YtacnlghljmgdiaaGreatDoorZ1
import Derived.Lib.QuietBelowIn
import Derived.Sort.BigQuietIn
import Derived.RangeFuncCalls
import Derived.Test.YtacnlghljmgdiaaGreatDoorQ5
import Derived.Test.YtacnlghljmgdiaaGreatDoorV5
import Derived.WalkKit
import Derived.OwnWalkIn
import Derived.TacticsInMore
import Derived.LoopNIn
import Derived.LoopIn
namespace Go.Proofs.YtacnlghljmgdiaaGreatDoor
open Go.RowKit Go.Sort
theorem y6g {n:Nat} {P:Program} {ops:Array Oper} {Q:Exit → Act → World → Prop} {lr i:Nat} {K K':Act → World → Prop} {a:Act} {w:World} (hnd:∀ o,ops[i]? = some o → ∀ c,o.op ≠ .defer c) (hK:∀ a w,K a w → K' a w)
  (h:wpOpIn Fence.wide n P ops Q i K a w):wpOpIn (Fence.wide.inRound lr) n P ops Q i K' a w:=by
 have h:=wpOpIn_mono hK h
 unfold wpOpIn at h ⊢
 cases ho:ops[i]? with
 | none =>
  rw [ho] at h
  exact h
 | some o =>
  rw [ho] at h
  simp only at h ⊢
  split
  ·rename_i hw
   rw [if_pos hw] at h
   unfold Oper.wpIn at h ⊢
   refine ⟨h.1,?_⟩
   have h2:=h.2
   rw [Oper.semAt_eq _ _ _ (hnd o ho)] at h2 ⊢
   generalize (execOp a.eval o).run P w = r at *
   cases r with
   | ok x w'=>cases x <;> exact h2
   | halt x w'=>cases x <;> exact h2
  ·rename_i hw
   rw [if_neg hw] at h
   exact h
theorem q1w {n:Nat} {P:Program} {md:Region.Mode} {ops:Array Oper} {Q:Exit → Act → World → Prop} {lr:Nat} (hnd:∀ (i:Nat) (o:Oper),ops[i]? = some o → ∀ c,o.op ≠ .defer c):∀ (fuel:Nat) (listed:Array Bool) (a:Act) (w:World),
  wpAnyIn Fence.wide n P md ops Q fuel listed a w → wpAnyIn (Fence.wide.inRound lr) n P md ops Q fuel listed a w
 | 0,_,_,_,h=>h
 | fuel + 1,_,_,_,h=>⟨h.1,fun i hi=>y6g (hnd i) (fun a w=>q1w hnd fuel _ a w) (h.2 i hi)⟩
def j3w (o:Oper):Bool:=match o.op with | .defer _=>false | _=>true
theorem z7u {P:Program} {id:Nat} {Q:Exit → Act → World → Prop} {a:Act} {w:World} {l:List Oper} {n lr:Nat} (hm:P.follows .mixedOrders = true) (hB:Region.lexB .any l.toArray = true) (hd:l.all j3w = true)
  (h:wpQuietIn Fence.wide n P l.toArray (fun w'=>∃ p,w' = G p w) (fun a'=>∀ w',(∃ p,w' = G p w) → Q .normal a' w') l a):(Code.region id l.toArray true).wpIn (Fence.wide.inRound lr) n P Q a w:=by
 simp only [Region.lexB,Bool.and_eq_true] at hB
 refine wpIn_region_any hm (q1w (fun i o ho c hc=>?_) _ _ _ _ (wpAnyIn_of_quiet (C:=fun w'=>∃ p,w' = G p w) (Q:=fun a'=>∀ w',(∃ p,w' = G p w) → Q .normal a' w') rfl (fun _ w' hw' h=>h w' hw') _ _ _ _ ⟨⟨w.drawn + 1,#[]⟩,by unfold G;rw [grow_empty];rfl⟩ ?_))
 ·have hmem:o ∈ l:=by
   have:=Array.mem_of_getElem? ho
   simpa using this
  have:=List.all_eq_true.1 hd o hmem
  unfold j3w at this
  rw [hc] at this
  cases this
 ·have:=wpAnyQIn_lex (F:=Fence.wide) (n:=n) (C:=fun w'=>∃ p,w' = G p w) (md := .any) hB.1 l.toArray.toList 0 (Array.replicate l.toArray.size false) a (by simp) (by simpa using hB.2) (by simpa using h)
  simpa using this
end Go.Proofs.YtacnlghljmgdiaaGreatDoor
namespace Go.Proofs.YtacnlghljmgdiaaGreatDoor
open Go.RowKit
attribute [local go_sem] Oper.semAt_some
abbrev stA (s:St) (eo xo to':Option Addr) (ec xc tc:Nat):Array Value:=#[str s.name,.int .i64 s.kind,.int .i64 s.parent,str s.start,.slice eo s.enter.length ec,.slice xo s.exit.length xc,.slice to' s.trans.length tc]
abbrev stV (s:St) (eo xo to':Option Addr) (ec xc tc:Nat):Value := .agg (stA s eo xo to' ec xc tc)
set_option maxRecDepth 100000 in
set_option maxHeartbeats 4000000 in
theorem v3d (n l b:Nat) (sa:Option Addr) (sc:Nat) (c:Ch) {B:Nat} {rv:Nat → Value} {vv:Value} (J Jx:Nat → World → Prop)
  (hJ:∀ j W,J j W → ChV ct0 B W c rv vv (.slice sa c.states.length sc) ∧ z1x W b (.slice sa c.states.length sc) 70)
  (hY:∀ j W (hj:j < c.states.length) eo xo to' ec xc tc,J (j + 1) W → YieldAt Fence.wide (n - 1) Tryz.prog l #[.int .i64 (j:Int),stV c.states[j] eo xo to' ec xc tc] W fun e W' =>
   (e = .returned (.bool true) ∧ J j W') ∨ (e = .returned (.bool false) ∧ Jx j W'))
  (W:World) (h0:J c.states.length W) (hn:c.states.length ≤ 1000) :
  CallsIn Fence.wide n Tryz.prog 247 #[.func (.yield l) #[] #[],.pointer (some ⟨b,0,none⟩)] W fun e W'=>(∃ v,e = .returned v) ∧
   (J 0 W' ∨ ∃ j,j < c.states.length ∧ Jx j W'):=by
 refine callsIn_of_wp Tryz.func247 rfl trivial ?_ rfl
 simp only [Tryz.ntmps247,List.size_toArray,List.length_cons,List.length_nil,Nat.reduceAdd,Nat.reduceSub,Array.replicate_succ,Array.replicate_zero,List.push_toArray,List.append_toArray,List.nil_append,List.cons_append]
 obtain ⟨cb,fb,lb⟩:=z0r (hJ _ _ h0).2
 gi_wp2
 clear cb fb lb
 gi_loopw [3] (fun x wr=>∃ (j:Nat),x = .int .i64 ((j:Int) - 1) ∧ j ≤ c.states.length ∧ J j wr) (fun x _=>(intOf x + 1).toNat)
 case atStart=>exact ⟨c.states.length,rfl,Nat.le_refl _,h0⟩
 case round =>
  obtain ⟨j,rfl,hj,hJs⟩:=hrel
  rename World=>wr
  obtain ⟨hV,hb⟩:=hJ _ _ hJs
  obtain ⟨cb,fb,lb⟩:=z0r hb
  cases j with
  | zero =>
   have hI:¬ (0:Int) ≤ ((0:Nat):Int) - 1:=by omega
   gi_wp2
   go_end0
   exact ⟨⟨_,rfl⟩,.inl hJs⟩
  | succ j =>
   obtain ⟨g,eo,ec,xo,xc,to',tc,rfl,hg,n1,n2,n3,n4,n5,n6,n7,_,_,_⟩:=z8h hV j hj
   have hY':=hY j wr hj eo xo to' ec xc tc hJs
   unfold stV stA at hY'
   generalize c.states[j] = s at *
   obtain ⟨fn,tmps,assign,body,hy,hR⟩:=hY'
   have e1:(((j + 1:Nat):Int) - 1) = (j:Int):=by omega
   have hI0:(0:Int) ≤ (j:Int):=by omega
   have hI:(j:Int) < (c.states.length:Int):=by omega
   rw [e1]
   gi_wp2
   refine ⟨fun h=>(by cases h),hR.mono ?_⟩
   rintro e W' (⟨rfl,hJ'⟩ | ⟨rfl,hJx⟩)
   ·gi_wp2
    go_roundw
    case rel=>exact ⟨j,rfl,by omega,hJ'⟩
    case measure=>(simp [intOf];try omega)
   ·gi_wp2
    refine bodyPost_ret (results_none rfl _ _ _) rfl ?_
    exact ⟨⟨_,rfl⟩,.inr ⟨j,hj,hJx⟩⟩
def v9o (H:Nat) (I Ix:Nat → World → Prop) (j:Nat) (W:World):Exit → Act → World → Prop
 | .normal,_,W'=>(∀ k,k = H ∨ k = H + 1 → W'.heap[k]? = W.heap[k]?) ∧ I j W'
 | .ret,_,W'=>(∀ k,k = H ∨ k = H + 1 → W'.heap[k]? = W.heap[k]?) ∧ Ix j W'
 | .exit _,_,_=>False
 | .goto _,_,_=>False
 | .panic _,_,_=>False
 | .outgrown,_,_=>False
theorem y6p {g:Operand} {ps:Array Tmp} {assign body:Code} {Q:Exit → Act → World → Prop} {a:Act} {w:World} {n b:Nat} {sa:Option Addr} {sc:Nat} {c:Ch} {B:Nat} {rv:Nat → Value} {vv:Value} (hn:1 ≤ n) (hcn:c.states.length ≤ 1000)
  (hg:a.eval g = .func (.func 247) #[] #[.pointer (some ⟨b,0,none⟩)]) (hps:ps.size = 2)
  (I Ix:Nat → World → Prop) (hJ:∀ j W,I j W → ChV ct0 B W c rv vv (.slice sa c.states.length sc) ∧ z1x W b (.slice sa c.states.length sc) 70)
  (hI:∀ p W W' j,I p W → W.grownBy W' (some j) → j = w.heap.size ∨ j = w.heap.size + 1 → I p W') (hIx:∀ p W W' j,Ix p W → W.grownBy W' (some j) → j = w.heap.size ∨ j = w.heap.size + 1 → Ix p W')
  (h0:∀ o o',I c.states.length ((w.alloc o).alloc o')) (hIa:∀ p W o,I p W → I p (W.alloc o)) (a₁:Nat → Value → Nat → Act)
  (hassign:∀ (l j:Nat) (hj:j < c.states.length) eo xo to' ec xc tc (W:World) (K:Act → World → Prop),K (a₁ j (stV c.states[j] eo xo to' ec xc tc) W.heap.size) (W.alloc (.cells (stA c.states[j] eo xo to' ec xc tc) 141)) →
   assign.wpIn (Fence.wide.inRound l) (n - 1 - 1) Tryz.prog (Exit.then K (fun _ _ _=>False)) { tmps:=(ps.zip #[.int .i64 (j:Int),stV c.states[j] eo xo to' ec xc tc]).foldl (fun t (p,v)=>t.setIfInBounds p v) a.tmps,defers:=[] } W)
  (hbody:∀ (l j:Nat) (hj:j < c.states.length) eo xo to' ec xc tc (sb:Nat) (W:World),I (j + 1) W → W.heap[sb]? = some (.cells (stA c.states[j] eo xo to' ec xc tc) 141 (0,0)) → body.wpIn (Fence.wide.inRound l) (n - 1 - 1) Tryz.prog (v9o w.heap.size I Ix j W) (a₁ j (stV c.states[j] eo xo to' ec xc tc) sb) W)
  (hdone:∀ (D:Nat) (W:World),D = w.heap.size → I 0 W → W.heap[D]? = some (.deferred (some [])) → Q .normal { a with defers:={ target := .collected D,args:=#[] } :: a.defers } W)
  (hstop:∀ (D j:Nat) (W:World),D = w.heap.size → j < c.states.length → Ix j W → W.heap[D]? = some (.deferred (some [])) → Code.ret.wpIn Fence.wide n Tryz.prog Q { a with defers:={ target := .collected D,args:=#[] } :: a.defers } W) :
  (Code.rangeFunc g ps assign body).wpIn Fence.wide n Tryz.prog Q a w:=by
 refine wpIn_rangeFunc fun fn hfn=>?_
 obtain ⟨H,hH⟩:∃ H,w.heap.size = H:=⟨_,rfl⟩
 obtain ⟨W1,hW1⟩:∃ W1,(w.alloc (.deferred (some []))).alloc (.loop (z9k fn a.tmps ps assign body H .ready none)) = W1:=⟨_,rfl⟩
 have hl1:W1.heap[H + 1]? = some (.loop (z9k fn a.tmps ps assign body H .ready none)):=by
  have:=World.alloc_heap_new (w.alloc (.deferred (some []))) (.loop (z9k fn a.tmps ps assign body H .ready none))
  rwa [World.size_alloc,hH,hW1] at this
 have hk1:W1.heap[H]? = some (.deferred (some [])):=by
  rw [← hW1,← hH]
  exact (Below.heap_alloc _ _ _ (by simp)).trans (World.alloc_heap_new w _)
 refine ⟨H + 1,[{ target := .collected H,args:=#[] }],W1,{ target := .fn (.func 247) #[.pointer (some ⟨b,0,none⟩)],args:=#[.func (.yield (H + 1)) #[] #[]] },W1,247,#[.func (.yield (H + 1)) #[] #[],.pointer (some ⟨b,0,none⟩)],W1,?_,?_,fun _ _=>trivial,?_,fun _=>hn,?_⟩
 ·rw [← hW1,← hH]
  exact run_enterLoop_outer _ _ _ _ _
 ·simp only [resolve,hg]
  simp [go_sem]
 ·simp only [invoke]
  exact enters_of Tryz.func247 krT rfl _ _
 have turn:∀ (W:World) (o':Obj),W.grownBy (W.putObj (H + 1) o') (some (H + 1)):=fun W o'=>grownBy_putObj' W (H + 1) o'
 refine (v3d (n - 1) (H + 1) b sa sc c
  (fun j W=>I j W ∧ W.heap[H + 1]? = some (.loop (z9k fn a.tmps ps assign body H .ready none)) ∧ W.heap[H]? = some (.deferred (some [])))
  (fun j W=>Ix j W ∧ W.heap[H + 1]? = some (.loop (z9k fn a.tmps ps assign body H .done (some .ret))) ∧ W.heap[H]? = some (.deferred (some [])))
  (fun j W h=>hJ j W h.1) (fun j W hj eo xo to' ec xc tc h=>?_) W1 ⟨by rw [← hW1];exact h0 _ _,hl1,hk1⟩ hcn).mono ?_
 ·obtain ⟨hi0,hl0,hd0⟩:=h
  obtain ⟨o0,ho0⟩:∃ o0,Obj.cells (stA c.states[j] eo xo to' ec xc tc) 141 = o0:=⟨_,rfl⟩
  have hi:=hIa _ _ o0 hi0
  have hlt0:=(Array.getElem?_eq_some_iff.1 hl0).1
  have hl:=(Below.heap_alloc W o0 _ hlt0).trans hl0
  have hd:=(Below.heap_alloc W o0 H omT).trans hd0
  have hsb:(W.alloc o0).heap[W.heap.size]? = some (.cells (stA c.states[j] eo xo to' ec xc tc) 141 (0,0)):=by rw [← ho0];exact heap_alloc_new W _
  have hlt:=(Array.getElem?_eq_some_iff.1 hl).1
  refine ⟨fn,_,assign,body,run_yield hl0 (by simp [hps]),roundIn_of_wpIn trivial (hassign _ j hj eo xo to' ec xc tc W _ ?_)⟩
  rw [ho0]
  refine ⟨_,run_beginRound hl rfl,?_⟩
  obtain ⟨W2,hW2⟩:∃ W2,(W.alloc o0).putObj (H + 1) (.loop { z9k fn a.tmps ps assign body H .ready none with state := .busy }) = W2:=⟨_,rfl⟩
  rw [hW2]
  have g2:(W.alloc o0).grownBy W2 (some (H + 1)):=hW2 ▸ turn _ _
  have hl2:W2.heap[H + 1]? = some (.loop (z9k fn a.tmps ps assign body H .busy none)):=hW2 ▸ World.putObj_heap_same hlt
  have hd2:W2.heap[H]? = some (.deferred (some [])):=(g2.block _ omT (by simp)).trans hd
  have hs2:=(g2.block W.heap.size (by simp) (by simp;omega)).trans hsb
  refine wpIn_mono (hbody _ j hj eo xo to' ec xc tc W.heap.size W2 (hI _ _ _ _ hi g2 (.inr (by rw [hH]))) hs2) ?_
  rw [hH]
  rintro e a3 W3 hp
  have fin:∀ (jump:Option Code),W3.heap[H + 1]? = W2.heap[H + 1]? → (Instr.endRound (H + 1) jump).run Tryz.prog W3 = .ok (.bool jump.isNone) (W3.putObj (H + 1) (.loop (z9k fn a.tmps ps assign body H (if jump.isNone then .ready else .done) jump))) ∧
    (W3.putObj (H + 1) (.loop (z9k fn a.tmps ps assign body H (if jump.isNone then .ready else .done) jump))).heap[H + 1]? = some (.loop (z9k fn a.tmps ps assign body H (if jump.isNone then .ready else .done) jump)):=fun jump he=>by
   have h3:=he.trans hl2
   exact ⟨run_endRound jump h3,World.putObj_heap_same (Array.getElem?_eq_some_iff.1 h3).1⟩
  have fd:∀ o',W3.heap[H]? = W2.heap[H]? → (W3.putObj (H + 1) o').heap[H]? = some (.deferred (some [])):=fun o' he=>by
   have h3:=he.trans hd2
   exact ((turn W3 o').block _ (Array.getElem?_eq_some_iff.1 h3).1 (by simp)).trans h3
  cases e with
  | normal =>
   obtain ⟨hs3,hi3⟩:=hp
   obtain ⟨hr,hl4⟩:=fin none (hs3 _ (by simp))
   exact ⟨_,_,hr,.inl ⟨rfl,hI _ _ _ _ hi3 (turn W3 _) (.inr (by rw [hH])),hl4,fd _ (hs3 _ (by simp))⟩⟩
  | ret =>
   obtain ⟨hs3,hi3⟩:=hp
   obtain ⟨hr,hl4⟩:=fin (some .ret) (hs3 _ (by simp))
   exact ⟨_,_,hr,.inr ⟨rfl,hIx _ _ _ _ hi3 (turn W3 _) (.inr (by rw [hH])),hl4,fd _ (hs3 _ (by simp))⟩⟩
  | exit id=>exact hp.elim
  | goto t=>exact hp.elim
  | panic ch=>exact hp.elim
  | outgrown=>exact hp.elim
 ·rintro e W2 ⟨⟨v,rfl⟩,(⟨hi,hl,hd⟩ | ⟨j,hj,hi,hl,hd⟩)⟩
  ·have ht:=turn W2 (.loop (z9k fn a.tmps ps assign body H .exhausted none))
   have hd':=(ht.block _ (Array.getElem?_eq_some_iff.1 hd).1 (by simp)).trans hd
   exact ⟨none,_,run_endLoop hl (by simp),hdone H _ hH.symm (hI _ _ _ _ hi ht (.inr (by rw [hH]))) hd'⟩
  ·have ht:=turn W2 (.loop (z9k fn a.tmps ps assign body H .exhausted (some .ret)))
   have hd':=(ht.block _ (Array.getElem?_eq_some_iff.1 hd).1 (by simp)).trans hd
   exact ⟨some .ret,_,run_endLoop hl (by simp),hstop H j _ hH.symm hj (hIx _ _ _ _ hi ht (.inr (by rw [hH]))) hd'⟩
end Go.Proofs.YtacnlghljmgdiaaGreatDoor
