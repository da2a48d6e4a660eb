/- Several texts of this proof, joined: B5, B4, B7, B6, BL, BO. -/
import Derived.Test.YtacnlghljmgdiaaGreatDoorChecked
import Derived.Test.YtacnlghljmgdiaaGreatDoorZ1
import Derived.Test.YtacnlghljmgdiaaGreatDoorQ5
import Derived.RangeFuncNested
import Derived.RangeFuncCalls
import Derived.RangeFuncLeaves
import Derived.WalkKit
import Derived.OwnWalkIn
import Derived.TacticsInMore
import Derived.LoopNIn
import Derived.LoopIn
import Derived.Test.YtacnlghljmgdiaaGreatDoorJ2
import Derived.Test.YtacnlghljmgdiaaGreatDoorZ4
import Derived.Test.YtacnlghljmgdiaaGreatDoorShelf6
import Derived.Laws.Bits64b
import Derived.Lib.TrailingZeros
import Derived.Lib.LaidTab
import Derived.Shelf.Spec.TrailingZeros
import Derived.Deep.AppendLies
import Derived.Lib.Builder
import Derived.OrdersIn
import Derived.BigRegionIn
import Derived.Test.YtacnlghljmgdiaaGreatDoorJ1
import Derived.Test.YtacnlghljmgdiaaGreatDoorY3
import Derived.Deep.RegionHeld3
import Derived.Lib.ItoaNum
import Derived.Test.YtacnlghljmgdiaaGreatDoorO1
import Derived.Test.YtacnlghljmgdiaaGreatDoorY1
import Derived.Test.YtacnlghljmgdiaaGreatDoorZ7
import Derived.ProofKit
import Derived.OpenShut
import Derived.Handy
import Derived.BigQuiet
import Derived.Lib.Hide
import Derived.WalkSmall
import Derived.WalkLawsBesides
import Derived.SliceStrings
import Derived.Lib.SmallJoins
import Derived.Test.YtacnlghljmgdiaaGreatDoorY6
import Derived.Stop.LaidErr
namespace Go.Proofs.YtacnlghljmgdiaaGreatDoor
open Go.RowKit
def y8o (n gf:Nat) (lb:Array Value) (vs:List (Array Value)) (Keep:World → Prop):Prop :=
 ∀ (l:Nat) (J Jx:Nat → World → Prop),(∀ j W,J j W → Keep W) →
  (∀ j (hj:j < vs.length) W,J j W → YieldAt Fence.wide (n - 1) Tryz.prog l vs[j] W fun e W'=>(e = .returned (.bool true) ∧ J (j + 1) W') ∨ (e = .returned (.bool false) ∧ Jx j W')) →
  ∀ W,J 0 W → CallsIn Fence.wide n Tryz.prog gf (#[.func (.yield l) #[] #[]] ++ lb) W fun e W'=>(∃ v,e = .returned v) ∧ (J vs.length W' ∨ ∃ j,j < vs.length ∧ Jx j W')
def v9p (H:Nat) (I:Nat → World → Prop) (Ix:Code → Nat → World → Prop) (j:Nat) (W:World):Exit → Act → World → Prop
 | .normal,_,W'=>(∀ k,k = H ∨ k = H + 1 → W'.heap[k]? = W.heap[k]?) ∧ I (j + 1) W'
 | .ret,_,W'=>(∀ k,k = H ∨ k = H + 1 → W'.heap[k]? = W.heap[k]?) ∧ Ix .ret j W'
 | .exit id,_,W'=>(∀ k,k = H ∨ k = H + 1 → W'.heap[k]? = W.heap[k]?) ∧ Ix (.exit id) j W'
 | .goto _,_,_=>False
 | .panic _,_,_=>False
 | .outgrown,_,_=>False
theorem k2t {g:Operand} {ps:Array Tmp} {assign body:Code} {Q:Exit → Act → World → Prop} {a:Act} {w:World} {n gf:Nat} {lb:Array Value} {vs:List (Array Value)} {Keep:World → Prop} (hn:1 ≤ n)
  (hgf:∀ args wx,(callFunc gf args).run Tryz.prog wx = .ok (.enter gf args) wx) (hg:a.eval g = .func (.func gf) #[] lb) (hps:∀ j (hj:j < vs.length),vs[j].size = ps.size) (C:y8o (n - 1) gf lb vs Keep)
  (I:Nat → World → Prop) (Ix:Code → Nat → World → Prop) (hK:∀ j W,I j W → Keep W)
  (hI:∀ p W W' r,I p W → W.grownBy W' (some (w.heap.size + 1)) → W.heap[w.heap.size + 1]? = some (.loop r) → I p W') (hIx:∀ c p W W' r,Ix c p W → W.grownBy W' (some (w.heap.size + 1)) → W.heap[w.heap.size + 1]? = some (.loop r) → Ix c p W')
  (h0:∀ o o',I 0 ((w.alloc o).alloc o')) (a₁:Nat → Act)
  (hassign:∀ (l j:Nat) (hj:j < vs.length) (W:World) (K:Act → World → Prop),K (a₁ j) W →
   assign.wpIn (Fence.wide.inRound l) (n - 1 - 1) Tryz.prog (Exit.then K (fun _ _ _=>False)) { tmps:=(ps.zip vs[j]).foldl (fun t (p,v)=>t.setIfInBounds p v) a.tmps,defers:=[] } W)
  (hbody:∀ (l j:Nat) (_:j < vs.length) (W:World),I j W → W.heap[w.heap.size]? = some (.deferred (some [])) → (∃ r,W.heap[w.heap.size + 1]? = some (.loop r)) → body.wpIn (Fence.wide.inRound l) (n - 1 - 1) Tryz.prog (v9p w.heap.size I Ix j W) (a₁ j) W)
  (hdone:∀ (D:Nat) (W:World),D = w.heap.size → I vs.length W → W.heap[D]? = some (.deferred (some [])) → Q .normal { a with defers:={ target := .collected D,args:=#[] } :: a.defers } W)
  (hstop:∀ (c:Code) (D j:Nat) (W:World),D = w.heap.size → j < vs.length → Ix c j W → W.heap[D]? = some (.deferred (some [])) → c.wpIn Fence.wide n Tryz.prog Q { a with defers:={ target := .collected D,args:=#[] } :: a.defers } W) :
  (Code.rangeFunc g ps assign body).wpIn Fence.wide n Tryz.prog Q a w:=by
 refine wpIn_rangeFunc fun fn hfn=>?_
 obtain ⟨H,hH⟩:∃ H,w.heap.size = H:=⟨_,rfl⟩
 rw [hH] at hI hIx
 obtain ⟨W1,hW1⟩:∃ W1,(w.alloc (.deferred (some []))).alloc (.loop (z9k fn a.tmps ps assign body H .ready none)) = W1:=⟨_,rfl⟩
 have hl1:W1.heap[H + 1]? = some (.loop (z9k fn a.tmps ps assign body H .ready none)):=by
  have:=World.alloc_heap_new (w.alloc (.deferred (some []))) (.loop (z9k fn a.tmps ps assign body H .ready none))
  rwa [World.size_alloc,hH,hW1] at this
 have hk1:W1.heap[H]? = some (.deferred (some [])):=by
  rw [← hW1,← hH]
  exact (Below.heap_alloc _ _ _ (by simp)).trans (World.alloc_heap_new w _)
 refine ⟨H + 1,[{ target := .collected H,args:=#[] }],W1,{ target := .fn (.func gf) lb,args:=#[.func (.yield (H + 1)) #[] #[]] },W1,gf,#[.func (.yield (H + 1)) #[] #[]] ++ lb,W1,?_,?_,fun _ _=>trivial,?_,fun _=>hn,?_⟩
 ·rw [← hW1,← hH]
  exact run_enterLoop_outer _ _ _ _ _
 ·simp only [resolve,hg]
  simp [go_sem]
 ·simp only [invoke]
  exact hgf _ _
 have turn:∀ (W:World) (o':Obj),W.grownBy (W.putObj (H + 1) o') (some (H + 1)):=fun W o'=>grownBy_putObj' W (H + 1) o'
 refine (C (H + 1)
  (fun j W=>I j W ∧ W.heap[H + 1]? = some (.loop (z9k fn a.tmps ps assign body H .ready none)) ∧ W.heap[H]? = some (.deferred (some [])))
  (fun j W=>∃ c,Ix c j W ∧ W.heap[H + 1]? = some (.loop (z9k fn a.tmps ps assign body H .done (some c))) ∧ W.heap[H]? = some (.deferred (some [])))
  (fun j W h=>hK j W h.1) (fun j hj W h=>?_) W1 ⟨by rw [← hW1];exact h0 _ _,hl1,hk1⟩).mono ?_
 ·obtain ⟨hi,hl,hd⟩:=h
  have hlt:=(Array.getElem?_eq_some_iff.1 hl).1
  refine ⟨fn,_,assign,body,run_yield hl (hps j hj),roundIn_of_wpIn trivial (hassign _ j hj W _ ⟨_,run_beginRound hl rfl,?_⟩)⟩
  obtain ⟨W2,hW2⟩:∃ W2,W.putObj (H + 1) (.loop { z9k fn a.tmps ps assign body H .ready none with state := .busy }) = W2:=⟨_,rfl⟩
  rw [hW2]
  have g2:W.grownBy W2 (some (H + 1)):=hW2 ▸ turn W _
  have hl2:W2.heap[H + 1]? = some (.loop (z9k fn a.tmps ps assign body H .busy none)):=hW2 ▸ World.putObj_heap_same hlt
  have hd2:W2.heap[H]? = some (.deferred (some [])):=(g2.block _ omT (by simp)).trans hd
  refine wpIn_mono (hbody _ j hj W2 (hI _ _ _ _ hi g2 hl) (by rw [hH];exact hd2) ⟨_,by rw [hH];exact hl2⟩) ?_
  rw [hH]
  rintro e a3 W3 hp
  have fin:∀ (jump:Option Code),W3.heap[H + 1]? = W2.heap[H + 1]? → (Instr.endRound (H + 1) jump).run Tryz.prog W3 = .ok (.bool jump.isNone) (W3.putObj (H + 1) (.loop (z9k fn a.tmps ps assign body H (if jump.isNone then .ready else .done) jump))) ∧
    (W3.putObj (H + 1) (.loop (z9k fn a.tmps ps assign body H (if jump.isNone then .ready else .done) jump))).heap[H + 1]? = some (.loop (z9k fn a.tmps ps assign body H (if jump.isNone then .ready else .done) jump)):=fun jump he=>by
   have h3:=he.trans hl2
   exact ⟨run_endRound jump h3,World.putObj_heap_same (Array.getElem?_eq_some_iff.1 h3).1⟩
  have fd:∀ o',W3.heap[H]? = W2.heap[H]? → (W3.putObj (H + 1) o').heap[H]? = some (.deferred (some [])):=fun o' he=>by
   have h3:=he.trans hd2
   exact ((turn W3 o').block _ (Array.getElem?_eq_some_iff.1 h3).1 (by simp)).trans h3
  cases e with
  | normal =>
   obtain ⟨hs3,hi3⟩:=hp
   obtain ⟨hr,hl4⟩:=fin none (hs3 _ (by simp))
   exact ⟨_,_,hr,.inl ⟨rfl,hI _ _ _ _ hi3 (turn W3 _) ((hs3 _ (by simp)).trans hl2),hl4,fd _ (hs3 _ (by simp))⟩⟩
  | ret =>
   obtain ⟨hs3,hi3⟩:=hp
   obtain ⟨hr,hl4⟩:=fin (some .ret) (hs3 _ (by simp))
   exact ⟨_,_,hr,.inr ⟨rfl,_,hIx _ _ _ _ _ hi3 (turn W3 _) ((hs3 _ (by simp)).trans hl2),hl4,fd _ (hs3 _ (by simp))⟩⟩
  | exit id =>
   obtain ⟨hs3,hi3⟩:=hp
   obtain ⟨hr,hl4⟩:=fin (some (.exit id)) (hs3 _ (by simp))
   exact ⟨_,_,hr,.inr ⟨rfl,_,hIx _ _ _ _ _ hi3 (turn W3 _) ((hs3 _ (by simp)).trans hl2),hl4,fd _ (hs3 _ (by simp))⟩⟩
  | goto t=>exact hp.elim
  | panic ch=>exact hp.elim
  | outgrown=>exact hp.elim
 ·rintro e W2 ⟨⟨v,rfl⟩,(⟨hi,hl,hd⟩ | ⟨j,hj,c,hi,hl,hd⟩)⟩
  ·have ht:=turn W2 (.loop (z9k fn a.tmps ps assign body H .exhausted none))
   have hd':=(ht.block _ (Array.getElem?_eq_some_iff.1 hd).1 (by simp)).trans hd
   exact ⟨none,_,run_endLoop hl (by simp),hdone H _ hH.symm (hI _ _ _ _ hi ht hl) hd'⟩
  ·have ht:=turn W2 (.loop (z9k fn a.tmps ps assign body H .exhausted (some c)))
   have hd':=(ht.block _ (Array.getElem?_eq_some_iff.1 hd).1 (by simp)).trans hd
   exact ⟨some c,_,run_endLoop hl (by simp),hstop c H j _ hH.symm hj (hIx _ _ _ _ _ hi ht hl) hd'⟩
def Db (w:World):Prop:=∀ j,j < 64 → w.cell? ⟨2,j,none⟩ = some (.int .u8 ((Lib.deBruijn64tab.getD j 0:Nat):Int))
theorem z4f {w w':World} (h:Db w) (hb:Below w.heap.size w w'):Db w':=fun j hj=>by
 have h1:=h j hj
 exact (hb.cell (p:=⟨_,j,none⟩) (World.block_lt_of_cell? _ _ h1)).trans h1
set_option maxHeartbeats 1000000 in
theorem v6t (x k idx:Nat) (w:World) (hx0:((x:Int) == 0) = false)
  (key:IntKind.u64.wrap (bits BinOp.and IntKind.u64 (x:Int) (IntKind.u64.wrap (-(x:Int))) * 285870213051353865) / 288230376151711744 = (idx:Int))
  (hi:idx < 64) (hk:k < 64) (hcell:w.cell? ⟨2,idx,none⟩ = some (.int .u8 k)) :
  Calls Tryz.prog 98 #[.int .u64 x] w (z6k (.int .i64 k) w):=by
 have hI:(idx:Int) < 64:=by omega
 go_enter Tryz.func98,Tryz.ntmps98
 go_wp2_with (simp only [key])
 go_returns
 exact ⟨rfl,rfl⟩
theorem x0f (x:Nat) (h0:x ≠ 0) (hx:x < 2 ^ 64) (w:World) (hT:Db w):Calls Tryz.prog 98 #[.int .u64 (x:Int)] w (z6k (.int .i64 (Lib.ctz 64 x:Int)) w):=by
 obtain ⟨hlow,hk⟩:=Lib.lowest_bit 64 x h0 hx
 obtain ⟨hi,htab⟩:=Lib.deBruijn64_at _ hk
 refine v6t x (Lib.ctz 64 x) _ w (by simpa using h0) (tz64_key x _ hx h0 hlow) hi hk ?_
 have:=hT _ hi
 rw [htab] at this
 exact this
theorem j6a (x:Nat) (h0:x ≠ 0) (hx:x < 2 ^ 64) (w:World) (hT:Db w):Calls Tryz.prog 69 #[.int .u64 (x:Int)] w (z6k (.int .i64 (Lib.ctz 64 x:Int)) w):=by
 have A:=hiT (fun wx (e:wx = w)=>x0f x h0 hx wx (e ▸ hT))
 have e:((x:Int) == 0) = false:=by simpa using h0
 generalize Lib.ctz 64 x = k at *
 replace h0:=hiT h0
 clear hT
 go_enter Tryz.func69,Tryz.ntmps69
 go_wp2_with (first | ((with_reducible refine (A.out _ rfl).mono ?_);rintro e w1 ⟨rfl,rfl⟩))
 go_returns
 exact ⟨rfl,rfl⟩
theorem y4p (w:World):Calls Tryz.prog 69 #[.int .u64 0] w (z6k (.int .i64 (-1)) w):=by
 go_enter Tryz.func69,Tryz.ntmps69
 go_wp2
 go_returns
 exact ⟨rfl,rfl⟩
def k5o (nx:Nat → Nat):Nat → List Nat → Prop
 | t,[]=>t = 0
 | t,k :: r=>t ≠ 0 ∧ t < 2 ^ 64 ∧ nx t = k ∧ (z5h (z6r t (q6g k))).length < (z5h t).length ∧ k5o nx (z6r t (q6g k)) r
theorem k2b {s:Nat} (hs:s < 2 ^ 64) (h:z5h s = []):s = 0:=by
 rcases Nat.eq_zero_or_pos s with e | e
 ·exact e
 ·rw [q4n s omT hs] at h
  cases h
theorem k3k:∀ (l:List Nat) (s:Nat),s < 2 ^ 64 → z5h s = l → k5o (Lib.ctz 64) s l
 | [],s,hs,h=>k2b hs h
 | k :: r,s,hs,h=>by
  have h0:s ≠ 0:=fun e=>by
   subst e
   rw [show z5h 0 = [] from j1m 64 0] at h
   cases h
  have h1:=q4n s h0 hs
  rw [h] at h1
  obtain ⟨h2,h3⟩:=List.cons.inj h1
  refine ⟨h0,hs,h2.symm,?_,k3k r _ (j3m _ hs) (by rw [h2,← h3])⟩
  rw [h,h2,← h3,List.length_cons]
  omega
attribute [local go_sem] Oper.semAt_some
structure TkAt (f:FuncId) (s b c:Nat) (w:World):Prop where
 set:z1x w b (.int .u64 (s:Int)) 35
 nx:z1x w c (.func (.func f) #[] #[]) 153
 tab:Db w
theorem k4f {f:FuncId} {s b c:Nat} {w w':World} (h:TkAt f s b c w) (hb:Below w.heap.size w w'):TkAt f s b c w':=⟨z1s h.set hb,z1s h.nx hb,z4f h.tab hb⟩
def q4m (l:List Nat):List (Array Value):=l.map fun n:Nat=>#[Value.int .i64 (n:Int)]
theorem j3t {l:List Nat} {j:Nat} (hj:j < (q4m l).length):(q4m l)[j] = #[Value.int .i64 ((l[j]'(by simpa [q4m] using hj):Nat):Int)]:=by simp [q4m]
set_option maxRecDepth 100000 in
set_option maxHeartbeats 4000000 in
theorem v0a (n b c s:Nat) (f:FuncId) (hcf:∀ a wx,(callFunc f a).run Tryz.prog wx = .ok (.enter f a) wx) (nx:Nat → Nat) (ks:List Nat) (hR:k5o nx s ks)
  (hN:∀ (t:Nat) wx,t ≠ 0 → t < 2 ^ 64 → Db wx → Calls Tryz.prog f #[.int .u64 (t:Int)] wx (z6k (.int .i64 (nx t:Int)) wx)) :
  y8o n 96 #[.pointer (some ⟨b,0,none⟩),.pointer (some ⟨c,0,none⟩)] (q4m ks) (TkAt f s b c):=by
 intro l J Jx hJ hY W h0
 have hYh:=hiT hY
 have hJh:=hiT hJ
 have hNh:=hiT hN
 have hlen:(q4m ks).length = ks.length:=by simp [q4m]
 rw [hlen]
 clear hY hJ hN hlen
 refine callsIn_of_wp Tryz.func96 rfl trivial ?_ rfl
 show Code.wpIn _ _ _ _ _ { tmps:=#[.func (.yield l) #[] #[],.pointer (some ⟨b,0,none⟩),.pointer (some ⟨c,0,none⟩)] ++ _,defers:=[] } _
 simp only [Tryz.ntmps96,List.size_toArray,List.length_cons,List.length_nil,Nat.reduceAdd,Nat.reduceSub,Array.replicate_succ,Array.replicate_zero,List.push_toArray,List.append_toArray,List.nil_append,List.cons_append]
 obtain ⟨cb,fb,lb⟩:=z0r (hJh.out _ _ h0).set
 have hd:Hid (ks.drop 0 = ks):=hiT List.drop_zero
 gi_wp2
 clear cb fb lb
 gi_loopw [4] (fun x wr=>∃ (j t:Nat),x = .int .u64 (t:Int) ∧ j ≤ ks.length ∧ Hid (k5o nx t (ks.drop j)) ∧ J j wr) (fun x _=>(z5h (intOf x).toNat).length)
 case atStart=>exact ⟨0,s,rfl,Nat.zero_le _,hiT (by rw [hd.out];exact hR),h0⟩
 case round =>
  obtain ⟨j,t,rfl,hj,hr,hJs⟩:=hrel
  rename World=>wr
  have hk:=hJh.out _ _ hJs
  obtain ⟨cc,fc,lc⟩:=z0r hk.nx
  rcases Nat.lt_or_ge j ks.length with hlt | hge
  ·have hr':=hr.out
   rw [List.drop_eq_getElem_cons hlt] at hr'
   obtain ⟨t0,t1,t2,t3,t4⟩:=hr'
   have hA:=hNh.out t wr t0 t1 hk.tab
   rw [t2] at hA
   replace hA:=hiT hA
   have hY':=hYh.out j (by simpa [q4m] using hlt) wr hJs
   rw [j3t] at hY'
   have hI:((t:Int) != 0) = true:=by simpa using t0
   generalize hkk:ks[j] = k at *
   obtain ⟨fn,tmps,assign,body,hy,hR2⟩:=hY'
   have hO:=hiT (fun wx=>k2d (k:Int) wx)
   have hL:=hiT (fun wx=>j6g t (q6g (k:Int)) t1 (q2d _) wx)
   generalize z6r t (q6g (k:Int)) = t' at *
   generalize q6g (k:Int) = o at *
   replace t0:=hiT t0
   clear hr hkk
   gi_wp2_with fail
   refine ⟨trivial,(fun h=>by cases h),(callsIn_wide.2 hA.out).mono ?_⟩
   rintro e w1 ⟨rfl,rfl⟩
   gi_wp2_with fail
   refine ⟨fun h=>(by cases h),hR2.mono ?_⟩
   rintro e W' (⟨rfl,hJ'⟩ | ⟨rfl,hJx⟩)
   ·gi_wp2_with (refine ⟨trivial,(fun h=>by cases h),?_⟩;first | ((with_reducible refine (callsIn_wide.2 (hO.out _)).mono ?_);rintro e w1 ⟨rfl,rfl⟩) | ((with_reducible refine (callsIn_wide.2 (hL.out _)).mono ?_);rintro e w1 ⟨rfl,rfl⟩))
    go_roundw
    case rel=>exact ⟨j + 1,t',rfl,by omega,hiT t4,hJ'⟩
    case measure=>simp [intOf];omega
   ·gi_wp2
    refine bodyPost_ret (results_none rfl _ _ _) rfl ?_
    exact ⟨⟨_,rfl⟩,.inr ⟨j,hlt,hJx⟩⟩
  ·obtain rfl:j = ks.length:=by omega
   have hr':=hr.out
   rw [List.drop_of_length_le (Nat.le_refl _)] at hr'
   obtain rfl:t = 0:=hr'
   clear hr
   gi_wp2
   go_end0
   exact ⟨⟨_,rfl⟩,.inl hJs⟩
section
variable {F:Fence} {n0:Nat} {P:Program} (w:World) {ops:Array Oper} {rest:List Oper} {o:Oper} {a:Act} {Q:Exit → Act → World → Prop}
end
theorem q8h {w w':World} {B T n k:Nat} {v:Value} {xs:List Value} {cs:Array Value} {T':TypeId} {fr:Nat × Nat} (hown:w.ownsRow B T 1 v n xs) (hg:w.grownBy w' v.ownBlock) (hT:T' ≠ T) (h:w.heap[k]? = some (.cells cs T' fr)):w'.heap[k]? = some (.cells cs T' fr):=by
 have hlt:k < w.heap.size:=(Array.getElem?_eq_some_iff.1 h).1
 rw [hg.block k hlt (fun e=>Lib.ownBlock_ne hown h hT e.symm)]
 exact h
theorem k8k {w w':World} {B T n k:Nat} {v:Value} {xs:List Value} (hown:w.ownsRow B T 1 v n xs) (hg:w.grownBy w' v.ownBlock) (hlt:k < w.heap.size) (h:∀ cs,w.heap[k]? ≠ some (.cells cs T (0,0))):w'.heap[k]? = w.heap[k]?:=by
 refine hg.block k hlt fun e=>?_
 rcases hown.2 with ⟨hn,_⟩ | ⟨g,cap,cur,hv,hb,hgg,_⟩
 ·rw [hn] at e
  cases e
 ·rw [hv] at e
  obtain rfl:k = g:=by simpa [Value.ownBlock] using e
  exact h _ hgg
theorem y2w {w w':World} {B T n k:Nat} {v:Value} {xs:List Value} (hown:w.ownsRow B T 1 v n xs) (hg:w.grownBy w' (some k)) (h:∀ cs,w.heap[k]? ≠ some (.cells cs T (0,0))):w'.ownsRow B T 1 v n xs:=by
 refine hown.kept hg ?_
 rcases hown.2 with ⟨hn,_⟩ | ⟨g,cap,cur,hv,hb,hgg,_⟩
 ·exact .inl (by rw [hn];rfl)
 ·refine .inr fun e=>?_
  rw [hv] at e
  obtain rfl:g = k:=by simpa [Value.ownBlock] using e
  exact h _ hgg
attribute [local go_sem] Oper.semAt_some
def x2x (f:FuncId) (s:Nat) (w:World) (e:Ending) (w':World):Prop:=∃ b c,e = .returned (.func (.func 96) #[] #[.pointer (some ⟨b,0,none⟩),.pointer (some ⟨c,0,none⟩)]) ∧ TkAt f s b c w' ∧ w.heap.size ≤ b ∧ w.heap.size ≤ c ∧ Below w.heap.size w w'
theorem k4c (s:Nat) (f:FuncId) (w:World) (hT:Db w):Calls Tryz.prog 68 #[.int .u64 (s:Int),.func (.func f) #[] #[]] w (x2x f s w):=by
 have hT':=hiT hT
 clear hT
 go_enter Tryz.func68,Tryz.ntmps68
 go_wp2
 go_returns
 have h1:z1x (w.alloc (.cells #[.int .u64 (s:Int)] 35)) w.heap.size (.int .u64 (s:Int)) 35:=heap_alloc_new w _
 exact ⟨w.heap.size,w.heap.size + 1,rfl,⟨z7x _ h1,z0s (by simp),z4f hT'.out gzT⟩,by omega,by omega,gzT⟩
theorem v2v (s:Nat) (w:World) (hT:Db w):Calls Tryz.prog 48 #[.int .u64 (s:Int)] w (x2x 69 s w):=by
 have A:=hiT (k4c s 69 w hT)
 clear hT
 go_enter Tryz.func48,Tryz.ntmps48
 go_wp2_with fail
 refine A.out.mono ?_
 intro e w1 hr
 obtain ⟨b,c,rfl,hr⟩:=hr
 replace hr:=hiT hr
 clear A
 go_wp2
 go_returns
 exact ⟨b,c,rfl,hr.out⟩
theorem y8w (n b c s:Nat) (hs:s < 2 ^ 64):y8o n 96 #[.pointer (some ⟨b,0,none⟩),.pointer (some ⟨c,0,none⟩)] (q4m (z5h s)) (TkAt 69 s b c) :=
 v0a n b c s _ (enters_of Tryz.func69 krT rfl) (Lib.ctz 64) (z5h s) (k3k _ s hs rfl) fun t wx h0 h1 h2=>j6a t h0 h1 wx h2
def U64 (n:Int):Prop:=0 ≤ n ∧ n < 18446744073709551616
end Go.Proofs.YtacnlghljmgdiaaGreatDoor
namespace Go.Proofs.YtacnlghljmgdiaaGreatDoor
open Go.RowKit Go.ChangeShapes Go.WideShapes Go.Joins
theorem q9q {n:Int} (h:(Lit.int .u64 n).wf = true):U64 n:=by
 have:=bounds_u64 h
 unfold U64
 omega
theorem q7i {W:World} (h:Lib.TabIs Tryz.prog W "math/bits.deBruijn64tab" .u8 (Lib.deBruijn64tab.map Int.ofNat)):Db W:=fun j hj=>by
 have:=h.cell (g:=2) krT j (Nat.lt_of_lt_of_eq hj (by decide +kernel))
 rw [this]
 have e:∀ j:Fin 64,(Lib.deBruijn64tab.map Int.ofNat).getD j.val 0 = ((Lib.deBruijn64tab.getD j.val 0:Nat):Int):=by decide +kernel
 rw [e ⟨j,hj⟩]
end Go.Proofs.YtacnlghljmgdiaaGreatDoor
