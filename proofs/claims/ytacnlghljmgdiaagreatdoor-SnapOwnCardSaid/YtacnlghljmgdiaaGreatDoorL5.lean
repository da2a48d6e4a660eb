/- Several texts of this proof, joined: DR, DN. -/
import Derived.Test.YtacnlghljmgdiaaGreatDoorQ7
import Derived.Test.YtacnlghljmgdiaaGreatDoorV6
import Derived.Test.YtacnlghljmgdiaaGreatDoorL3
import Derived.Test.YtacnlghljmgdiaaGreatDoorJ3
import Derived.Deep.Light
import Derived.WalkKit
import Derived.ProofKit
import Derived.OpenShut
import Derived.Handy
import Derived.BigQuiet
import Derived.OwnWalk
import Derived.Lib.Hide
import Derived.WalkSmall
import Derived.WalkLawsBesides
import Derived.Test.YtacnlghljmgdiaaGreatDoorL1
import Derived.Test.YtacnlghljmgdiaaGreatDoorV5
import Derived.Test.YtacnlghljmgdiaaGreatDoorY6
import Derived.Test.YtacnlghljmgdiaaGreatDoorQ1
import Derived.Test.YtacnlghljmgdiaaGreatDoorY1
import Derived.Test.YtacnlghljmgdiaaGreatDoorZ7
import Derived.Lib.ItoaNum
import Derived.Test.YtacnlghljmgdiaaGreatDoorP2
import Derived.Test.YtacnlghljmgdiaaGreatDoorP3
import Derived.Test.YtacnlghljmgdiaaGreatDoorI2
namespace Go.Proofs.YtacnlghljmgdiaaGreatDoor
open Go.RowKit
theorem k2e {P:Program} {o:Oper} {a:Act} {w:World} {K:Act → World → Prop} {Q:Exit → Act → World → Prop} {n:Nat} (h:o.wp P a w K Q):o.wpIn Fence.wide n P a w K Q:=by
 unfold Oper.wp at h
 refine ⟨fun _ _=>trivial,?_⟩
 rw [show o.semAt Fence.wide.round a.eval = execOp a.eval o from Oper.semAt_none _ _]
 generalize (execOp a.eval o).run P w = r at *
 cases r with
 | ok x w' =>
  cases x <;> first
   | exact h
   | exact h.elim
   | exact ⟨(fun h=>by cases h),callsIn_wide.2 h⟩
   | exact ⟨(fun h=>by cases h),fun c cs _=>let ⟨v,w'',q,s⟩:=h c cs;⟨v,w'',q,stepsIn_wide.2 s⟩⟩
 | halt x w'=>cases x <;> exact h
theorem v5n {P:Program} {ops:Array Oper} {Q:Exit → Act → World → Prop} {i n:Nat} {K:Act → World → Prop} {a:Act} {w:World} (hl:¬ LetsOut Q) (h:wpOp P ops Q i K a w):wpOpIn Fence.wide n P ops Q i K a w:=by
 unfold wpOp at h
 unfold wpOpIn
 cases ho:ops[i]? with
 | none =>
  rw [ho] at h
  exact h
 | some o =>
  rw [ho] at h
  simp only at h ⊢
  split at h
  ·rename_i hw
   rw [if_pos hw]
   exact k2e (h.resolve_right fun h=>hl h.2)
  ·rename_i hw
   rw [if_neg hw]
   exact ⟨fun _ _=>trivial,h⟩
theorem y1q {P:Program} {md:Region.Mode} {ops:Array Oper} {Q:Exit → Act → World → Prop} {n:Nat} (hl:¬ LetsOut Q):∀ (fuel:Nat) (listed:Array Bool) (a:Act) (w:World),wpAny P md ops Q fuel listed a w → wpAnyIn Fence.wide n P md ops Q fuel listed a w
 | 0,_,_,_,h=>h
 | fuel + 1,_,_,_,h=>⟨h.1,fun i hi=>wpOpIn_mono (fun a w=>y1q hl fuel _ a w) (v5n hl (h.2 i hi))⟩
theorem j0i {P:Program} {l:List Oper} {Q:Exit → Act → World → Prop} {S:World → Prop} {id:Nat} {a:Act} {w:World} {k lr:Nat} (n:Nat) (hm:P.follows .mixedOrders = true) (hd:l.all j3w = true) (hl:¬ LetsOut Q) (hS:S w.drew)
  (h:S w.drew → z5a P .any l.toArray Q S n l.toArray.size (Array.replicate l.toArray.size false) a w.drew):(Code.region id l.toArray true).wpIn (Fence.wide.inRound lr) k P Q a w:=by
 refine wpIn_region_any hm (q1w (fun i o ho c hc=>?_) _ _ _ _ (y1q hl _ _ _ _ (q4z _ _ _ _ (h hS))))
 have hmem:o ∈ l:=by
  have:=Array.mem_of_getElem? ho
  simpa using this
 have:=List.all_eq_true.1 hd o hmem
 unfold j3w at this
 rw [hc] at this
 cases this
attribute [local go_sem] Oper.semAt_some
def q5m (ss:List St) (l:List Nat):List (List UInt8):=(l.filter fun k=>decide (k < ss.length)).map fun k=>(ss.getD k st0).name
theorem v5i {ss:List St} {l:List Nat} {k:Nat} (h:k < ss.length):q5m ss (l ++ [k]) = q5m ss l ++ [(ss.getD k st0).name]:=by
 unfold q5m
 rw [List.filter_append,List.map_append,List.filter_cons_of_pos (by simpa using h)]
 rfl
theorem k7z {ss:List St} {l:List Nat} {k:Nat} (h:¬ k < ss.length):q5m ss (l ++ [k]) = q5m ss l:=by
 unfold q5m
 rw [List.filter_append,List.filter_cons_of_neg (by simpa using h)]
 simp
theorem k7y (ss:List St) (l:List Nat):(q5m ss l).length ≤ l.length:=by
 unfold q5m
 rw [List.length_map]
 exact List.length_filter_le _ _
section
variable {c:Ch} {rv gi:Nat → Value} {b cap:Nat} {gv vv:Value} {w:World}
set_option maxRecDepth 100000 in
set_option maxHeartbeats 8000000 in
theorem y1c (s:Nat) (hs:s < 2 ^ 64) (hT:Db w) (h:TbC c rv gi b w):Calls Tryz.prog 58 #[.agg #[vv,.slice (some ⟨b,0,none⟩) c.states.length cap,gv],.int .u64 (s:Int)] w (v7v (q5m c.states (z5h s)) w):=by
 have A:=hiT (fun wx (hx:Below w.heap.size w wx)=>v2v s wx (z4f hT hx))
 have hG:=hiT (fun b c=>y8w 8 b c s hs)
 have hl:=k8c s
 generalize z5h s = ks at *
 have hTb:=hiT (fun wx (hx:Below w.heap.size w wx)=>z7n h hx)
 have hT':=hiT hT
 clear h hT
 obtain ⟨j0,hj0,hy1,hy2,hy3⟩:=info_parts Tryz.infoStr
 refine (callsIn_wide (n:=9)).1 ?_
 refine callsIn_of_wp_marks Tryz.func58 rfl trivial ?_ rfl
 simp only [Tryz.ntmps58,List.size_toArray,List.length_cons,List.length_nil,Nat.reduceAdd,Nat.reduceSub,Array.replicate_succ,Array.replicate_zero,List.push_toArray,List.append_toArray,List.nil_append,List.cons_append]
 refine wpIn_wide.2 ?_
 go_wp2_with fail
 refine (A.out _ gzT).mono ?_
 rintro e W ⟨bb,cc,rfl,hk,hbb,hcc,hW⟩
 have hb1:Below w.heap.size w W:=Below.trans gzT (hW.mono (by simp;omega))
 have q0:=z0c (z0j (heap_alloc_new w (.cells #[vv,.slice (some ⟨b,0,none⟩) c.states.length cap,gv] 27))) hW
 have q1:z1x W (w.heap.size + 1) (.slice none 0 0) 38:=z0c (z0s (b:=w.heap.size + 1) (by simp)) hW
 have hsz:=hW.size
 simp only [World.size_alloc] at hbb hcc hsz
 clear hW A
 dsimp only
 go_wp2
 generalize hlbe:w.heap.size + 1 = lb at *
 have hbb1:lb < W.heap.size:=by omega
 refine (wpIn_wide (n:=9)).1 ?_
 refine k2t (n:=9) deT (enters_of Tryz.func96 krT rfl) rfl (fun j hj=>by rw [j3t];rfl) (hG.out bb cc)
  (fun j V=>∃ ao cap',z1x V lb (.slice ao (q5m c.states (ks.take j)).length cap') 38 ∧ V.ownsRow (lb + 1) 9 1 (.slice ao (q5m c.states (ks.take j)).length cap') (q5m c.states (ks.take j)).length (z6a (q5m c.states (ks.take j))) ∧ TkAt 69 s bb cc V ∧ Below w.heap.size w V ∧ V.heap[w.heap.size]? = some (.cells #[vv,.slice (some ⟨b,0,none⟩) c.states.length cap,gv] 27 (0,0)) ∧ W.heap.size + 2 ≤ V.heap.size)
  (fun _ _ _=>False) (fun j V h=>by obtain ⟨_,_,_,_,h,_⟩:=h;exact h)
  ?hI ?hIx ?h0 (fun j=>{ tmps:=#[.agg #[vv,.slice (some ⟨b,0,none⟩) c.states.length cap,gv],.int .u64 (s:Int),.pointer (some ⟨w.heap.size,0,none⟩),undef,.slice none 0 0,.pointer (some ⟨lb,0,none⟩),.int .i64 ((ks.getD j 0:Nat):Int),.int .u64 (s:Int),.func (.func 96) #[] #[.pointer (some ⟨bb,0,none⟩),.pointer (some ⟨cc,0,none⟩)],.int .i64 ((ks.getD j 0:Nat):Int),undef,undef,undef,undef,undef,undef,undef,undef,undef,undef,undef,undef,undef,undef,undef],defers:=[] }) ?assign ?body ?done ?stop
 case hI =>
  rintro p V V' r ⟨ao,cap',g1,g2,g3,g4,g5,g6⟩ hg hr
  have hne:∀ {k:Nat} {v:Value} {T:TypeId},z1x V k v T → z1x V' k v T:=fun {k v T} h=>z4q h hg (fun e=>by
   subst e
   unfold z1x at h
   rw [hr] at h
   cases h)
  have hb4:Below w.heap.size w V':=g4.grown hg omT fun k e=>by cases e;omega
  exact ⟨ao,cap',hne g1,y2w g2 hg (fun cs e=>by rw [hr] at e;cases e),⟨hne g3.set,hne g3.nx,z4f hT'.out hb4⟩,hb4,(hg.block _ (lt_of_block g5) (by simp;omega)).trans g5,Nat.le_trans g6 hg.size⟩
 case hIx=>exact fun _ _ _ _ _ h _ _=>h.elim
 case h0 =>
  intro o o'
  exact ⟨none,0,z7x _ (z7x _ q1),World.ownsRow_nil _ _ _ _,k4f hk gzT,gzT,z0j (z0j q0),by simp⟩
 case assign =>
  intro l j hj V K hK
  have hj':j < ks.length:=by simpa [q4m] using hj
  rw [j3t]
  gi_wp2
  rw [show ks[j]'hj' = ks.getD j 0 by simp [List.getD,hj']]
  exact hK
 case body =>
  rintro l j hj V ⟨ao,cap',g1,g2,g3,g4,g5,g6⟩ hdef hloop
  have hj':j < ks.length:=by simpa [q4m] using hj
  have htk:ks.take (j + 1) = ks.take j ++ [ks.getD j 0]:=by
   rw [List.take_add_one,List.getElem?_eq_getElem hj',show ks.getD j 0 = ks[j]'hj' by simp [List.getD,hj']];rfl
  obtain ⟨z0,f0,y0⟩:=z0r g1
  obtain ⟨w0,w1,w2,wl,-⟩:=z3p g5
  have hm64:(q5m c.states (ks.take j)).length ≤ 64:=Nat.le_trans (k7y _ _) (by rw [List.length_take];omega)
  generalize hkk:ks.getD j 0 = k at *
  have ibx:InW w.heap.size V:=⟨wl⟩
  have ilb:InW lb V:=⟨y0⟩
  replace htk:=hiT htk
  by_cases hlt:k < c.states.length
  ·have hI:(k:Int) < (c.states.length:Int):=by omega
   obtain ⟨n0,-⟩:=y1a (hTb.out V g4) hlt
   have ib:InW b V:=⟨(hTb.out V g4).lt⟩
   have hnm:=v5i (l:=ks.take j) hlt
   generalize hm:q5m c.states (ks.take j) = ms at *
   generalize (c.states.getD k st0).name = nm at *
   have hbw:b < w.heap.size:=(hTb.out w (Below.refl _ _)).lt
   have fin:∀ (V0 w1:World) (g' c2:Nat),Below V.heap.size V V0 → V0.grownBy w1 (Value.slice ao ms.length cap').ownBlock → w1.ownsRow (lb + 1) 9 1 (.slice (some ⟨g',0,none⟩) (ms.length + 1) c2) (ms.length + 1) (z6a ms ++ [str nm]) →
     (∀ i,i = W.heap.size ∨ i = W.heap.size + 1 → (w1.setCell ⟨lb,0,none⟩ (.slice (some ⟨g',0,none⟩) (ms.length + 1) c2)).heap[i]? = V.heap[i]?) ∧
     ∃ ao2 cap2,z1x (w1.setCell ⟨lb,0,none⟩ (.slice (some ⟨g',0,none⟩) (ms.length + 1) c2)) lb (.slice ao2 (q5m c.states (ks.take (j + 1))).length cap2) 38 ∧ (w1.setCell ⟨lb,0,none⟩ (.slice (some ⟨g',0,none⟩) (ms.length + 1) c2)).ownsRow (lb + 1) 9 1 (.slice ao2 (q5m c.states (ks.take (j + 1))).length cap2) (q5m c.states (ks.take (j + 1))).length (z6a (q5m c.states (ks.take (j + 1)))) ∧ TkAt 69 s bb cc (w1.setCell ⟨lb,0,none⟩ (.slice (some ⟨g',0,none⟩) (ms.length + 1) c2)) ∧ Below w.heap.size w (w1.setCell ⟨lb,0,none⟩ (.slice (some ⟨g',0,none⟩) (ms.length + 1) c2)) ∧ (w1.setCell ⟨lb,0,none⟩ (.slice (some ⟨g',0,none⟩) (ms.length + 1) c2)).heap[w.heap.size]? = some (.cells #[vv,.slice (some ⟨b,0,none⟩) c.states.length cap,gv] 27 (0,0)) ∧ W.heap.size + 2 ≤ (w1.setCell ⟨lb,0,none⟩ (.slice (some ⟨g',0,none⟩) (ms.length + 1) c2)).heap.size:=by
    intro V0 w1 g' c2 hV0 hg hown
    have gO:=z0a g2 hV0
    have far:∀ {i:Nat} {cs:Array Value} {T':TypeId} {fr:Nat × Nat},T' ≠ 9 → V.heap[i]? = some (.cells cs T' fr) → w1.heap[i]? = some (.cells cs T' fr):=fun {i cs T' fr} hT h=>q8h gO hg hT ((hV0.block i (Array.getElem?_eq_some_iff.1 h).1).trans h)
    have hc1:z1x w1 lb (.slice ao ms.length cap') 38:=far deT g1
    have hset:=far deT g3.set
    have hnx:=far deT g3.nx
    have hz1:V.heap.size ≤ w1.heap.size:=Nat.le_trans hV0.size hg.size
    have hb2:Below w.heap.size w w1:=(g4.trans (hV0.mono omT)).grown hg (by have:=hV0.size;omega) fun i hi=>by have:=(gO.lt i hi).1;omega
    have hb3:Below w.heap.size w (w1.setCell ⟨lb,0,none⟩ (.slice (some ⟨g',0,none⟩) (ms.length + 1) c2)):=hb2.setCell (p:=⟨_,_,none⟩) (by show w.heap.size ≤ lb;omega) _
    have hg3:=z6q w1 lb 0 (.slice (some ⟨g',0,none⟩) (ms.length + 1) c2)
    rw [htk.out,hnm,List.length_append]
    refine ⟨fun i hi=>?_,some ⟨g',0,none⟩,c2,z7s hc1,?_,⟨q0g hset omT,q0g hnx omT,z4f hT'.out hb3⟩,hb3,(z0v omT).trans (far deT g5),by rw [World.size_setCell];omega⟩
    ·rw [z0v omT]
     have hlt2:i < V.heap.size:=by omega
     rw [k8k gO hg (by have:=hV0.size;omega) (fun cs=>by
      rw [hV0.block i hlt2]
      rcases hi with rfl | rfl
      ·rw [hdef];simp
      ·obtain ⟨r,hr⟩:=hloop
       rw [hr];simp),hV0.block i hlt2]
    ·rw [show z6a (ms ++ [nm]) = z6a ms ++ [str nm] by simp [z6a]]
     exact hown.kept hg3 (.inr fun e=>Lib.ownBlock_ne hown hc1 deT e)
   replace fin:=hiT fin
   gi_wp2
   refine j0i (S:=fun V'=>V'.cell? ⟨lb,0,none⟩ = some (.slice ao ms.length cap') ∧ V'.cell? ⟨w.heap.size,1,none⟩ = some (.slice (some ⟨b,0,none⟩) c.states.length cap) ∧ V'.cell? ⟨b,k * 11,none⟩ = some (str nm)) 9 krT krT (fun ⟨_,_,h⟩=>h) (by exact ⟨z0,w1,n0⟩) (fun hS=>?_)
   have hT:=hS
   (try dsimp only at hT)
   obtain ⟨s0,s1,s2⟩:=hT
   (refine mT 0 rfl rfl (v:=?_) (Or.inl ⟨by rfl,?_⟩) ?_;rotate_left;(focus (intro w hSw;(try dsimp only at hSw);go_simp;all_goals (with_reducible rfl)));simp only [List.setIfInBounds_toArray,List.set_cons_zero,List.set_cons_succ])
   (refine mT 1 rfl rfl (v:=?_) (Or.inl ⟨by rfl,?_⟩) ?_;rotate_left;(focus (intro w hSw;(try dsimp only at hSw);go_simp;all_goals (with_reducible rfl)));simp only [List.setIfInBounds_toArray,List.set_cons_zero,List.set_cons_succ])
   (refine mT 2 rfl rfl (v:=?_) (Or.inl ⟨by rfl,?_⟩) ?_;rotate_left;(focus (intro w hSw;(try dsimp only at hSw);go_simp;all_goals (with_reducible rfl)));simp only [List.setIfInBounds_toArray,List.set_cons_zero,List.set_cons_succ])
   (refine mT 3 rfl rfl (v:=?_) (Or.inl ⟨by rfl,?_⟩) ?_;rotate_left;(focus (intro w hSw;(try dsimp only at hSw);go_simp;all_goals (with_reducible rfl)));simp only [List.setIfInBounds_toArray,List.set_cons_zero,List.set_cons_succ])
   (refine mT 4 rfl rfl (v:=?_) (Or.inl ⟨by rfl,?_⟩) ?_;rotate_left;(focus (intro w hSw;(try dsimp only at hSw);go_simp;all_goals (with_reducible rfl)));simp only [List.setIfInBounds_toArray,List.set_cons_zero,List.set_cons_succ])
   (refine mT 5 rfl rfl (v:=?_) (Or.inl ⟨by rfl,?_⟩) ?_;rotate_left;(focus (intro w hSw;(try dsimp only at hSw);go_simp;all_goals (with_reducible rfl)));simp only [List.setIfInBounds_toArray,List.set_cons_zero,List.set_cons_succ])
   (refine mT 6 rfl rfl (v:=?_) (Or.inl ⟨by rfl,?_⟩) ?_;rotate_left;(focus (intro w hSw;(try dsimp only at hSw);go_simp;all_goals (with_reducible rfl)));simp only [List.setIfInBounds_toArray,List.set_cons_zero,List.set_cons_succ])
   refine z0f (t:=7) krT rfl rfl (fun K' hK=>?_)
   go_simp
   refine hK.out _ _ (fun _=>?_) (fun hS=>?_)
   ·(try dsimp only)
    exact ⟨(z0p _ _ _ _).trans s0,(z0p _ _ _ _).trans s1,(z0p _ _ _ _).trans s2⟩
   clear s0 s1 s2 hK K'
   replace hS:=hS deT
   have hT:=hS
   (try dsimp only at hT)
   obtain ⟨s0,s1,s2⟩:=hT
   refine z2w (t:=8) krT rfl rfl rfl (fun K' hK=>?_)
   refine wp_append_lies _ (.tmp 15) (.tmp 22) 38 rfl (lb + 1) 9 j0 _ 1 16 Tryz.underlying38 hj0 hy1 hy2 hy3 rfl deT (.slice ao ms.length cap') ms.length (z6a ms) (by simp [Act.eval]) (z0a g2 gzT) ⟨_,0,none⟩ 1 1 [str nm] rfl rfl (World.news_of_block (z0s (by simp))) (by intro u hu;simp at hu;subst hu;rfl) deT (by unfold maxLen;omega) omT (Nat.le_trans (show lb + 1 ≤ V.heap.size by omega) (Below.size (B:=V.heap.size) (w:=V) gzT)) _ rfl ?_
   intro g' c2 w5 hown1 hgrow hat1 hg1
   have hV0:∀ X:World,Below V.heap.size V X → X.grownBy w5 (Value.slice ao ms.length cap').ownBlock → z1x w5 lb (.slice ao ms.length cap') 38 ∧ w5.heap[w.heap.size]? = some (.cells #[vv,.slice (some ⟨b,0,none⟩) c.states.length cap,gv] 27 (0,0)) ∧ w5.heap[b]? = V.heap[b]?:=fun X hX hg =>
    ⟨q8h (z0a g2 hX) hg deT (z1s g1 hX),q8h (z0a g2 hX) hg deT (z0c g5 hX),(hg.block b (by have:=hX.size;omega) (fun e=>by have:=((z0a g2 hX).lt b e.symm).1;omega)).trans (hX.block b omT)⟩
   obtain ⟨v1,v2,v3⟩:=hV0 _ gzT hgrow
   obtain ⟨z9,f9,y9⟩:=z0r v1
   obtain ⟨-,x1,-,-,-⟩:=z3p v2
   have n9:w5.cell? ⟨b,k * 11,none⟩ = some (str nm):=by
    rw [← n0]
    unfold World.cell?
    rw [v3]
   have ilb5:InW lb w5:=⟨y9⟩
   refine hK.out _ _ (fun _=>?_) (fun hS=>?_)
   ·exact ⟨z9,x1,n9⟩
   clear s0 s1 s2 hK K'
   refine z0f (t:=9) krT rfl rfl (fun K' hK=>?_)
   go_simp
   refine hK.out _ _ (fun h=>absurd rfl h) (fun _=>z1j krT ?_)
   gi_wp2
   exact fin.out _ _ _ _ gzT hgrow hown1
  ·have hI:¬ (k:Int) < (c.states.length:Int):=by omega
   have hnm:=k7z (l:=ks.take j) hlt
   gi_wp2
   refine ⟨fun _ _=>rfl,ao,cap',?_⟩
   rw [htk.out,hnm]
   exact ⟨g1,g2,g3,g4,g5,g6⟩
 case done =>
  rintro D V hD ⟨ao,cap',g1,g2,g3,g4,g5,g6⟩ hK
  rw [show (q4m ks).length = ks.length by simp [q4m],List.take_length] at g1 g2
  obtain ⟨z0,f0,y0⟩:=z0r g1
  have ilb:InW lb V:=⟨y0⟩
  generalize q5m c.states ks = ns at *
  have hgD:=grownBy_putObj' V D (.deferred none)
  have hO:=hiT (z0m (y2w g2 hgD (fun cs e=>by rw [hK] at e;cases e)) (show w.heap.size ≤ lb + 1 by omega))
  have hB:=hiT (g4.grown hgD omT fun k e=>by cases e;omega)
  have hKh:=hiT hK
  clear g1 g2 g3 g4 g5 g6 hK hgD q0 q1 hk
  go_wp2
  refine ⟨by simp,.inl ⟨_,_,rfl,run_takeDeferred hKh.out,?_⟩⟩
  exact ⟨.slice ao ns.length cap',by simp [results,Tryz.f58,go_sem],_,rfl,hO.out,hB.out⟩
 case stop=>exact fun _ _ _ _ _ _ h _=>h.elim
end
end Go.Proofs.YtacnlghljmgdiaaGreatDoor
