/- Several texts of this proof, joined: DR, DN. -/
import Derived.Test.YtfgpmcepppcmiaaGreatDoorQ7
import Derived.Test.YtfgpmcepppcmiaaGreatDoorV6
import Derived.Test.YtfgpmcepppcmiaaGreatDoorL3
import Derived.Test.YtfgpmcepppcmiaaGreatDoorJ3
import Derived.Deep.Light
import Derived.WalkKit
import Derived.ProofKit
import Derived.OpenShut
import Derived.Handy
import Derived.BigQuiet
import Derived.OwnWalk
import Derived.Lib.Hide
import Derived.WalkSmall
import Derived.WalkLawsBesides
import Derived.Test.YtfgpmcepppcmiaaGreatDoorL1
import Derived.Test.YtfgpmcepppcmiaaGreatDoorV5
import Derived.Test.YtfgpmcepppcmiaaGreatDoorY6
import Derived.Test.YtfgpmcepppcmiaaGreatDoorQ1
import Derived.Test.YtfgpmcepppcmiaaGreatDoorV1
import Derived.Test.YtfgpmcepppcmiaaGreatDoorY1
import Derived.Test.YtfgpmcepppcmiaaGreatDoorZ7
import Derived.Lib.ItoaNum
import Derived.Test.YtfgpmcepppcmiaaGreatDoorP2
import Derived.Test.YtfgpmcepppcmiaaGreatDoorP3
import Derived.Test.YtfgpmcepppcmiaaGreatDoorI2
namespace Go.Proofs.YtfgpmcepppcmiaaGreatDoor
open Go.RowKit
theorem oper_wide {P:Program} {o:Oper} {a:Act} {w:World} {K:Act → World → Prop} {Q:Exit → Act → World → Prop} {n:Nat} (h:o.wp P a w K Q):o.wpIn Fence.wide n P a w K Q:=by
 unfold Oper.wp at h
 refine ⟨fun _ _=>trivial,?_⟩
 rw [show o.semAt Fence.wide.round a.eval = execOp a.eval o from Oper.semAt_none _ _]
 generalize (execOp a.eval o).run P w = r at *
 cases r with
 | ok x w' =>
  cases x <;> first
   | exact h
   | exact h.elim
   | exact ⟨(fun h=>by cases h),callsIn_wide.2 h⟩
   | exact ⟨(fun h=>by cases h),fun c cs _=>let ⟨v,w'',q,s⟩:=h c cs;⟨v,w'',q,stepsIn_wide.2 s⟩⟩
 | halt x w'=>cases x <;> exact h
theorem opIn_of {P:Program} {ops:Array Oper} {Q:Exit → Act → World → Prop} {i n:Nat} {K:Act → World → Prop} {a:Act} {w:World} (hl:¬ LetsOut Q) (h:wpOp P ops Q i K a w):wpOpIn Fence.wide n P ops Q i K a w:=by
 unfold wpOp at h
 unfold wpOpIn
 cases ho:ops[i]? with
 | none =>
  rw [ho] at h
  exact h
 | some o =>
  rw [ho] at h
  simp only at h ⊢
  split at h
  ·rename_i hw
   rw [if_pos hw]
   exact oper_wide (h.resolve_right fun h=>hl h.2)
  ·rename_i hw
   rw [if_neg hw]
   exact ⟨fun _ _=>trivial,h⟩
theorem anyIn_of {P:Program} {md:Region.Mode} {ops:Array Oper} {Q:Exit → Act → World → Prop} {n:Nat} (hl:¬ LetsOut Q):∀ (fuel:Nat) (listed:Array Bool) (a:Act) (w:World),wpAny P md ops Q fuel listed a w → wpAnyIn Fence.wide n P md ops Q fuel listed a w
 | 0,_,_,_,h=>h
 | fuel + 1,_,_,_,h=>⟨h.1,fun i hi=>wpOpIn_mono (fun a w=>anyIn_of hl fuel _ a w) (opIn_of hl (h.2 i hi))⟩
theorem wpIn_region_mR {P:Program} {l:List Oper} {Q:Exit → Act → World → Prop} {S:World → Prop} {id:Nat} {a:Act} {w:World} {k lr:Nat} (n:Nat) (hm:P.follows .mixedOrders = true) (hd:l.all noDefer = true) (hl:¬ LetsOut Q) (hS:S w.drew)
  (h:S w.drew → wpAnyM P .any l.toArray Q S n l.toArray.size (Array.replicate l.toArray.size false) a w.drew):(Code.region id l.toArray true).wpIn (Fence.wide.inRound lr) k P Q a w:=by
 refine wpIn_region_any hm (anyIn_round (fun i o ho c hc=>?_) _ _ _ _ (anyIn_of hl _ _ _ _ (wpAny_of_m _ _ _ _ (h hS))))
 have hmem:o ∈ l:=by
  have:=Array.mem_of_getElem? ho
  simpa using this
 have:=List.all_eq_true.1 hd o hmem
 unfold noDefer at this
 rw [hc] at this
 cases this
end Go.Proofs.YtfgpmcepppcmiaaGreatDoor
namespace Go.Proofs.YtfgpmcepppcmiaaGreatDoor
open Go.RowKit
attribute [local go_sem] Oper.semAt_some
def nmsL (ss:List St) (l:List Nat):List (List UInt8):=(l.filter fun k=>decide (k < ss.length)).map fun k=>(ss.getD k st0).name
theorem nmsL_in {ss:List St} {l:List Nat} {k:Nat} (h:k < ss.length):nmsL ss (l ++ [k]) = nmsL ss l ++ [(ss.getD k st0).name]:=by
 unfold nmsL
 rw [List.filter_append,List.map_append,List.filter_cons_of_pos (by simpa using h)]
 rfl
theorem nmsL_out {ss:List St} {l:List Nat} {k:Nat} (h:¬ k < ss.length):nmsL ss (l ++ [k]) = nmsL ss l:=by
 unfold nmsL
 rw [List.filter_append,List.filter_cons_of_neg (by simpa using h)]
 simp
theorem nmsL_len (ss:List St) (l:List Nat):(nmsL ss l).length ≤ l.length:=by
 unfold nmsL
 rw [List.length_map]
 exact List.length_filter_le _ _
section
variable {c:Ch} {rv gi:Nat → Value} {b cap:Nat} {gv vv:Value} {w:World}
set_option maxRecDepth 100000 in
set_option maxHeartbeats 8000000 in
theorem tbnames_any (s:Nat) (hs:s < 2 ^ 64) (hT:Db w) (h:TbC c rv gi b w):Calls Tryz.prog 59 #[.agg #[vv,.slice (some ⟨b,0,none⟩) c.states.length cap,gv],.int .u64 (s:Int)] w (TxtsIs (nmsL c.states (numsS s)) w):=by
 have A:=Lib.hid (fun wx (hx:Below w.heap.size w wx)=>all_any s wx (db_below hT hx))
 have hG:=Lib.hid (fun b c=>all_gives 8 b c s hs)
 have hl:=nums_len s
 generalize numsS s = ks at *
 have hTb:=Lib.hid (fun wx (hx:Below w.heap.size w wx)=>tbC_keep h hx)
 have hT':=Lib.hid hT
 clear h hT
 obtain ⟨j0,hj0,hy1,hy2,hy3⟩:=info_parts Tryz.infoStr
 refine (callsIn_wide (n:=9)).1 ?_
 refine callsIn_of_wp_marks Tryz.func59 rfl trivial ?_ rfl
 simp only [Tryz.ntmps59,List.size_toArray,List.length_cons,List.length_nil,Nat.reduceAdd,Nat.reduceSub,Array.replicate_succ,Array.replicate_zero,List.push_toArray,List.append_toArray,List.nil_append,List.cons_append]
 refine wpIn_wide.2 ?_
 go_wp2_with fail
 refine (A.out _ (by (first | exact gwT | exact lzT))).mono ?_
 rintro e W ⟨bb,cc,rfl,hk,hbb,hcc,hW⟩
 have hb1:Below w.heap.size w W:=Below.trans (by (first | exact gwT | exact lzT)) (hW.mono (by simp;omega))
 have q0:=blk_keep (blk_old (heap_alloc_new w (.cells #[vv,.slice (some ⟨b,0,none⟩) c.states.length cap,gv] 27))) hW
 have q1:Cell1 W (w.heap.size + 1) (.slice none 0 0) 38:=blk_keep (new_at (b:=w.heap.size + 1) (by simp)) hW
 have hsz:=hW.size
 simp only [World.size_alloc] at hbb hcc hsz
 clear hW A
 dsimp only
 go_wp2
 generalize hlbe:w.heap.size + 1 = lb at *
 have hbb1:lb < W.heap.size:=by omega
 refine (wpIn_wide (n:=9)).1 ?_
 refine range_gen (n:=9) (by decide) (enters_of Tryz.func97 (by kernel_rfl) rfl) rfl (fun j hj=>by rw [natsA_at];rfl) (hG.out bb cc)
  (fun j V=>∃ ao cap',Cell1 V lb (.slice ao (nmsL c.states (ks.take j)).length cap') 38 ∧ V.ownsRow (lb + 1) 9 1 (.slice ao (nmsL c.states (ks.take j)).length cap') (nmsL c.states (ks.take j)).length (strsC (nmsL c.states (ks.take j))) ∧ TkAt 70 s bb cc V ∧ Below w.heap.size w V ∧ V.heap[w.heap.size]? = some (.cells #[vv,.slice (some ⟨b,0,none⟩) c.states.length cap,gv] 27 (0,0)) ∧ W.heap.size + 2 ≤ V.heap.size)
  (fun _ _ _=>False) (fun j V h=>by obtain ⟨_,_,_,_,h,_⟩:=h;exact h)
  ?hI ?hIx ?h0 (fun j=>{ tmps:=#[.agg #[vv,.slice (some ⟨b,0,none⟩) c.states.length cap,gv],.int .u64 (s:Int),.pointer (some ⟨w.heap.size,0,none⟩),undef,.slice none 0 0,.pointer (some ⟨lb,0,none⟩),.int .i64 ((ks.getD j 0:Nat):Int),.int .u64 (s:Int),.func (.func 97) #[] #[.pointer (some ⟨bb,0,none⟩),.pointer (some ⟨cc,0,none⟩)],.int .i64 ((ks.getD j 0:Nat):Int),undef,undef,undef,undef,undef,undef,undef,undef,undef,undef,undef,undef,undef,undef,undef],defers:=[] }) ?assign ?body ?done ?stop
 case hI =>
  rintro p V V' r ⟨ao,cap',g1,g2,g3,g4,g5,g6⟩ hg hr
  have hne:∀ {k:Nat} {v:Value} {T:TypeId},Cell1 V k v T → Cell1 V' k v T:=fun {k v T} h=>cell1_low h hg (fun e=>by
   subst e
   unfold Cell1 at h
   rw [hr] at h
   cases h)
  have hb4:Below w.heap.size w V':=g4.grown hg (by omega) fun k e=>by cases e;omega
  exact ⟨ao,cap',hne g1,own_turn g2 hg (fun cs e=>by rw [hr] at e;cases e),⟨hne g3.set,hne g3.nx,db_below hT'.out hb4⟩,hb4,(hg.block _ (lt_of_block g5) (by simp;omega)).trans g5,Nat.le_trans g6 hg.size⟩
 case hIx=>exact fun _ _ _ _ _ h _ _=>h.elim
 case h0 =>
  intro o o'
  exact ⟨none,0,cell1_old _ (cell1_old _ q1),World.ownsRow_nil _ _ _ _,tkAt_keep hk (by (first | exact gwT | exact lzT)),by (first | exact gwT | exact lzT),blk_old (blk_old q0),by simp⟩
 case assign =>
  intro l j hj V K hK
  have hj':j < ks.length:=by simpa [natsA] using hj
  rw [natsA_at]
  gi_wp2
  rw [show ks[j]'hj' = ks.getD j 0 by simp [List.getD,hj']]
  exact hK
 case body =>
  rintro l j hj V ⟨ao,cap',g1,g2,g3,g4,g5,g6⟩ hdef hloop
  have hj':j < ks.length:=by simpa [natsA] using hj
  have htk:ks.take (j + 1) = ks.take j ++ [ks.getD j 0]:=by
   rw [List.take_add_one,List.getElem?_eq_getElem hj',show ks.getD j 0 = ks[j]'hj' by simp [List.getD,hj']];rfl
  obtain ⟨z0,f0,y0⟩:=one_cells g1
  obtain ⟨w0,w1,w2,wl,-⟩:=cells3 g5
  have hm64:(nmsL c.states (ks.take j)).length ≤ 64:=Nat.le_trans (nmsL_len _ _) (by rw [List.length_take];omega)
  generalize hkk:ks.getD j 0 = k at *
  have ibx:InW w.heap.size V:=⟨wl⟩
  have ilb:InW lb V:=⟨y0⟩
  replace htk:=Lib.hid htk
  by_cases hlt:k < c.states.length
  ·have hI:(k:Int) < (c.states.length:Int):=by omega
   obtain ⟨n0,-⟩:=tbC_row (hTb.out V g4) hlt
   have ib:InW b V:=⟨(hTb.out V g4).lt⟩
   have hnm:=nmsL_in (l:=ks.take j) hlt
   generalize hm:nmsL c.states (ks.take j) = ms at *
   generalize (c.states.getD k st0).name = nm at *
   have hbw:b < w.heap.size:=(hTb.out w (Below.refl _ _)).lt
   have fin:∀ (V0 w1:World) (g' c2:Nat),Below V.heap.size V V0 → V0.grownBy w1 (Value.slice ao ms.length cap').ownBlock → w1.ownsRow (lb + 1) 9 1 (.slice (some ⟨g',0,none⟩) (ms.length + 1) c2) (ms.length + 1) (strsC ms ++ [str nm]) →
     (∀ i,i = W.heap.size ∨ i = W.heap.size + 1 → (w1.setCell ⟨lb,0,none⟩ (.slice (some ⟨g',0,none⟩) (ms.length + 1) c2)).heap[i]? = V.heap[i]?) ∧
     ∃ ao2 cap2,Cell1 (w1.setCell ⟨lb,0,none⟩ (.slice (some ⟨g',0,none⟩) (ms.length + 1) c2)) lb (.slice ao2 (nmsL c.states (ks.take (j + 1))).length cap2) 38 ∧ (w1.setCell ⟨lb,0,none⟩ (.slice (some ⟨g',0,none⟩) (ms.length + 1) c2)).ownsRow (lb + 1) 9 1 (.slice ao2 (nmsL c.states (ks.take (j + 1))).length cap2) (nmsL c.states (ks.take (j + 1))).length (strsC (nmsL c.states (ks.take (j + 1)))) ∧ TkAt 70 s bb cc (w1.setCell ⟨lb,0,none⟩ (.slice (some ⟨g',0,none⟩) (ms.length + 1) c2)) ∧ Below w.heap.size w (w1.setCell ⟨lb,0,none⟩ (.slice (some ⟨g',0,none⟩) (ms.length + 1) c2)) ∧ (w1.setCell ⟨lb,0,none⟩ (.slice (some ⟨g',0,none⟩) (ms.length + 1) c2)).heap[w.heap.size]? = some (.cells #[vv,.slice (some ⟨b,0,none⟩) c.states.length cap,gv] 27 (0,0)) ∧ W.heap.size + 2 ≤ (w1.setCell ⟨lb,0,none⟩ (.slice (some ⟨g',0,none⟩) (ms.length + 1) c2)).heap.size:=by
    intro V0 w1 g' c2 hV0 hg hown
    have gO:=owns_below g2 hV0
    have far:∀ {i:Nat} {cs:Array Value} {T':TypeId} {fr:Nat × Nat},T' ≠ 9 → V.heap[i]? = some (.cells cs T' fr) → w1.heap[i]? = some (.cells cs T' fr):=fun {i cs T' fr} hT h=>own_other gO hg hT ((hV0.block i (Array.getElem?_eq_some_iff.1 h).1).trans h)
    have hc1:Cell1 w1 lb (.slice ao ms.length cap') 38:=far (by decide) g1
    have hset:=far (by decide) g3.set
    have hnx:=far (by decide) g3.nx
    have hz1:V.heap.size ≤ w1.heap.size:=Nat.le_trans hV0.size hg.size
    have hb2:Below w.heap.size w w1:=(g4.trans (hV0.mono (by omega))).grown hg (by have:=hV0.size;omega) fun i hi=>by have:=(gO.lt i hi).1;omega
    have hb3:Below w.heap.size w (w1.setCell ⟨lb,0,none⟩ (.slice (some ⟨g',0,none⟩) (ms.length + 1) c2)):=hb2.setCell (p:=⟨_,_,none⟩) (by show w.heap.size ≤ lb;omega) _
    have hg3:=grown_set w1 lb 0 (.slice (some ⟨g',0,none⟩) (ms.length + 1) c2)
    rw [htk.out,hnm,List.length_append]
    refine ⟨fun i hi=>?_,some ⟨g',0,none⟩,c2,set_one hc1,?_,⟨set_far hset (by omega),set_far hnx (by omega),db_below hT'.out hb3⟩,hb3,(set_heap (by omega)).trans (far (by decide) g5),by rw [World.size_setCell];omega⟩
    ·rw [set_heap (by omega)]
     have hlt2:i < V.heap.size:=by omega
     rw [own_loop gO hg (by have:=hV0.size;omega) (fun cs=>by
      rw [hV0.block i hlt2]
      rcases hi with rfl | rfl
      ·rw [hdef];simp
      ·obtain ⟨r,hr⟩:=hloop
       rw [hr];simp),hV0.block i hlt2]
    ·rw [show strsC (ms ++ [nm]) = strsC ms ++ [str nm] by simp [strsC]]
     exact hown.kept hg3 (.inr fun e=>Lib.ownBlock_ne hown hc1 (by decide) e)
   replace fin:=Lib.hid fin
   gi_wp2
   refine wpIn_region_mR (S:=fun V'=>V'.cell? ⟨lb,0,none⟩ = some (.slice ao ms.length cap') ∧ V'.cell? ⟨w.heap.size,1,none⟩ = some (.slice (some ⟨b,0,none⟩) c.states.length cap) ∧ V'.cell? ⟨b,k * 11,none⟩ = some (str nm)) 9 (by kernel_rfl) (by kernel_rfl) (fun ⟨_,_,h⟩=>h) (by exact ⟨z0,w1,n0⟩) (fun hS=>?_)
   have hT:=hS
   (try dsimp only at hT)
   obtain ⟨s0,s1,s2⟩:=hT
   (refine wpAnyM_slot (i:=0) (v:=?_) rfl rfl (by kernel_rfl) (by kernel_rfl) (by kernel_rfl) (by kernel_rfl) (fun _ _ _ h=>h) (Or.inl ⟨by rfl,?_⟩) (by assumption) ?_;rotate_left;(focus (intro w hSw;(try dsimp only at hSw);go_simp;all_goals (with_reducible rfl)));simp only [List.setIfInBounds_toArray,List.set_cons_zero,List.set_cons_succ])
   (refine wpAnyM_slot (i:=1) (v:=?_) rfl rfl (by kernel_rfl) (by kernel_rfl) (by kernel_rfl) (by kernel_rfl) (fun _ _ _ h=>h) (Or.inl ⟨by rfl,?_⟩) (by assumption) ?_;rotate_left;(focus (intro w hSw;(try dsimp only at hSw);go_simp;all_goals (with_reducible rfl)));simp only [List.setIfInBounds_toArray,List.set_cons_zero,List.set_cons_succ])
   (refine wpAnyM_slot (i:=2) (v:=?_) rfl rfl (by kernel_rfl) (by kernel_rfl) (by kernel_rfl) (by kernel_rfl) (fun _ _ _ h=>h) (Or.inl ⟨by rfl,?_⟩) (by assumption) ?_;rotate_left;(focus (intro w hSw;(try dsimp only at hSw);go_simp;all_goals (with_reducible rfl)));simp only [List.setIfInBounds_toArray,List.set_cons_zero,List.set_cons_succ])
   (refine wpAnyM_slot (i:=3) (v:=?_) rfl rfl (by kernel_rfl) (by kernel_rfl) (by kernel_rfl) (by kernel_rfl) (fun _ _ _ h=>h) (Or.inl ⟨by rfl,?_⟩) (by assumption) ?_;rotate_left;(focus (intro w hSw;(try dsimp only at hSw);go_simp;all_goals (with_reducible rfl)));simp only [List.setIfInBounds_toArray,List.set_cons_zero,List.set_cons_succ])
   (refine wpAnyM_slot (i:=4) (v:=?_) rfl rfl (by kernel_rfl) (by kernel_rfl) (by kernel_rfl) (by kernel_rfl) (fun _ _ _ h=>h) (Or.inl ⟨by rfl,?_⟩) (by assumption) ?_;rotate_left;(focus (intro w hSw;(try dsimp only at hSw);go_simp;all_goals (with_reducible rfl)));simp only [List.setIfInBounds_toArray,List.set_cons_zero,List.set_cons_succ])
   (refine wpAnyM_slot (i:=5) (v:=?_) rfl rfl (by kernel_rfl) (by kernel_rfl) (by kernel_rfl) (by kernel_rfl) (fun _ _ _ h=>h) (Or.inl ⟨by rfl,?_⟩) (by assumption) ?_;rotate_left;(focus (intro w hSw;(try dsimp only at hSw);go_simp;all_goals (with_reducible rfl)));simp only [List.setIfInBounds_toArray,List.set_cons_zero,List.set_cons_succ])
   (refine wpAnyM_slot (i:=6) (v:=?_) rfl rfl (by kernel_rfl) (by kernel_rfl) (by kernel_rfl) (by kernel_rfl) (fun _ _ _ h=>h) (Or.inl ⟨by rfl,?_⟩) (by assumption) ?_;rotate_left;(focus (intro w hSw;(try dsimp only at hSw);go_simp;all_goals (with_reducible rfl)));simp only [List.setIfInBounds_toArray,List.set_cons_zero,List.set_cons_succ])
   refine wpAnyM_one (t:=7) (by kernel_rfl) rfl rfl (fun K' hK=>?_)
   go_simp
   refine hK.out _ _ (fun _=>?_) (fun hS=>?_)
   ·(try dsimp only)
    exact ⟨(cell_allocI _ _ _ _).trans s0,(cell_allocI _ _ _ _).trans s1,(cell_allocI _ _ _ _).trans s2⟩
   clear s0 s1 s2 hK K'
   replace hS:=hS (by decide)
   have hT:=hS
   (try dsimp only at hT)
   obtain ⟨s0,s1,s2⟩:=hT
   refine wpAnyM_act (t:=8) (by kernel_rfl) rfl rfl rfl (fun K' hK=>?_)
   refine wp_append_lies _ (.tmp 15) (.tmp 22) 38 rfl (lb + 1) 9 j0 _ 1 16 Tryz.underlying38 hj0 hy1 hy2 hy3 rfl (by decide) (.slice ao ms.length cap') ms.length (strsC ms) (by simp [Act.eval]) (owns_below g2 (by (first | exact gwT | exact lzT))) ⟨_,0,none⟩ 1 1 [str nm] rfl rfl (World.news_of_block (new_at (by simp))) (by intro u hu;simp at hu;subst hu;rfl) (by decide) (by unfold maxLen;omega) (by omega) (Nat.le_trans (show lb + 1 ≤ V.heap.size by omega) (Below.size (B:=V.heap.size) (w:=V) (by (first | exact gwT | exact lzT)))) _ rfl ?_
   intro g' c2 w5 hown1 hgrow hat1 hg1
   have hV0:∀ X:World,Below V.heap.size V X → X.grownBy w5 (Value.slice ao ms.length cap').ownBlock → Cell1 w5 lb (.slice ao ms.length cap') 38 ∧ w5.heap[w.heap.size]? = some (.cells #[vv,.slice (some ⟨b,0,none⟩) c.states.length cap,gv] 27 (0,0)) ∧ w5.heap[b]? = V.heap[b]?:=fun X hX hg =>
    ⟨own_other (owns_below g2 hX) hg (by decide) (cell1_keep g1 hX),own_other (owns_below g2 hX) hg (by decide) (blk_keep g5 hX),(hg.block b (by have:=hX.size;omega) (fun e=>by have:=((owns_below g2 hX).lt b e.symm).1;omega)).trans (hX.block b (by omega))⟩
   obtain ⟨v1,v2,v3⟩:=hV0 _ (by (first | exact gwT | exact lzT)) hgrow
   obtain ⟨z9,f9,y9⟩:=one_cells v1
   obtain ⟨-,x1,-,-,-⟩:=cells3 v2
   have n9:w5.cell? ⟨b,k * 11,none⟩ = some (str nm):=by
    rw [← n0]
    unfold World.cell?
    rw [v3]
   have ilb5:InW lb w5:=⟨y9⟩
   refine hK.out _ _ (fun _=>?_) (fun hS=>?_)
   ·exact ⟨z9,x1,n9⟩
   clear s0 s1 s2 hK K'
   refine wpAnyM_one (t:=9) (by kernel_rfl) rfl rfl (fun K' hK=>?_)
   go_simp
   refine hK.out _ _ (fun h=>absurd rfl h) (fun _=>wpAnyM_done (by kernel_rfl) ?_)
   gi_wp2
   exact fin.out _ _ _ _ (by (first | exact gwT | exact lzT)) hgrow hown1
  ·have hI:¬ (k:Int) < (c.states.length:Int):=by omega
   have hnm:=nmsL_out (l:=ks.take j) hlt
   gi_wp2
   refine ⟨fun _ _=>rfl,ao,cap',?_⟩
   rw [htk.out,hnm]
   exact ⟨g1,g2,g3,g4,g5,g6⟩
 case done =>
  rintro D V hD ⟨ao,cap',g1,g2,g3,g4,g5,g6⟩ hK
  rw [show (natsA ks).length = ks.length by simp [natsA],List.take_length] at g1 g2
  obtain ⟨z0,f0,y0⟩:=one_cells g1
  have ilb:InW lb V:=⟨y0⟩
  generalize nmsL c.states ks = ns at *
  have hgD:=grownBy_putObj' V D (.deferred none)
  have hO:=Lib.hid (owns_base (own_turn g2 hgD (fun cs e=>by rw [hK] at e;cases e)) (show w.heap.size ≤ lb + 1 by omega))
  have hB:=Lib.hid (g4.grown hgD (by omega) fun k e=>by cases e;omega)
  have hKh:=Lib.hid hK
  clear g1 g2 g3 g4 g5 g6 hK hgD q0 q1 hk
  go_wp2
  refine ⟨by simp,.inl ⟨_,_,rfl,run_takeDeferred hKh.out,?_⟩⟩
  exact ⟨.slice ao ns.length cap',by simp [results,Tryz.f59,go_sem],_,rfl,hO.out,hB.out⟩
 case stop=>exact fun _ _ _ _ _ _ h _=>h.elim
end
end Go.Proofs.YtfgpmcepppcmiaaGreatDoor
