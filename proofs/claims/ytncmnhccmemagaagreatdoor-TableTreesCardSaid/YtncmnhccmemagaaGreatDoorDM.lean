/- TableTrees: the walk. -/
import Derived.Test.YtncmnhccmemagaaGreatDoorL4
import Derived.Test.YtncmnhccmemagaaGreatDoorQ7
import Derived.WalkKit
import Derived.ProofKit
import Derived.OpenShut
import Derived.Handy
import Derived.BigQuiet
import Derived.OwnWalk
import Derived.Deep.RegionWith
import Derived.Lib.Hide
import Derived.WalkSmall
import Derived.WalkLawsBesides
namespace Go.Proofs.YtncmnhccmemagaaGreatDoor
open Go.RowKit
section
variable {P:Program} {md:Region.Mode} {ops:Array Oper} {Q:Exit → Act → World → Prop} {S:World → Prop}
theorem wpAnyH_slot {i d:Nat} {oi:Oper} {v:Value} {fuel:Nat} {listed:Array Bool} {tmps:Array Value} {defs:_} {w:World} (hi:ops[i]? = some oi) (hd:oi.dst = some d) (hs:Region.noSelect ops = true) (hf:Region.free md ops listed i = true) (hr:(Region.ready md ops listed).contains i = true)
  (hQ:∀ c a w,Q (.panic c) (a.put oi.dst v) w → Q (.panic c) a w) (hy:YieldsIf P ops S oi v ⟨tmps,defs⟩) (hS:S w)
  (h:wpAnyH P md ops Q S fuel (listed.setIfInBounds i true) ⟨tmps.setIfInBounds d v,defs⟩ w):wpAnyH P md ops Q S (fuel + 1) listed ⟨tmps,defs⟩ w:=by
 refine wpAnyH_take hi hs hf hr hQ hy hS ?_
 rw [hd]
 exact h
theorem wpAnyH_act {t d:Nat} {o:Oper} {fuel:Nat} {listed:Array Bool} {tmps:Array Value} {defs:_} {w:World} (hr:Region.ready md ops listed = [t]) (ho:ops[t]? = some o) (hd:o.dst = some d) (hw:Region.wanted o (yielded ops tmps) = true)
  (h:∀ K':Act → World → Prop,RowKit.Hid (∀ v w',S w' → (S w' → wpAnyH P md ops Q S fuel (listed.setIfInBounds t true) ⟨tmps.setIfInBounds d v,defs⟩ w') → K' (Act.put ⟨tmps,defs⟩ o.dst v) w') → Oper.wp P o ⟨tmps,defs⟩ w K' Q):wpAnyH P md ops Q S (fuel + 1) listed ⟨tmps,defs⟩ w:=by
 refine wpAnyH_all hr (by simp) fun j hj=>?_
 rw [List.mem_singleton] at hj
 subst hj
 refine wpOp_step ho fun K' hK=>?_
 rw [if_pos hw]
 refine h K' fun v w' h1 h2=>hK _ _ ⟨h1,?_⟩
 rw [hd]
 exact h2 h1
end
theorem unionB (s t b:Nat) (hs:s < 2 ^ 64) (ht:t < 2 ^ 64) (w:World) (h:w.heap[b]? = some (.cells #[.int .u64 (t:Int)] 40 (0,0))):Calls Tryz.prog 18 #[.int .u64 (s:Int),.slice (some ⟨b,0,none⟩) 1 1] w (RetW (.int .u64 ((s ||| t:Nat):Int)) w) :=
 joinS_any (some ⟨b,0,none⟩) 1 [t] (by simp) (by simpa using ht) s hs w fun i hi=>by
  have hi0:i = 0:=by simpa using hi
  subst hi0
  refine ⟨b,rfl,lt_of_block h,?_⟩
  rw [cell_of_row w b 0 _ _ _ h]
  rfl
theorem hasB_any (s k:Nat) (hs:s < 2 ^ 64) (hk:k < 64) (w:World):Calls Tryz.prog 17 #[.int .u64 (s:Int),.int .i64 (k:Int)] w (RetW (.bool (s.testBit k)) w):=by
 have:=hasS_any s hs (k:Int) w
 rw [has_nums s k hk] at this
 exact this
set_option maxRecDepth 100000 in
set_option maxHeartbeats 8000000 in
theorem ttrees_walk (s:ByteArray) (w:World) (hw:Al w) (hT:Db w):Calls Tryz.prog 5 #[.string s] w (Ret (.bool true) w):=by
 have A:=Lib.hid (anchor11_any w hw hT)
 by_cases h1:s.size ≤ 20000
 ·have H1:¬ (20000:Int) < (s.size:Int):=by omega
  by_cases hv:∃ c,chartT s.data.toList = .ok c ∧ (checkE c).1 = 0
  ·obtain ⟨c,hx,hk⟩:=hv
   have O:=okC_of hx
   have M:=Lib.hid (fun wx (hb:Below w.heap.size w wx)=>made_yes s (by omega) hx hk wx (al_below hw hb) (db_below hT hb))
   have hn:=O.few
   have h0:=O.some
   have hp:=O.par
   replace hp:=Lib.hid hp
   have hcnt:=trees_8 hp.out h0 hn
   clear hw hT hx hk O
   go_enter Tryz.func5,Tryz.ntmps5
   go_wp2_with (((with_reducible refine (A.out).mono ?_);intro e w1 hr;obtain ⟨rfl,p,rfl⟩:=hr.out;clear hr))
   go_wp2_with fail
   refine (M.out _ (by (first | exact gwT | exact lzT))).mono ?_
   rintro e w1 ⟨rv,rx,gi,va,vc,b,cap,ga,gc,xa,xc,ya,yc,rfl,hTC,-,hb1⟩
   have hw1:Below w.heap.size w w1:=Below.trans (by (first | exact gwT | exact lzT)) (hb1.mono (by first | exact Nat.le_refl _ | (first | exact gwT | exact lzT)))
   have hTC':=Lib.hid (fun wx (hb:Below w1.heap.size w1 wx)=>tbC_keep hTC hb)
   have hbl:=hTC.lt
   clear A M hb1 hTC
   dsimp only
   go_wp2
   obtain ⟨W1,hW1⟩:∃ W1,(w1.alloc (.cells #[.slice va c.vars.length vc,.slice (some ⟨b,0,none⟩) c.states.length cap,.slice ga (gosT c.states).length gc] 28)).alloc (.cells #[.string ⟨c.name.toArray⟩,.slice xa c.vars.length xc,.slice ya c.states.length yc] 32) = W1:=⟨_,rfl⟩
   have hb1:Below w1.heap.size w1 W1:=by rw [← hW1];(first | exact gwT | exact lzT)
   have q1:W1.heap[w1.heap.size]? = some (.cells #[.slice va c.vars.length vc,.slice (some ⟨b,0,none⟩) c.states.length cap,.slice ga (gosT c.states).length gc] 28 (0,0)):=by rw [← hW1];exact blk_old (heap_alloc_new w1 _)
   rw [hW1]
   have hTW:=hTC'.out W1 hb1
   have hwW:Below w.heap.size w W1:=hw1.trans (hb1.mono hw1.size)
   have hTW':=Lib.hid (fun wx (hx:Below W1.heap.size W1 wx)=>tbC_keep hTW hx)
   have hsl:=Lib.hid hTW.sl
   have hwW':=Lib.hid hwW
   clear hW1 hTC' hb1 hw1 hTW hwW hbl
   generalize hq0:w1.heap.size = qb at *
   go_loopw [26] (fun x wr=>∃ (i:Nat),x = .int .i64 (i:Int) ∧ i ≤ c.states.length ∧ Below W1.heap.size W1 wr) (fun x _=>c.states.length - (intOf x).toNat)
   case atStart=>exact ⟨0,rfl,Nat.zero_le _,Below.refl _ _⟩
   case round =>
    obtain ⟨i,rfl,hi,hb⟩:=hrel
    rename World=>wr
    have hwz:=hb.size
    have q2:=blk_keep q1 hb
    obtain ⟨z0,z1,z2,zl,zf⟩:=cells3 q2
    have iq:InW qb wr:=⟨zl⟩
    have hT:=hTW'.out wr hb
    have ib:InW b wr:=⟨hT.lt⟩
    by_cases hlt:i < c.states.length
    ·obtain ⟨n0,n1,n2,n3,n4,n5,n6,n7,n8,n9,n10⟩:=tbC_row hT hlt
     obtain ⟨⟨a6,l6,m6,e6⟩,⟨a7,l7,m7,e7⟩,⟨a8,l8,m8,e8⟩⟩:=hsl.out i hlt
     rw [e6] at n8
     rw [e7] at n9
     rw [e8] at n10
     have t1:=trees_1 (ss:=c.states) (i:=i)
     have t2:=trees_2 hp.out hlt
     have t3:=trees_3 hp.out hlt hn
     have t4:=fun h=>trees_4 hp.out (i:=i) h hlt
     have t5:=fun h=>trees_5 hp.out (i:=i) h hlt hn
     have t6:=Lib.hid (fun k hk=>trees_6 (ss:=c.states) hlt (k:=k) hk hn)
     have t7:=Lib.hid (fun k hk=>trees_7 (i:=i) hp.out (k:=k) hk hn)
     have x1:=kidS_lt c.states i
     have x2:=pasS_lt c.states i
     have x3:=upS_lt c.states i
     have x4:=undS_lt c.states i
     have M1:=Lib.hid (fun wx=>meet_any (kidS c.states i) (pasS c.states i) x1 x2 wx)
     have M2:=Lib.hid (fun wx=>meet_any (upS c.states i) (undS c.states i) x3 x4 wx)
     have H1:=Lib.hid (fun wx=>hasB_any (upS c.states i) i x3 (by omega) wx)
     have H2:Hid (∀ wx,Calls Tryz.prog 17 #[.int .u64 (upS c.states i:Int),.int .i64 0] wx (RetW (.bool ((upS c.states i).testBit 0)) wx)):=Lib.hid (fun wx=>hasB_any (upS c.states i) 0 x3 (by omega) wx)
     have H3:=Lib.hid (fun p hp wx=>hasB_any (upS c.states i) p x3 hp wx)
     rw [t1] at M1
     rw [t2] at M2
     rw [t3] at H1
     have hI:(i:Int) < (c.states.length:Int):=by omega
     generalize (c.states.getD i st0).name = s0 at *
     generalize (c.states.getD i st0).kind = s1 at *
     generalize hsp:(c.states.getD i st0).parent = s2 at *
     generalize begS c.states i = p1 at *
     generalize upS c.states i = p2 at *
     generalize undS c.states i = p3 at *
     generalize kidS c.states i = p4 at *
     generalize pasS c.states i = p5 at *
     clear e6 e7 e8 hT q2 zf t1 t2 t3
     obtain ⟨W2,hW2⟩:∃ W2,wr.alloc (.cells #[.string ⟨s0.toArray⟩,.int .i64 s1,.int .i64 s2,.int .i64 p1,.int .u64 (p2:Int),.int .u64 (p3:Int),.int .u64 (p4:Int),.int .u64 (p5:Int),.slice a6 l6 m6,.slice a7 l7 m7,.slice a8 l8 m8] 55) = W2:=⟨_,rfl⟩
     have hr2:W2.heap[wr.heap.size]? = some (.cells #[.string ⟨s0.toArray⟩,.int .i64 s1,.int .i64 s2,.int .i64 p1,.int .u64 (p2:Int),.int .u64 (p3:Int),.int .u64 (p4:Int),.int .u64 (p5:Int),.slice a6 l6 m6,.slice a7 l7 m7,.slice a8 l8 m8] 55 (0,0)):=by rw [← hW2];exact heap_alloc_new wr _
     have hb2:Below wr.heap.size wr W2:=by rw [← hW2];(first | exact gwT | exact lzT)
     replace hW2:=Lib.hid hW2
     replace hr2:=Lib.hid hr2
     replace hb2:=Lib.hid hb2
     go_upto_region 11 with (fail)
     rw [hW2.out]
     have hr2':=row_cells hr2.out
     obtain ⟨y0,y1,y2,y3,y4,y5,y6,y7,y8,y9,y10,yl,-⟩:=hr2'
     have irr:InW wr.heap.size W2:=⟨yl⟩
     clear n0 n1 n2 n3 n4 n5 n6 n7 n8 n9 n10 ib iq
     generalize wr.heap.size = rb at *
     go_cut [26,68] from 26 to 106 (fun x v wx=>x = .int .i64 (i:Int) ∧ v = .bool false ∧ wx = W2)
     case first =>
      by_cases h0:0 < i
      ·have hI0:(0:Int) < (i:Int):=by omega
       obtain ⟨p,hpp,hp64,hpt⟩:=t5 h0
       have hp0:=t4 h0
       subst hpp
       have H4:=H3.out p hp64
       rw [hpt] at H4
       rw [hp0] at H2
       replace H4:=Lib.hid H4
       clear t4 t5 H3 hpt hp0
       go_wp2_with (first | ((with_reducible refine (M1.out _).mono ?_);rintro e w1 ⟨rfl,rfl⟩) | ((with_reducible refine (M2.out _).mono ?_);rintro e w1 ⟨rfl,rfl⟩) | ((with_reducible refine (H1.out _).mono ?_);rintro e w1 ⟨rfl,rfl⟩) | ((with_reducible refine (H2.out _).mono ?_);rintro e w1 ⟨rfl,rfl⟩) | ((with_reducible refine (H4.out _).mono ?_);rintro e w1 ⟨rfl,rfl⟩))
       go_meet
       exact ⟨rfl,rfl,rfl⟩
      ·have hI0:¬ (0:Int) < (i:Int):=by omega
       clear t4 t5 H3
       go_wp2_with (first | ((with_reducible refine (M1.out _).mono ?_);rintro e w1 ⟨rfl,rfl⟩) | ((with_reducible refine (M2.out _).mono ?_);rintro e w1 ⟨rfl,rfl⟩) | ((with_reducible refine (H1.out _).mono ?_);rintro e w1 ⟨rfl,rfl⟩))
       go_meet
       exact ⟨rfl,rfl,rfl⟩
     case rest =>
      obtain ⟨rfl,rfl,rfl⟩:=hcut
      have hbW:=hb.trans (hb2.out.mono hwz)
      have hzW:=hbW.size
      have qW:=blk_keep q1 hbW
      obtain ⟨z0,z1,z2,zl,-⟩:=cells3 qW
      have iq:InW qb wc:=⟨zl⟩
      have hbW':=Lib.hid hbW
      clear M1 M2 H1 H2 H3 t4 t5 hW2 hb2 hb qW
      go_wp2
      go_loopw [72] (fun x wq=>∃ (k:Nat),x = .int .i64 (k:Int) ∧ k ≤ c.states.length ∧ Below wc.heap.size wc wq) (fun x _=>c.states.length - (intOf x).toNat)
      case atStart=>exact ⟨0,rfl,Nat.zero_le _,Below.refl _ _⟩
      case round =>
       obtain ⟨k,rfl,hk,hq⟩:=hrel
       rename World=>wq
       have hqz:=hq.size
       have hbq:=hbW'.out.trans (hq.mono hzW)
       have hT:=hTW'.out wq hbq
       obtain ⟨z0,z1,z2,zl,-⟩:=cells3 (blk_keep q1 hbq)
       have hrq:=blk_keep hr2.out hq
       obtain ⟨y0,y1,y2,y3,y4,y5,y6,y7,y8,y9,y10,yl,-⟩:=row_cells hrq
       have iq:InW qb wq:=⟨zl⟩
       have ir:InW rb wq:=⟨yl⟩
       have ib:InW b wq:=⟨hT.lt⟩
       by_cases hlk:k < c.states.length
       ·have hKI:(k:Int) < (c.states.length:Int):=by omega
        obtain ⟨n0,n1,n2,n3,n4,n5,n6,n7,n8,n9,n10⟩:=tbC_row hT hlk
        obtain ⟨⟨c6,d6,g6,f6⟩,⟨c7,d7,g7,f7⟩,⟨c8,d8,g8,f8⟩⟩:=hsl.out k hlk
        rw [f6] at n8
        rw [f7] at n9
        rw [f8] at n10
        have k6:=t6.out k hlk
        have k7:=t7.out k hlk
        have v3:=upS_lt c.states k
        have A1:=Lib.hid (fun wx=>hasB_any (upS c.states k) i v3 (by omega) wx)
        have A2:=Lib.hid (fun wx=>hasB_any p3 k x4 (by omega) wx)
        have J:=Lib.hid (fun bl wx=>unionB p4 p5 bl x1 x2 wx)
        have A3:=Lib.hid (fun wx=>hasB_any (p4 ||| p5) k (Nat.or_lt_two_pow x1 x2) (by omega) wx)
        rw [k6] at A1
        rw [k7] at A3
        generalize (c.states.getD k st0).name = r0 at *
        generalize (c.states.getD k st0).kind = r1 at *
        generalize (c.states.getD k st0).parent = r2 at *
        generalize begS c.states k = u1 at *
        generalize upS c.states k = u2 at *
        generalize undS c.states k = u3 at *
        generalize kidS c.states k = u4 at *
        generalize pasS c.states k = u5 at *
        generalize p3.testBit k = bb at *
        generalize p4 ||| p5 = uu at *
        have hbn:Hid (∀ wx,Below wq.heap.size wq wx → Below wc.heap.size wc wx):=Lib.hid fun wx hx=>hq.trans (hx.mono hqz)
        clear f6 f7 f8 k6 k7 hT hrq hbq hq hbW' t6 t7
        go_upto_region 16 with (fail)
        have tq:=heap_alloc_new wq (.cells #[.string ⟨r0.toArray⟩,.int .i64 r1,.int .i64 r2,.int .i64 u1,.int .u64 (u2:Int),.int .u64 (u3:Int),.int .u64 (u4:Int),.int .u64 (u5:Int),.slice c6 d6 g6,.slice c7 d7 g7,.slice c8 d8 g8] 55 (0,0))
        have hw3:Below wq.heap.size wq (wq.alloc (.cells #[.string ⟨r0.toArray⟩,.int .i64 r1,.int .i64 r2,.int .i64 u1,.int .u64 (u2:Int),.int .u64 (u3:Int),.int .u64 (u4:Int),.int .u64 (u5:Int),.slice c6 d6 g6,.slice c7 d7 g7,.slice c8 d8 g8] 55)):=by (first | exact gwT | exact lzT)
        have o5:=(hw3.cell (p:=⟨rb,5,none⟩) yl).trans y5
        have o6:=(hw3.cell (p:=⟨rb,6,none⟩) yl).trans y6
        have o7:=(hw3.cell (p:=⟨rb,7,none⟩) yl).trans y7
        have hbn3:=hbn.out _ hw3
        have iq3:InW qb (wq.alloc (.cells #[.string ⟨r0.toArray⟩,.int .i64 r1,.int .i64 r2,.int .i64 u1,.int .u64 (u2:Int),.int .u64 (u3:Int),.int .u64 (u4:Int),.int .u64 (u5:Int),.slice c6 d6 g6,.slice c7 d7 g7,.slice c8 d8 g8] 55)):=inferInstance
        have ir3:InW rb (wq.alloc (.cells #[.string ⟨r0.toArray⟩,.int .i64 r1,.int .i64 r2,.int .i64 u1,.int .u64 (u2:Int),.int .u64 (u3:Int),.int .u64 (u4:Int),.int .u64 (u5:Int),.slice c6 d6 g6,.slice c7 d7 g7,.slice c8 d8 g8] 55)):=inferInstance
        have hbn':=Lib.hid hbn3
        obtain ⟨-,-,o2,-,o4,-,-,-,-,-,-,tl,-⟩:=row_cells tq
        clear y0 y1 y2 y3 y4 y5 y6 y7 y8 y9 y10 yl n0 n1 n2 n3 n4 n5 n6 n7 n8 n9 n10 z0 z1 z2 zl tq hbn hbn3 ib iq ir
        generalize wq.alloc (.cells #[.string ⟨r0.toArray⟩,.int .i64 r1,.int .i64 r2,.int .i64 u1,.int .u64 (u2:Int),.int .u64 (u3:Int),.int .u64 (u4:Int),.int .u64 (u5:Int),.slice c6 d6 g6,.slice c7 d7 g7,.slice c8 d8 g8] 55) = W3 at *
        generalize wq.heap.size = tb at *
        have it:InW tb W3:=⟨tl⟩
        clear hw3 hqz
        have e6:(decide (0 < k) && decide (r2 = (i:Int))) = (decide ((0:Int) < (k:Int)) && (r2 == (i:Int))):=by
         have:decide (0 < k) = decide ((0:Int) < (k:Int)):=by rw [decide_eq_decide];omega
         rw [this]
         rfl
        rw [e6] at A3
        clear e6
        have fin:Hid (∀ wx,Below W3.heap.size W3 wx → Below wc.heap.size wc wx):=Lib.hid fun wx hx=>hbn'.out.trans (hx.mono hbn'.out.size)
        cases bb
        all_goals
         by_cases hk0:0 < k
         ·have hk1:(0:Int) < (k:Int):=by omega
          have d0:decide (0 < k) = true:=decide_eq_true hk0
          rw [decide_eq_true hk1] at A3
          cases hr:(r2 == (i:Int))
          all_goals
           rw [hr,Bool.true_and] at A3
           go_region_held3 (fun w'=>w'.cell? ⟨rb,5,none⟩ = some (.int .u64 (p3:Int)) ∧ w'.cell? ⟨rb,6,none⟩ = some (.int .u64 (p4:Int)) ∧ w'.cell? ⟨rb,7,none⟩ = some (.int .u64 (p5:Int)) ∧ w'.cell? ⟨tb,2,none⟩ = some (.int .i64 r2) ∧ w'.cell? ⟨tb,4,none⟩ = some (.int .u64 (u2:Int))) ((refine ⟨?_,?_,?_,?_,?_⟩ <;> first | assumption | (rw [cell_GI];assumption) | (rw [cell_allocI];assumption) | (simp [go_sem, *];done))) (first | ((with_reducible refine (A1.out _).mono ?_);rintro e w1 ⟨rfl,rfl⟩) | ((with_reducible refine (A2.out _).mono ?_);rintro e w1 ⟨rfl,rfl⟩) | ((with_reducible refine (A3.out _).mono ?_);rintro e w1 ⟨rfl,rfl⟩) | ((with_reducible refine (J.out _ _ ?_).mono ?_);(focus (exact new_at (by simp [go_sem])));rintro e w1 ⟨rfl,rfl⟩))
           all_goals
            go_wp2
            go_roundw
            case rel=>exact ⟨k + 1,by go_num,by omega,fin.out _ (by (first | exact gwT | exact lzT))⟩
            case measure=>simp [intOf];omega
         ·have hk1:¬ (0:Int) < (k:Int):=by omega
          have d0:decide (0 < k) = false:=decide_eq_false hk0
          rw [decide_eq_false hk1,Bool.false_and] at A3
          have d1:decide ((0:Int) < (k:Int)) = false:=decide_eq_false hk1
          refine wp_region_noPanic ?_
          refine wp_region_held_drew (S:=fun w'=>w'.cell? ⟨rb,5,none⟩ = some (.int .u64 (p3:Int)) ∧ w'.cell? ⟨rb,6,none⟩ = some (.int .u64 (p4:Int)) ∧ w'.cell? ⟨rb,7,none⟩ = some (.int .u64 (p5:Int)) ∧ w'.cell? ⟨tb,2,none⟩ = some (.int .i64 r2) ∧ w'.cell? ⟨tb,4,none⟩ = some (.int .u64 (u2:Int))) (by kernel_rfl) ⟨o5,o6,o7,o2,o4⟩ (fun hHeld=>?_)
          (refine wpAnyH_slot (i:=0) (v:=?_) rfl rfl (by kernel_rfl) (by kernel_rfl) (by kernel_rfl) (fun _ _ _ h=>h) (Or.inl ⟨by rfl,?_⟩) (by assumption) ?_;rotate_left;(focus (intro w hSw;(try dsimp only at hSw);go_simp;all_goals (with_reducible rfl)));simp only [List.setIfInBounds_toArray,List.set_cons_zero,List.set_cons_succ])
          (refine wpAnyH_slot (i:=1) (v:=?_) rfl rfl (by kernel_rfl) (by kernel_rfl) (by kernel_rfl) (fun _ _ _ h=>h) (Or.inl ⟨by rfl,?_⟩) (by assumption) ?_;rotate_left;(focus (intro w hSw;(try dsimp only at hSw);go_simp;all_goals (with_reducible rfl)));simp only [List.setIfInBounds_toArray,List.set_cons_zero,List.set_cons_succ])
          (refine wpAnyH_slot (i:=2) (v:=?_) rfl rfl (by kernel_rfl) (by kernel_rfl) (by kernel_rfl) (fun _ _ _ h=>h) (Or.inl ⟨by rfl,?_⟩) (by assumption) ?_;rotate_left;(focus (intro w hSw;(try dsimp only at hSw);go_simp;all_goals (with_reducible rfl)));simp only [List.setIfInBounds_toArray,List.set_cons_zero,List.set_cons_succ])
          (refine wpAnyH_slot (i:=4) (v:=?_) rfl rfl (by kernel_rfl) (by kernel_rfl) (by kernel_rfl) (fun _ _ _ h=>h) (Or.inl ⟨by rfl,?_⟩) (by assumption) ?_;rotate_left;(focus (intro w hSw;(try dsimp only at hSw);go_simp;all_goals (with_reducible rfl)));simp only [List.setIfInBounds_toArray,List.set_cons_zero,List.set_cons_succ])
          (refine wpAnyH_slot (i:=5) (v:=?_) rfl rfl (by kernel_rfl) (by kernel_rfl) (by kernel_rfl) (fun _ _ _ h=>h) (Or.inl ⟨by rfl,?_⟩) (by assumption) ?_;rotate_left;(focus (intro w hSw;(try dsimp only at hSw);go_simp;all_goals (with_reducible rfl)));simp only [List.setIfInBounds_toArray,List.set_cons_zero,List.set_cons_succ])
          (refine wpAnyH_slot (i:=6) (v:=?_) rfl rfl (by kernel_rfl) (by kernel_rfl) (by kernel_rfl) (fun _ _ _ h=>h) (Or.inl ⟨by rfl,?_⟩) (by assumption) ?_;rotate_left;(focus (intro w hSw;(try dsimp only at hSw);go_simp;all_goals (with_reducible rfl)));simp only [List.setIfInBounds_toArray,List.set_cons_zero,List.set_cons_succ])
          refine wpAnyH_act (t:=3) (by kernel_rfl) rfl rfl (by rfl) (fun K' hK=>?_)
          go_simp
          ((with_reducible refine (A1.out _).mono ?_);rintro e w1 ⟨rfl,rfl⟩)
          refine hK.out _ _ (by (refine ⟨?_,?_,?_,?_,?_⟩ <;> first | assumption | (rw [cell_GI];assumption) | (rw [cell_allocI];assumption) | (simp [go_sem, *];done))) (fun hHeld=>?_)
          clear hK K'
          simp only [List.setIfInBounds_toArray,List.set_cons_zero,List.set_cons_succ]
          refine wpAnyH_act (t:=7) (by kernel_rfl) rfl rfl (by rfl) (fun K' hK=>?_)
          go_simp
          ((with_reducible refine (A2.out _).mono ?_);rintro e w1 ⟨rfl,rfl⟩)
          refine hK.out _ _ (by (refine ⟨?_,?_,?_,?_,?_⟩ <;> first | assumption | (rw [cell_GI];assumption) | (rw [cell_allocI];assumption) | (simp [go_sem, *];done))) (fun hHeld=>?_)
          clear hK K'
          simp only [List.setIfInBounds_toArray,List.set_cons_zero,List.set_cons_succ]
          (refine wpAnyH_slot (i:=8) (v:=?_) rfl rfl (by kernel_rfl) (by kernel_rfl) (by kernel_rfl) (fun _ _ _ h=>h) (Or.inl ⟨by rfl,?_⟩) (by assumption) ?_;rotate_left;(focus (intro w hSw;(try dsimp only at hSw);go_simp;all_goals (with_reducible rfl)));simp only [List.setIfInBounds_toArray,List.set_cons_zero,List.set_cons_succ])
          (refine wpAnyH_slot (i:=9) (v:=?_) rfl rfl (by kernel_rfl) (by kernel_rfl) (by kernel_rfl) (fun _ _ _ h=>h) (Or.inl ⟨by rfl,?_⟩) (by assumption) ?_;rotate_left;(focus (intro w hSw;(try dsimp only at hSw);go_simp;all_goals (with_reducible rfl)));simp only [List.setIfInBounds_toArray,List.set_cons_zero,List.set_cons_succ])
          (refine wpAnyH_slot (i:=10) (v:=?_) rfl rfl (by kernel_rfl) (by kernel_rfl) (by kernel_rfl) (fun _ _ _ h=>h) (Or.inl ⟨by rfl,?_⟩) (by assumption) ?_;rotate_left;(focus (intro w hSw;(try dsimp only at hSw);go_simp;all_goals (with_reducible rfl)));simp only [List.setIfInBounds_toArray,List.set_cons_zero,List.set_cons_succ])
          (refine wpAnyH_slot (i:=11) (v:=?_) rfl rfl (by kernel_rfl) (by kernel_rfl) (by kernel_rfl) (fun _ _ _ h=>h) (Or.inl ⟨by rfl,?_⟩) (by assumption) ?_;rotate_left;(focus (intro w hSw;(try dsimp only at hSw);go_simp;all_goals (with_reducible rfl)));simp only [List.setIfInBounds_toArray,List.set_cons_zero,List.set_cons_succ])
          (refine wpAnyH_slot (i:=12) (v:=?_) rfl rfl (by kernel_rfl) (by kernel_rfl) (by kernel_rfl) (fun _ _ _ h=>h) (Or.inl ⟨by rfl,?_⟩) (by assumption) ?_;rotate_left;(focus (intro w hSw;(try dsimp only at hSw);go_simp;all_goals (with_reducible rfl)));simp only [List.setIfInBounds_toArray,List.set_cons_zero,List.set_cons_succ])
          (refine wpAnyH_slot (i:=13) (v:=?_) rfl rfl (by kernel_rfl) (by kernel_rfl) (by kernel_rfl) (fun _ _ _ h=>h) (Or.inl ⟨by rfl,?_⟩) (by assumption) ?_;rotate_left;(focus (intro w hSw;(try dsimp only at hSw);go_simp;all_goals (with_reducible rfl)));simp only [List.setIfInBounds_toArray,List.set_cons_zero,List.set_cons_succ])
          (refine wpAnyH_slot (i:=16) (v:=?_) rfl rfl (by kernel_rfl) (by kernel_rfl) (by kernel_rfl) (fun _ _ _ h=>h) (Or.inl ⟨by rfl,?_⟩) (by assumption) ?_;rotate_left;(focus (intro w hSw;(try dsimp only at hSw);go_simp;all_goals (with_reducible rfl)));simp only [List.setIfInBounds_toArray,List.set_cons_zero,List.set_cons_succ])
          (refine wpAnyH_slot (i:=18) (v:=?_) rfl rfl (by kernel_rfl) (by kernel_rfl) (by kernel_rfl) (fun _ _ _ h=>h) (Or.inl ⟨by rfl,?_⟩) (by assumption) ?_;rotate_left;(focus (intro w hSw;(try dsimp only at hSw);go_simp;all_goals (with_reducible rfl)));simp only [List.setIfInBounds_toArray,List.set_cons_zero,List.set_cons_succ])
          (refine wpAnyH_slot (i:=19) (v:=?_) rfl rfl (by kernel_rfl) (by kernel_rfl) (by kernel_rfl) (fun _ _ _ h=>h) (Or.inl ⟨by rfl,?_⟩) (by assumption) ?_;rotate_left;(focus (intro w hSw;(try dsimp only at hSw);go_simp;all_goals (with_reducible rfl)));simp only [List.setIfInBounds_toArray,List.set_cons_zero,List.set_cons_succ])
          refine wpAnyH_act (t:=14) (by kernel_rfl) rfl rfl (by rfl) (fun K' hK=>?_)
          go_simp
          refine hK.out _ _ (by (refine ⟨?_,?_,?_,?_,?_⟩ <;> first | assumption | (rw [cell_GI];assumption) | (rw [cell_allocI];assumption) | (simp [go_sem, *];done))) (fun hHeld=>?_)
          clear hK K'
          simp only [List.setIfInBounds_toArray,List.set_cons_zero,List.set_cons_succ]
          refine wpAnyH_act (t:=15) (by kernel_rfl) rfl rfl (by rfl) (fun K' hK=>?_)
          go_simp
          ((with_reducible refine (J.out _ _ ?_).mono ?_);(focus (exact new_at (by simp [go_sem])));rintro e w1 ⟨rfl,rfl⟩)
          refine hK.out _ _ (by (refine ⟨?_,?_,?_,?_,?_⟩ <;> first | assumption | (rw [cell_GI];assumption) | (rw [cell_allocI];assumption) | (simp [go_sem, *];done))) (fun hHeld=>?_)
          clear hK K'
          simp only [List.setIfInBounds_toArray,List.set_cons_zero,List.set_cons_succ]
          refine wpAnyH_act (t:=17) (by kernel_rfl) rfl rfl (by rfl) (fun K' hK=>?_)
          go_simp
          ((with_reducible refine (A3.out _).mono ?_);rintro e w1 ⟨rfl,rfl⟩)
          refine hK.out _ _ (by (refine ⟨?_,?_,?_,?_,?_⟩ <;> first | assumption | (rw [cell_GI];assumption) | (rw [cell_allocI];assumption) | (simp [go_sem, *];done))) (fun hHeld=>?_)
          clear hK K'
          simp only [List.setIfInBounds_toArray,List.set_cons_zero,List.set_cons_succ]
          (refine wpAnyH_slot (i:=20) (v:=?_) rfl rfl (by kernel_rfl) (by kernel_rfl) (by kernel_rfl) (fun _ _ _ h=>h) (Or.inl ⟨by rfl,?_⟩) (by assumption) ?_;rotate_left;(focus (intro w hSw;(try dsimp only at hSw);go_simp;all_goals (with_reducible rfl)));simp only [List.setIfInBounds_toArray,List.set_cons_zero,List.set_cons_succ])
          (refine wpAnyH_slot (i:=21) (v:=undef) rfl rfl (by kernel_rfl) (by kernel_rfl) (by kernel_rfl) (fun _ _ _ h=>h) (Or.inr ⟨by rfl,rfl⟩) (by assumption) ?_;simp only [List.setIfInBounds_toArray,List.set_cons_zero,List.set_cons_succ])
          (refine wpAnyH_slot (i:=22) (v:=undef) rfl rfl (by kernel_rfl) (by kernel_rfl) (by kernel_rfl) (fun _ _ _ h=>h) (Or.inr ⟨by rfl,rfl⟩) (by assumption) ?_;simp only [List.setIfInBounds_toArray,List.set_cons_zero,List.set_cons_succ])
          (refine wpAnyH_slot (i:=23) (v:=undef) rfl rfl (by kernel_rfl) (by kernel_rfl) (by kernel_rfl) (fun _ _ _ h=>h) (Or.inr ⟨by rfl,rfl⟩) (by assumption) ?_;simp only [List.setIfInBounds_toArray,List.set_cons_zero,List.set_cons_succ])
          (refine wpAnyH_slot (i:=24) (v:=undef) rfl rfl (by kernel_rfl) (by kernel_rfl) (by kernel_rfl) (fun _ _ _ h=>h) (Or.inr ⟨by rfl,rfl⟩) (by assumption) ?_;simp only [List.setIfInBounds_toArray,List.set_cons_zero,List.set_cons_succ])
          (refine wpAnyH_slot (i:=25) (v:=?_) rfl rfl (by kernel_rfl) (by kernel_rfl) (by kernel_rfl) (fun _ _ _ h=>h) (Or.inl ⟨by rfl,?_⟩) (by assumption) ?_;rotate_left;(focus (intro w hSw;(try dsimp only at hSw);go_simp;all_goals (with_reducible rfl)));simp only [List.setIfInBounds_toArray,List.set_cons_zero,List.set_cons_succ])
          (refine wpAnyH_slot (i:=26) (v:=?_) rfl rfl (by kernel_rfl) (by kernel_rfl) (by kernel_rfl) (fun _ _ _ h=>h) (Or.inl ⟨by rfl,?_⟩) (by assumption) ?_;rotate_left;(focus (intro w hSw;(try dsimp only at hSw);go_simp;all_goals (with_reducible rfl)));simp only [List.setIfInBounds_toArray,List.set_cons_zero,List.set_cons_succ])
          (refine wpAnyH_slot (i:=27) (v:=?_) rfl rfl (by kernel_rfl) (by kernel_rfl) (by kernel_rfl) (fun _ _ _ h=>h) (Or.inl ⟨by rfl,?_⟩) (by assumption) ?_;rotate_left;(focus (intro w hSw;(try dsimp only at hSw);go_simp;all_goals (with_reducible rfl)));simp only [List.setIfInBounds_toArray,List.set_cons_zero,List.set_cons_succ])
          refine wpAnyH_done (by kernel_rfl) ?_ _
          refine NoPanic.normal ?_
          go_wp2
          go_roundw
          case rel=>exact ⟨k + 1,by go_num,by omega,fin.out _ (by (first | exact gwT | exact lzT))⟩
          case measure=>simp [intOf];omega
       ·have hKI:¬ (k:Int) < (c.states.length:Int):=by omega
        clear y0 y1 y2 y3 y4 y5 y6 y7 y8 y9 y10 yl z0 z1 z2 zl hrq hT iq ir ib
        go_wp2
        go_roundw
        case rel=>exact ⟨i + 1,by go_num,by omega,by (first | exact gwT | exact lzT)⟩
        case measure=>simp [intOf];omega
    ·have hI:¬ (i:Int) < (c.states.length:Int):=by omega
     have hI0:(0:Int) < (c.states.length:Int):=by omega
     obtain ⟨-,-,-,-,-,n5,-⟩:=tbC_row hT h0
     have n5':wr.cell? ⟨b,5,none⟩ = some (.int .u64 (undS c.states 0:Int)):=by
      rw [← n5]
     have C:=Lib.hid (fun wx=>countS_any (undS c.states 0) (undS_lt _ _) wx)
     rw [hcnt] at C
     have e1:(((c.states.length - 1:Nat):Int) == (c.states.length:Int) - 1) = true:=by rw [beq_iff_eq];omega
     generalize undS c.states 0 = us at *
     have hfin:=Lib.hid (hwW'.out.trans (hb.mono hwW'.out.size))
     clear n5 q2 zf hT hTW' hsl
     go_wp2
     (refine wp_region_G (by kernel_rfl) (by kernel_rfl) ?_;(repeat (go_big_quiet_step (first | (with_reducible exact quietGW (C.out _)))));refine wpQuiet_nil ?_;intro _ hw';obtain ⟨pg,hw''⟩:=hw';subst hw'')
     go_wp2
     go_returns
     exact ⟨by simp,hfin.out.trans (Below.mono (show Below wr.heap.size wr _ by (first | exact gwT | exact lzT)) hfin.out.size)⟩
  ·have M:=Lib.hid (fun wx (hb:Below w.heap.size w wx)=>made_no s (by omega) (fun c h1 h2=>hv ⟨c,h1,h2⟩) wx (al_below hw hb))
   replace hv:=Lib.hid hv
   clear hw hT
   go_enter Tryz.func5,Tryz.ntmps5
   go_wp2_with (((with_reducible refine (A.out).mono ?_);intro e w1 hr;obtain ⟨rfl,p,rfl⟩:=hr.out;clear hr))
   go_wp2_with fail
   refine (M.out _ (by (first | exact gwT | exact lzT))).mono ?_
   rintro e w1 ⟨a1,a2,a3,a4,a5,j1,j2,j3,j4,j5,j6,j7,j8,j9,j10,t,rfl,hb1⟩
   have hw1:Below w.heap.size w w1:=Below.trans (by (first | exact gwT | exact lzT)) (hb1.mono (by first | exact Nat.le_refl _ | (first | exact gwT | exact lzT)))
   clear A M hb1
   dsimp only
   go_wp2
   go_returns
   exact ⟨rfl,hw1.trans (Below.mono (show Below w1.heap.size w1 _ by (first | exact gwT | exact lzT)) hw1.size)⟩
 ·have H1:(20000:Int) < (s.size:Int):=by omega
  clear hw hT
  go_enter Tryz.func5,Tryz.ntmps5
  go_wp2_with (((with_reducible refine (A.out).mono ?_);intro e w1 hr;obtain ⟨rfl,p,rfl⟩:=hr.out;clear hr))
  go_returns
  exact ⟨rfl,by (first | exact gwT | exact lzT)⟩
end Go.Proofs.YtncmnhccmemagaaGreatDoor
