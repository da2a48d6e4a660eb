/- What looks at a chart: where a transition leads. -/
import Derived.Test.YtncmnhccmemagaaGreatDoorV6
import Derived.Test.YtncmnhccmemagaaGreatDoorV7
import Derived.Test.YtncmnhccmemagaaGreatDoorV8
import Derived.WalkKit
import Derived.ProofKit
import Derived.OpenShut
import Derived.Handy
import Derived.BigQuiet
import Derived.OwnWalk
import Derived.RangeFuncNested
import Derived.RangeFuncBound
import Derived.RangeFuncCalls
import Derived.RangeFuncLeaves
import Derived.OwnWalkIn
import Derived.TacticsInMore
import Derived.Lib.Hide
import Derived.WalkSmall
import Derived.WalkLawsBesides
namespace Go.Proofs.YtncmnhccmemagaaGreatDoor
open Go.RowKit
attribute [local go_sem] Oper.semAt_some
def parB (ss:List St):Option Nat → Bool
 | none=>false
 | some i=>(ss.getD i st0).kind == 4
theorem apart_eq (ss:List St) (a b:Nat):apartE ss a b = if a = b then false else if wthC ss (a:Int) (b:Int) then false else if wthC ss (b:Int) (a:Int) then false else parB ss (lastW ss (a:Int) (b:Int) ss.length):=by
 unfold apartE
 cases lastW ss (a:Int) (b:Int) ss.length <;> rfl
section
variable {l:Lk} {lb:Nat}
theorem back_any (sa:Option Addr) (n sc:Nat) (w:World):Calls Tryz.prog 178 #[.slice sa n sc] w (fun e w'=>∃ b,e = .returned (.func (.func 198) #[] #[.pointer (some ⟨b,0,none⟩)]) ∧ Cell1 w' b (.slice sa n sc) 60 ∧ w.heap.size ≤ b ∧ Below w.heap.size w w'):=by
 have hmf:∀ (fn:Fn) (first cap:Array Value) (w:World),(Instr.makeFunc fn first cap).run Tryz.prog w = .ok (.func fn first cap) w:=fun _ _ _ _=>rfl
 go_enter Tryz.func178,Tryz.ntmps178
 go_wp2
 go_returns
 exact ⟨w.heap.size,rfl,heap_alloc_new w _,Nat.le_refl _,by (first | exact gwT | exact lzT)⟩
set_option maxRecDepth 100000 in
set_option maxHeartbeats 8000000 in
theorem apart_any (P:LkP l) (a b:Nat) (ha:a < l.c.states.length) (hb:b < l.c.states.length) (w:World) (H:LkAt w lb l):Calls Tryz.prog 163 #[.pointer (some ⟨lb,0,none⟩),.int .i64 (a:Int),.int .i64 (b:Int)] w (Ret (.bool (apartE l.c.states a b)) w):=by
 obtain ⟨B,rv,va,sa,oa,pa,vc,sc,oc,pc,H⟩:=H
 have W1:=Lib.hid (fun o wx (hw:Below w.heap.size w wx)=>cwithin_in sa sc a o (by have:=P.few;omega) P.par ha wx (chV_keep H.ch hw))
 have W2:=Lib.hid (fun o wx (hw:Below w.heap.size w wx)=>cwithin_in sa sc b o (by have:=P.few;omega) P.par hb wx (chV_keep H.ch hw))
 obtain ⟨hl,c0,c1,c2,c3,c4⟩:=lk_cells H
 have i1:InW lb w:=⟨hl⟩
 rw [apart_eq,wthC_in ha,wthC_in hb]
 have e0:((a:Int) == (b:Int)) = decide (a = b):=by rw [Bool.eq_iff_iff];simp;omega
 refine (callsIn_wide (n:=9)).1 ?_
 refine callsIn_of_wp_marks Tryz.func163 rfl trivial ?_ rfl
 simp only [Tryz.ntmps163,List.size_toArray,List.length_cons,List.length_nil,Nat.reduceAdd,Nat.reduceSub,Array.replicate_succ,Array.replicate_zero,List.push_toArray,List.append_toArray,List.nil_append,List.cons_append]
 refine wpIn_wide.2 ?_
 by_cases hab:a = b
 ·rw [if_pos hab]
  have e1:((a:Int) == (b:Int)) = true:=by rw [e0];simpa using hab
  replace hab:=Lib.hid hab
  clear e0 W1 W2
  go_wp2
  (refine wp_region_G (by kernel_rfl) (by kernel_rfl) ?_;(repeat (go_big_quiet_step (fail)));refine wpQuiet_nil ?_;intro _ hw';obtain ⟨pg,hw''⟩:=hw';subst hw'')
  go_wp2
  refine ⟨.bool false,by simp [results,Tryz.f163,go_sem],rfl,by (first | exact gwT | exact lzT)⟩
 ·rw [if_neg hab]
  have e1:((a:Int) == (b:Int)) = false:=by rw [e0];simpa using hab
  replace hab:=Lib.hid hab
  clear e0
  cases hw1:wthT l.c.states (b:Int) l.c.states.length (a:Int) with
  | true =>
   have A1:=W1.out (b:Int)
   rw [hw1] at A1
   replace A1:=Lib.hid A1
   rw [if_pos rfl]
   clear W1 W2 hw1
   go_wp2
   (refine wp_region_G (by kernel_rfl) (by kernel_rfl) ?_;(repeat (go_big_quiet_step (exact quietG (A1.out _ (by (first | exact gwT | exact lzT))))));refine wpQuiet_nil ?_;intro _ hw';obtain ⟨pg,hw''⟩:=hw';subst hw'')
   go_wp2
   refine ⟨.bool false,by simp [results,Tryz.f163,go_sem],rfl,by (first | exact gwT | exact lzT)⟩
  | false =>
   have A1:=W1.out (b:Int)
   rw [hw1] at A1
   replace A1:=Lib.hid A1
   rw [if_neg Bool.false_ne_true]
   cases hw2:wthT l.c.states (a:Int) l.c.states.length (b:Int) with
   | true =>
    have A2:=W2.out (a:Int)
    rw [hw2] at A2
    replace A2:=Lib.hid A2
    rw [if_pos rfl]
    clear W1 W2 hw1 hw2
    go_wp2
    (refine wp_region_G (by kernel_rfl) (by kernel_rfl) ?_;(repeat (go_big_quiet_step (first | (with_reducible exact quietG (A1.out _ (by (first | exact gwT | exact lzT)))) | (with_reducible exact quietG (A2.out _ (by (first | exact gwT | exact lzT)))))));refine wpQuiet_nil ?_;intro _ hw';obtain ⟨pg,hw''⟩:=hw';subst hw'')
    go_wp2
    refine ⟨.bool false,by simp [results,Tryz.f163,go_sem],rfl,by (first | exact gwT | exact lzT)⟩
   | false =>
    have A2:=W2.out (a:Int)
    rw [hw2] at A2
    replace A2:=Lib.hid A2
    rw [if_neg Bool.false_ne_true]
    have Bk:=Lib.hid (fun wx=>back_any sa l.c.states.length sc wx)
    generalize hans:parB l.c.states (lastW l.c.states (a:Int) (b:Int) l.c.states.length) = ans
    replace hans:=Lib.hid hans
    clear hw1 hw2
    go_wp2
    (refine wp_region_G (by kernel_rfl) (by kernel_rfl) ?_;(repeat (go_big_quiet_step (first | (with_reducible exact quietG (A1.out _ (by (first | exact gwT | exact lzT)))) | (with_reducible exact quietG (A2.out _ (by (first | exact gwT | exact lzT)))))));refine wpQuiet_nil ?_;intro _ hw';obtain ⟨pg,hw''⟩:=hw';subst hw'')
    obtain ⟨W0,hW0⟩:∃ W0,((((w.alloc (.cells #[.pointer (some ⟨lb,0,none⟩)] 165)).alloc (.cells #[.int .i64 (a:Int)] 3)).alloc (.cells #[.int .i64 (b:Int)] 3)).alloc (.cells #[.bool false] 4)) = W0:=⟨_,rfl⟩
    rw [hW0]
    have q0:Cell1 W0 w.heap.size (.pointer (some ⟨lb,0,none⟩)) 165:=by rw [← hW0];exact blk_old (blk_old (blk_old (heap_alloc_new w _)))
    have qa:Cell1 W0 (w.heap.size + 1) (.int .i64 (a:Int)) 3:=by rw [← hW0];exact blk_old (blk_old (new_at (by simp)))
    have qb:Cell1 W0 (w.heap.size + 1 + 1) (.int .i64 (b:Int)) 3:=by rw [← hW0];exact blk_old (new_at (by simp))
    have qr:Cell1 W0 (w.heap.size + 1 + 1 + 1) (.bool false) 4:=by rw [← hW0];exact new_at (by simp)
    have hz0:W0.heap.size = w.heap.size + 1 + 1 + 1 + 1:=by rw [← hW0];simp
    have hb0:Below w.heap.size w W0:=by rw [← hW0];(first | exact gwT | exact lzT)
    have iL:InW lb W0:=⟨by omega⟩
    have c2':=(hb0.cell (p:=⟨lb,2,none⟩) hl).trans c2
    obtain ⟨z0,y0,x0⟩:=one_cells q0
    have c0':=(hb0.cell (p:=⟨lb,0,none⟩) hl).trans c0
    have c1':=(hb0.cell (p:=⟨lb,1,none⟩) hl).trans c1
    clear hW0 c0 c1 c3 c4
    generalize hx3:w.heap.size + 1 + 1 + 1 = x3 at *
    generalize hx2:w.heap.size + 1 + 1 = x2 at *
    generalize hx1:w.heap.size + 1 = x1 at *
    have j0:InW w.heap.size W0:=⟨by omega⟩
    go_wp2_with fail
    refine (Bk.out _).mono ?_
    rintro e W ⟨bb,rfl,hcb,hbb,hW⟩
    have hbW:Below W0.heap.size W0 W:=(belowG0 pg W0).trans (hW.mono (belowG0 pg W0).size)
    have hb1:Below w.heap.size w W:=hb0.trans (hbW.mono (by omega))
    have hzW:=hbW.size
    dsimp only
    go_wp2
    refine (wpIn_wide (n:=9)).1 ?_
    refine range_back (n:=9) (b:=bb) (sa:=sa) (sc:=sc) (c:=l.c) (B:=B) (rv:=rv) (vv := .slice va l.c.vars.length vc) (by decide) (by have:=P.few;omega) rfl rfl
     (fun j W'=>lastW l.c.states (a:Int) (b:Int) l.c.states.length = lastW l.c.states (a:Int) (b:Int) j ∧ Below W.heap.size W W' ∧ W.heap.size + 2 ≤ W'.heap.size)
     (fun j W'=>lastW l.c.states (a:Int) (b:Int) l.c.states.length = some j ∧ Cell1 W' x3 (.bool ((l.c.states.getD j st0).kind == 4)) 4 ∧ W.grownBy W' (some x3))
     ?sJ ?sI ?sIx ?s0 ?sIa (fun j v sb=>{ tmps:=#[.pointer (some ⟨lb,0,none⟩),.int .i64 (a:Int),.int .i64 (b:Int),.pointer (some ⟨w.heap.size,0,none⟩),.pointer (some ⟨x1,0,none⟩),.pointer (some ⟨x2,0,none⟩),.pointer (some ⟨x3,0,none⟩),.int .i64 (j:Int),.pointer (some ⟨sb,0,none⟩),.int .i64 (a:Int),.int .i64 (b:Int),.bool false,.bool false,.pointer (some ⟨lb,0,none⟩),.pointer (some ⟨lb,0,none⟩),.pointer (some ⟨lb,0,none⟩),.agg #[str l.c.name,.slice va l.c.vars.length vc,.slice sa l.c.states.length sc],.int .i64 (a:Int),.int .i64 (b:Int),.bool false,.bool false,.bool false,.pointer (some ⟨lb,0,none⟩),.pointer (some ⟨lb,0,none⟩),.pointer (some ⟨lb,0,none⟩),.agg #[str l.c.name,.slice va l.c.vars.length vc,.slice sa l.c.states.length sc],.int .i64 (b:Int),.int .i64 (a:Int),.bool false,.bool false,.pointer (some ⟨lb,0,none⟩),.pointer (some ⟨lb,0,none⟩),.pointer (some ⟨lb,0,none⟩),.pointer (some ⟨lb,2,none⟩),.slice sa l.c.states.length sc,.func (.func 198) #[] #[.pointer (some ⟨bb,0,none⟩)],.int .i64 (j:Int),v,undef,undef,undef,undef,undef,undef,undef,undef,undef,undef,undef,undef,undef,undef,undef,undef,undef,undef,undef],defers:=[] }) ?assign ?body ?done ?stop
    case sJ=>exact fun j W' h=>⟨chV_keep H.ch (hb1.trans (h.2.1.mono hb1.size)),cell1_keep hcb h.2.1⟩
    case sI =>
     rintro p V V' j ⟨g1,g2,g3⟩ hg hj
     exact ⟨g1,g2.grown hg g2.size fun k e=>by cases e;omega,Nat.le_trans g3 hg.size⟩
    case sIx =>
     rintro p V V' j ⟨g1,g2,g3⟩ hg hj
     refine ⟨g1,cell1_low g2 hg (by omega),⟨hg.os.trans g3.os,hg.tape.trans g3.tape,hg.output.trans g3.output,Nat.le_trans g3.size hg.size,fun k hk hne=>(hg.block k (Nat.lt_of_lt_of_le hk g3.size) (by simp;omega)).trans (g3.block k hk hne)⟩⟩
    case s0=>exact fun o o'=>⟨rfl,by (first | exact gwT | exact lzT),by simp⟩
    case sIa =>
     rintro p V o ⟨g1,g2,g3⟩
     exact ⟨g1,g2.alloc g2.size _,by simp;omega⟩
    case assign =>
     intro l0 j hj eo xo to' ec xc tc V1 K hK
     gi_wp2
     exact hK
    case body =>
     rintro l0 j hj eo xo to' ec xc tc sb V1 ⟨g1,g2,g3⟩ hsb
     have hV:=hbW.trans (g2.mono hbW.size)
     obtain ⟨z0,_,y0⟩:=one_cells (cell1_keep q0 hV)
     obtain ⟨za,_,ya⟩:=one_cells (cell1_keep qa hV)
     obtain ⟨zb,_,yb⟩:=one_cells (cell1_keep qb hV)
     obtain ⟨zr,fr,yr⟩:=one_cells (cell1_keep qr hV)
     have d0:=(hV.cell (p:=⟨lb,0,none⟩) iL.lt).trans c0'
     have d1:=(hV.cell (p:=⟨lb,1,none⟩) iL.lt).trans c1'
     have d2:=(hV.cell (p:=⟨lb,2,none⟩) iL.lt).trans c2'
     have m1:=(cell_of_row V1 sb 1 _ _ _ hsb).trans rfl
     have hw:=hb1.trans (g2.mono hb1.size)
     have A:=Lib.hid (fun wx (hx:Below V1.heap.size V1 wx)=>W1.out (j:Int) wx (hw.trans (hx.mono hw.size)))
     have D:=Lib.hid (fun wx (hx:Below V1.heap.size V1 wx)=>W2.out (j:Int) wx (hw.trans (hx.mono hw.size)))
     have hlast:lastW l.c.states (a:Int) (b:Int) (j + 1) = if wthT l.c.states (j:Int) l.c.states.length (a:Int) && wthT l.c.states (j:Int) l.c.states.length (b:Int) then some j else lastW l.c.states (a:Int) (b:Int) j:=by rw [lastW,wthC_in ha,wthC_in hb]
     rw [hlast] at g1
     have iV:InW lb V1:=⟨by have:=hw.size;omega⟩
     have iS:InW sb V1:=⟨lt_of_block hsb⟩
     have i0:InW w.heap.size V1:=⟨y0⟩
     have ia:InW x1 V1:=⟨ya⟩
     have ib:InW x2 V1:=⟨yb⟩
     have iH:∀ p:Regrown,∀ k,k = W.heap.size ∨ k = W.heap.size + 1 → (G p V1).heap[k]? = V1.heap[k]?:=fun p k hk=>(belowG0 p V1).block k (by omega)
     generalize wthT l.c.states (j:Int) l.c.states.length (a:Int) = v1 at *
     generalize wthT l.c.states (j:Int) l.c.states.length (b:Int) = v2 at *
     cases v1 with
     | false =>
      rw [Bool.false_and,if_neg Bool.false_ne_true] at g1
      replace g1:=Lib.hid g1
      gi_wp2
      refine wpIn_region_GR (by kernel_rfl) (by kernel_rfl) (by kernel_rfl) ?_
      repeat (refine wpQuietIn_step (fun _ _ _ _=>trivial) (fun K hK=>?_);go_simp;first | (refine hK _ ?_;clear hK K) | (apply Exists.intro;refine ⟨fun _=>?_,hK _ ?_⟩;first | (with_reducible exact callsIn_wide.2 (quietG (A.out _ (by (first | exact gwT | exact lzT))))) | (with_reducible exact callsIn_wide.2 (quietG (D.out _ (by (first | exact gwT | exact lzT)))));clear hK K))
      refine wpQuietIn_nil ?_
      intro _ hw'
      obtain ⟨pg,hw''⟩:=hw'
      subst hw''
      gi_wp2
      exact ⟨fun k hk=>iH pg k hk,g1.out,g2.trans ((belowG0 pg V1).mono g2.size),Nat.le_trans g3 (belowG0 pg V1).size⟩
     | true =>
      cases v2 with
      | false =>
       rw [Bool.true_and,if_neg Bool.false_ne_true] at g1
       replace g1:=Lib.hid g1
       gi_wp2
       refine wpIn_region_GR (by kernel_rfl) (by kernel_rfl) (by kernel_rfl) ?_
       repeat (refine wpQuietIn_step (fun _ _ _ _=>trivial) (fun K hK=>?_);go_simp;first | (refine hK _ ?_;clear hK K) | (apply Exists.intro;refine ⟨fun _=>?_,hK _ ?_⟩;first | (with_reducible exact callsIn_wide.2 (quietG (A.out _ (by (first | exact gwT | exact lzT))))) | (with_reducible exact callsIn_wide.2 (quietG (D.out _ (by (first | exact gwT | exact lzT)))));clear hK K))
       refine wpQuietIn_nil ?_
       intro _ hw'
       obtain ⟨pg,hw''⟩:=hw'
       subst hw''
       gi_wp2
       exact ⟨fun k hk=>iH pg k hk,g1.out,g2.trans ((belowG0 pg V1).mono g2.size),Nat.le_trans g3 (belowG0 pg V1).size⟩
      | true =>
       rw [Bool.true_and,if_pos rfl] at g1
       replace g1:=Lib.hid g1
       gi_wp2
       refine wpIn_region_GR (by kernel_rfl) (by kernel_rfl) (by kernel_rfl) ?_
       repeat (refine wpQuietIn_step (fun _ _ _ _=>trivial) (fun K hK=>?_);go_simp;first | (refine hK _ ?_;clear hK K) | (apply Exists.intro;refine ⟨fun _=>?_,hK _ ?_⟩;first | (with_reducible exact callsIn_wide.2 (quietG (A.out _ (by (first | exact gwT | exact lzT))))) | (with_reducible exact callsIn_wide.2 (quietG (D.out _ (by (first | exact gwT | exact lzT)))));clear hK K))
       refine wpQuietIn_nil ?_
       intro _ hw'
       obtain ⟨pg,hw''⟩:=hw'
       subst hw''
       gi_wp2
       have hbG:=belowG0 pg (V1.setCell ⟨x3,0,none⟩ (.bool (l.c.states[j].kind == 4)))
       have hzs:(V1.setCell ⟨x3,0,none⟩ (.bool (l.c.states[j].kind == 4))).heap.size = V1.heap.size:=by simp
       refine ⟨fun k hk=>(hbG.block k (by omega)).trans (set_heap (by omega)),g1.out,?_,?_⟩
       ·rw [show l.c.states.getD j st0 = l.c.states[j] by simp [List.getD,hj]]
        exact cell1_keep (set_one (cell1_keep qr hV)) hbG
       ·refine ⟨hbG.os.trans g2.os,hbG.tape.trans g2.tape,hbG.output.trans g2.output,Nat.le_trans g2.size (by rw [← hzs];exact hbG.size),fun k hk hne=>(hbG.block k (by have:=g2.size;omega)).trans ((set_heap (fun e=>hne (by rw [e]))).trans (g2.block k hk))⟩
    case done =>
     rintro D V hD ⟨g1,g2,g3⟩ hK
     have h9:=hans.out
     rw [g1,lastW,show parB l.c.states none = false from rfl] at h9
     subst h9
     have hV:=hbW.trans (g2.mono hbW.size)
     obtain ⟨zr,fr,yr⟩:=one_cells (cell1_keep qr hV)
     go_wp2
     have hgD:=grownBy_putObj' (V.setCell ⟨x3,0,none⟩ (.bool false)) D (.deferred none)
     have q9:=cell1_low (set_one (u := .bool false) (cell1_keep qr hV)) hgD (by omega)
     have zz:=(one_cells q9).1
     have hw:=hb1.trans (g2.mono hb1.size)
     refine ⟨by simp,.inl ⟨_,_,rfl,run_takeDeferred ((set_heap (by omega)).trans hK),?_⟩⟩
     refine ⟨.bool false,by simp [results,Tryz.f163,go_sem,zz],rfl,(Below.setCell hw (show w.heap.size ≤ x3 by omega) _).grown hgD (by simpa using hw.size) fun k e=>by cases e;omega⟩
    case stop =>
     rintro D j V hD hj ⟨g1,g2,g3⟩ hK
     have h9:=hans.out
     rw [g1,show parB l.c.states (some j) = ((l.c.states.getD j st0).kind == 4) from rfl] at h9
     obtain ⟨zr,fr,yr⟩:=one_cells g2
     rw [h9] at zr g2
     have hw:Below w.heap.size w V:=hb1.grown g3 hb1.size fun k e=>by cases e;omega
     gi_wp2
     have hgD:=grownBy_putObj' V D (.deferred none)
     have zz:=(one_cells (cell1_low g2 hgD (by omega))).1
     refine ⟨by simp,.inl ⟨_,_,rfl,run_takeDeferred hK,?_⟩⟩
     refine ⟨.bool ans,by simp [results,Tryz.f163,go_sem,zz],rfl,hw.grown hgD hw.size fun k e=>by cases e;omega⟩
end
end Go.Proofs.YtncmnhccmemagaaGreatDoor
