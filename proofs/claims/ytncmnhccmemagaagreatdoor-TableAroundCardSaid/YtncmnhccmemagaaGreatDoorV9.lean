/- Several texts of this proof, joined: VM, VO. -/
import Derived.Test.YtncmnhccmemagaaGreatDoorV8
import Derived.WalkKit
import Derived.ProofKit
import Derived.OpenShut
import Derived.Handy
import Derived.BigQuiet
import Derived.OwnWalk
import Derived.Deep.RegionHeld3
import Derived.Lib.Hide
import Derived.WalkSmall
import Derived.WalkLawsBesides
import Derived.Test.YtncmnhccmemagaaGreatDoorV7
namespace Go.Proofs.YtncmnhccmemagaaGreatDoor
open Go.RowKit Go.Sort
section
variable {l:Lk} {lb:Nat}
theorem kidsA_in {p:Int}:∀ {ss:List St} {k j:Nat},j ∈ kidsA p ss k → j < k + ss.length
 | [],_,_,h=>by cases h
 | s :: r,k,j,h=>by
  rw [kidsA] at h
  rw [List.length_cons]
  split at h
  ·rcases List.mem_cons.1 h with rfl | h
   ·omega
   ·have:=kidsA_in h;omega
  ·have:=kidsA_in h;omega
theorem own_Galloc {p:Regrown} {X:World} {o o':Obj} {B e s n:Nat} {v:Value} {xs:List Value} (h:(G p (X.alloc o)).ownsRow B e s v n xs) (hB:X.heap.size + 1 ≤ B):(G p (X.alloc o')).ownsRow B e s v n xs:=by
 refine ⟨h.1,?_⟩
 rcases h.2 with h0 | ⟨g,cap,cur,e1,e2,e3,e4⟩
 ·exact .inl h0
 ·refine .inr ⟨g,cap,cur,e1,e2,?_,e4⟩
  rw [← e3]
  unfold G grow redrawn World.alloc
  have hg:X.heap.size + 1 ≤ g:=Nat.le_trans hB e2
  simp only [Array.getElem?_append,Array.size_push]
  rw [if_neg (by omega),if_neg (by omega)]
set_option maxRecDepth 100000 in
set_option maxHeartbeats 8000000 in
theorem kids_any (P:LkP l) (i:Nat) (hi:i < l.c.states.length) (w:World) (H:LkAt w lb l):Calls Tryz.prog 80 #[.pointer (some ⟨lb,0,none⟩),.int .i64 (i:Int)] w (Ret (.int .i64 (kidsE l i)) w):=by
 have L:=Lib.hid (fun wx (hb:Below w.heap.size w wx)=>lk_keep H hb)
 obtain ⟨B,rv,va,sa,oa,pa,vc,sc,oc,pc,H⟩:=H
 have K:=Lib.hid (fun wx (hb:Below w.heap.size w wx)=>ckids_any sa sc (i:Int) (by have:=P.few;omega) wx (chV_keep H.ch hb))
 obtain ⟨hl,c0,c1,c2,c3,c4⟩:=lk_cells H
 obtain ⟨g,eo,ec,xo,xc,to',tc,rfl,hg,n1,n2,n3,n4,n5,n6,n7,_⟩:=st_at H.ch i hi
 rw [← stL_at hi] at n1 n2 n3 n4 n5 n6 n7
 have hkl:=kidsA_len (i:Int) l.c.states 0
 have hks:=Lib.hid (fun k (hk:k ∈ kidsA (i:Int) l.c.states 0)=>show k < l.c.states.length by have:=kidsA_in hk;omega)
 have hfew:=P.few
 have i1:InW lb w:=⟨hl⟩
 have i2:InW g w:=⟨hg⟩
 have hI:(i:Int) < (l.c.states.length:Int):=by omega
 unfold kidsE
 rw [show kidsOk l i = (if (stL l i).kind = 5 then (kidsA (i:Int) l.c.states 0).length == 0 && (stL l i).trans.length == 0 else if (stL l i).kind = 4 then ((kidsA (i:Int) l.c.states 0).any fun k => !pastS (stL l k)) && !((kidsA (i:Int) l.c.states 0).any fun k => !partS (stL l k)) else if (stL l i).kind = 3 then ((kidsA (i:Int) l.c.states 0).any fun k => !pastS (stL l k)) || (kidsA (i:Int) l.c.states 0).length == 0 else ((kidsA (i:Int) l.c.states 0).any fun k => !pastS (stL l k))) from rfl]
 have U:=Lib.hid (fun b wx=>unless_any b 34 wx)
 generalize stL l i = s at *
 generalize kidsA (i:Int) l.c.states 0 = ks at *
 have A1:=Lib.hid (fun b ao cap wx (h:NtsRd wx ao ks) (hb:wx.cell? ⟨b,0,none⟩ = some (.pointer (some ⟨lb,0,none⟩))) (hw:Below w.heap.size w wx)=>has_any 105 (fun _ _=>rfl) (.pointer (some ⟨b,0,none⟩)) undef #[.pointer (some ⟨b,0,none⟩)] (.inl rfl) (fun k => !pastS (stL l k)) ao cap ks (by omega) wx h fun k hk wy hy=>kid1_c k (hks.out k hk) b wy ((hy.cell (p:=⟨b,0,none⟩) (World.block_lt_of_cell? _ _ hb)).trans hb) (L.out wy (hw.trans (hy.mono hw.size))))
 have A2:=Lib.hid (fun b ao cap wx (h:NtsRd wx ao ks) (hb:wx.cell? ⟨b,0,none⟩ = some (.pointer (some ⟨lb,0,none⟩))) (hw:Below w.heap.size w wx)=>has_any 106 (fun _ _=>rfl) (.pointer (some ⟨b,0,none⟩)) undef #[.pointer (some ⟨b,0,none⟩)] (.inl rfl) (fun k => !partS (stL l k)) ao cap ks (by omega) wx h fun k hk wy hy=>kid2_c k (hks.out k hk) b wy ((hy.cell (p:=⟨b,0,none⟩) (World.block_lt_of_cell? _ _ hb)).trans hb) (L.out wy (hw.trans (hy.mono hw.size))))
 generalize (ks.any fun k => !pastS (stL l k)) = q1 at *
 generalize (ks.any fun k => !partS (stL l k)) = q2 at *
 have hmf:∀ (fn:Fn) (first cap:Array Value) (w:World),(Instr.makeFunc fn first cap).run Tryz.prog w = .ok (.func fn first cap) w:=fun _ _ _ _=>rfl
 have e0:((ks.length:Int) == 0) = (ks.length == 0):=by rw [Bool.eq_iff_iff];simp
 have e1:((s.trans.length:Int) == 0) = (s.trans.length == 0):=by rw [Bool.eq_iff_iff];simp
 generalize hA:(if s.kind = 5 then ks.length == 0 && s.trans.length == 0 else if s.kind = 4 then q1 && !q2 else if s.kind = 3 then q1 || ks.length == 0 else q1) = A
 rw [← e0,← e1] at hA
 obtain ⟨z0,hz0⟩:∃ z0,((ks.length:Int) == 0) = z0:=⟨_,rfl⟩
 obtain ⟨z1,hz1⟩:∃ z1,((s.trans.length:Int) == 0) = z1:=⟨_,rfl⟩
 rw [hz0,hz1] at hA
 clear e0 e1
 replace hA:=Lib.hid hA
 clear H
 go_enter Tryz.func80,Tryz.ntmps80
 go_wp2
 go_upto_region 1 with (fail)
 go_cut [5,6] (fun x y wx=>∃ (sb:Nat) (ao:Option Addr) (cap:Nat),x = .pointer (some ⟨sb,0,none⟩) ∧ y = .slice ao ks.length cap ∧ wx.cell? ⟨sb,1,none⟩ = some (.int .i64 s.kind) ∧ wx.cell? ⟨sb,6,none⟩ = some (.slice to' s.trans.length tc) ∧ wx.cell? ⟨w.heap.size,0,none⟩ = some (.pointer (some ⟨lb,0,none⟩)) ∧ NtsRd wx ao ks ∧ Below w.heap.size w wx)
 case first =>
  clear A1 A2 L U
  go_region_held3 (fun w'=>w'.cell? ⟨w.heap.size,0,none⟩ = some (.pointer (some ⟨lb,0,none⟩)) ∧ w'.cell? ⟨lb,0,none⟩ = some (str l.c.name) ∧ w'.cell? ⟨lb,1,none⟩ = some (.slice va l.c.vars.length vc) ∧ w'.cell? ⟨lb,2,none⟩ = some (.slice (some ⟨g,0,none⟩) l.c.states.length sc) ∧ w'.cell? ⟨g,i * 7,none⟩ = some (str s.name) ∧ w'.cell? ⟨g,i * 7 + 1,none⟩ = some (.int .i64 s.kind) ∧ w'.cell? ⟨g,i * 7 + 2,none⟩ = some (.int .i64 s.parent) ∧ w'.cell? ⟨g,i * 7 + 3,none⟩ = some (str s.start) ∧ w'.cell? ⟨g,i * 7 + 4,none⟩ = some (.slice eo s.enter.length ec) ∧ w'.cell? ⟨g,i * 7 + 5,none⟩ = some (.slice xo s.exit.length xc) ∧ w'.cell? ⟨g,i * 7 + 6,none⟩ = some (.slice to' s.trans.length tc))
   ((refine ⟨?_,?_,?_,?_,?_,?_,?_,?_,?_,?_,?_⟩ <;> first | assumption | (rw [cell_GI];assumption) | (rw [cell_allocI];assumption) | (simp [go_sem, *];done)))
   (first | ((with_reducible refine (K.out _ (by (first | exact gwT | exact lzT))).mono ?_);intro e w1 hr;obtain ⟨v,rfl,hO,hb1⟩:=hr;obtain ⟨ao,cap,rfl⟩:=own_form hO;obtain ⟨p1,rfl⟩:=toG hb1;clear hb1;(try simp only [G_drew,World.size_drew] at hO)))
  all_goals
   go_wp2
   go_meet
  ·exact ⟨_,ao,cap,rfl,rfl,by simp [go_sem, *],by simp [go_sem, *],by simp [go_sem, *],nts_keep (nts_own hO) (by (first | exact gwT | exact lzT)),by (first | exact gwT | exact lzT)⟩
  ·exact ⟨_,ao,cap,rfl,rfl,by simp [go_sem, *],by simp [go_sem, *],by simp [go_sem, *],nts_own (own_Galloc hO (by simp)),by (first | exact gwT | exact lzT)⟩
 case rest =>
  obtain ⟨sb,ao,cap,rfl,rfl,k1,k6,kb,hN,hb⟩:=hcut
  rename World=>wx
  have B1:=Lib.hid (fun wy (hy:Below wx.heap.size wx wy)=>A1.out _ ao cap wy (nts_keep hN hy) ((hy.cell (p:=⟨w.heap.size,0,none⟩) (World.block_lt_of_cell? _ _ kb)).trans kb) (hb.trans (hy.mono hb.size)))
  have B2:=Lib.hid (fun wy (hy:Below wx.heap.size wx wy)=>A2.out _ ao cap wy (nts_keep hN hy) ((hy.cell (p:=⟨w.heap.size,0,none⟩) (World.block_lt_of_cell? _ _ kb)).trans kb) (hb.trans (hy.mono hb.size)))
  have j1:InW sb wx:=⟨World.block_lt_of_cell? _ _ k1⟩
  have hwz:=hb.size
  clear A1 A2 hN K c0 c1 c2 c3 c4 n1 n2 n3 n4 n5 n6 n7
  have hA1:=hA.out
  clear hA
  by_cases h5:s.kind = 5
  ·rw [if_pos h5] at hA1
   subst hA1
   have f5:(s.kind == 5) = true:=by simpa using h5
   replace h5:=Lib.hid h5
   cases z0
   all_goals
    go_wp2_with (first | ((with_reducible refine (B1.out _ (by (first | exact gwT | exact lzT))).mono ?_);intro e w1 hr;obtain ⟨rfl,p,rfl⟩:=hr.out;clear hr) | ((with_reducible refine (U.out _ _).mono ?_);intro e w1 hr;obtain ⟨rfl,p,rfl⟩:=hr.out;clear hr))
    go_returns
    exact ⟨rfl,hb.trans (Below.mono (by (first | exact gwT | exact lzT)) hwz)⟩
  ·rw [if_neg h5] at hA1
   have f5:(s.kind == 5) = false:=beq_eq_false_iff_ne.2 h5
   replace h5:=Lib.hid h5
   by_cases h4:s.kind = 4
   ·rw [if_pos h4] at hA1
    subst hA1
    have f4:(s.kind == 4) = true:=by simpa using h4
    replace h4:=Lib.hid h4
    cases q1
    all_goals
     go_wp2_with (first | ((with_reducible refine (B1.out _ (by (first | exact gwT | exact lzT))).mono ?_);intro e w1 hr;obtain ⟨rfl,p,rfl⟩:=hr.out;clear hr) | ((with_reducible refine (B2.out _ (by (first | exact gwT | exact lzT))).mono ?_);intro e w1 hr;obtain ⟨rfl,p,rfl⟩:=hr.out;clear hr) | ((with_reducible refine (U.out _ _).mono ?_);intro e w1 hr;obtain ⟨rfl,p,rfl⟩:=hr.out;clear hr))
     go_returns
     exact ⟨rfl,hb.trans (Below.mono (by (first | exact gwT | exact lzT)) hwz)⟩
   ·rw [if_neg h4] at hA1
    have f4:(s.kind == 4) = false:=beq_eq_false_iff_ne.2 h4
    replace h4:=Lib.hid h4
    by_cases h3:s.kind = 3
    ·rw [if_pos h3] at hA1
     subst hA1
     have f3:(s.kind == 3) = true:=by simpa using h3
     replace h3:=Lib.hid h3
     cases q1
     all_goals
      go_wp2_with (first | ((with_reducible refine (B1.out _ (by (first | exact gwT | exact lzT))).mono ?_);intro e w1 hr;obtain ⟨rfl,p,rfl⟩:=hr.out;clear hr) | ((with_reducible refine (U.out _ _).mono ?_);intro e w1 hr;obtain ⟨rfl,p,rfl⟩:=hr.out;clear hr))
      go_returns
      exact ⟨rfl,hb.trans (Below.mono (by (first | exact gwT | exact lzT)) hwz)⟩
    ·rw [if_neg h3] at hA1
     subst hA1
     have f3:(s.kind == 3) = false:=beq_eq_false_iff_ne.2 h3
     replace h3:=Lib.hid h3
     go_wp2_with (first | ((with_reducible refine (B1.out _ (by (first | exact gwT | exact lzT))).mono ?_);intro e w1 hr;obtain ⟨rfl,p,rfl⟩:=hr.out;clear hr) | ((with_reducible refine (U.out _ _).mono ?_);intro e w1 hr;obtain ⟨rfl,p,rfl⟩:=hr.out;clear hr))
     go_returns
     exact ⟨rfl,hb.trans (Below.mono (by (first | exact gwT | exact lzT)) hwz)⟩
end
end Go.Proofs.YtncmnhccmemagaaGreatDoor
namespace Go.Proofs.YtncmnhccmemagaaGreatDoor
open Go.RowKit
section
variable {l:Lk} {lb:Nat}
set_option maxRecDepth 100000 in
set_option maxHeartbeats 8000000 in
theorem acts_any (P:LkP l) (i:Nat) (hi:i < l.c.states.length) (w:World) (H:LkAt w lb l):Calls Tryz.prog 82 #[.pointer (some ⟨lb,0,none⟩),.int .i64 (i:Int)] w (Ret (.int .i64 (actsE l i)) w):=by
 have L:=Lib.hid (fun wx (hb:Below w.heap.size w wx)=>lk_keep H hb)
 obtain ⟨B,rv,va,sa,oa,pa,vc,sc,oc,pc,H⟩:=H
 obtain ⟨hl,c0,c1,c2,c3,c4⟩:=lk_cells H
 obtain ⟨g,eo,ec,xo,xc,to',tc,rfl,hg,_,_,_,_,n5,n6,_,hE,hX,_⟩:=st_at H.ch i hi
 have hfit:=P.fit i hi
 have hlen:=P.lens i hi
 unfold actsE stL
 rw [show l.c.states.getD i st0 = l.c.states[i] by simp [List.getD,hi]] at hfit hlen ⊢
 have hfb:Hid (∀ b ∈ l.c.states[i].enter ++ l.c.states[i].exit,FitB b):=Lib.hid fun b hb=>by
  rcases List.mem_append.1 hb with hb | hb
  ·exact hfit.enter b hb
  ·exact hfit.exit b hb
 have CC:=Lib.hid (fun g1 cap wx (hb:Below w.heap.size w wx) (hg1:g1 < wx.heap.size) (hk0:wx.cell? ⟨g1,0,none⟩ = some (.slice eo l.c.states[i].enter.length ec)) (hk1:wx.cell? ⟨g1,1,none⟩ = some (.slice xo l.c.states[i].exit.length xc))=>concat_any g1 cap eo xo ec xc l.c.states[i].enter l.c.states[i].exit hlen.1 hlen.2.1 wx hg1 hk0 hk1 (blkRow_tp (fx_below hb) hE fun _ _ h=>owns_below h hb) (blkRow_tp (fx_below hb) hX fun _ _ h=>owns_below h hb))
 have hF':Hid (firstE (eachE l) ((l.c.states[i].enter ++ l.c.states[i].exit).drop 0) = firstE (eachE l) (l.c.states[i].enter ++ l.c.states[i].exit)):=Lib.hid (by rw [List.drop_zero])
 have hbl:(l.c.states[i].enter ++ l.c.states[i].exit).length ≤ 1000:=by rw [List.length_append];omega
 generalize firstE (eachE l) (l.c.states[i].enter ++ l.c.states[i].exit) = F at *
 generalize (l.c.states[i].enter ++ l.c.states[i].exit) = bs at *
 have i1:InW lb w:=⟨hl⟩
 have i2:InW g w:=⟨hg⟩
 have hI:(i:Int) < (l.c.states.length:Int):=by omega
 generalize l.c.states[i] = s at *
 clear hE hX hfit hlen H
 go_enter Tryz.func82,Tryz.ntmps82
 go_wp2
 go_region_held3 (fun w'=>w'.cell? ⟨lb,2,none⟩ = some (.slice (some ⟨g,0,none⟩) l.c.states.length sc) ∧ w'.cell? ⟨g,i * 7 + 4,none⟩ = some (.slice eo s.enter.length ec) ∧ w'.cell? ⟨g,i * 7 + 5,none⟩ = some (.slice xo s.exit.length xc)) ((refine ⟨?_,?_,?_⟩ <;> first | assumption | (rw [cell_GI];assumption) | (rw [cell_allocI];assumption) | (simp [go_sem, *];done)))
  (first | ((with_reducible refine (CC.out _ _ _ (by (first | exact gwT | exact lzT)) (by simp [go_sem]) (by simp [go_sem]) (by simp [go_sem])).mono ?_);intro e w1 hr;obtain ⟨ao,cap,rfl,hR,hb1⟩:=hr;obtain ⟨p1,rfl⟩:=toG hb1;clear hb1))
 (try simp only [G_drew] at hR)
 clear CC c0 c1 c2 c3 c4 n5 n6
 go_wp2
 go_loopw [29] (fun x wr=>∃ (k:Nat),x = .int .i64 (k:Int) ∧ k ≤ bs.length ∧ Hid (firstE (eachE l) (bs.drop k) = F) ∧ BlkRow ct0 0 wr (.slice ao bs.length cap) bs ∧ Below w.heap.size w wr) (fun x _=>bs.length - (intOf x).toNat)
 case atStart=>exact ⟨0,rfl,Nat.zero_le _,hF',by first | exact hR | (rw [← G_G];exact hR),by (first | exact gwT | exact lzT)⟩
 case round =>
  obtain ⟨k,rfl,hk,hF,hR,hb⟩:=hrel
  rename World=>wr
  have hwz:=hb.size
  have j0:InW lb wr:=⟨by omega⟩
  have RR:=Lib.hid (fun wx (hx:Below wr.heap.size wr wx)=>blkRow_tp (fx_below hx) hR fun _ _ h=>owns_below h hx)
  by_cases hlt:k < bs.length
  ·have hK:(k:Int) < (bs.length:Int):=by omega
   obtain ⟨g2,yo,yc,rfl,hg2,n1,hA⟩:=blk_at hR k hlt
   have hfk:=hfb.out bs[k] (List.getElem_mem hlt)
   have hm:=first_more (f:=eachE l) hlt
   have E:=Lib.hid (fun wx (hx:Below wr.heap.size wr wx)=>each_any P yo yc bs[k] hfk wx (acts_below (acRow_at hA) hx) (L.out wx (hb.trans (hx.mono hwz))))
   have j1:InW g2 wr:=⟨hg2⟩
   clear hA hR hfk
   generalize bs[k] = b at *
   rw [hF.out] at hm
   generalize eachE l b = e at *
   by_cases h0:e = 0
   ·rw [then_go h0] at hm
    obtain ⟨z0,z1⟩:=eq_eqs h0
    replace h0:=Lib.hid h0
    have hm':=Lib.hid hm.symm
    clear hm hF
    go_wp2_with ((with_reducible refine (E.out _ (by (first | exact gwT | exact lzT))).mono ?_);intro e w1 hr;obtain ⟨rfl,p,rfl⟩:=hr.out;clear hr)
    go_roundw
    case rel=>exact ⟨k + 1,by go_num,by omega,hm',RR.out _ (by (first | exact gwT | exact lzT)),by (first | exact gwT | exact lzT)⟩
    case measure=>simp [intOf];omega
   ·rw [then_no h0] at hm
    obtain ⟨z0,z1⟩:=ne_eqs h0
    replace h0:=Lib.hid h0
    subst hm
    clear hF
    go_wp2_with ((with_reducible refine (E.out _ (by (first | exact gwT | exact lzT))).mono ?_);intro e w1 hr;obtain ⟨rfl,p,rfl⟩:=hr.out;clear hr)
    go_returns
    exact ⟨rfl,by (first | exact gwT | exact lzT)⟩
  ·have hK:¬ (k:Int) < (bs.length:Int):=by omega
   have hm:=first_end (f:=eachE l) (show bs.length ≤ k by omega)
   rw [hF.out] at hm
   subst hm
   clear hF hR
   go_wp2
   go_returns
   exact ⟨rfl,by (first | exact gwT | exact lzT)⟩
end
end Go.Proofs.YtncmnhccmemagaaGreatDoor
