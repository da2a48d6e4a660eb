/- SnapOwn. Written by wip/gen_sy3.py. -/
import Derived.Test.YtacnlghljmgdiaaGreatDoorK8
import Derived.Test.YtacnlghljmgdiaaGreatDoorQ7
import Derived.BigRegion
import Derived.WalkKit
import Derived.ProofKit
import Derived.OpenShut
import Derived.Handy
import Derived.BigQuiet
import Derived.OwnWalk
import Derived.Lib.Hide
import Derived.WalkSmall
import Derived.WalkLawsBesides
namespace Go.Proofs.YtacnlghljmgdiaaGreatDoor
open Go.RowKit
set_option maxRecDepth 100000 in
set_option maxHeartbeats 40000000 in
theorem y7l (s:Sn) (pa:Option Addr) (pc:Nat) (da:Option Addr) (dc:Nat) (ia:Option Addr) (ic:Nat) (oa:Option Addr) (oc:Nat) (ta:Option Addr) (tc:Nat) (ka:Option Addr) (kc:Nat) (ua:Option Addr) (uc:Nat) (w:World) (h:SnRd w s pa pc da dc ia ic oa oc ta tc ka kc ua uc) (_I:SnIn s) (Z:SnZ s) (hA:Ap w) :
  Calls Tryz.prog 5 #[snV s pa pc da dc ia ic oa oc ta tc ka kc ua uc] w (Ret (.bool true) w):=by
 have A:=hiT (fun wx (hb:Below w.heap.size w wx)=>q5c wx (j2v hA hb))
 have H:=hiT (fun wx (hb:Below w.heap.size w wx)=>z2v h hb)
 obtain ⟨m0,m1,m2,m3,m4,m5,m6,-,z7,z8,z9⟩:=id Z
 by_cases hs:200 < s.past.length + s.data.length + s.inner.length + s.outer.length + s.timers.length + s.taken.length + s.out.length
 ·have hI:(200:Int) < (s.past.length:Int) + (s.data.length:Int) + (s.inner.length:Int) + (s.outer.length:Int) + (s.timers.length:Int) + (s.taken.length:Int) + (s.out.length:Int):=by omega
  clear h hA H Z _I hs z7 z8 z9
  go_enter Tryz.func5,Tryz.ntmps5
  go_wp2_with (((with_reducible refine (A.out _ gzT).mono ?_);intro e w1 hr;obtain ⟨rfl,p,rfl⟩:=hr.out;clear hr))
  go_returns
  exact ⟨rfl,gzT⟩
 ·have n4:s.past.length ≤ 400 ∧ s.data.length ≤ 400 ∧ s.inner.length ≤ 400 ∧ s.outer.length ≤ 400 ∧ s.timers.length ≤ 400 ∧ s.taken.length ≤ 400 ∧ s.out.length ≤ 400:=by omega
  have hI:¬ (200:Int) < (s.past.length:Int) + (s.data.length:Int) + (s.inner.length:Int) + (s.outer.length:Int) + (s.timers.length:Int) + (s.taken.length:Int) + (s.out.length:Int):=by omega
  have Cp:=hiT (fun wx (hb:Below w.heap.size w wx)=>z6j s pa pc da dc ia ic oa oc ta tc ka kc ua uc wx n4 (H.out wx hb))
  clear h hA Z _I hs
  replace n4:=hiT n4
  go_enter Tryz.func5,Tryz.ntmps5
  go_upto_region 5 with (((with_reducible refine (A.out _ gzT).mono ?_);intro e w1 hr;obtain ⟨rfl,p,rfl⟩:=hr.out;clear hr))
  go_cut [3,4] (fun v3 v4 wx=>OwnR w s pa pc da dc ia ic oa oc ta tc ka kc ua uc v3 v4 wx)
  case first =>
   have hX00:=z0c (heap_alloc_new w (.cells #[.int .i64 s.status,.int .i64 s.moves,.int .i64 s.clock,.int .i64 s.seq,.int .u64 s.inn,.slice pa s.past.length pc,.slice da s.data.length dc,.slice ia s.inner.length ic,.slice oa s.outer.length oc,.slice ta s.timers.length tc,.string s.event,.slice ka s.taken.length kc,.int .u64 s.ent,.slice ua s.out.length uc] 44)) (z1e p _)
   obtain ⟨X0,hX0⟩:∃ X,G p (w.alloc (.cells #[.int .i64 s.status,.int .i64 s.moves,.int .i64 s.clock,.int .i64 s.seq,.int .u64 s.inn,.slice pa s.past.length pc,.slice da s.data.length dc,.slice ia s.inner.length ic,.slice oa s.outer.length oc,.slice ta s.timers.length tc,.string s.event,.slice ka s.taken.length kc,.int .u64 s.ent,.slice ua s.out.length uc] 44)) = X:=⟨_,rfl⟩
   have bX:Below w.heap.size w X0:=by rw [← hX0];exact gzT
   rw [hX0] at hX00
   rw [hX0]
   clear hX0
   have x0':=hiT hX00
   obtain ⟨k0,k1,k2,k3,k4,k5,k6,k7,k8,k9,k10,k11,k12,k13,k14,-⟩:=z1p hX00
   have hGX:Hid (∀ X,Below X0.heap.size X0 X → Below w.heap.size w X):=hiT fun X hx=>bX.trans (hx.mono bX.size)
   have KS:Hid (∀ X,Below X0.heap.size X0 X → X.cell? ⟨w.heap.size,0,none⟩ = some (.int .i64 s.status) ∧ X.cell? ⟨w.heap.size,1,none⟩ = some (.int .i64 s.moves) ∧ X.cell? ⟨w.heap.size,2,none⟩ = some (.int .i64 s.clock) ∧ X.cell? ⟨w.heap.size,3,none⟩ = some (.int .i64 s.seq) ∧ X.cell? ⟨w.heap.size,4,none⟩ = some (.int .u64 s.inn) ∧ X.cell? ⟨w.heap.size,5,none⟩ = some (.slice pa s.past.length pc) ∧ X.cell? ⟨w.heap.size,6,none⟩ = some (.slice da s.data.length dc) ∧ X.cell? ⟨w.heap.size,7,none⟩ = some (.slice ia s.inner.length ic) ∧ X.cell? ⟨w.heap.size,8,none⟩ = some (.slice oa s.outer.length oc) ∧ X.cell? ⟨w.heap.size,9,none⟩ = some (.slice ta s.timers.length tc) ∧ X.cell? ⟨w.heap.size,10,none⟩ = some (.string s.event) ∧ X.cell? ⟨w.heap.size,11,none⟩ = some (.slice ka s.taken.length kc) ∧ X.cell? ⟨w.heap.size,12,none⟩ = some (.int .u64 s.ent) ∧ X.cell? ⟨w.heap.size,13,none⟩ = some (.slice ua s.out.length uc)):=hiT fun X hx=>⟨(hx.cell (p:=⟨_,_,none⟩) k14).trans k0,(hx.cell (p:=⟨_,_,none⟩) k14).trans k1,(hx.cell (p:=⟨_,_,none⟩) k14).trans k2,(hx.cell (p:=⟨_,_,none⟩) k14).trans k3,(hx.cell (p:=⟨_,_,none⟩) k14).trans k4,(hx.cell (p:=⟨_,_,none⟩) k14).trans k5,(hx.cell (p:=⟨_,_,none⟩) k14).trans k6,(hx.cell (p:=⟨_,_,none⟩) k14).trans k7,(hx.cell (p:=⟨_,_,none⟩) k14).trans k8,(hx.cell (p:=⟨_,_,none⟩) k14).trans k9,(hx.cell (p:=⟨_,_,none⟩) k14).trans k10,(hx.cell (p:=⟨_,_,none⟩) k14).trans k11,(hx.cell (p:=⟨_,_,none⟩) k14).trans k12,(hx.cell (p:=⟨_,_,none⟩) k14).trans k13⟩
   clear hX00 bX
   refine z1n (S:=fun w'=>w'.cell? ⟨w.heap.size,0,none⟩ = some (.int .i64 s.status) ∧ w'.cell? ⟨w.heap.size,1,none⟩ = some (.int .i64 s.moves) ∧ w'.cell? ⟨w.heap.size,2,none⟩ = some (.int .i64 s.clock) ∧ w'.cell? ⟨w.heap.size,3,none⟩ = some (.int .i64 s.seq) ∧ w'.cell? ⟨w.heap.size,4,none⟩ = some (.int .u64 s.inn) ∧ w'.cell? ⟨w.heap.size,5,none⟩ = some (.slice pa s.past.length pc) ∧ w'.cell? ⟨w.heap.size,6,none⟩ = some (.slice da s.data.length dc) ∧ w'.cell? ⟨w.heap.size,7,none⟩ = some (.slice ia s.inner.length ic) ∧ w'.cell? ⟨w.heap.size,8,none⟩ = some (.slice oa s.outer.length oc) ∧ w'.cell? ⟨w.heap.size,9,none⟩ = some (.slice ta s.timers.length tc) ∧ w'.cell? ⟨w.heap.size,10,none⟩ = some (.string s.event) ∧ w'.cell? ⟨w.heap.size,11,none⟩ = some (.slice ka s.taken.length kc) ∧ w'.cell? ⟨w.heap.size,12,none⟩ = some (.int .u64 s.ent) ∧ w'.cell? ⟨w.heap.size,13,none⟩ = some (.slice ua s.out.length uc)) 7 krT (by exact KS.out _ gzT) (fun hS=>?_)
   clear k0 k1 k2 k3 k4 k5 k6 k7 k8 k9 k10 k11 k12 k13
   (refine mT 0 rfl rfl (v:=?_) (Or.inl ⟨by rfl,?_⟩) ?_;rotate_left;(focus (intro w hSw;(try dsimp only at hSw);go_simp;all_goals (with_reducible rfl)));simp only [List.setIfInBounds_toArray,List.set_cons_zero,List.set_cons_succ])
   (refine mT 2 rfl rfl (v:=?_) (Or.inl ⟨by rfl,?_⟩) ?_;rotate_left;(focus (intro w hSw;(try dsimp only at hSw);go_simp;all_goals (with_reducible rfl)));simp only [List.setIfInBounds_toArray,List.set_cons_zero,List.set_cons_succ])
   refine own_region (s:=s) (X0:=X0) (sb:=w.heap.size) (fun wx hx=>Cp.out wx (hGX.out wx hx)) (fun X hx=>KS.out X hx) gzT (fun v b3 b4 B B1 pa3 pc3 da3 dc3 ia3 ic3 oa3 oc3 ta3 tc3 ka3 kc3 ua3 uc3 pa4 pc4 da4 dc4 ia4 ic4 oa4 oc4 ta4 tc4 ka4 kc4 ua4 uc4 hb le3 le4 hB0 hBz hne x3 x4 hO1 hL hO2=>?_)
   have hfin:=hiT (own_leaf x0'.out hGX.out hb le3 le4 hB0 hBz hne x3 x4 hO1 hL hO2)
   clear hb le3 le4 hB0 hBz hne x3 x4 hO1 hL hO2
   go_wp2_with fail
   go_meet
   exact hfin.out
  case rest =>
   obtain ⟨b3,b4,B,pa3,pc3,da3,dc3,ia3,ic3,oa3,oc3,ta3,tc3,ka3,kc3,ua3,uc3,pa4,pc4,da4,dc4,ia4,ic4,oa4,oc4,ta4,tc4,ka4,kc4,ua4,uc4,rfl,rfl,hwB,hBz,hbw,hblk,hRB,hOw⟩:=hcut
   rename World=>W
   have hU:=hiT (snUp_of hOw.out)
   have x3':=hiT hblk.out.2.1
   have x4':=hiT hblk.out.2.2
   have hb':=hiT (Below.refl B W)
   clear hOw Cp
   have k0:W.cell? ⟨b4,5,none⟩ = some (.slice pa4 s.past.length pc4):=by rw [cell_of_row _ _ _ _ _ _ x4'.out];rfl
   have i0:InW b4 W:=⟨lt_of_block x4'.out⟩
   go_wp2
   clear k0 i0
   go_loopw [52] (fun v wr=>∃ i:Nat,v = .int .i64 (i:Int) ∧ i ≤ s.past.length ∧ SnUp wr B s { s with past:=y8d v1p s.past i } pa4 pc4 da4 dc4 ia4 ic4 oa4 oc4 ta4 tc4 ka4 kc4 ua4 uc4 ∧ wr.heap[b3]? = some (.cells (snX s pa3 pc3 da3 dc3 ia3 ic3 oa3 oc3 ta3 tc3 ka3 kc3 ua3 uc3) 44 (0,0)) ∧ wr.heap[b4]? = some (.cells (snX s pa4 pc4 da4 dc4 ia4 ic4 oa4 oc4 ta4 tc4 ka4 kc4 ua4 uc4) 44 (0,0)) ∧ Below B W wr) (fun v _=>s.past.length - (intOf v).toNat)
   case atStart=>exact ⟨0,rfl,Nat.zero_le _,by rw [x0h];exact hU.out,x3'.out,x4'.out,hb'.out⟩
   case round =>
    obtain ⟨i,rfl,hi,hU1,x3,x4,hb⟩:=hrel
    rename World=>w11
    clear hU x3' x4' hb'
    have hwz:=hb.size
    by_cases hlt:i < s.past.length
    ·obtain ⟨gg,cap0,e0,-⟩:=z1g hU1.past omT
     obtain ⟨rfl,-,rfl⟩:=Value.slice.inj e0
     clear e0
     obtain ⟨hg,hgB,y,fy,hne,hN⟩:=up_past (s':=s) i hlt hU1
     have hall:=hiT (And.intro hN (And.intro (z0i (i:=i) (v := .int .u64 (IntKind.u64.wrap (s.past[i] + 1))) x3 (hne _ _ _ x3)) (And.intro (z0i (i:=i) (v := .int .u64 (IntKind.u64.wrap (s.past[i] + 1))) x4 (hne _ _ _ x4)) (hb.setCell (p:=⟨gg,i,none⟩) hgB (.int .u64 (IntKind.u64.wrap (s.past[i] + 1)))))))
     have hy:=z0b y
     have k0:w11.cell? ⟨b4,5,none⟩ = some (.slice (some ⟨gg,0,none⟩) s.past.length pc4):=by rw [cell_of_row _ _ _ _ _ _ x4];rfl
     have i0:InW b4 w11:=⟨lt_of_block x4⟩
     have i1:InW gg w11:=⟨hg⟩
     have hI:(i:Int) < (s.past.length:Int):=by omega
     clear hU1 x3 x4 hb hne hN hgB hg hblk hRB H
     go_wp2
     go_roundw
     case rel=>exact ⟨i + 1,by go_num,by omega,hall.out.1,hall.out.2.1,hall.out.2.2.1,hall.out.2.2.2⟩
     case measure=>simp [intOf];omega
    ·obtain rfl:i = s.past.length:=by omega
     have hI:¬ ((s.past.length:Nat):Int) < (s.past.length:Int):=by omega
     rw [x1a] at hU1
     have hU:=hiT hU1
     have x3':=hiT x3
     have x4':=hiT x4
     have hb':=hiT hb
     clear hU1 x3 x4 hb
     have k0:w11.cell? ⟨b4,6,none⟩ = some (.slice da4 s.data.length dc4):=by rw [cell_of_row _ _ _ _ _ _ x4'.out];rfl
     have i0:InW b4 w11:=⟨lt_of_block x4'.out⟩
     go_wp2
     clear k0 i0
     go_loopw [66] (fun v wr=>∃ i:Nat,v = .int .i64 (i:Int) ∧ i ≤ s.data.length ∧ SnUp wr B s { { s with past:=s.past.map v1p } with data:=y8d v1r s.data i } pa4 pc4 da4 dc4 ia4 ic4 oa4 oc4 ta4 tc4 ka4 kc4 ua4 uc4 ∧ wr.heap[b3]? = some (.cells (snX s pa3 pc3 da3 dc3 ia3 ic3 oa3 oc3 ta3 tc3 ka3 kc3 ua3 uc3) 44 (0,0)) ∧ wr.heap[b4]? = some (.cells (snX s pa4 pc4 da4 dc4 ia4 ic4 oa4 oc4 ta4 tc4 ka4 kc4 ua4 uc4) 44 (0,0)) ∧ Below B W wr) (fun v _=>s.data.length - (intOf v).toNat)
     case atStart=>exact ⟨0,rfl,Nat.zero_le _,by rw [x0h];exact hU.out,x3'.out,x4'.out,hb'.out⟩
     case round =>
      obtain ⟨i,rfl,hi,hU1,x3,x4,hb⟩:=hrel
      rename World=>w12
      clear hU x3' x4' hb'
      have hwz:=hb.size
      by_cases hlt:i < s.data.length
      ·obtain ⟨gg,cap0,e0,-⟩:=z1g hU1.data omT
       obtain ⟨rfl,-,rfl⟩:=Value.slice.inj e0
       clear e0
       obtain ⟨hg,hgB,y,fy,hne,hN⟩:=up_data (s':={ s with past:=s.past.map v1p }) i hlt hU1
       have hall:=hiT (And.intro hN (And.intro (z0i (i:=i * 3 + 1) (v := .int .i64 (wrap64 (s.data[i].n + 1))) x3 (hne _ _ _ x3)) (And.intro (z0i (i:=i * 3 + 1) (v := .int .i64 (wrap64 (s.data[i].n + 1))) x4 (hne _ _ _ x4)) (hb.setCell (p:=⟨gg,i * 3 + 1,none⟩) hgB (.int .i64 (wrap64 (s.data[i].n + 1)))))))
       have hy:=z0b y
       have k0:w12.cell? ⟨b4,6,none⟩ = some (.slice (some ⟨gg,0,none⟩) s.data.length dc4):=by rw [cell_of_row _ _ _ _ _ _ x4];rfl
       have i0:InW b4 w12:=⟨lt_of_block x4⟩
       have i1:InW gg w12:=⟨hg⟩
       have hI:(i:Int) < (s.data.length:Int):=by omega
       clear hU1 x3 x4 hb hne hN hgB hg hblk hRB H
       go_wp2
       go_roundw
       case rel=>exact ⟨i + 1,by go_num,by omega,hall.out.1,hall.out.2.1,hall.out.2.2.1,hall.out.2.2.2⟩
       case measure=>simp [intOf];omega
      ·obtain rfl:i = s.data.length:=by omega
       have hI:¬ ((s.data.length:Nat):Int) < (s.data.length:Int):=by omega
       rw [x1a] at hU1
       have hU:=hiT hU1
       have x3':=hiT x3
       have x4':=hiT x4
       have hb':=hiT hb
       clear hU1 x3 x4 hb
       have k0:w12.cell? ⟨b4,9,none⟩ = some (.slice ta4 s.timers.length tc4):=by rw [cell_of_row _ _ _ _ _ _ x4'.out];rfl
       have i0:InW b4 w12:=⟨lt_of_block x4'.out⟩
       go_wp2
       clear k0 i0
       go_loopw [82] (fun v wr=>∃ i:Nat,v = .int .i64 (i:Int) ∧ i ≤ s.timers.length ∧ SnUp wr B s { { { s with past:=s.past.map v1p } with data:=s.data.map v1r } with timers:=y8d v1q s.timers i } pa4 pc4 da4 dc4 ia4 ic4 oa4 oc4 ta4 tc4 ka4 kc4 ua4 uc4 ∧ wr.heap[b3]? = some (.cells (snX s pa3 pc3 da3 dc3 ia3 ic3 oa3 oc3 ta3 tc3 ka3 kc3 ua3 uc3) 44 (0,0)) ∧ wr.heap[b4]? = some (.cells (snX s pa4 pc4 da4 dc4 ia4 ic4 oa4 oc4 ta4 tc4 ka4 kc4 ua4 uc4) 44 (0,0)) ∧ Below B W wr) (fun v _=>s.timers.length - (intOf v).toNat)
       case atStart=>exact ⟨0,rfl,Nat.zero_le _,by rw [x0h];exact hU.out,x3'.out,x4'.out,hb'.out⟩
       case round =>
        obtain ⟨i,rfl,hi,hU1,x3,x4,hb⟩:=hrel
        rename World=>w13
        clear hU x3' x4' hb'
        have hwz:=hb.size
        by_cases hlt:i < s.timers.length
        ·obtain ⟨gg,cap0,e0,-⟩:=z1g hU1.timers omT
         obtain ⟨rfl,-,rfl⟩:=Value.slice.inj e0
         clear e0
         obtain ⟨hg,hgB,y,fy,hne,hN⟩:=up_timers (s':={ { s with past:=s.past.map v1p } with data:=s.data.map v1r }) i hlt hU1
         have hall:=hiT (And.intro hN (And.intro (z0i (i:=i * 3 + 1) (v := .int .i64 (wrap64 (s.timers[i].seq + 1))) x3 (hne _ _ _ x3)) (And.intro (z0i (i:=i * 3 + 1) (v := .int .i64 (wrap64 (s.timers[i].seq + 1))) x4 (hne _ _ _ x4)) (hb.setCell (p:=⟨gg,i * 3 + 1,none⟩) hgB (.int .i64 (wrap64 (s.timers[i].seq + 1)))))))
         have hy:=z0b y
         have k0:w13.cell? ⟨b4,9,none⟩ = some (.slice (some ⟨gg,0,none⟩) s.timers.length tc4):=by rw [cell_of_row _ _ _ _ _ _ x4];rfl
         have i0:InW b4 w13:=⟨lt_of_block x4⟩
         have i1:InW gg w13:=⟨hg⟩
         have hI:(i:Int) < (s.timers.length:Int):=by omega
         clear hU1 x3 x4 hb hne hN hgB hg hblk hRB H
         go_wp2
         go_roundw
         case rel=>exact ⟨i + 1,by go_num,by omega,hall.out.1,hall.out.2.1,hall.out.2.2.1,hall.out.2.2.2⟩
         case measure=>simp [intOf];omega
        ·obtain rfl:i = s.timers.length:=by omega
         have hI:¬ ((s.timers.length:Nat):Int) < (s.timers.length:Int):=by omega
         rw [x1a] at hU1
         have hU:=hiT hU1
         have x3':=hiT x3
         have x4':=hiT x4
         have hb':=hiT hb
         clear hU1 x3 x4 hb
         have k0:w13.cell? ⟨b4,11,none⟩ = some (.slice ka4 s.taken.length kc4):=by rw [cell_of_row _ _ _ _ _ _ x4'.out];rfl
         have i0:InW b4 w13:=⟨lt_of_block x4'.out⟩
         go_wp2
         clear k0 i0
         go_loopw [99] (fun v wr=>∃ i:Nat,v = .int .i64 (i:Int) ∧ i ≤ s.taken.length ∧ SnUp wr B s { { { { s with past:=s.past.map v1p } with data:=s.data.map v1r } with timers:=s.timers.map v1q } with taken:=y8d v1o s.taken i } pa4 pc4 da4 dc4 ia4 ic4 oa4 oc4 ta4 tc4 ka4 kc4 ua4 uc4 ∧ wr.heap[b3]? = some (.cells (snX s pa3 pc3 da3 dc3 ia3 ic3 oa3 oc3 ta3 tc3 ka3 kc3 ua3 uc3) 44 (0,0)) ∧ wr.heap[b4]? = some (.cells (snX s pa4 pc4 da4 dc4 ia4 ic4 oa4 oc4 ta4 tc4 ka4 kc4 ua4 uc4) 44 (0,0)) ∧ Below B W wr) (fun v _=>s.taken.length - (intOf v).toNat)
         case atStart=>exact ⟨0,rfl,Nat.zero_le _,by rw [x0h];exact hU.out,x3'.out,x4'.out,hb'.out⟩
         case round =>
          obtain ⟨i,rfl,hi,hU1,x3,x4,hb⟩:=hrel
          rename World=>w14
          clear hU x3' x4' hb'
          have hwz:=hb.size
          by_cases hlt:i < s.taken.length
          ·obtain ⟨gg,cap0,e0,-⟩:=z1g hU1.taken omT
           obtain ⟨rfl,-,rfl⟩:=Value.slice.inj e0
           clear e0
           obtain ⟨hg,hgB,y,fy,hne,hN⟩:=up_taken (s':={ { { s with past:=s.past.map v1p } with data:=s.data.map v1r } with timers:=s.timers.map v1q }) i hlt hU1
           have hall:=hiT (And.intro hN (And.intro (z0i (i:=i) (v := .int .i64 (wrap64 (s.taken[i] + 1))) x3 (hne _ _ _ x3)) (And.intro (z0i (i:=i) (v := .int .i64 (wrap64 (s.taken[i] + 1))) x4 (hne _ _ _ x4)) (hb.setCell (p:=⟨gg,i,none⟩) hgB (.int .i64 (wrap64 (s.taken[i] + 1)))))))
           have hy:=z0b y
           have k0:w14.cell? ⟨b4,11,none⟩ = some (.slice (some ⟨gg,0,none⟩) s.taken.length kc4):=by rw [cell_of_row _ _ _ _ _ _ x4];rfl
           have i0:InW b4 w14:=⟨lt_of_block x4⟩
           have i1:InW gg w14:=⟨hg⟩
           have hI:(i:Int) < (s.taken.length:Int):=by omega
           clear hU1 x3 x4 hb hne hN hgB hg hblk hRB H
           go_wp2
           go_roundw
           case rel=>exact ⟨i + 1,by go_num,by omega,hall.out.1,hall.out.2.1,hall.out.2.2.1,hall.out.2.2.2⟩
           case measure=>simp [intOf];omega
          ·obtain rfl:i = s.taken.length:=by omega
           have hI:¬ ((s.taken.length:Nat):Int) < (s.taken.length:Int):=by omega
           rw [x1a] at hU1
           have hU:=hiT hU1
           have x3':=hiT x3
           have x4':=hiT x4
           have hb':=hiT hb
           clear hU1 x3 x4 hb
           obtain ⟨-,-,-,-,-,-,-,k7,k8,-,-,-,-,k13,kl,-⟩:=z1p x4'.out
           have i0:InW b4 w14:=⟨kl⟩
           have hz4:=hb'.out.size
           go_wp2
           obtain ⟨WL,hWL⟩:∃ X,w14.alloc (.cells #[.slice ia4 s.inner.length ic4,.slice oa4 s.outer.length oc4,.slice ua4 s.out.length uc4] 38) = X:=⟨_,rfl⟩
           have bs:Below w14.heap.size w14 WL:=by rw [← hWL];exact gzT
           have xL:WL.heap[w14.heap.size]? = some (.cells #[.slice ia4 s.inner.length ic4,.slice oa4 s.outer.length oc4,.slice ua4 s.out.length uc4] 38 (0,0)):=by rw [← hWL];exact heap_alloc_new w14 _
           rw [hWL]
           clear hWL k7 k8 k13 kl i0
           replace hU:=hiT (snUp_below hU.out bs)
           replace x3':=hiT (z0c x3'.out bs)
           replace x4':=hiT (z0c x4'.out bs)
           replace hb':=hiT (hb'.out.trans (bs.mono (Nat.le_trans hBz hz4)))
           have xL':=hiT xL
           clear bs xL
           generalize w14.heap.size = bL at *
           go_loopw [120] (fun v wr=>((v = .int .i64 0 ∧ SnUp wr B s (sJ s 0) pa4 pc4 da4 dc4 ia4 ic4 oa4 oc4 ta4 tc4 ka4 kc4 ua4 uc4) ∨ (v = .int .i64 1 ∧ SnUp wr B s (sJ s 1) pa4 pc4 da4 dc4 ia4 ic4 oa4 oc4 ta4 tc4 ka4 kc4 ua4 uc4) ∨ (v = .int .i64 2 ∧ SnUp wr B s (sJ s 2) pa4 pc4 da4 dc4 ia4 ic4 oa4 oc4 ta4 tc4 ka4 kc4 ua4 uc4) ∨ (v = .int .i64 3 ∧ SnUp wr B s (sJ s 3) pa4 pc4 da4 dc4 ia4 ic4 oa4 oc4 ta4 tc4 ka4 kc4 ua4 uc4)) ∧ wr.heap[b3]? = some (.cells (snX s pa3 pc3 da3 dc3 ia3 ic3 oa3 oc3 ta3 tc3 ka3 kc3 ua3 uc3) 44 (0,0)) ∧ wr.heap[b4]? = some (.cells (snX s pa4 pc4 da4 dc4 ia4 ic4 oa4 oc4 ta4 tc4 ka4 kc4 ua4 uc4) 44 (0,0)) ∧ wr.heap[bL]? = some (.cells #[.slice ia4 s.inner.length ic4,.slice oa4 s.outer.length oc4,.slice ua4 s.out.length uc4] 38 (0,0)) ∧ Below B W wr) (fun v _=>3 - (intOf v).toNat)
           case atStart=>exact ⟨.inl ⟨rfl,hU.out⟩,x3'.out,x4'.out,xL'.out,hb'.out⟩
           case round =>
            obtain ⟨hv,x3,x4,xL,hb⟩:=hrel
            rename World=>wr
            clear hU x3' x4' xL' hb'
            have hwz:=hb.size
            rcases hv with ⟨rfl,hU1⟩ | ⟨rfl,hU1⟩ | ⟨rfl,hU1⟩ | ⟨rfl,hU1⟩
            ·have kL:wr.cell? ⟨bL,0,none⟩ = some (.slice ia4 s.inner.length ic4):=by rw [cell_of_row _ _ _ _ _ _ xL];rfl
             have iL:InW bL wr:=⟨lt_of_block xL⟩
             have hU:=hiT hU1
             have x3':=hiT x3
             have x4':=hiT x4
             have xL':=hiT xL
             have hb':=hiT hb
             clear hU1 x3 x4 xL hb
             go_wp2
             clear kL iL
             go_loopw [126] (fun v wq=>∃ i:Nat,v = .int .i64 (i:Int) ∧ i ≤ s.inner.length ∧ SnUp wq B s { sJ s 0 with inner:=y8d j1k s.inner i } pa4 pc4 da4 dc4 ia4 ic4 oa4 oc4 ta4 tc4 ka4 kc4 ua4 uc4 ∧ wq.heap[b3]? = some (.cells (snX s pa3 pc3 da3 dc3 ia3 ic3 oa3 oc3 ta3 tc3 ka3 kc3 ua3 uc3) 44 (0,0)) ∧ wq.heap[b4]? = some (.cells (snX s pa4 pc4 da4 dc4 ia4 ic4 oa4 oc4 ta4 tc4 ka4 kc4 ua4 uc4) 44 (0,0)) ∧ wq.heap[bL]? = some (.cells #[.slice ia4 s.inner.length ic4,.slice oa4 s.outer.length oc4,.slice ua4 s.out.length uc4] 38 (0,0)) ∧ Below B W wq) (fun v _=>s.inner.length - (intOf v).toNat)
             case atStart=>exact ⟨0,rfl,Nat.zero_le _,by rw [x0h];exact hU.out,x3'.out,x4'.out,xL'.out,hb'.out⟩
             case round =>
              obtain ⟨i,rfl,hi,hU1,x3,x4,xL,hb⟩:=hrel
              rename World=>wq
              clear hU x3' x4' xL' hb'
              have hwq:=hb.size
              by_cases hlt:i < s.inner.length
              ·obtain ⟨gg,cap0,e0,-⟩:=z1g hU1.inner omT
               obtain ⟨rfl,-,rfl⟩:=Value.slice.inj e0
               clear e0
               have hneL:bL ≠ gg:=fun e=>z0n hU1.inner xL deT (by rw [e];rfl)
               obtain ⟨hg,hgB,y,fy,hne,hN⟩:=up_inner (s':=sJ s 0) i hlt hU1
               have hall:=hiT (And.intro hN (And.intro (z0i (i:=i) (v := .string (s.inner[i] ++ ⟨#[120]⟩)) x3 (hne _ _ _ x3)) (And.intro (z0i (i:=i) (v := .string (s.inner[i] ++ ⟨#[120]⟩)) x4 (hne _ _ _ x4)) (And.intro (z0i (i:=i) (v := .string (s.inner[i] ++ ⟨#[120]⟩)) xL hneL) (hb.setCell (p:=⟨gg,i,none⟩) hgB (.string (s.inner[i] ++ ⟨#[120]⟩)))))))
               have hy:=z0b y
               have i1:InW gg wq:=⟨hg⟩
               have hI:(i:Int) < (s.inner.length:Int):=by omega
               have hs1:=z7 _ (List.getElem_mem hlt)
               have f1:¬ 9223372036854775807 < s.inner[i].size + 1:=by omega
               clear hU1 x3 x4 xL hb hne hN hgB hg hblk hRB H hneL hs1 z7 z8 z9
               go_wp2
               go_roundw
               case rel=>exact ⟨i + 1,by go_num,by omega,hall.out.1,hall.out.2.1,hall.out.2.2.1,hall.out.2.2.2.1,hall.out.2.2.2.2⟩
               case measure=>simp [intOf];omega
              ·obtain rfl:i = s.inner.length:=by omega
               have hI:¬ ((s.inner.length:Nat):Int) < (s.inner.length:Int):=by omega
               rw [x1a] at hU1
               have hall:=hiT (And.intro (show SnUp wq B s (sJ s 1) pa4 pc4 da4 dc4 ia4 ic4 oa4 oc4 ta4 tc4 ka4 kc4 ua4 uc4 from hU1) (And.intro x3 (And.intro x4 (And.intro xL hb))))
               clear hU1 x3 x4 xL hb
               go_wp2
               go_roundw
               case rel=>exact ⟨.inr (.inl ⟨rfl,hall.out.1⟩),hall.out.2.1,hall.out.2.2.1,hall.out.2.2.2.1,hall.out.2.2.2.2⟩
               case measure=>simp [intOf]
            ·have kL:wr.cell? ⟨bL,1,none⟩ = some (.slice oa4 s.outer.length oc4):=by rw [cell_of_row _ _ _ _ _ _ xL];rfl
             have iL:InW bL wr:=⟨lt_of_block xL⟩
             have hU:=hiT hU1
             have x3':=hiT x3
             have x4':=hiT x4
             have xL':=hiT xL
             have hb':=hiT hb
             clear hU1 x3 x4 xL hb
             go_wp2
             clear kL iL
             go_loopw [126] (fun v wq=>∃ i:Nat,v = .int .i64 (i:Int) ∧ i ≤ s.outer.length ∧ SnUp wq B s { sJ s 1 with outer:=y8d j1k s.outer i } pa4 pc4 da4 dc4 ia4 ic4 oa4 oc4 ta4 tc4 ka4 kc4 ua4 uc4 ∧ wq.heap[b3]? = some (.cells (snX s pa3 pc3 da3 dc3 ia3 ic3 oa3 oc3 ta3 tc3 ka3 kc3 ua3 uc3) 44 (0,0)) ∧ wq.heap[b4]? = some (.cells (snX s pa4 pc4 da4 dc4 ia4 ic4 oa4 oc4 ta4 tc4 ka4 kc4 ua4 uc4) 44 (0,0)) ∧ wq.heap[bL]? = some (.cells #[.slice ia4 s.inner.length ic4,.slice oa4 s.outer.length oc4,.slice ua4 s.out.length uc4] 38 (0,0)) ∧ Below B W wq) (fun v _=>s.outer.length - (intOf v).toNat)
             case atStart=>exact ⟨0,rfl,Nat.zero_le _,by rw [x0h];exact hU.out,x3'.out,x4'.out,xL'.out,hb'.out⟩
             case round =>
              obtain ⟨i,rfl,hi,hU1,x3,x4,xL,hb⟩:=hrel
              rename World=>wq
              clear hU x3' x4' xL' hb'
              have hwq:=hb.size
              by_cases hlt:i < s.outer.length
              ·obtain ⟨gg,cap0,e0,-⟩:=z1g hU1.outer omT
               obtain ⟨rfl,-,rfl⟩:=Value.slice.inj e0
               clear e0
               have hneL:bL ≠ gg:=fun e=>z0n hU1.outer xL deT (by rw [e];rfl)
               obtain ⟨hg,hgB,y,fy,hne,hN⟩:=up_outer (s':=sJ s 1) i hlt hU1
               have hall:=hiT (And.intro hN (And.intro (z0i (i:=i) (v := .string (s.outer[i] ++ ⟨#[120]⟩)) x3 (hne _ _ _ x3)) (And.intro (z0i (i:=i) (v := .string (s.outer[i] ++ ⟨#[120]⟩)) x4 (hne _ _ _ x4)) (And.intro (z0i (i:=i) (v := .string (s.outer[i] ++ ⟨#[120]⟩)) xL hneL) (hb.setCell (p:=⟨gg,i,none⟩) hgB (.string (s.outer[i] ++ ⟨#[120]⟩)))))))
               have hy:=z0b y
               have i1:InW gg wq:=⟨hg⟩
               have hI:(i:Int) < (s.outer.length:Int):=by omega
               have hs1:=z8 _ (List.getElem_mem hlt)
               have f1:¬ 9223372036854775807 < s.outer[i].size + 1:=by omega
               clear hU1 x3 x4 xL hb hne hN hgB hg hblk hRB H hneL hs1 z7 z8 z9
               go_wp2
               go_roundw
               case rel=>exact ⟨i + 1,by go_num,by omega,hall.out.1,hall.out.2.1,hall.out.2.2.1,hall.out.2.2.2.1,hall.out.2.2.2.2⟩
               case measure=>simp [intOf];omega
              ·obtain rfl:i = s.outer.length:=by omega
               have hI:¬ ((s.outer.length:Nat):Int) < (s.outer.length:Int):=by omega
               rw [x1a] at hU1
               have hall:=hiT (And.intro (show SnUp wq B s (sJ s 2) pa4 pc4 da4 dc4 ia4 ic4 oa4 oc4 ta4 tc4 ka4 kc4 ua4 uc4 from hU1) (And.intro x3 (And.intro x4 (And.intro xL hb))))
               clear hU1 x3 x4 xL hb
               go_wp2
               go_roundw
               case rel=>exact ⟨.inr (.inr (.inl ⟨rfl,hall.out.1⟩)),hall.out.2.1,hall.out.2.2.1,hall.out.2.2.2.1,hall.out.2.2.2.2⟩
               case measure=>simp [intOf]
            ·have kL:wr.cell? ⟨bL,2,none⟩ = some (.slice ua4 s.out.length uc4):=by rw [cell_of_row _ _ _ _ _ _ xL];rfl
             have iL:InW bL wr:=⟨lt_of_block xL⟩
             have hU:=hiT hU1
             have x3':=hiT x3
             have x4':=hiT x4
             have xL':=hiT xL
             have hb':=hiT hb
             clear hU1 x3 x4 xL hb
             go_wp2
             clear kL iL
             go_loopw [126] (fun v wq=>∃ i:Nat,v = .int .i64 (i:Int) ∧ i ≤ s.out.length ∧ SnUp wq B s { sJ s 2 with out:=y8d j1k s.out i } pa4 pc4 da4 dc4 ia4 ic4 oa4 oc4 ta4 tc4 ka4 kc4 ua4 uc4 ∧ wq.heap[b3]? = some (.cells (snX s pa3 pc3 da3 dc3 ia3 ic3 oa3 oc3 ta3 tc3 ka3 kc3 ua3 uc3) 44 (0,0)) ∧ wq.heap[b4]? = some (.cells (snX s pa4 pc4 da4 dc4 ia4 ic4 oa4 oc4 ta4 tc4 ka4 kc4 ua4 uc4) 44 (0,0)) ∧ wq.heap[bL]? = some (.cells #[.slice ia4 s.inner.length ic4,.slice oa4 s.outer.length oc4,.slice ua4 s.out.length uc4] 38 (0,0)) ∧ Below B W wq) (fun v _=>s.out.length - (intOf v).toNat)
             case atStart=>exact ⟨0,rfl,Nat.zero_le _,by rw [x0h];exact hU.out,x3'.out,x4'.out,xL'.out,hb'.out⟩
             case round =>
              obtain ⟨i,rfl,hi,hU1,x3,x4,xL,hb⟩:=hrel
              rename World=>wq
              clear hU x3' x4' xL' hb'
              have hwq:=hb.size
              by_cases hlt:i < s.out.length
              ·obtain ⟨gg,cap0,e0,-⟩:=z1g hU1.out omT
               obtain ⟨rfl,-,rfl⟩:=Value.slice.inj e0
               clear e0
               have hneL:bL ≠ gg:=fun e=>z0n hU1.out xL deT (by rw [e];rfl)
               obtain ⟨hg,hgB,y,fy,hne,hN⟩:=up_out (s':=sJ s 2) i hlt hU1
               have hall:=hiT (And.intro hN (And.intro (z0i (i:=i) (v := .string (s.out[i] ++ ⟨#[120]⟩)) x3 (hne _ _ _ x3)) (And.intro (z0i (i:=i) (v := .string (s.out[i] ++ ⟨#[120]⟩)) x4 (hne _ _ _ x4)) (And.intro (z0i (i:=i) (v := .string (s.out[i] ++ ⟨#[120]⟩)) xL hneL) (hb.setCell (p:=⟨gg,i,none⟩) hgB (.string (s.out[i] ++ ⟨#[120]⟩)))))))
               have hy:=z0b y
               have i1:InW gg wq:=⟨hg⟩
               have hI:(i:Int) < (s.out.length:Int):=by omega
               have hs1:=z9 _ (List.getElem_mem hlt)
               have f1:¬ 9223372036854775807 < s.out[i].size + 1:=by omega
               clear hU1 x3 x4 xL hb hne hN hgB hg hblk hRB H hneL hs1 z7 z8 z9
               go_wp2
               go_roundw
               case rel=>exact ⟨i + 1,by go_num,by omega,hall.out.1,hall.out.2.1,hall.out.2.2.1,hall.out.2.2.2.1,hall.out.2.2.2.2⟩
               case measure=>simp [intOf];omega
              ·obtain rfl:i = s.out.length:=by omega
               have hI:¬ ((s.out.length:Nat):Int) < (s.out.length:Int):=by omega
               rw [x1a] at hU1
               have hall:=hiT (And.intro (show SnUp wq B s (sJ s 3) pa4 pc4 da4 dc4 ia4 ic4 oa4 oc4 ta4 tc4 ka4 kc4 ua4 uc4 from hU1) (And.intro x3 (And.intro x4 (And.intro xL hb))))
               clear hU1 x3 x4 xL hb
               go_wp2
               go_roundw
               case rel=>exact ⟨.inr (.inr (.inr ⟨rfl,hall.out.1⟩)),hall.out.2.1,hall.out.2.2.1,hall.out.2.2.2.1,hall.out.2.2.2.2⟩
               case measure=>simp [intOf]
            ·have hwr:Below w.heap.size w wr:=hbw.trans (hb.mono (Nat.le_of_lt hwB))
             have hzr:=hb.size
             have hzw:=hwr.size
             have Sm1:=hiT (fun wx (hx:Below wr.heap.size wr wx)=>show Calls Tryz.prog 14 #[snV s pa pc da dc ia ic oa oc ta tc ka kc ua uc,snV s pa3 pc3 da3 dc3 ia3 ic3 oa3 oc3 ta3 tc3 ka3 kc3 ua3 uc3] wx (Ret (.bool true) wx) from by
               have h:=q1a s s pa pc da dc ia ic oa oc ta tc ka kc ua uc pa3 pc3 da3 dc3 ia3 ic3 oa3 oc3 ta3 tc3 ka3 kc3 ua3 uc3 wx n4.out (H.out wx (hwr.trans (hx.mono hzw))) (hRB.out wx (hb.trans (hx.mono (Nat.le_trans hBz hzr))))
               rw [q8q] at h
               exact h)
             obtain ⟨bz,hbz⟩:∃ q,decide (s.past.length + s.data.length + s.inner.length + s.outer.length + s.timers.length + s.taken.length + s.out.length = 0) = q:=⟨_,rfl⟩
             have Sm2:=hiT (fun wx (hx:Below wr.heap.size wr wx)=>show Calls Tryz.prog 14 #[snV s pa4 pc4 da4 dc4 ia4 ic4 oa4 oc4 ta4 tc4 ka4 kc4 ua4 uc4,snV s pa pc da dc ia ic oa oc ta tc ka kc ua uc] wx (Ret (.bool bz) wx) from by
               have h:=q1a (x3x s) s pa4 pc4 da4 dc4 ia4 ic4 oa4 oc4 ta4 tc4 ka4 kc4 ua4 uc4 pa pc da dc ia ic oa oc ta tc ka kc ua uc wx (own_few n4.out) (z2v (snUp_rd (show SnUp wr B s (x3x s) pa4 pc4 da4 dc4 ia4 ic4 oa4 oc4 ta4 tc4 ka4 kc4 ua4 uc4 from hU1)) hx) (H.out wx (hwr.trans (hx.mono hzw)))
               rw [ownV_eq,k8l,hbz] at h
               exact h)
             have e2:((s.past.length:Int) + (s.data.length:Int) + (s.inner.length:Int) + (s.outer.length:Int) + (s.timers.length:Int) + (s.taken.length:Int) + (s.out.length:Int) == (0:Int)) = bz:=by rw [← hbz,Bool.eq_iff_iff,beq_iff_eq,decide_eq_true_eq];omega
             have e3:((s.past.length:Int) + (s.data.length:Int) + (s.inner.length:Int) + (s.outer.length:Int) + (s.timers.length:Int) + (s.taken.length:Int) + (s.out.length:Int) = (0:Int)) = (bz = true):=by rw [← hbz];simp only [decide_eq_true_eq];apply propext;omega
             obtain ⟨k0,k1,k2,k3,k4,k5,k6,k7,k8,k9,k10,k11,k12,k13,kl,-⟩:=z1p hblk.out.1
             replace k0:=(hb.cell (p:=⟨w.heap.size,0,none⟩) hwB).trans k0
             replace k1:=(hb.cell (p:=⟨w.heap.size,1,none⟩) hwB).trans k1
             replace k2:=(hb.cell (p:=⟨w.heap.size,2,none⟩) hwB).trans k2
             replace k3:=(hb.cell (p:=⟨w.heap.size,3,none⟩) hwB).trans k3
             replace k4:=(hb.cell (p:=⟨w.heap.size,4,none⟩) hwB).trans k4
             replace k5:=(hb.cell (p:=⟨w.heap.size,5,none⟩) hwB).trans k5
             replace k6:=(hb.cell (p:=⟨w.heap.size,6,none⟩) hwB).trans k6
             replace k7:=(hb.cell (p:=⟨w.heap.size,7,none⟩) hwB).trans k7
             replace k8:=(hb.cell (p:=⟨w.heap.size,8,none⟩) hwB).trans k8
             replace k9:=(hb.cell (p:=⟨w.heap.size,9,none⟩) hwB).trans k9
             replace k10:=(hb.cell (p:=⟨w.heap.size,10,none⟩) hwB).trans k10
             replace k11:=(hb.cell (p:=⟨w.heap.size,11,none⟩) hwB).trans k11
             replace k12:=(hb.cell (p:=⟨w.heap.size,12,none⟩) hwB).trans k12
             replace k13:=(hb.cell (p:=⟨w.heap.size,13,none⟩) hwB).trans k13
             have i0:InW w.heap.size wr:=⟨Nat.lt_of_lt_of_le kl hzr⟩
             obtain ⟨c0,c1,c2,c3,c4,c5,c6,c7,c8,c9,c10,c11,c12,c13,cl,-⟩:=z1p x3
             obtain ⟨d0,d1,d2,d3,d4,d5,d6,d7,d8,d9,d10,d11,d12,d13,dl,-⟩:=z1p x4
             have i3:InW b3 wr:=⟨cl⟩
             have i4:InW b4 wr:=⟨dl⟩
             have hwr':=hiT hwr
             clear hU1 x3 x4 xL hb hwr hblk hRB H kl cl dl hbz z7 z8 z9
             unfold snV at Sm1 Sm2
             go_wp2_with (first | ((with_reducible refine (Sm1.out _ gzT).mono ?_);intro e w1 hr;obtain ⟨rfl,p,rfl⟩:=hr.out;clear hr) | ((with_reducible refine (Sm2.out _ gzT).mono ?_);intro e w1 hr;obtain ⟨rfl,p,rfl⟩:=hr.out;clear hr))
             go_returns
             exact ⟨rfl,hwr'.out.trans (Below.mono (show Below wr.heap.size wr _ from gzT) hzw)⟩
end Go.Proofs.YtacnlghljmgdiaaGreatDoor
