/- Several texts of this proof, joined: VD, VE. -/
import Derived.Test.YtfgpmcepppcmiaaGreatDoorO1
import Derived.Test.YtfgpmcepppcmiaaGreatDoorV5
import Derived.WalkKit
import Derived.ProofKit
import Derived.OpenShut
import Derived.Handy
import Derived.BigQuiet
import Derived.OwnWalk
import Derived.Deep.RegionHeld3
import Derived.Deep.AppendLies
import Derived.Laws.OwnMore
import Derived.Lib.Hide
import Derived.WalkSmall
import Derived.WalkLawsBesides
import Derived.Test.YtfgpmcepppcmiaaGreatDoorQ4
namespace Go.Proofs.YtfgpmcepppcmiaaGreatDoor
open Go.RowKit
section
variable {l:Lk} {lb:Nat}
theorem then_no {a b:Int} (h:a ≠ 0):thenE a b = a:=by unfold thenE;rw [if_neg h]
theorem then_go {a b:Int} (h:a = 0):thenE a b = b:=by unfold thenE;rw [if_pos h]
theorem ne_eqs {a:Int} (h:a ≠ 0):(a == 0) = false ∧ (a != 0) = true:=⟨beq_eq_false_iff_ne.2 h,by rw [bne,beq_eq_false_iff_ne.2 h];rfl⟩
theorem eq_eqs {a:Int} (h:a = 0):(a == 0) = true ∧ (a != 0) = false:=by subst h;exact ⟨rfl,rfl⟩
set_option maxRecDepth 100000 in
set_option maxHeartbeats 4000000 in
theorem act_any (P:LkP l) (a:Ac) (io xo:Option Addr) (ic xc:Nat) (hc:FitN a.cond) (hf:FitN a.x) (w:World) (h1:NdsAt w io a.cond) (h2:NdsAt w xo a.x) (H:LkAt w lb l) :
  Calls Tryz.prog 185 #[.pointer (some ⟨lb,0,none⟩),acV a io xo ic xc] w (Ret (.int .i64 (actE l a)) w):=by
 have T:=Lib.hid (fun wx (hb:Below w.heap.size w wx)=>vtruth_any P io ic a.cond hc wx (nds_below h1 hb) (lk_keep H hb))
 have S:=Lib.hid (fun wx (hb:Below w.heap.size w wx)=>set_any P a io xo ic xc hf wx (nds_below h2 hb) (lk_keep H hb))
 obtain ⟨B,rv,va,sa,oa,pa,vc,sc,oc,pc,H⟩:=H
 have K:=Lib.hid (fun wx (hb:Below w.heap.size w wx)=>kof_all oa pa oc pc l.vs l.ss xo xc a.x hf P.vn P.sn wx (nds_below h2 hb) (vars_below H.vs hb) (strs_below H.ss hb) (lb_below H.lb hb))
 obtain ⟨hl,c0,c1,c2,c3,c4⟩:=lk_cells H
 have i1:InW lb w:=⟨hl⟩
 unfold actE
 generalize truE l a.cond = t at *
 generalize setE l a = se at *
 rw [show kdL l a.x = kdE l.vs l.ss a.x from rfl]
 generalize kdE l.vs l.ss a.x = k at *
 obtain ⟨kd,cond,nm,x,n⟩:=a
 unfold acV at *
 simp only at *
 clear H h1 h2 hc hf
 by_cases h0:t = 0
 ·rw [then_go h0]
  obtain ⟨z0,z1⟩:=eq_eqs h0
  replace h0:=Lib.hid h0
  by_cases hk1:kd = 1
  ·rw [if_pos hk1]
   have e1:(kd == 1) = true:=by simpa using hk1
   replace hk1:=Lib.hid hk1
   go_enter Tryz.func185,Tryz.ntmps185
   go_wp2_with (first | ((with_reducible refine (T.out _ (by (first | exact gwT | exact lzT))).mono ?_);intro e w1 hr;obtain ⟨rfl,p,rfl⟩:=hr.out;clear hr) | ((with_reducible refine (S.out _ (by (first | exact gwT | exact lzT))).mono ?_);intro e w1 hr;obtain ⟨rfl,p,rfl⟩:=hr.out;clear hr))
   go_returns
   exact ⟨rfl,by (first | exact gwT | exact lzT)⟩
  ·rw [if_neg hk1]
   have e1:(kd == 1) = false:=beq_eq_false_iff_ne.2 hk1
   replace hk1:=Lib.hid hk1
   by_cases hk5:kd = 5
   ·rw [if_pos hk5]
    have e5:(kd == 5) = true:=by simpa using hk5
    replace hk5:=Lib.hid hk5
    go_enter Tryz.func185,Tryz.ntmps185
    go_wp2_with ((with_reducible refine (T.out _ (by (first | exact gwT | exact lzT))).mono ?_);intro e w1 hr;obtain ⟨rfl,p,rfl⟩:=hr.out;clear hr)
    (refine wp_region_G (by kernel_rfl) (by kernel_rfl) ?_;(repeat (go_big_quiet_step ((first | exact quietG (K.out _ (by (first | exact gwT | exact lzT))) | exact quietH2 (K.out _ (by (first | exact gwT | exact lzT))) | exact quietH3 (K.out _ (by (first | exact gwT | exact lzT)))))));refine wpQuiet_nil ?_;intro _ hw';obtain ⟨pg,hw''⟩:=hw';subst hw'')
    go_wp2
    go_returns
    exact ⟨rfl,by (first | exact gwT | exact lzT)⟩
   ·rw [if_neg hk5]
    have e5:(kd == 5) = false:=beq_eq_false_iff_ne.2 hk5
    replace hk5:=Lib.hid hk5
    go_enter Tryz.func185,Tryz.ntmps185
    go_wp2_with ((with_reducible refine (T.out _ (by (first | exact gwT | exact lzT))).mono ?_);intro e w1 hr;obtain ⟨rfl,p,rfl⟩:=hr.out;clear hr)
    go_returns
    exact ⟨rfl,by (first | exact gwT | exact lzT)⟩
 ·rw [then_no h0]
  obtain ⟨z0,z1⟩:=ne_eqs h0
  replace h0:=Lib.hid h0
  go_enter Tryz.func185,Tryz.ntmps185
  go_wp2_with ((with_reducible refine (T.out _ (by (first | exact gwT | exact lzT))).mono ?_);intro e w1 hr;obtain ⟨rfl,p,rfl⟩:=hr.out;clear hr)
  go_returns
  exact ⟨rfl,by (first | exact gwT | exact lzT)⟩
theorem first_more {α:Type} {f:α → Int} {b:List α} {i:Nat} (h:i < b.length):firstE f (b.drop i) = thenE (f b[i]) (firstE f (b.drop (i + 1))):=by
 rw [List.drop_eq_getElem_cons h,firstE]
theorem first_end {α:Type} {f:α → Int} {b:List α} {i:Nat} (h:b.length ≤ i):firstE f (b.drop i) = 0:=by
 rw [List.drop_of_length_le h,firstE]
set_option maxRecDepth 100000 in
set_option maxHeartbeats 4000000 in
theorem each_any (P:LkP l) (ao:Option Addr) (cap:Nat) (b:List Ac) (hf:FitB b) (w:World) (h:ActsAt w ao b) (H:LkAt w lb l) :
  Calls Tryz.prog 156 #[.pointer (some ⟨lb,0,none⟩),.slice ao b.length cap] w (Ret (.int .i64 (eachE l b)) w):=by
 have A:=Lib.hid (fun wx (hb:Below w.heap.size w wx)=>acts_below h hb)
 have L:=Lib.hid (fun wx (hb:Below w.heap.size w wx)=>lk_keep H hb)
 obtain ⟨B,rv,va,sa,oa,pa,vc,sc,oc,pc,H⟩:=H
 have hl:=lt_of_block H.blk
 have i1:InW lb w:=⟨hl⟩
 unfold eachE
 have hF':Hid (firstE (actE l) (b.drop 0) = firstE (actE l) b):=Lib.hid (by rw [List.drop_zero])
 generalize firstE (actE l) b = F at *
 obtain ⟨hn,hf⟩:=hf
 replace hf:=Lib.hid hf
 clear h H
 go_enter Tryz.func156,Tryz.ntmps156
 go_wp2
 go_loopw [10] (fun x wr=>∃ (i:Nat),x = .int .i64 (i:Int) ∧ i ≤ b.length ∧ Hid (firstE (actE l) (b.drop i) = F) ∧ Below w.heap.size w wr) (fun x _=>b.length - (intOf x).toNat)
 case atStart=>exact ⟨0,rfl,Nat.zero_le _,hF',by (first | exact gwT | exact lzT)⟩
 case round =>
  obtain ⟨i,rfl,hi,hF,hb⟩:=hrel
  rename World=>wr
  have hwz:=hb.size
  have i0:InW lb wr:=⟨by omega⟩
  by_cases hlt:i < b.length
  ·have hI:(i:Int) < (b.length:Int):=by omega
   obtain ⟨g,rfl,hg,hc⟩:=A.out wr hb (by omega)
   obtain ⟨io,ic,xo,xc,n1,n2,n3,n4,n5,n6,n7⟩:=hc i hlt
   obtain ⟨f1,f2⟩:=hf.out b[i] (List.getElem_mem hlt)
   have hm:=first_more (f:=actE l) hlt
   have C:=Lib.hid (fun wx (hx:Below wr.heap.size wr wx)=>act_any P b[i] io xo ic xc f1 f2 wx (nds_below n6 hx) (nds_below n7 hx) (L.out wx (hb.trans (hx.mono hwz))))
   have i2:InW g wr:=⟨hg⟩
   clear hc n6 n7 f1 f2
   unfold acV at C
   generalize b[i] = a at *
   rw [hF.out] at hm
   generalize actE l a = e at *
   by_cases h0:e = 0
   ·rw [then_go h0] at hm
    obtain ⟨z0,z1⟩:=eq_eqs h0
    replace h0:=Lib.hid h0
    have hm':=Lib.hid hm.symm
    clear hm hF
    go_wp2_with ((with_reducible refine (C.out _ (by (first | exact gwT | exact lzT))).mono ?_);intro e w1 hr;obtain ⟨rfl,p,rfl⟩:=hr.out;clear hr)
    go_roundw
    case rel=>exact ⟨i + 1,by go_num,by omega,hm',by (first | exact gwT | exact lzT)⟩
    case measure=>simp [intOf];omega
   ·rw [then_no h0] at hm
    obtain ⟨z0,z1⟩:=ne_eqs h0
    replace h0:=Lib.hid h0
    subst hm
    clear hF
    go_wp2_with ((with_reducible refine (C.out _ (by (first | exact gwT | exact lzT))).mono ?_);intro e w1 hr;obtain ⟨rfl,p,rfl⟩:=hr.out;clear hr)
    go_returns
    exact ⟨rfl,by (first | exact gwT | exact lzT)⟩
  ·have hI:¬ (i:Int) < (b.length:Int):=by omega
   have hm:=first_end (f:=actE l) (show b.length ≤ i by omega)
   rw [hF.out] at hm
   subst hm
   clear hF
   go_wp2
   go_returns
   exact ⟨rfl,by (first | exact gwT | exact lzT)⟩
end
theorem vs_append {α:Type} {R:α → List Value → Prop} {cs ds:List α} {vs us:List Value} (h:Vs R cs vs) (k:Vs R ds us):Vs R (cs ++ ds) (vs ++ us):=by
 induction h with
 | nil=>exact k
 | cons h1 _ ih =>
  rw [List.append_assoc]
  exact .cons h1 ih
theorem blk_one {τ:CT} {B:Nat} {w:World} {bs:List (List Ac)} {vs:List Value} (h:Vs (BlkR τ B w) bs vs):∀ u ∈ vs,u.oneCell' = true:=by
 induction h with
 | nil=>exact fun u hu=>by cases hu
 | cons h1 _ ih =>
  obtain ⟨x,rfl,hx⟩:=h1
  obtain ⟨ao,cap,rfl⟩:=acRow_form hx
  intro u hu
  rcases List.mem_append.1 hu with hu | hu
  ·obtain rfl:=List.mem_singleton.1 hu
   rfl
  ·exact ih u hu
end Go.Proofs.YtfgpmcepppcmiaaGreatDoor
namespace Go.Proofs.YtfgpmcepppcmiaaGreatDoor
open Go.RowKit
def RoomIs (w:World) (e:Ending) (w':World):Prop:=∃ ao cap,e = .returned (.slice ao 0 cap) ∧ w'.ownsRow w.heap.size 158 1 (.slice ao 0 cap) 0 [] ∧ Below w.heap.size w w'
set_option maxRecDepth 100000 in
set_option maxHeartbeats 4000000 in
theorem grow_any (n:Nat) (hn:n ≤ 16) (w:World):Calls Tryz.prog 184 #[.slice none 0 0,.int .i64 (n:Int)] w (RoomIs w):=by
 have hw:IntKind.i64.wrap (n:Int) = (n:Int):=by rw [IntKind.wrap_i64];omega
 have h1:¬ (n:Int) < 0:=by omega
 rcases Nat.eq_zero_or_pos n with rfl | h0
 ·go_enter Tryz.func184,Tryz.ntmps184
  go_wp2
  go_returns
  exact ⟨none,0,rfl,World.ownsRow_nil _ _ _ _,by (first | exact gwT | exact lzT)⟩
 ·have h2:(0:Int) < (n:Int):=by omega
  have hby:Tryz.t158.bytes = 24:=rfl
  have h48:¬ (281474976710656 < Builtin.nextslicecap n 0 * Tryz.t158.bytes):=by rw [nextslicecap_zero h0,hby];omega
  have h4:(n:Int) * (Tryz.t158.bytes:Int) ≤ 281474976710656:=by rw [hby];omega
  have h5:(0:Int) ≤ (n:Int):=by omega
  have hge:=grownCap_ge w n 0 158
  have hle:=grownCap_le_maxLen w n 0 158 (by unfold maxLen;omega)
  replace hge:=Lib.hid hge
  replace hle:=Lib.hid hle
  clear hby
  go_enter Tryz.func184,Tryz.ntmps184
  go_wp2
  go_returns
  refine ⟨_,grownCap w n 0 158,rfl,World.ownsRow_made _ _ _ (Nat.le_refl _) hle.out ?_,by (first | exact gwT | exact lzT)⟩
  have:=hge.out
  unfold grownCap at this ⊢
  simp [Builtin.zeroCells]
  omega
def BlkIs (bs:List (List Ac)) (w:World) (e:Ending) (w':World):Prop:=∃ ao cap,e = .returned (.slice ao bs.length cap) ∧ BlkRow ct0 0 w' (.slice ao bs.length cap) bs ∧ Below w.heap.size w w'
set_option maxRecDepth 100000 in
set_option maxHeartbeats 4000000 in
theorem concat_any {B:Nat} (g c:Nat) (o1 o2:Option Addr) (c1 c2:Nat) (b1 b2:List (List Ac)) (n1:b1.length ≤ 8) (n2:b2.length ≤ 8) (w:World) (hg:g < w.heap.size) (k0:w.cell? ⟨g,0,none⟩ = some (.slice o1 b1.length c1)) (k1:w.cell? ⟨g,1,none⟩ = some (.slice o2 b2.length c2))
  (h1:BlkRow ct0 B w (.slice o1 b1.length c1) b1) (h2:BlkRow ct0 B w (.slice o2 b2.length c2) b2):Calls Tryz.prog 155 #[.slice (some ⟨g,0,none⟩) 2 c] w (BlkIs (b1 ++ b2) w):=by
 obtain ⟨v1,hv1,r1⟩:=h1
 obtain ⟨v2,hv2,r2⟩:=h2
 have hv:=Lib.hid (vs_append hv1 hv2)
 have q1:=blk_one hv1
 have q2:=blk_one hv2
 have R1:=Lib.hid (fun wx (hb:Below w.heap.size w wx)=>owns_below r1 hb)
 have R2:=Lib.hid (fun wx (hb:Below w.heap.size w wx)=>owns_below r2 hb)
 have Gr:=Lib.hid (fun wx=>grow_any (b1.length + b2.length) (by omega) wx)
 have C:=Lib.hid (fun wx (hb:Below w.heap.size w wx)=>And.intro ((hb.cell (p:=⟨g,0,none⟩) hg).trans k0) ((hb.cell (p:=⟨g,1,none⟩) hg).trans k1))
 obtain ⟨j0,hj,hy1,hy2,hy3⟩:=info_parts Tryz.infoBlk
 have hle:(b1 ++ b2).length = b1.length + b2.length:=List.length_append
 generalize (b1 ++ b2) = bs at *
 generalize hN1:b1.length = N1 at *
 generalize hN2:b2.length = N2 at *
 have hz1:v1.length = N1:=by have:=r1.1;omega
 have hz2:v2.length = N2:=by have:=r2.1;omega
 clear hv1 hv2 r1 r2 k0 k1
 go_enter Tryz.func155,Tryz.ntmps155
 go_wp2
 go_loopw [3,11] (fun x y wr=>∃ (i k:Nat),y = .int .i64 (i:Int) ∧ x = .int .i64 (k:Int) ∧ (i = 0 ∧ k = 0 ∨ i = 1 ∧ k = N1 ∨ i = 2 ∧ k = N1 + N2) ∧ Below w.heap.size w wr) (fun _ y _=>2 - (intOf y).toNat)
 case atStart=>exact ⟨0,0,rfl,rfl,.inl ⟨rfl,rfl⟩,by (first | exact gwT | exact lzT)⟩
 case round =>
  obtain ⟨i,k,rfl,rfl,hik,hb⟩:=hrel
  rename World=>wr
  have hwz:=hb.size
  have i1:InW g wr:=⟨by omega⟩
  obtain ⟨k0,k1⟩:=C.out wr hb
  rcases hik with ⟨rfl,rfl⟩ | ⟨rfl,rfl⟩ | ⟨rfl,rfl⟩
  ·have hI:(0:Int) < (2:Int):=by decide
   have hw:IntKind.i64.wrap (N1:Int) = (N1:Int):=by rw [IntKind.wrap_i64];omega
   go_wp2
   go_roundw
   case rel=>exact ⟨1,N1,by go_num,by go_num,.inr (.inl ⟨rfl,rfl⟩),by (first | exact gwT | exact lzT)⟩
   case measure=>simp [intOf]
  ·go_wp2
   go_roundw
   case rel=>exact ⟨2,k + N2,by go_num,by go_num,.inr (.inr ⟨rfl,rfl⟩),by (first | exact gwT | exact lzT)⟩
   case measure=>simp [intOf]
  ·go_wp2_with fail
   refine (Gr.out _).mono ?_
   rintro e w1 ⟨oa,oc,rfl,hown,hb1⟩
   have hbW:Below w.heap.size w w1:=hb.trans (hb1.mono hwz)
   have hO:=Lib.hid (owns_base hown hwz)
   clear Gr hown hb1 k0 k1 i1
   dsimp only
   go_wp2
   go_loopw [6,27] (fun x y wq=>∃ (i k:Nat) (oa:Option Addr) (oc:Nat) (vs:List Value),y = .int .i64 (i:Int) ∧ x = .slice oa k oc ∧ (i = 0 ∧ k = 0 ∧ vs = [] ∨ i = 1 ∧ k = N1 ∧ vs = v1 ∨ i = 2 ∧ k = N1 + N2 ∧ vs = v1 ++ v2) ∧ wq.ownsRow w.heap.size 158 1 (.slice oa k oc) k vs ∧ Below w.heap.size w wq) (fun _ y _=>2 - (intOf y).toNat)
   case atStart=>exact ⟨0,0,oa,oc,[],rfl,rfl,.inl ⟨rfl,rfl,rfl⟩,hO.out,hbW⟩
   case round =>
    obtain ⟨i,k,oa,oc,vs,rfl,rfl,hik,hown,hb⟩:=hrel
    rename World=>wq
    have hwz:=hb.size
    have i1:InW g wq:=⟨by omega⟩
    obtain ⟨k0,k1⟩:=C.out wq hb
    have hK:=Lib.hid hown
    clear hO hbW hown
    rcases hik with ⟨rfl,rfl,rfl⟩ | ⟨rfl,rfl,rfl⟩ | ⟨rfl,rfl,rfl⟩
    ·go_wp2_with (at_builtin;refine wpList_append_row rfl _ _ 85 rfl w.heap.size 158 j0 _ 1 24 Tryz.underlying85 hj hy1 hy2 hy3 rfl (by decide) (.slice oa 0 oc) 0 [] rfl (owns_below hK.out (by (first | exact gwT | exact lzT))) B (.slice o1 N1 c1) N1 v1 rfl (R1.out _ (by (first | exact gwT | exact lzT))) q1 (by unfold maxLen;omega) (by omega) hwz ?_)
     intro v' w2 hown2 hgrow
     have hb2:=Below.grown hb hgrow hwz (fun k hk=>(hK.out.lt k hk).1)
     obtain ⟨oa2,oc2,rfl⟩:=own_form hown2
     replace hown2:=Lib.hid hown2
     clear hgrow hK k0 k1 i1
     go_wp2
     go_roundw
     case rel =>
      exact ⟨_,_,_,_,_,_,_,_,_,_,⟨1,N1,oa2,oc2,v1,rfl,rfl,.inr (.inl ⟨rfl,rfl,rfl⟩),by simpa using hown2.out,hb2⟩,rfl⟩
     case measure=>simp [intOf]
    ·go_wp2_with (at_builtin;refine wpList_append_row rfl _ _ 85 rfl w.heap.size 158 j0 _ 1 24 Tryz.underlying85 hj hy1 hy2 hy3 rfl (by decide) (.slice oa k oc) k vs rfl (owns_below hK.out (by (first | exact gwT | exact lzT))) B (.slice o2 N2 c2) N2 v2 rfl (R2.out _ (by (first | exact gwT | exact lzT))) q2 (by unfold maxLen;omega) (by omega) hwz ?_)
     intro v' w2 hown2 hgrow
     have hb2:=Below.grown hb hgrow hwz (fun k hk=>(hK.out.lt k hk).1)
     obtain ⟨oa2,oc2,rfl⟩:=own_form hown2
     replace hown2:=Lib.hid hown2
     clear hgrow hK k0 k1 i1
     go_wp2
     go_roundw
     case rel=>exact ⟨_,_,_,_,_,_,_,_,_,_,⟨2,_,oa2,oc2,_,rfl,rfl,.inr (.inr ⟨rfl,rfl,rfl⟩),hown2.out,hb2⟩,rfl⟩
     case measure=>simp [intOf]
    ·go_wp2
     go_returns
     refine ⟨oa,oc,by rw [hle];rfl,⟨v1 ++ v2,?_,?_⟩,hb⟩
     ·exact vs_map hv.out fun _ _ h=>blkR_tp (fx_base (Nat.zero_le B)) (blkR_tp (fx_below (Below.mono hb (Nat.le_refl _))) h)
     ·rw [hle]
      exact owns_base hK.out (Nat.zero_le _)
end Go.Proofs.YtfgpmcepppcmiaaGreatDoor
