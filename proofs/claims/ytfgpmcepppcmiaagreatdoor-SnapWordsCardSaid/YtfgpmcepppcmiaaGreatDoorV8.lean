/- Several texts of this proof, joined: VF, VL. -/
import Derived.Test.YtfgpmcepppcmiaaGreatDoorV5
import Derived.WalkKit
import Derived.ProofKit
import Derived.OpenShut
import Derived.Handy
import Derived.BigQuiet
import Derived.OwnWalk
import Derived.Deep.RegionHeld3
import Derived.Lib.Hide
import Derived.WalkSmall
import Derived.WalkLawsBesides
namespace Go.Proofs.YtfgpmcepppcmiaaGreatDoor
open Go.RowKit
def NtsRd (w:World) (ao:Option Addr) (ks:List Nat):Prop:=∀ i (hi:i < ks.length),∃ g,ao = some ⟨g,0,none⟩ ∧ g < w.heap.size ∧ w.cell? ⟨g,i,none⟩ = some (.int .i64 (ks[i]:Int))
theorem nts_keep {w w':World} {ao:Option Addr} {ks:List Nat} (h:NtsRd w ao ks) (hb:Below w.heap.size w w'):NtsRd w' ao ks:=fun i hi=>by
 obtain ⟨g,e,hg,h1⟩:=h i hi
 exact ⟨g,e,Nat.lt_of_lt_of_le hg hb.size,(hb.cell (p:=⟨g,_,none⟩) hg).trans h1⟩
theorem nts_own {w:World} {B:Nat} {ao:Option Addr} {n cap:Nat} {ks:List Nat} (h:w.ownsRow B 3 1 (.slice ao n cap) ks.length (natsC ks)):NtsRd w ao ks:=fun i hi=>by
 obtain ⟨g,cap',e,hg,_,_,hc⟩:=own_head h (by omega)
 cases e
 exact ⟨g,rfl,hg,hc _ _ (by unfold natsC;rw [List.getElem?_map,List.getElem?_eq_getElem hi];rfl)⟩
def ClIs (f:FuncId) (caps:Array Value) (q:Nat → Bool) (k:Nat) (w:World):Prop:=Calls Tryz.prog f (#[.int .i64 (k:Int)] ++ caps) w (Ret (.bool (q k)) w)
theorem any_more {q:Nat → Bool} {ks:List Nat} {i:Nat} (h:i < ks.length):(ks.drop i).any q = (q ks[i] || (ks.drop (i + 1)).any q):=by
 rw [List.drop_eq_getElem_cons h,List.any_cons]
theorem any_end {q:Nat → Bool} {ks:List Nat} {i:Nat} (h:ks.length ≤ i):(ks.drop i).any q = false:=by
 rw [List.drop_of_length_le h];rfl
def HitIs (o:Bool) (w:World) (e:Ending) (w':World):Prop:=(∃ i:Int,e = .returned (.int .i64 i) ∧ (o = true → 0 ≤ i) ∧ (o = false → i = -1)) ∧ Below w.heap.size w w'
set_option maxRecDepth 100000 in
set_option maxHeartbeats 4000000 in
theorem hit_any (f:FuncId) (hcf:∀ a wx,(callFunc f a).run Tryz.prog wx = .ok (.enter f a) wx) (c1 c2:Value) (caps:Array Value) (hcap:caps = #[c1] ∨ caps = #[c1,c2]) (q:Nat → Bool) (ao:Option Addr) (cap:Nat) (ks:List Nat) (hn:ks.length ≤ 1000) (w:World) (h:NtsRd w ao ks) (C:∀ k,k ∈ ks → ∀ wx,Below w.heap.size w wx → ClIs f caps q k wx) :
  Calls Tryz.prog 183 #[.slice ao ks.length cap,.func (.func f) #[] caps] w (HitIs (ks.any q) w):=by
 have H:=Lib.hid (fun wx hk=>nts_keep (w':=wx) h hk)
 have hF':Hid ((ks.drop 0).any q = ks.any q):=Lib.hid (by rw [List.drop_zero])
 unfold ClIs at C
 replace C:=Lib.hid C
 generalize ks.any q = F at *
 clear h
 rcases hcap with rfl | rfl
 all_goals
  go_enter Tryz.func183,Tryz.ntmps183
  go_wp2
  go_loopw [8] (fun v wr=>∃ i:Nat,v = .int .i64 (i:Int) ∧ i ≤ ks.length ∧ Hid ((ks.drop i).any q = F) ∧ Below w.heap.size w wr) (fun v _=>ks.length - (intOf v).toNat)
  case atStart=>exact ⟨0,rfl,Nat.zero_le _,hF',by (first | exact gwT | exact lzT)⟩
  case round =>
   obtain ⟨i,rfl,hi,hf,hk⟩:=hrel
   rename World=>wr
   have hwz:=hk.size
   by_cases hlt:i < ks.length
   ·obtain ⟨g,rfl,hg,n1⟩:=H.out wr hk i hlt
    have hm:=any_more (q:=q) hlt
    have hI:(i:Int) < (ks.length:Int):=by omega
    have i1:InW g wr:=⟨hg⟩
    have C1:=Lib.hid (fun wx (hx:Below wr.heap.size wr wx)=>C.out ks[i] (List.getElem_mem hlt) wx (hk.trans (hx.mono hwz)))
    generalize ks[i] = k at *
    rcases he:q k
    ·rw [he,Bool.false_or,hf.out] at hm
     rw [he] at C1
     have hm':=Lib.hid hm.symm
     clear he hf hm C
     go_wp2
     refine Calls.mono (C1.out _ (by (first | exact gwT | exact lzT))) ?_
     intro e w1 hr
     obtain ⟨rfl,p,rfl⟩:=hr.out
     clear hr
     go_wp2
     go_roundw
     case rel=>exact ⟨i + 1,by go_num,by omega,hm',by (first | exact gwT | exact lzT)⟩
     case measure=>simp [intOf];omega
    ·rw [he,Bool.true_or,hf.out] at hm
     rw [he] at C1
     subst hm
     clear he hf C
     go_wp2
     refine Calls.mono (C1.out _ (by (first | exact gwT | exact lzT))) ?_
     intro e w1 hr
     obtain ⟨rfl,p,rfl⟩:=hr.out
     clear hr
     go_wp2
     go_returns
     exact ⟨⟨_,rfl,fun _=>(by omega),fun h=>(by cases h)⟩,by (first | exact gwT | exact lzT)⟩
   ·have hge:¬ (i:Int) < (ks.length:Int):=by omega
    have hm:=any_end (q:=q) (show ks.length ≤ i by omega)
    rw [hf.out] at hm
    subst hm
    clear hf
    go_wp2
    go_returns
    exact ⟨⟨_,rfl,fun h=>(by cases h),fun _=>rfl⟩,by (first | exact gwT | exact lzT)⟩
set_option maxRecDepth 100000 in
theorem has_any (f:FuncId) (hcf:∀ a wx,(callFunc f a).run Tryz.prog wx = .ok (.enter f a) wx) (c1 c2:Value) (caps:Array Value) (hcap:caps = #[c1] ∨ caps = #[c1,c2]) (q:Nat → Bool) (ao:Option Addr) (cap:Nat) (ks:List Nat) (hn:ks.length ≤ 1000) (w:World) (h:NtsRd w ao ks) (C:∀ k,k ∈ ks → ∀ wx,Below w.heap.size w wx → ClIs f caps q k wx) :
  Calls Tryz.prog 151 #[.slice ao ks.length cap,.func (.func f) #[] caps] w (Ret (.bool (ks.any q)) w):=by
 have I:=Lib.hid (fun wx (hk:Below w.heap.size w wx)=>hit_any f hcf c1 c2 caps hcap q ao cap ks hn wx (nts_keep h hk) fun k hm wy hy=>C k hm wy (hk.trans (hy.mono hk.size)))
 clear h C hcap hcf
 generalize ks.any q = F at *
 go_enter Tryz.func151,Tryz.ntmps151
 go_wp2_with fail
 refine (I.out _ (by (first | exact gwT | exact lzT))).mono ?_
 rintro e w1 ⟨⟨i,rfl,h1,h2⟩,hb⟩
 obtain ⟨p,rfl⟩:=toG hb
 clear I hb
 cases F with
 | true =>
  have h0:=h1 rfl
  clear h1 h2
  go_wp2
  go_returns
  exact ⟨rfl,by (first | exact gwT | exact lzT)⟩
 | false =>
  obtain rfl:=h2 rfl
  clear h1 h2
  go_wp2
  go_returns
  exact ⟨rfl,by (first | exact gwT | exact lzT)⟩
section
variable {l:Lk} {lb:Nat}
theorem kid1_c (k:Nat) (hk:k < l.c.states.length) (b:Nat) (w:World) (hb:w.cell? ⟨b,0,none⟩ = some (.pointer (some ⟨lb,0,none⟩))) (H:LkAt w lb l):ClIs 152 #[.pointer (some ⟨b,0,none⟩)] (fun k => !pastS (stL l k)) k w:=by
 obtain ⟨B,rv,va,sa,oa,pa,vc,sc,oc,pc,H⟩:=H
 obtain ⟨hl,c0,c1,c2,c3,c4⟩:=lk_cells H
 obtain ⟨g,eo,ec,xo,xc,to',tc,rfl,hg,n1,n2,n3,n4,n5,n6,n7,_,_,_⟩:=st_at H.ch k hk
 have hs:stL l k = l.c.states[k]:=by unfold stL;simp [List.getD,hk]
 have i1:InW lb w:=⟨hl⟩
 have i2:InW g w:=⟨hg⟩
 have i3:InW b w:=⟨World.block_lt_of_cell? _ _ hb⟩
 have hI:(k:Int) < (l.c.states.length:Int):=by omega
 unfold ClIs
 simp only [hs]
 generalize l.c.states[k] = s at *
 have Q:=Lib.hid (fun wx=>vpast_any s (.slice eo s.enter.length ec) (.slice xo s.exit.length xc) (.slice to' s.trans.length tc) wx)
 clear H hs
 show Calls Tryz.prog _ #[.int .i64 (k:Int),.pointer (some ⟨b,0,none⟩)] _ _
 go_enter Tryz.func152,Tryz.ntmps152
 go_wp2_with ((with_reducible refine (Q.out _).mono ?_);intro e w1 hr;obtain ⟨rfl,p,rfl⟩:=hr.out;clear hr)
 go_returns
 exact ⟨rfl,by (first | exact gwT | exact lzT)⟩
theorem kid2_c (k:Nat) (hk:k < l.c.states.length) (b:Nat) (w:World) (hb:w.cell? ⟨b,0,none⟩ = some (.pointer (some ⟨lb,0,none⟩))) (H:LkAt w lb l):ClIs 153 #[.pointer (some ⟨b,0,none⟩)] (fun k => !partS (stL l k)) k w:=by
 obtain ⟨B,rv,va,sa,oa,pa,vc,sc,oc,pc,H⟩:=H
 obtain ⟨hl,c0,c1,c2,c3,c4⟩:=lk_cells H
 obtain ⟨g,eo,ec,xo,xc,to',tc,rfl,hg,n1,n2,n3,n4,n5,n6,n7,_,_,_⟩:=st_at H.ch k hk
 have hs:stL l k = l.c.states[k]:=by unfold stL;simp [List.getD,hk]
 have i1:InW lb w:=⟨hl⟩
 have i2:InW g w:=⟨hg⟩
 have i3:InW b w:=⟨World.block_lt_of_cell? _ _ hb⟩
 have hI:(k:Int) < (l.c.states.length:Int):=by omega
 unfold ClIs
 simp only [hs]
 generalize l.c.states[k] = s at *
 have Q:=Lib.hid (fun wx=>vpart_any s (.slice eo s.enter.length ec) (.slice xo s.exit.length xc) (.slice to' s.trans.length tc) wx)
 clear H hs
 show Calls Tryz.prog _ #[.int .i64 (k:Int),.pointer (some ⟨b,0,none⟩)] _ _
 go_enter Tryz.func153,Tryz.ntmps153
 go_wp2_with ((with_reducible refine (Q.out _).mono ?_);intro e w1 hr;obtain ⟨rfl,p,rfl⟩:=hr.out;clear hr)
 go_returns
 exact ⟨rfl,by (first | exact gwT | exact lzT)⟩
end
end Go.Proofs.YtfgpmcepppcmiaaGreatDoor
namespace Go.Proofs.YtfgpmcepppcmiaaGreatDoor
open Go.RowKit
section
variable {l:Lk} {lb:Nat}
theorem stL_at {k:Nat} (hk:k < l.c.states.length):stL l k = l.c.states[k]:=by unfold stL;simp [List.getD,hk]
theorem fnd_lt (P:LkP l) (nm:List UInt8):fnd l nm < l.c.states.length:=by
 unfold fnd
 cases h:findA nm l.c.states 0 with
 | none=>exact P.some
 | some j =>
  have key:∀ (ss:List St) (k j:Nat),findA nm ss k = some j → j < k + ss.length:=by
   intro ss
   induction ss with
   | nil=>intro k j h;cases h
   | cons s r ih =>
    intro k j h
    rw [findA] at h
    rw [List.length_cons]
    split at h
    ·cases h;omega
    ·have:=ih _ _ h
     omega
  have:=key _ _ _ h
  simpa using this
theorem lfind_any {w:World} {B:Nat} {rv:Nat → Value} {va sa oa pa:Option Addr} {vc sc oc pc:Nat} (P:LkP l) (H:LkV w lb l B rv va sa oa pa vc sc oc pc) (nm:List UInt8):Hid (∀ wx,Below w.heap.size w wx →
  Calls Tryz.prog 149 #[.agg #[str l.c.name,.slice va l.c.vars.length vc,.slice sa l.c.states.length sc],str nm] wx (Ret (.tuple #[.int .i64 (fnd l nm:Int),.bool (isF l nm)]) wx)) :=
 Lib.hid fun wx hb=>cfind_any sa sc ⟨nm.toArray⟩ (by have:=P.few;omega) wx (chV_keep H.ch hb)
set_option maxRecDepth 100000 in
set_option maxHeartbeats 4000000 in
theorem once_any (P:LkP l) (i:Nat) (hi:i < l.c.states.length) (w:World) (H:LkAt w lb l):Calls Tryz.prog 118 #[.pointer (some ⟨lb,0,none⟩),.int .i64 (i:Int)] w (Ret (.int .i64 (onceE l i)) w):=by
 obtain ⟨B,rv,va,sa,oa,pa,vc,sc,oc,pc,H⟩:=H
 have F:=lfind_any P H (stL l i).name
 obtain ⟨hl,c0,c1,c2,c3,c4⟩:=lk_cells H
 obtain ⟨g,eo,ec,xo,xc,to',tc,rfl,hg,n1,_⟩:=st_at H.ch i hi
 rw [← stL_at hi] at n1
 have i1:InW lb w:=⟨hl⟩
 have i2:InW g w:=⟨hg⟩
 have hI:(i:Int) < (l.c.states.length:Int):=by omega
 unfold onceE
 have U:=Lib.hid (fun b wx=>unless_any b 16 wx)
 generalize fnd l (stL l i).name = f at *
 generalize isF l (stL l i).name = o at *
 generalize (stL l i).name = nm at *
 clear H
 have e0:((i:Int) == 0) = (i == 0):=by rw [Bool.eq_iff_iff];simp
 have e1:((f:Int) == (i:Int)) = (f == i):=by rw [Bool.eq_iff_iff];simp;omega
 generalize (f == i) = b1 at *
 cases h0:(i == 0)
 ·rw [h0] at e0
  rw [Bool.false_or]
  replace h0:=Lib.hid h0
  go_enter Tryz.func118,Tryz.ntmps118
  go_wp2
  (refine wp_region_G (by kernel_rfl) (by kernel_rfl) ?_;(repeat (go_big_quiet_step (exact quietG (F.out _ (by (first | exact gwT | exact lzT))))));refine wpQuiet_nil ?_;intro _ hw';obtain ⟨pg,hw''⟩:=hw';subst hw'')
  go_wp2_with ((with_reducible refine (U.out _ _).mono ?_);intro e w1 hr;obtain ⟨rfl,p,rfl⟩:=hr.out;clear hr)
  go_returns
  exact ⟨rfl,by (first | exact gwT | exact lzT)⟩
 ·rw [h0] at e0
  rw [Bool.true_or]
  replace h0:=Lib.hid h0
  go_enter Tryz.func118,Tryz.ntmps118
  go_wp2
  (refine wp_region_G (by kernel_rfl) (by kernel_rfl) ?_;(repeat (go_big_quiet_step (exact quietG (F.out _ (by (first | exact gwT | exact lzT))))));refine wpQuiet_nil ?_;intro _ hw';obtain ⟨pg,hw''⟩:=hw';subst hw'')
  go_wp2_with ((with_reducible refine (U.out _ _).mono ?_);intro e w1 hr;obtain ⟨rfl,p,rfl⟩:=hr.out;clear hr)
  go_returns
  exact ⟨rfl,by (first | exact gwT | exact lzT)⟩
set_option maxRecDepth 100000 in
set_option maxHeartbeats 4000000 in
theorem start_any (P:LkP l) (i:Nat) (hi:i < l.c.states.length) (w:World) (H:LkAt w lb l):Calls Tryz.prog 121 #[.pointer (some ⟨lb,0,none⟩),.int .i64 (i:Int)] w (Ret (.int .i64 (startE l i)) w):=by
 obtain ⟨B,rv,va,sa,oa,pa,vc,sc,oc,pc,H⟩:=H
 have F:=lfind_any P H (stL l i).start
 obtain ⟨hl,c0,c1,c2,c3,c4⟩:=lk_cells H
 obtain ⟨g,eo,ec,xo,xc,to',tc,rfl,hg,_,_,_,n4,_⟩:=st_at H.ch i hi
 have hf:=fnd_lt P (stL l i).start
 obtain ⟨g',fo,fc,yo,yc,uo,uc,hge,_,m1,m2,m3,m4,m5,m6,m7,_⟩:=st_at H.ch _ hf
 cases hge
 rw [← stL_at hi] at n4
 have i1:InW lb w:=⟨hl⟩
 have i2:InW g w:=⟨hg⟩
 have hI:(i:Int) < (l.c.states.length:Int):=by omega
 have hJ:((fnd l (stL l i).start:Nat):Int) < (l.c.states.length:Int):=by omega
 unfold startE ownE
 have U:=Lib.hid (fun b wx=>unless_any b 31 wx)
 have hst:=stL_at hf
 generalize fnd l (stL l i).start = f at *
 generalize isF l (stL l i).start = o at *
 rw [hst]
 generalize l.c.states[f] = s at *
 generalize (stL l i).start = nm at *
 have Q:=Lib.hid (fun wx=>vpast_any s (.slice fo s.enter.length fc) (.slice yo s.exit.length yc) (.slice uo s.trans.length uc) wx)
 have e1:(nm == []) = nm.isEmpty:=by cases nm <;> rfl
 rw [e1]
 generalize pastS s = p at *
 clear H hst e1
 cases hn:nm.isEmpty <;> cases o <;> cases hp:(s.parent == (i:Int))
 all_goals
  go_enter Tryz.func121,Tryz.ntmps121
  go_wp2_with (first | ((with_reducible refine (F.out _ (by (first | exact gwT | exact lzT))).mono ?_);intro e w1 hr;obtain ⟨rfl,p,rfl⟩:=hr.out;clear hr) | ((with_reducible refine (Q.out _).mono ?_);intro e w1 hr;obtain ⟨rfl,p,rfl⟩:=hr.out;clear hr) | ((with_reducible refine (U.out _ _).mono ?_);intro e w1 hr;obtain ⟨rfl,p,rfl⟩:=hr.out;clear hr))
  go_returns
  exact ⟨rfl,by (first | exact gwT | exact lzT)⟩
theorem wthC_in {ss:List St} {a:Nat} {o:Int} (h:a < ss.length):wthC ss (a:Int) o = wthT ss o ss.length (a:Int):=by
 unfold wthC
 rw [if_neg (by omega)]
set_option maxRecDepth 100000 in
set_option maxHeartbeats 4000000 in
theorem past_any (P:LkP l) (i:Nat) (hi:i < l.c.states.length) (w:World) (H:LkAt w lb l):Calls Tryz.prog 119 #[.pointer (some ⟨lb,0,none⟩),.int .i64 (i:Int)] w (Ret (.int .i64 (pastE l i)) w):=by
 obtain ⟨B,rv,va,sa,oa,pa,vc,sc,oc,pc,H⟩:=H
 have F:=lfind_any P H (stL l i).start
 obtain ⟨hl,c0,c1,c2,c3,c4⟩:=lk_cells H
 obtain ⟨g,eo,ec,xo,xc,to',tc,rfl,hg,n1,n2,n3,n4,n5,n6,n7,_⟩:=st_at H.ch i hi
 have hf:=fnd_lt P (stL l i).start
 have W:=Lib.hid (fun o wx (hb:Below w.heap.size w wx)=>cwithin_in (some ⟨g,0,none⟩) sc (fnd l (stL l i).start) o (by have:=P.few;omega) P.par hf wx (chV_keep H.ch hb))
 obtain ⟨g',fo,fc,yo,yc,uo,uc,hge,_,m1,m2,m3,m4,m5,m6,m7,_⟩:=st_at H.ch _ hf
 cases hge
 have i1:InW lb w:=⟨hl⟩
 have i2:InW g w:=⟨hg⟩
 have hI:(i:Int) < (l.c.states.length:Int):=by omega
 have hJ:((fnd l (stL l i).start:Nat):Int) < (l.c.states.length:Int):=by omega
 unfold pastE nearE
 rw [wthC_in hf]
 have U:=Lib.hid (fun b wx=>unless_any b 33 wx)
 have hst:=stL_at hf
 generalize fnd l (stL l i).start = f at *
 generalize isF l (stL l i).start = o at *
 rw [hst]
 generalize l.c.states[f] = s at *
 rw [← stL_at hi] at n1 n2 n3 n4 n5 n6 n7
 generalize stL l i = t at *
 have Q:=Lib.hid (fun wx=>vpast_any s (.slice fo s.enter.length fc) (.slice yo s.exit.length yc) (.slice uo s.trans.length uc) wx)
 generalize pastS s = p at *
 replace W:=Lib.hid (W.out t.parent)
 generalize wthT l.c.states t.parent l.c.states.length (f:Int) = wt at *
 clear H hst
 rcases e6:(t.kind == 6)
 ·rw [if_neg (by simpa using e6)]
  cases hb:(s.parent == t.parent) <;> cases o
  all_goals
   go_enter Tryz.func119,Tryz.ntmps119
   go_wp2
   (refine wp_region_G (by kernel_rfl) (by kernel_rfl) ?_;(repeat (go_big_quiet_step (exact quietG (F.out _ (by (first | exact gwT | exact lzT))))));refine wpQuiet_nil ?_;intro _ hw';obtain ⟨pg,hw''⟩:=hw';subst hw'')
   go_wp2
   (refine wp_region_G (by kernel_rfl) (by kernel_rfl) ?_;(repeat (go_big_quiet_step (fail)));refine wpQuiet_nil ?_;intro _ hw';obtain ⟨pg,hw''⟩:=hw';subst hw'')
   go_wp2_with (first | ((with_reducible refine (Q.out _).mono ?_);intro e w1 hr;obtain ⟨rfl,p,rfl⟩:=hr.out;clear hr) | ((with_reducible refine (U.out _ _).mono ?_);intro e w1 hr;obtain ⟨rfl,p,rfl⟩:=hr.out;clear hr))
   go_returns
   exact ⟨rfl,by (first | exact gwT | exact lzT)⟩
 ·rw [if_pos (by simpa using e6)]
  cases wt <;> cases o
  all_goals
   go_enter Tryz.func119,Tryz.ntmps119
   go_wp2
   (refine wp_region_G (by kernel_rfl) (by kernel_rfl) ?_;(repeat (go_big_quiet_step (exact quietG (F.out _ (by (first | exact gwT | exact lzT))))));refine wpQuiet_nil ?_;intro _ hw';obtain ⟨pg,hw''⟩:=hw';subst hw'')
   go_wp2
   (refine wp_region_G (by kernel_rfl) (by kernel_rfl) ?_;(repeat (go_big_quiet_step (fail)));refine wpQuiet_nil ?_;intro _ hw';obtain ⟨pg,hw''⟩:=hw';subst hw'')
   go_wp2
   (refine wp_region_G (by kernel_rfl) (by kernel_rfl) ?_;(repeat (go_big_quiet_step ((first | exact quietG (W.out _ (by (first | exact gwT | exact lzT))) | exact quietH2 (W.out _ (by (first | exact gwT | exact lzT))) | exact quietH3 (W.out _ (by (first | exact gwT | exact lzT)))))));refine wpQuiet_nil ?_;intro _ hw';obtain ⟨pg,hw''⟩:=hw';subst hw'')
   go_wp2_with (first | ((with_reducible refine (Q.out _).mono ?_);intro e w1 hr;obtain ⟨rfl,p,rfl⟩:=hr.out;clear hr) | ((with_reducible refine (U.out _ _).mono ?_);intro e w1 hr;obtain ⟨rfl,p,rfl⟩:=hr.out;clear hr))
   go_returns
   exact ⟨rfl,by (first | exact gwT | exact lzT)⟩
end
end Go.Proofs.YtfgpmcepppcmiaaGreatDoor
