/- Several texts of this proof, joined: DH, DI, DJ. -/
import Derived.Test.YtncmnhccmemagaaGreatDoorDF
import Derived.Test.YtncmnhccmemagaaGreatDoorI3
import Derived.WalkKit
import Derived.ProofKit
import Derived.OpenShut
import Derived.Handy
import Derived.BigQuiet
import Derived.OwnWalk
import Derived.Lib.Hide
import Derived.WalkSmall
import Derived.WalkLawsBesides
import Derived.Test.YtncmnhccmemagaaGreatDoorL1
import Derived.Test.YtncmnhccmemagaaGreatDoorJ3
import Derived.Deep.Light
namespace Go.Proofs.YtncmnhccmemagaaGreatDoor
open Go.RowKit
structure TabV (w0:World) (B:Nat) (c:Ch) (rv:Nat → Value) (tv gv:Value) (w:World):Prop where
 env:Below w0.heap.size w0 w
 rows:∃ xs,Vs (RwR w0.heap.size c.states rv w none) (List.range c.states.length) xs ∧ w.ownsRow w0.heap.size 55 11 tv c.states.length xs
 gos:∃ xs,Vs (GoR B w0 c.states w none) (gosT c.states) xs ∧ w.ownsRow w0.heap.size 136 6 gv (gosT c.states).length xs
section
variable {w0:World} {B:Nat} {c:Ch} {rv:Nat → Value} {va sa:Option Addr} {vc sc:Nat} {tv gv:Value} {w w':World}
theorem tabV_set {rb j:Nat} {u:Value} {cs:Array Value} (h:TabV w0 B c rv tv gv w) (hr:w.heap[rb]? = some (.cells cs 28 (0,0))) (hl:w0.heap.size ≤ rb):TabV w0 B c rv tv gv (w.setCell ⟨rb,j,none⟩ u):=by
 obtain ⟨xs,h1,h2⟩:=h.rows
 obtain ⟨ys,h3,h4⟩:=h.gos
 have key:∀ v m zs,w.ownsRow w0.heap.size 3 1 v m zs → sepV v none → (w.setCell ⟨rb,j,none⟩ u).ownsRow w0.heap.size 3 1 v m zs ∧ sepV v none:=fun v m zs k1 k2=>⟨tp_set hr (by decide) _ _ _ _ k1,k2⟩
 exact ⟨h.env.setCell (p:=⟨rb,j,none⟩) hl _,⟨xs,vs_map h1 fun _ _ k=>rwR_to k key,tp_set hr (by decide) _ _ _ _ h2⟩,⟨ys,vs_map h3 fun _ _ k=>goR_to k key,tp_set hr (by decide) _ _ _ _ h4⟩⟩
def MkOk (B:Nat) (c:Ch) (rv:Nat → Value) (va:Option Addr) (vc:Nat) (w:World) (e:Ending) (w':World):Prop :=
 ∃ tv gv,e = .returned (.tuple #[.agg #[.slice va c.vars.length vc,tv,gv],.int .i64 0]) ∧ TabV w B c rv tv gv w'
set_option maxRecDepth 100000 in
set_option maxHeartbeats 8000000 in
theorem tmake_yes (O:OkC c) (hT:Db w) (hL:Lb w) (hC:ChV ct0 B w c rv (.slice va c.vars.length vc) (.slice sa c.states.length sc)) (hk:(checkE c).1 = 0) :
  Calls Tryz.prog 21 #[.agg #[str c.name,.slice va c.vars.length vc,.slice sa c.states.length sc]] w (MkOk B c rv va vc w):=by
 have V:=Lib.hid (fun wx (hb:Below w.heap.size w wx)=>vcheck_any O wx (chV_keep hC hb) (lb_below hL hb))
 rw [hk] at V
 have A:=Lib.hid (fun wk mb j (hj:j < c.states.length) tv gv wx (h:TbAt w wk B c rv mb va vc sa sc j (gosF c.states j) none tv gv wx)=>tadd_any hj O hT hC h)
 generalize (checkE c).2 = nm at *
 have hn49:=O.few
 replace O:=Lib.hid O
 clear hk hT hL hC
 go_enter Tryz.func21,Tryz.ntmps21
 go_wp2_with fail
 refine (V.out _ (by (first | exact gwT | exact lzT))).mono ?_
 rintro e w1 ⟨rfl,hb1⟩
 have hw1:Below w.heap.size w w1:=Below.trans (by (first | exact gwT | exact lzT)) (hb1.mono (by simp;omega))
 have q0:=blk_keep (blk_old (heap_alloc_new w (.cells #[str c.name,.slice va c.vars.length vc,.slice sa c.states.length sc] 62))) hb1
 have q1:=blk_keep (new_at (b:=w.heap.size + 1) (by simp)) hb1
 obtain ⟨u0,u1,u2,ul,uf⟩:=cells3 q0
 have i0:InW w.heap.size w1:=⟨ul⟩
 have i1:InW (w.heap.size + 1) w1:=⟨lt_of_block q1⟩
 have hz:=hw1.size
 have hrl:w.heap.size ≤ w.heap.size + 1:=by omega
 clear V hb1 q0
 generalize hrb:w.heap.size + 1 = rb at *
 dsimp only
 go_wp2
 obtain ⟨W1,hW1⟩:∃ W1,w1.alloc (.cells #[.slice va c.vars.length vc,.slice none 0 0,.slice none 0 0,.string ⟨c.name.toArray⟩,.slice va c.vars.length vc,.slice sa c.states.length sc] 88) = W1:=⟨_,rfl⟩
 have hT0:Hid (TbAt w W1 B c rv w1.heap.size va vc sa sc 0 (gosF c.states 0) none (.slice none 0 0) (.slice none 0 0) W1):=Lib.hid (by
  refine ⟨by rw [← hW1];exact heap_alloc_new w1 _,by rw [← hW1];exact hw1.alloc hz _,hz,kpM_refl _,⟨[],.nil,World.ownsRow_nil _ _ _ _⟩,⟨[],.nil,World.ownsRow_nil _ _ _ _⟩⟩)
 have r1:W1.heap[rb]? = some (.cells #[.slice none 0 0,.slice none 0 0,.slice none 0 0] 28 (0,0)):=by rw [← hW1];exact blk_old q1
 rw [hW1]
 have r1':=Lib.hid r1
 clear hW1 q1 u0 u1 u2 ul uf i0 i1 r1
 go_loopw [26] (fun x wr=>∃ (j:Nat) (tv gv:Value),x = .int .i64 (j:Int) ∧ j ≤ c.states.length ∧ Hid (TbAt w W1 B c rv w1.heap.size va vc sa sc j (gosF c.states j) none tv gv wr)) (fun x _=>c.states.length - (intOf x).toNat)
 case atStart=>exact ⟨0,_,_,rfl,Nat.zero_le _,hT0⟩
 case round =>
  obtain ⟨j,tv,gv,rfl,hj,hT⟩:=hrel
  rename World=>wr
  by_cases hlt:j < c.states.length
  ·have hI:(j:Int) < (c.states.length:Int):=by omega
   have A1:=Lib.hid (A.out W1 w1.heap.size j hlt tv gv wr hT.out)
   clear hT0 hT
   go_wp2_with fail
   refine A1.out.mono ?_
   rintro e w2 ⟨rfl,tv',gv',hT2⟩
   replace hT2:=Lib.hid hT2
   clear A1
   go_wp2
   go_roundw
   case rel=>exact ⟨j + 1,tv',gv',by go_num,by omega,hT2⟩
   case measure=>simp [intOf];omega
  ·have hI:¬ (j:Int) < (c.states.length:Int):=by omega
   obtain rfl:j = c.states.length:=by omega
   obtain ⟨xs,_,hxs⟩:=hT.out.rows
   obtain ⟨ys,_,hys⟩:=hT.out.gos
   obtain ⟨ta,tc,rfl⟩:=own_form hxs
   obtain ⟨ga,gc,rfl⟩:=own_form hys
   clear hxs hys
   have q:=hT.out.kp rb _ _ _ r1'.out (by decide) (by decide) (by decide) (by decide)
   obtain ⟨m0,m1,m2,ml,mf⟩:=cells3 q
   have i3:InW rb wr:=⟨ml⟩
   have f0:=mf 0
   have f1:=mf 1
   have f2:=mf 2
   have s0:=hasC_of m0
   have s1:=hasC_of m1
   have s2:=hasC_of m2
   have d0:wr.cell? ⟨w1.heap.size,0,none⟩ = some (.slice va c.vars.length vc):=by
    rw [cell_of_row wr _ _ _ _ _ hT.out.blk]
    rfl
   have d1:wr.cell? ⟨w1.heap.size,1,none⟩ = some (.slice ta c.states.length tc):=by
    rw [cell_of_row wr _ _ _ _ _ hT.out.blk]
    rfl
   have d2:wr.cell? ⟨w1.heap.size,2,none⟩ = some (.slice ga (gosF c.states c.states.length).length gc):=by
    rw [cell_of_row wr _ _ _ _ _ hT.out.blk]
    rfl
   have i4:InW w1.heap.size wr:=⟨lt_of_block hT.out.blk⟩
   have hq:=Lib.hid q
   clear hT0 A q mf
   go_wp2
   go_returns
   refine ⟨_,_,rfl,?_⟩
   have t0:TabV w B c rv (.slice ta c.states.length tc) (.slice ga (gosF c.states c.states.length).length gc) wr:=⟨hT.out.env,hT.out.rows,hT.out.gos⟩
   exact tabV_set (tabV_set (tabV_set t0 hq.out hrl) (blk_set hq.out) hrl) (blk_set (blk_set hq.out)) hrl
set_option maxRecDepth 100000 in
set_option maxHeartbeats 8000000 in
theorem tmake_no (O:OkC c) (hL:Lb w) (hC:ChV ct0 B w c rv (.slice va c.vars.length vc) (.slice sa c.states.length sc)) (hk:¬ (checkE c).1 = 0) :
  Calls Tryz.prog 21 #[.agg #[str c.name,.slice va c.vars.length vc,.slice sa c.states.length sc]] w (Ret (.tuple #[.agg #[.slice none 0 0,.slice none 0 0,.slice none 0 0],.int .i64 (checkE c).1]) w):=by
 have V:=Lib.hid (fun wx (hb:Below w.heap.size w wx)=>vcheck_any O wx (chV_keep hC hb) (lb_below hL hb))
 have e1:((checkE c).1 != 0) = true:=by simpa using hk
 generalize (checkE c).2 = nm at *
 generalize (checkE c).1 = q at *
 replace O:=Lib.hid O
 replace hk:=Lib.hid hk
 clear hL hC
 go_enter Tryz.func21,Tryz.ntmps21
 go_wp2_with (((with_reducible refine (V.out _ (by (first | exact gwT | exact lzT))).mono ?_);intro e w1 hr;obtain ⟨rfl,p,rfl⟩:=hr.out;clear hr))
 go_returns
 exact ⟨rfl,by (first | exact gwT | exact lzT)⟩
end
end Go.Proofs.YtncmnhccmemagaaGreatDoor
namespace Go.Proofs.YtncmnhccmemagaaGreatDoor
open Go.RowKit
def IsSl (v:Value):Prop:=∃ a n m,v = .slice a n m
structure TbC (c:Ch) (rv gi:Nat → Value) (b:Nat) (w:World):Prop where
 lt:b < w.heap.size
 at_:∀ k,k < c.states.length → ∀ j u,(rowC c.states k (gi k) (rv (3 * k)) (rv (3 * k + 1)))[j]? = some u → w.cell? ⟨b,k * 11 + j,none⟩ = some u
 sl:∀ k,k < c.states.length → IsSl (gi k) ∧ IsSl (rv (3 * k)) ∧ IsSl (rv (3 * k + 1))
section
variable {w0:World} {B:Nat} {c:Ch} {rv gi:Nat → Value} {b cap:Nat} {tv gv vv:Value} {w w':World}
theorem rwR_len {A i:Nat} {ss:List St} {cb:Option Nat} {v:List Value} (h:RwR A ss rv w cb i v):v.length = 11:=by
 obtain ⟨g,rfl,_⟩:=h
 rfl
theorem tbC_of {sv:Value} (hC:ChV ct0 B w0 c rv vv sv) (h:TabV w0 B c rv tv gv w) (h0:0 < c.states.length):∃ b cap gi,tv = .slice (some ⟨b,0,none⟩) c.states.length cap ∧ TbC c rv gi b w:=by
 obtain ⟨xs,hx,hO⟩:=h.rows
 obtain ⟨g,cap,e,hg,_,_,hc⟩:=own_head hO h0
 have H:∀ k,∃ gk,k < c.states.length → IsSl gk ∧ ∀ j u,(rowC c.states k gk (rv (3 * k)) (rv (3 * k + 1)))[j]? = some u → w.cell? ⟨g,k * 11 + j,none⟩ = some u:=fun k=>by
  by_cases hk:k < c.states.length
  ·obtain ⟨v,⟨gk,hv,ho,_⟩,hat⟩:=vs_at hx (fun _ _=>rwR_len) k (by simpa using hk)
   rw [List.getElem_range] at hv
   obtain ⟨oa,oc,hoe⟩:=own_form ho
   refine ⟨gk,fun _=>⟨⟨_,_,_,hoe⟩,fun j u hu=>hc _ _ ?_⟩⟩
   have hj:j < 11:=by
    have:=(List.getElem?_eq_some_iff.1 hu).1
    exact this
   rw [hat j hj,hv]
   exact hu
  ·exact ⟨.bool false,fun h=>absurd h hk⟩
 obtain ⟨gi,hgi⟩:=Classical.axiomOfChoice H
 refine ⟨g,cap,gi,e,hg,fun k hk=>(hgi k hk).2,fun k hk=>⟨(hgi k hk).1,?_,?_⟩⟩
 ·obtain ⟨a,m,e⟩:=blkRow_form (hC.ent k)
  exact ⟨_,_,_,e⟩
 ·obtain ⟨a,m,e⟩:=blkRow_form (hC.exi k)
  exact ⟨_,_,_,e⟩
theorem tbC_keep (h:TbC c rv gi b w) (hb:Below w.heap.size w w'):TbC c rv gi b w':=⟨Nat.lt_of_lt_of_le h.lt hb.size,fun k hk j u hu=>(hb.cell (p:=⟨b,_,none⟩) h.lt).trans (h.at_ k hk j u hu),h.sl⟩
theorem tbC_row (h:TbC c rv gi b w) {k:Nat} (hk:k < c.states.length):w.cell? ⟨b,k * 11,none⟩ = some (str (c.states.getD k st0).name) ∧ w.cell? ⟨b,k * 11 + 1,none⟩ = some (.int .i64 (c.states.getD k st0).kind) ∧ w.cell? ⟨b,k * 11 + 2,none⟩ = some (.int .i64 (c.states.getD k st0).parent) ∧ w.cell? ⟨b,k * 11 + 3,none⟩ = some (.int .i64 (begS c.states k)) ∧
  w.cell? ⟨b,k * 11 + 4,none⟩ = some (.int .u64 (upS c.states k:Int)) ∧ w.cell? ⟨b,k * 11 + 5,none⟩ = some (.int .u64 (undS c.states k:Int)) ∧ w.cell? ⟨b,k * 11 + 6,none⟩ = some (.int .u64 (kidS c.states k:Int)) ∧ w.cell? ⟨b,k * 11 + 7,none⟩ = some (.int .u64 (pasS c.states k:Int)) ∧
  w.cell? ⟨b,k * 11 + 8,none⟩ = some (gi k) ∧ w.cell? ⟨b,k * 11 + 9,none⟩ = some (rv (3 * k)) ∧ w.cell? ⟨b,k * 11 + 10,none⟩ = some (rv (3 * k + 1)) :=
 ⟨h.at_ k hk 0 _ rfl,h.at_ k hk 1 _ rfl,h.at_ k hk 2 _ rfl,h.at_ k hk 3 _ rfl,h.at_ k hk 4 _ rfl,h.at_ k hk 5 _ rfl,h.at_ k hk 6 _ rfl,h.at_ k hk 7 _ rfl,h.at_ k hk 8 _ rfl,h.at_ k hk 9 _ rfl,h.at_ k hk 10 _ rfl⟩
theorem fld_kind (nm:List UInt8) (k q p1 p2 p3 p4 p5:Int) (a6 a7 a8:Option Addr) (l6 l7 l8 m6 m7 m8:Nat) (w:World):(Instr.field 55 (.agg #[str nm,.int .i64 k,.int .i64 q,.int .i64 p1,.int .u64 p2,.int .u64 p3,.int .u64 p4,.int .u64 p5,.slice a6 l6 m6,.slice a7 l7 m7,.slice a8 l8 m8]) 1).run Tryz.prog w = .ok (.int .i64 k) w:=by kernel_rfl
theorem fld_up (nm:List UInt8) (k q p1 p2 p3 p4 p5:Int) (a6 a7 a8:Option Addr) (l6 l7 l8 m6 m7 m8:Nat) (w:World):(Instr.field 55 (.agg #[str nm,.int .i64 k,.int .i64 q,.int .i64 p1,.int .u64 p2,.int .u64 p3,.int .u64 p4,.int .u64 p5,.slice a6 l6 m6,.slice a7 l7 m7,.slice a8 l8 m8]) 4).run Tryz.prog w = .ok (.int .u64 p2) w:=by kernel_rfl
abbrev rowV (c:Ch) (rv gi:Nat → Value) (k:Nat):Value :=
 .agg #[str (c.states.getD k st0).name,.int .i64 (c.states.getD k st0).kind,.int .i64 (c.states.getD k st0).parent,.int .i64 (begS c.states k),.int .u64 (upS c.states k:Int),.int .u64 (undS c.states k:Int),.int .u64 (kidS c.states k:Int),.int .u64 (pasS c.states k:Int),gi k,rv (3 * k),rv (3 * k + 1)]
set_option maxRecDepth 100000 in
set_option maxHeartbeats 4000000 in
theorem trow_any {k:Nat} (hk:k < c.states.length) (h:TbC c rv gi b w):Calls Tryz.prog 23 #[.agg #[vv,.slice (some ⟨b,0,none⟩) c.states.length cap,gv],.int .i64 (k:Int)] w (Ret (rowV c rv gi k) w):=by
 obtain ⟨n0,n1,n2,n3,n4,n5,n6,n7,n8,n9,n10⟩:=tbC_row h hk
 have i0:InW b w:=⟨h.lt⟩
 have hI:¬ (c.states.length:Int) ≤ (k:Int):=by omega
 have hI2:(k:Int) < (c.states.length:Int):=by omega
 obtain ⟨⟨a6,l6,m6,e6⟩,⟨a7,l7,m7,e7⟩,⟨a8,l8,m8,e8⟩⟩:=h.sl k hk
 clear h
 unfold rowV
 rw [e6] at n8 ⊢
 rw [e7] at n9 ⊢
 rw [e8] at n10 ⊢
 clear e6 e7 e8
 generalize c.states.getD k st0 = s at *
 generalize begS c.states k = p1 at *
 generalize upS c.states k = p2 at *
 generalize undS c.states k = p3 at *
 generalize kidS c.states k = p4 at *
 generalize pasS c.states k = p5 at *
 go_enter Tryz.func23,Tryz.ntmps23
 go_wp2
 go_returns
 exact ⟨rfl,by (first | exact gwT | exact lzT)⟩
set_option maxRecDepth 100000 in
set_option maxHeartbeats 4000000 in
theorem tcomp_any {k:Nat} (hk:k < c.states.length) (h:TbC c rv gi b w):Calls Tryz.prog 10 #[.agg #[vv,.slice (some ⟨b,0,none⟩) c.states.length cap,gv],.int .i64 (k:Int)] w (Ret (.bool (compS c.states k)) w):=by
 have R:=Lib.hid (fun wx (hb:Below w.heap.size w wx)=>trow_any (vv:=vv) (gv:=gv) (cap:=cap) hk (tbC_keep h hb))
 have C:=Lib.hid (fun wx=>countS_any (kidS c.states k) (kidS_lt _ _) wx)
 obtain ⟨⟨a6,l6,m6,e6⟩,⟨a7,l7,m7,e7⟩,⟨a8,l8,m8,e8⟩⟩:=h.sl k hk
 unfold rowV at R
 rw [e6,e7,e8] at R
 clear e6 e7 e8
 unfold compS
 generalize c.states.getD k st0 = s at *
 generalize (numsS (kidS c.states k)).length = m at *
 generalize begS c.states k = p1 at *
 generalize upS c.states k = p2 at *
 generalize undS c.states k = p3 at *
 generalize kidS c.states k = p4 at *
 generalize pasS c.states k = p5 at *
 clear h
 have e2:decide (0 < m) = decide ((0:Int) < (m:Int)):=by rw [decide_eq_decide];omega
 rw [e2]
 clear e2
 cases h1:(s.kind == 1)
 ·cases h3:(s.kind == 3)
  ·go_enter Tryz.func10,Tryz.ntmps10
   go_wp2_with (first | ((with_reducible refine (R.out _ (by (first | exact gwT | exact lzT))).mono ?_);intro e w1 hr;obtain ⟨rfl,p,rfl⟩:=hr.out;clear hr) | ((with_reducible refine (C.out _).mono ?_);rintro e w1 ⟨rfl,rfl⟩))
   go_returns
   exact ⟨by simp,by (first | exact gwT | exact lzT)⟩
  ·go_enter Tryz.func10,Tryz.ntmps10
   go_wp2_with (first | ((with_reducible refine (R.out _ (by (first | exact gwT | exact lzT))).mono ?_);intro e w1 hr;obtain ⟨rfl,p,rfl⟩:=hr.out;clear hr) | ((with_reducible refine (C.out _).mono ?_);rintro e w1 ⟨rfl,rfl⟩))
   go_returns
   exact ⟨by simp,by (first | exact gwT | exact lzT)⟩
 ·go_enter Tryz.func10,Tryz.ntmps10
  go_wp2_with (first | ((with_reducible refine (R.out _ (by (first | exact gwT | exact lzT))).mono ?_);intro e w1 hr;obtain ⟨rfl,p,rfl⟩:=hr.out;clear hr) | ((with_reducible refine (C.out _).mono ?_);rintro e w1 ⟨rfl,rfl⟩))
  go_returns
  exact ⟨by simp,by (first | exact gwT | exact lzT)⟩
set_option maxRecDepth 100000 in
set_option maxHeartbeats 4000000 in
theorem tpast_any {k:Nat} (hk:k < c.states.length) (h:TbC c rv gi b w):Calls Tryz.prog 28 #[.agg #[vv,.slice (some ⟨b,0,none⟩) c.states.length cap,gv],.int .i64 (k:Int)] w (Ret (.bool (pastS (c.states.getD k st0))) w):=by
 have R:=Lib.hid (fun wx (hb:Below w.heap.size w wx)=>trow_any (vv:=vv) (gv:=gv) (cap:=cap) hk (tbC_keep h hb))
 obtain ⟨⟨a6,l6,m6,e6⟩,⟨a7,l7,m7,e7⟩,⟨a8,l8,m8,e8⟩⟩:=h.sl k hk
 unfold rowV at R
 rw [e6,e7,e8] at R
 clear e6 e7 e8
 unfold pastS
 generalize c.states.getD k st0 = s at *
 generalize begS c.states k = p1 at *
 generalize upS c.states k = p2 at *
 generalize undS c.states k = p3 at *
 generalize kidS c.states k = p4 at *
 generalize pasS c.states k = p5 at *
 clear h
 have F1:=fun wx=>fld_kind s.name s.kind s.parent p1 (p2:Int) (p3:Int) (p4:Int) (p5:Int) a6 a7 a8 l6 l7 l8 m6 m7 m8 wx
 cases h1:(s.kind == 6)
 ·cases h3:(s.kind == 7)
  ·go_enter Tryz.func28,Tryz.ntmps28
   go_wp2_with (first | ((with_reducible refine (R.out _ (by (first | exact gwT | exact lzT))).mono ?_);intro e w1 hr;obtain ⟨rfl,p,rfl⟩:=hr.out;clear hr))
   go_returns
   exact ⟨by simp,by (first | exact gwT | exact lzT)⟩
  ·go_enter Tryz.func28,Tryz.ntmps28
   go_wp2_with (first | ((with_reducible refine (R.out _ (by (first | exact gwT | exact lzT))).mono ?_);intro e w1 hr;obtain ⟨rfl,p,rfl⟩:=hr.out;clear hr))
   go_returns
   exact ⟨by simp,by (first | exact gwT | exact lzT)⟩
 ·go_enter Tryz.func28,Tryz.ntmps28
  go_wp2_with (first | ((with_reducible refine (R.out _ (by (first | exact gwT | exact lzT))).mono ?_);intro e w1 hr;obtain ⟨rfl,p,rfl⟩:=hr.out;clear hr))
  go_returns
  exact ⟨by simp,by (first | exact gwT | exact lzT)⟩
end
end Go.Proofs.YtncmnhccmemagaaGreatDoor
namespace Go.Proofs.YtncmnhccmemagaaGreatDoor
open Go.RowKit
attribute [local go_sem] Oper.semAt_some
def roundT (H:Nat) (I Ix:Nat → World → Prop) (j:Nat) (W:World):Exit → Act → World → Prop
 | .normal,_,W'=>(∀ k,k = H ∨ k = H + 1 → W'.heap[k]? = W.heap[k]?) ∧ I (j + 1) W'
 | .ret,_,W'=>(∀ k,k = H ∨ k = H + 1 → W'.heap[k]? = W.heap[k]?) ∧ Ix j W'
 | _,_,_=>False
theorem range_ret {g:Operand} {ps:Array Tmp} {assign body:Code} {Q:Exit → Act → World → Prop} {a:Act} {w:World} {n gf:Nat} {lb:Array Value} {vs:List (Array Value)} {Keep:World → Prop} (hn:1 ≤ n)
  (hgf:∀ args wx,(callFunc gf args).run Tryz.prog wx = .ok (.enter gf args) wx) (hg:a.eval g = .func (.func gf) #[] lb) (hps:∀ j (hj:j < vs.length),vs[j].size = ps.size) (C:GivesL (n - 1) gf lb vs Keep)
  (I Ix:Nat → World → Prop) (hK:∀ j W,I j W → Keep W)
  (hI:∀ p W W' r,I p W → W.grownBy W' (some (w.heap.size + 1)) → W.heap[w.heap.size + 1]? = some (.loop r) → I p W') (hIx:∀ p W W' r,Ix p W → W.grownBy W' (some (w.heap.size + 1)) → W.heap[w.heap.size + 1]? = some (.loop r) → Ix p W')
  (h0:∀ o o',I 0 ((w.alloc o).alloc o'))
  (hAB:∃ a₁:Nat → Act,(∀ (l j:Nat) (hj:j < vs.length) (W:World) (K:Act → World → Prop),K (a₁ j) W →
   assign.wpIn (Fence.wide.inRound l) (n - 1 - 1) Tryz.prog (Exit.then K (fun _ _ _=>False)) { tmps:=(ps.zip vs[j]).foldl (fun t (p,v)=>t.setIfInBounds p v) a.tmps,defers:=[] } W) ∧
   ∀ (l j:Nat) (_:j < vs.length) (W:World),I j W → body.wpIn (Fence.wide.inRound l) (n - 1 - 1) Tryz.prog (roundT w.heap.size I Ix j W) (a₁ j) W)
  (hdone:∀ (D:Nat) (W:World),D = w.heap.size → I vs.length W → W.heap[D]? = some (.deferred (some [])) → Q .normal { a with defers:={ target := .collected D,args:=#[] } :: a.defers } W)
  (hstop:∀ (D j:Nat) (W:World),D = w.heap.size → j < vs.length → Ix j W → W.heap[D]? = some (.deferred (some [])) → Code.ret.wpIn Fence.wide n Tryz.prog Q { a with defers:={ target := .collected D,args:=#[] } :: a.defers } W) :
  (Code.rangeFunc g ps assign body).wpIn Fence.wide n Tryz.prog Q a w:=by
 obtain ⟨a₁,hassign,hbody⟩:=hAB
 refine range_gen hn hgf hg hps C I (fun c j W=>c = .ret ∧ Ix j W) hK hI (fun c p W W' r h hg hr=>⟨h.1,hIx p W W' r h.2 hg hr⟩) h0 a₁ hassign (fun l j hj W h _ _=>wpIn_mono (hbody l j hj W h) ?_) (fun D W hD h hd=>hdone D W hD h hd) ?_
 ·intro e a' W' h
  cases e with
  | normal=>exact h
  | ret=>exact ⟨h.1,rfl,h.2⟩
  | exit i=>exact h.elim
  | goto t=>exact h.elim
  | panic c=>exact h.elim
  | outgrown=>exact h.elim
 ·rintro c D j W hD hj ⟨rfl,h⟩ hd
  exact hstop D j W hD hj h hd
section
variable {c:Ch} {rv gi:Nat → Value} {b cap:Nat} {gv vv:Value} {w:World}
theorem ints_at {l:List Nat} {lo:Option Addr} (h:IntsRd w lo (intsN l)) (i:Nat) (hi:i < l.length):∃ g o,lo = some ⟨g,o,none⟩ ∧ g < w.heap.size ∧ w.cell? ⟨g,o + i,none⟩ = some (.int .i64 (l[i]:Int)):=by
 obtain ⟨g,o,e,hg,hc⟩:=h i (by simpa [intsN] using hi)
 refine ⟨g,o,e,hg,?_⟩
 rw [hc]
 simp [intsN]
theorem trow_sh {k:Nat} (hk:k < c.states.length) (h:TbC c rv gi b w):∃ (nm:List UInt8) (kd q p1 p3 p4 p5:Int) (a6 a7 a8:Option Addr) (l6 l7 l8 m6 m7 m8:Nat),∀ wx,Below w.heap.size w wx → Calls Tryz.prog 23 #[.agg #[vv,.slice (some ⟨b,0,none⟩) c.states.length cap,gv],.int .i64 (k:Int)] wx
  (Ret (.agg #[str nm,.int .i64 kd,.int .i64 q,.int .i64 p1,.int .u64 (upS c.states k:Int),.int .u64 p3,.int .u64 p4,.int .u64 p5,.slice a6 l6 m6,.slice a7 l7 m7,.slice a8 l8 m8]) wx):=by
 obtain ⟨⟨a6,l6,m6,e6⟩,⟨a7,l7,m7,e7⟩,⟨a8,l8,m8,e8⟩⟩:=h.sl k hk
 refine ⟨(c.states.getD k st0).name,(c.states.getD k st0).kind,(c.states.getD k st0).parent,begS c.states k,(undS c.states k:Int),(kidS c.states k:Int),(pasS c.states k:Int),a6,a7,a8,l6,l7,l8,m6,m7,m8,fun wx hb=>?_⟩
 have R:=trow_any (vv:=vv) (gv:=gv) (cap:=cap) hk (tbC_keep h hb)
 unfold rowV at R
 rw [e6,e7,e8] at R
 exact R
set_option maxRecDepth 100000 in
set_option maxHeartbeats 8000000 in
theorem tbaround_any {a:Nat} (ha:a < c.states.length) (l:List Nat) (hl:∀ k ∈ l,k < c.states.length) (hll:l.length ≤ 1000) (lo:Option Addr) (lc:Nat) (hT:Db w) (h:TbC c rv gi b w) (hr:IntsRd w lo (intsN l)) :
  Calls Tryz.prog 8 #[.agg #[vv,.slice (some ⟨b,0,none⟩) c.states.length cap,gv],.int .i64 (a:Int),.slice lo l.length lc] w (Ret (.int .i64 (arndS c.states a l:Int)) w):=by
 have R:=Lib.hid (fun k (hk:k < c.states.length) wx (hb:Below w.heap.size w wx)=>trow_sh (vv:=vv) (gv:=gv) (cap:=cap) hk (tbC_keep h hb))
 have C:=Lib.hid (fun k (hk:k < c.states.length) wx (hb:Below w.heap.size w wx)=>tcomp_any (vv:=vv) (gv:=gv) (cap:=cap) hk (tbC_keep h hb))
 have hr':=Lib.hid (fun wx (hb:Below w.heap.size w wx)=>intsRd_keep hr hb)
 have hT':=Lib.hid (fun wx (hb:Below w.heap.size w wx)=>db_below hT hb)
 replace hl:=Lib.hid hl
 have hu:=upS_lt c.states a
 have hF:Hid (meetL c.states (upS c.states a) (l.drop 0) = meetL c.states (upS c.states a) l):=Lib.hid (by rw [List.drop_zero])
 have hFl:=meetL_lt (ss:=c.states) (l:=l) hu
 have hup:=Lib.hid (fun k (hk:k < 64) (h:(meetL c.states (upS c.states a) l).testBit k = true)=>show k < c.states.length by
  rw [meetL_bit,Bool.and_eq_true,up_bit hk,Bool.and_eq_true,decide_eq_true_eq] at h
  exact h.1.1)
 unfold arndS
 generalize meetL c.states (upS c.states a) l = F at *
 obtain ⟨nm,kd,q,p1,p3,p4,p5,a6,a7,a8,l6,l7,l8,m6,m7,m8,R0⟩:=R.out a ha w (Below.refl _ _)
 generalize upS c.states a = U at *
 have F1:=fun wx=>fld_up nm kd q p1 (U:Int) p3 p4 p5 a6 a7 a8 l6 l7 l8 m6 m7 m8 wx
 replace R0:=Lib.hid R0
 clear h hr hT ha
 refine (callsIn_wide (n:=9)).1 ?_
 refine callsIn_of_wp_marks Tryz.func8 rfl trivial ?_ rfl
 simp only [Tryz.ntmps8,List.size_toArray,List.length_cons,List.length_nil,Nat.reduceAdd,Nat.reduceSub,Array.replicate_succ,Array.replicate_zero,List.push_toArray,List.append_toArray,List.nil_append,List.cons_append]
 refine wpIn_wide.2 ?_
 go_wp2_with fail
 refine (R0.out _ (by (first | exact gwT | exact lzT))).mono ?_
 rintro e w1 ⟨rfl,hb1⟩
 have hw1:Below w.heap.size w w1:=Below.trans (by (first | exact gwT | exact lzT)) (hb1.mono (by simp;omega))
 have q0:=blk_keep (blk_old (heap_alloc_new w (.cells #[vv,.slice (some ⟨b,0,none⟩) c.states.length cap,gv] 28))) hb1
 have qr:Cell1 w1 (w.heap.size + 1) (.int .i64 0) 3:=blk_keep (new_at (b:=w.heap.size + 1) (by simp)) hb1
 have hz1:=hw1.size
 have hrl:w.heap.size ≤ w.heap.size + 1:=by omega
 clear R0 hb1
 generalize hrb:w.heap.size + 1 = rb at *
 dsimp only
 go_wp2
 go_loopw [7,17] (fun v x wr=>∃ (i s:Nat),v = .int .u64 (s:Int) ∧ x = .int .i64 (i:Int) ∧ i ≤ l.length ∧ s < 2 ^ 64 ∧ Hid (meetL c.states s (l.drop i) = F) ∧ Below w1.heap.size w1 wr) (fun _ x _=>l.length - (intOf x).toNat)
 case atStart=>exact ⟨0,U,rfl,rfl,Nat.zero_le _,hu,hF,Below.refl _ _⟩
 case round =>
  obtain ⟨i,s,rfl,rfl,hi,hs,hf,hb⟩:=hrel
  rename World=>wr
  have hwz:=hb.size
  obtain ⟨z0,z1,z2,zl,zf⟩:=cells3 (blk_keep q0 hb)
  have ib:InW w.heap.size wr:=⟨zl⟩
  by_cases hlt:i < l.length
  ·obtain ⟨g,o,rfl,hg,n1⟩:=ints_at (hr'.out wr (hw1.trans (hb.mono hz1))) i hlt
   have hk:=hl.out _ (List.getElem_mem hlt)
   have hm:=meetL_more (ss:=c.states) (s:=s) hlt
   rw [hf.out] at hm
   obtain ⟨nm',kd',q',p1',p3',p4',p5',a6',a7',a8',l6',l7',l8',m6',m7',m8',R1⟩:=R.out l[i] hk w (Below.refl _ _)
   have hu2:=upS_lt c.states l[i]
   generalize l[i] = k at *
   generalize upS c.states k = u at *
   have F2:=fun wx=>fld_up nm' kd' q' p1' (u:Int) p3' p4' p5' a6' a7' a8' l6' l7' l8' m6' m7' m8' wx
   have M:=Lib.hid (fun wx=>meet_any s u hs hu2 wx)
   have hs2:s &&& u < 2 ^ 64:=Nat.lt_of_le_of_lt Nat.and_le_left hs
   generalize s &&& u = t at *
   have hm':=Lib.hid hm.symm
   have R2:=Lib.hid (fun wx (hx:Below wr.heap.size wr wx)=>R1 wx (hw1.trans ((hb.trans (hx.mono hwz)).mono hz1)))
   have ig:InW g wr:=⟨hg⟩
   have hI:(i:Int) < (l.length:Int):=by omega
   clear hf hm R1 F1 zf
   go_wp2_with (first | ((with_reducible refine (R2.out _ (by (first | exact gwT | exact lzT))).mono ?_);intro e w1 hr;obtain ⟨rfl,p,rfl⟩:=hr.out;clear hr) | ((with_reducible refine (M.out _).mono ?_);rintro e w1 ⟨rfl,rfl⟩))
   go_roundw
   case rel=>exact ⟨i + 1,t,rfl,by go_num,by omega,hs2,hm',by (first | exact gwT | exact lzT)⟩
   case measure=>simp [intOf];omega
  ·have hI:¬ (i:Int) < (l.length:Int):=by omega
   have hm:=meetL_end (ss:=c.states) (s:=s) (show l.length ≤ i by omega)
   rw [hf.out] at hm
   subst hm
   have B:=Lib.hid (back_set F wr (hT'.out wr (hw1.trans (hb.mono hz1))))
   clear hf F1 zf hF
   go_wp2_with fail
   refine B.out.mono ?_
   rintro e W ⟨bb,cc,rfl,tk,hbb,hcc,hW⟩
   have hW1:Below w1.heap.size w1 W:=hb.trans (hW.mono hwz)
   have hWw:Below w.heap.size w W:=hw1.trans (hW1.mono hz1)
   have hrbW:rb < W.heap.size:=Nat.lt_of_lt_of_le (lt_of_block qr) hW1.size
   have hks:∀ k ∈ (numsS F).reverse,k < c.states.length:=fun k hk=>by
    rw [List.mem_reverse,nums_mem] at hk
    exact hup.out k hk.1 hk.2
   obtain ⟨FO,hFO⟩:∃ FO,(numsS F).reverse.find? (compS c.states) = FO:=⟨_,rfl⟩
   have hG:=back_gives 8 bb cc F hFl
   have hF0:((numsS F).reverse.drop 0).find? (compS c.states) = FO:=by rw [List.drop_zero];exact hFO
   generalize (numsS F).reverse = ks at *
   replace hF0:=Lib.hid hF0
   replace hks:=Lib.hid hks
   replace hG:=Lib.hid hG
   replace hup:=Lib.hid hup
   replace hFO:=Lib.hid hFO
   clear B
   dsimp only
   go_wp2
   refine (wpIn_wide (n:=9)).1 ?_
   refine range_ret (n:=9) (by decide) (enters_of Tryz.func57 (by kernel_rfl) rfl) rfl (fun j hj=>by rw [natsA_at];rfl) hG.out
    (fun j V=>(ks.drop j).find? (compS c.states) = FO ∧ TkAt 39 F bb cc V ∧ Below W.heap.size W V ∧ W.heap.size + 2 ≤ V.heap.size)
    (fun j V=>Cell1 V rb (.int .i64 ((FO.getD 0:Nat):Int)) 3 ∧ W.grownBy V (some rb) ∧ W.heap.size + 2 ≤ V.heap.size)
    (fun j V h=>h.2.1) ?hI ?hIx ?h0 ?ab ?done ?stop
   case hI =>
    rintro p V V' r ⟨g1,g2,g3,g4⟩ hg hr
    go_light
    have hne:∀ {k:Nat} {v:Value} {T:TypeId},Cell1 V k v T → Cell1 V' k v T:=fun {k v T} h=>cell1_low h hg (fun e=>by
     subst e
     unfold Cell1 at h
     rw [hr] at h
     cases h)
    have hb4:Below W.heap.size W V':=g3.grown hg g3.size fun k e=>by cases e;omega
    exact ⟨g1,⟨hne g2.set,hne g2.nx,hT'.out V' (hWw.trans (hb4.mono hWw.size))⟩,hb4,Nat.le_trans g4 hg.size⟩
   case hIx =>
    rintro p V V' r ⟨g2,g3,g4⟩ hg hr
    go_light
    exact ⟨cell1_low g2 hg (by omega),⟨hg.os.trans g3.os,hg.tape.trans g3.tape,hg.output.trans g3.output,Nat.le_trans g3.size hg.size,fun k hk hne=>(hg.block k (Nat.lt_of_lt_of_le hk g3.size) (by simp;omega)).trans (g3.block k hk hne)⟩,Nat.le_trans g4 hg.size⟩
   case h0 =>
    intro o o'
    exact ⟨hF0.out,tkAt_keep tk (by (first | exact gwT | exact lzT)),by (first | exact gwT | exact lzT),by simp⟩
   case ab =>
    apply Exists.intro
    constructor
    ·intro l j hj V K hK
     have hj':j < ks.length:=by simpa [natsA] using hj
     rw [natsA_at]
     obtain ⟨x,hx⟩:∃ x,ks.getD j 0 = x:=⟨_,rfl⟩
     rw [show ks[j]'hj' = x by rw [← hx];simp only [List.getD,List.getElem?_eq_getElem hj',Option.getD_some]]
     replace hx:=Lib.hid hx
     gi_wp2
     have hx2:=hx.out
     subst hx2
     exact hK
    ·rintro l j hj V ⟨g1,g2,g3,g4⟩
     go_light
     have hj':j < ks.length:=by simpa [natsA] using hj
     have hkd:ks.getD j 0 = ks[j]'hj':=by simp only [List.getD,List.getElem?_eq_getElem hj',Option.getD_some]
     have hkn:=hks.out _ (List.getElem_mem hj')
     have hm:=find_more (p:=compS c.states) hj'
     rw [g1] at hm
     have hWV:Below w1.heap.size w1 V:=hW1.trans (g3.mono hW1.size)
     have hwV:Below w.heap.size w V:=hw1.trans (hWV.mono hz1)
     have C1:=Lib.hid (fun wx (hx:Below V.heap.size V wx)=>C.out _ hkn wx (hwV.trans (hx.mono hwV.size)))
     obtain ⟨z0,z1,z2,zl,zf⟩:=cells3 (blk_keep q0 hWV)
     obtain ⟨zr,fr,yr⟩:=one_cells (cell1_keep qr hWV)
     have ib:InW w.heap.size V:=⟨zl⟩
     have ir:InW rb V:=⟨yr⟩
     have qrV:=Lib.hid (cell1_keep qr hWV)
     rw [hkd]
     generalize ks[j]'hj' = k at *
     have hszV:=g3.size
     have hgV:∀ p:Regrown,∀ i,i = W.heap.size ∨ i = W.heap.size + 1 → (G p V).heap[i]? = V.heap[i]?:=fun p i hi=>(belowG0 p V).block i (by omega)
     have hTV:=Lib.hid hT'
     cases hq:compS c.states k with
     | true =>
      rw [hq,if_pos rfl] at hm
      rw [hq] at C1
      replace hm:=Lib.hid hm
      replace g1:=Lib.hid g1
      replace g2:=Lib.hid g2
      replace g3:=Lib.hid g3
      clear hq
      gi_wp2_with fail
      refine ⟨trivial,(CallsIn.inRound l (callsIn_wide.2 (C1.out _ (Below.refl _ _)))).mono ?_⟩
      intro e w5 hr
      obtain ⟨rfl,p,rfl⟩:=hr.out
      clear hr
      gi_wp2
      have hbG:=belowG0 p (V.setCell ⟨rb,0,none⟩ (.int .i64 (k:Int)))
      have hzs:(V.setCell ⟨rb,0,none⟩ (.int .i64 (k:Int))).heap.size = V.heap.size:=by simp
      refine ⟨fun i hi=>(hbG.block i (by omega)).trans (set_heap (by omega)),?_,?_,?_⟩
      ·rw [hm.out]
       exact cell1_keep (set_one qrV.out) hbG
      ·have g2:=g3.out
       refine ⟨hbG.os.trans g2.os,hbG.tape.trans g2.tape,hbG.output.trans g2.output,Nat.le_trans g2.size (by rw [← hzs];exact hbG.size),fun i hi hne=>(hbG.block i (by have:=g2.size;omega)).trans ((set_heap (fun e=>hne (by rw [e]))).trans (g2.block i hi))⟩
      ·have:=hbG.size
       omega
     | false =>
      rw [hq,if_neg Bool.false_ne_true] at hm
      rw [hq] at C1
      replace hm:=Lib.hid hm
      replace g1:=Lib.hid g1
      replace g2:=Lib.hid g2
      replace g3:=Lib.hid g3
      clear hq
      gi_wp2_with fail
      refine ⟨trivial,(CallsIn.inRound l (callsIn_wide.2 (C1.out _ (Below.refl _ _)))).mono ?_⟩
      intro e w5 hr
      obtain ⟨rfl,p,rfl⟩:=hr.out
      clear hr
      gi_wp2
      have hbG:=belowG0 p V
      exact ⟨fun i hi=>hgV p i hi,hm.out.symm,tkAt_keep g2.out hbG,g3.out.trans (hbG.mono hszV),Nat.le_trans g4 hbG.size⟩
   case done =>
    rintro D V hD ⟨g1,g2,g3,g4⟩ hK
    have hn0:FO = none:=by
     rw [← g1,show (natsA ks).length = ks.length by simp [natsA],List.drop_of_length_le (Nat.le_refl _)]
     rfl
    subst hn0
    have hWV:Below w1.heap.size w1 V:=hW1.trans (g3.mono hW1.size)
    have hwV:Below w.heap.size w V:=hw1.trans (hWV.mono hz1)
    obtain ⟨zr,fr,yr⟩:=one_cells (cell1_keep qr hWV)
    have qrV:=Lib.hid (cell1_keep qr hWV)
    have hszV:=g3.size
    have hKh:=Lib.hid hK
    clear g1 g2 hF0 hks hup hG C R hK
    go_wp2
    have hgD:=grownBy_putObj' (V.setCell ⟨rb,0,none⟩ (.int .i64 0)) D (.deferred none)
    have q9:=cell1_low (set_one (u := .int .i64 0) qrV.out) hgD (by omega)
    have zz:=(one_cells q9).1
    refine ⟨by simp,.inl ⟨_,_,rfl,run_takeDeferred ((set_heap (by omega)).trans hKh.out),?_⟩⟩
    refine ⟨.int .i64 0,by simp [results,Tryz.f8,go_sem,zz],by rw [hFO.out];rfl,(Below.setCell hwV (show w.heap.size ≤ rb by omega) _).grown hgD (by simpa using hwV.size) fun k e=>by cases e;omega⟩
   case stop =>
    rintro D j V hD hj ⟨g2,g3,g4⟩ hK
    obtain ⟨zr,fr,yr⟩:=one_cells g2
    have hw:Below w.heap.size w V:=hWw.grown g3 hWw.size fun k e=>by cases e;omega
    have g2':=Lib.hid g2
    clear hF0 hks hup hG C R
    gi_wp2
    have hgD:=grownBy_putObj' V D (.deferred none)
    have zz:=(one_cells (cell1_low g2'.out hgD (by omega))).1
    refine ⟨by simp,.inl ⟨_,_,rfl,run_takeDeferred hK,?_⟩⟩
    refine ⟨.int .i64 ((FO.getD 0:Nat):Int),by simp [results,Tryz.f8,go_sem,zz],by rw [hFO.out],hw.grown hgD hw.size fun k e=>by cases e;omega⟩
end
end Go.Proofs.YtncmnhccmemagaaGreatDoor
