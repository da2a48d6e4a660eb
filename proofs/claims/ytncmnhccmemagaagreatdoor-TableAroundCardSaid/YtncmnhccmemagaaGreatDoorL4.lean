/- Several texts of this proof, joined: DK, DS, CK. -/
import Derived.Test.YtncmnhccmemagaaGreatDoorL3
import Derived.Test.YtncmnhccmemagaaGreatDoorL1
import Derived.Test.YtncmnhccmemagaaGreatDoorQ7
import Derived.Test.YtncmnhccmemagaaGreatDoorV5
import Derived.Test.YtncmnhccmemagaaGreatDoorW3
import Derived.Test.YtncmnhccmemagaaGreatDoorV1
import Derived.Test.YtncmnhccmemagaaGreatDoorY6
import Derived.Test.YtncmnhccmemagaaGreatDoorZ7
import Derived.Test.YtncmnhccmemagaaGreatDoorY1
import Derived.Lib.ItoaNum
import Derived.Test.YtncmnhccmemagaaGreatDoorP2
import Derived.Test.YtncmnhccmemagaaGreatDoorP3
import Derived.BigRegion
import Derived.WalkKit
import Derived.ProofKit
import Derived.OpenShut
import Derived.Handy
import Derived.BigQuiet
import Derived.OwnWalk
import Derived.Lib.Hide
import Derived.WalkSmall
import Derived.WalkLawsBesides
import Derived.Test.YtncmnhccmemagaaGreatDoorQ5
namespace Go.Proofs.YtncmnhccmemagaaGreatDoor
open Go.RowKit
theorem chV_set1 {t:TypeId} {B b j:Nat} {w:World} {c:Ch} {rv:Nat → Value} {vv sv u:Value} {cs:Array Value} {fr:Nat × Nat} (h:ChV ct1 B w c rv vv sv) (hb:w.heap[b]? = some (.cells cs t fr)) (ht:t = 28 ∨ t = 32):ChV ct1 B (w.setCell ⟨b,j,none⟩ u) c rv vv sv:=by
 have key:∀ e,t ≠ e → Tp B B w (w.setCell ⟨b,j,none⟩ u) e:=fun e he=>tp_set hb he
 have k:Fx ct1 B B w (w.setCell ⟨b,j,none⟩ u):=by
  rcases ht with rfl | rfl <;> exact ⟨key _ (by decide),key _ (by decide),key _ (by decide)⟩
 rcases ht with rfl | rfl
 all_goals
  exact ⟨key _ (by decide) _ _ _ _ h.vars,key _ (by decide) _ _ _ _ h.sts,fun i=>blkRow_tp k (h.ent i) fun _ _=>key _ (by decide) _ _ _ _,fun i=>blkRow_tp k (h.exi i) fun _ _=>key _ (by decide) _ _ _ _,fun i=>trRow_tp k (h.trs i) fun _ _=>key _ (by decide) _ _ _ _⟩
theorem tbC_set {c:Ch} {rv gi:Nat → Value} {b k j:Nat} {u:Value} {w:World} (h:TbC c rv gi b w) (hne:b ≠ k):TbC c rv gi b (w.setCell ⟨k,j,none⟩ u) :=
 ⟨by rw [World.size_setCell];exact h.lt,fun i hi l v hv=>by
  have:=h.at_ i hi l v hv
  rw [← this]
  exact World.cell?_setCell_far _ _ _ _ (fun e=>hne e.symm),h.sl⟩
abbrev put6 (w:World) (p q:Nat) (v0 v1 v2 u0 u1 u2:Value):World:=(((((w.setCell ⟨p,0,none⟩ v0).setCell ⟨p,1,none⟩ v1).setCell ⟨p,2,none⟩ v2).setCell ⟨q,0,none⟩ u0).setCell ⟨q,1,none⟩ u1).setCell ⟨q,2,none⟩ u2
theorem put_made {A b p q:Nat} {w w3:World} {c:Ch} {rv rx gi:Nat → Value} {vv sv v0 v1 v2 u0 u1 u2:Value} {c0 c1:Array Value} (hC:TbC c rv gi b w3) (hX:ChV ct1 0 w3 c rx vv sv) (s0:w3.heap[p]? = some (.cells c0 28 (0,0))) (s1:w3.heap[q]? = some (.cells c1 32 (0,0)))
  (hpq:p ≠ q) (hbp:b ≠ p) (hbq:b ≠ q) (hw:Below A w w3) (hp:A ≤ p) (hq:A ≤ q) :
  TbC c rv gi b (put6 w3 p q v0 v1 v2 u0 u1 u2) ∧ ChV ct1 0 (put6 w3 p q v0 v1 v2 u0 u1 u2) c rx vv sv ∧ Below A w (put6 w3 p q v0 v1 v2 u0 u1 u2):=by
 have t1:=blk_far (i:=2) (v:=v2) (blk_far (i:=1) (v:=v1) (blk_far (i:=0) (v:=v0) s1 hpq.symm) hpq.symm) hpq.symm
 exact ⟨tbC_set (tbC_set (tbC_set (tbC_set (tbC_set (tbC_set hC hbp) hbp) hbp) hbq) hbq) hbq,
  chV_set1 (chV_set1 (chV_set1 (chV_set1 (chV_set1 (chV_set1 hX s0 (.inl rfl)) (blk_set s0) (.inl rfl)) (blk_set (blk_set s0)) (.inl rfl)) t1 (.inr rfl)) (blk_set t1) (.inr rfl)) (blk_set (blk_set t1)) (.inr rfl),
  (((((hw.setCell (p:=⟨p,0,none⟩) hp _).setCell (p:=⟨p,1,none⟩) hp _).setCell (p:=⟨p,2,none⟩) hp _).setCell (p:=⟨q,0,none⟩) hq _).setCell (p:=⟨q,1,none⟩) hq _).setCell (p:=⟨q,2,none⟩) hq _⟩
theorem below_put6 {A p q:Nat} {w w3:World} {v0 v1 v2 u0 u1 u2:Value} (hw:Below A w w3) (hp:A ≤ p) (hq:A ≤ q):Below A w (put6 w3 p q v0 v1 v2 u0 u1 u2) :=
 (((((hw.setCell (p:=⟨p,0,none⟩) hp _).setCell (p:=⟨p,1,none⟩) hp _).setCell (p:=⟨p,2,none⟩) hp _).setCell (p:=⟨q,0,none⟩) hq _).setCell (p:=⟨q,1,none⟩) hq _).setCell (p:=⟨q,2,none⟩) hq _
def MdOk (c:Ch) (w:World) (e:Ending) (w':World):Prop :=
 ∃ (rv rx gi:Nat → Value) (va:Option Addr) (vc b cap:Nat) (ga:Option Addr) (gc:Nat) (xa:Option Addr) (xc:Nat) (ya:Option Addr) (yc:Nat),e = .returned (.tuple #[.agg #[.slice va c.vars.length vc,.slice (some ⟨b,0,none⟩) c.states.length cap,.slice ga (gosT c.states).length gc],.agg #[str c.name,.slice xa c.vars.length xc,.slice ya c.states.length yc],.bool true]) ∧
  TbC c rv gi b w' ∧ ChV ct1 0 w' c rx (.slice xa c.vars.length xc) (.slice ya c.states.length yc) ∧ Below w.heap.size w w'
def MdNo (w:World) (e:Ending) (w':World):Prop :=
 ∃ (a b c x y:Option Addr) (i j k l m n p q r s:Nat) (t:List UInt8),e = .returned (.tuple #[.agg #[.slice a i j,.slice b k l,.slice c m n],.agg #[str t,.slice x p q,.slice y r s],.bool false]) ∧ Below w.heap.size w w'
set_option maxRecDepth 100000 in
set_option maxHeartbeats 4000000 in
theorem made_yes {c:Ch} (s:ByteArray) (hs:s.size ≤ 2000000) (hx:chartT s.data.toList = .ok c) (hk:(checkE c).1 = 0) (w:World) (hw:Al w) (hT:Db w):Calls Tryz.prog 7 #[.string s] w (MdOk c w):=by
 have O:=okC_of hx
 have SZ:=size_told (l:=s.data.toList) (c:=c) (y:=0) (n:=0) (by rw [hx];exact ⟨fun d h=>(by cases h;exact ⟨rfl,rfl,rfl⟩),fun _ _ h=>(by cases h)⟩)
 have P:=Lib.hid (fun wx (hb:Below w.heap.size w wx)=>cparse_ok s (by omega) hx wx (al_below hw hb))
 have LB:=Lib.hid (fun wx (hb:Below w.heap.size w wx)=>(al_below hw hb).ax.lb)
 have hT':=Lib.hid (fun wx (hb:Below w.heap.size w wx)=>db_below hT hb)
 replace O:=Lib.hid O
 replace SZ:=Lib.hid SZ
 replace hk:=Lib.hid hk
 clear hx hw hT
 go_enter Tryz.func7,Tryz.ntmps7
 go_wp2_with fail
 refine (P.out _ (by (first | exact gwT | exact lzT))).mono ?_
 rintro e w1 ⟨rv,va,vc,sa,sc,rfl,hV,hb⟩
 have hw1:Below w.heap.size w w1:=Below.trans (by (first | exact gwT | exact lzT)) (hb.mono (by simp;omega))
 have hV0:=Lib.hid (fun wx (hx:Below w1.heap.size w1 wx)=>chV_keep hV hx)
 have r0:=blk_keep (blk_old (heap_alloc_new w (.cells #[.slice none 0 0,.slice none 0 0,.slice none 0 0] 28))) hb
 have r1:=blk_keep (new_at (b:=w.heap.size + 1) (w:=w.alloc (.cells #[.slice none 0 0,.slice none 0 0,.slice none 0 0] 28)) (o := .cells #[.string ⟨#[]⟩,.slice none 0 0,.slice none 0 0] 32) (by simp)) hb
 have hz1:=hw1.size
 have hr01:w.heap.size ≤ w.heap.size + 1:=by omega
 have hr0:w.heap.size < w1.heap.size:=lt_of_block r0
 clear P hb hV
 generalize hrb:w.heap.size + 1 = rb at *
 obtain ⟨W1,hW1⟩:∃ W1,w1.alloc (.cells #[str c.name,.slice va c.vars.length vc,.slice sa c.states.length sc] 62) = W1:=⟨_,rfl⟩
 have hb1:Below w1.heap.size w1 W1:=by rw [← hW1];(first | exact gwT | exact lzT)
 have q1:W1.heap[w1.heap.size]? = some (.cells #[str c.name,.slice va c.vars.length vc,.slice sa c.states.length sc] 62 (0,0)):=by rw [← hW1];exact heap_alloc_new w1 _
 have hz2:=hb1.size
 have M:=Lib.hid (tmake_yes (w:=W1) O.out (hT'.out _ (hw1.trans (hb1.mono hz1))) (LB.out _ (hw1.trans (hb1.mono hz1))) (hV0.out _ hb1) hk.out)
 replace hW1:=Lib.hid hW1
 replace q1:=Lib.hid q1
 dsimp only
 go_wp2_with fail
 rw [hW1.out]
 refine M.out.mono ?_
 rintro e w2 ⟨tv,gv,rfl,hTV⟩
 obtain ⟨ys,_,hys⟩:=hTV.gos
 obtain ⟨ga,gc,rfl⟩:=own_form hys
 clear hys
 obtain ⟨b,cap,gi,rfl,hTC⟩:=tbC_of (hV0.out _ hb1) hTV O.out.some
 have hbl:W1.heap.size ≤ b:=by
  obtain ⟨xs,_,hxs⟩:=hTV.rows
  exact (hxs.lt b rfl).1
 have hb2:=hTV.env
 obtain ⟨u0,u1,u2,ul,uf⟩:=cells3 (blk_keep q1.out hb2)
 have i1:InW w1.heap.size w2:=⟨ul⟩
 have hw2:Below w1.heap.size w1 w2:=hb1.trans (hb2.mono hz2)
 have hz3:=hw2.size
 have C:=Lib.hid (fun wx (hx:Below w2.heap.size w2 wx)=>mchart_all (B:=0) SZ.out wx (Nat.zero_le _) (chV_base (hV0.out wx (hw2.trans (hx.mono hz3))) (Nat.zero_le _)))
 replace hTV:=Lib.hid hTV
 replace hTC:=Lib.hid hTC
 clear M q1 uf
 dsimp only
 go_wp2_with fail
 refine (C.out _ (by (first | exact gwT | exact lzT))).mono ?_
 rintro e w3 ⟨rx,vx,sx,rfl,hX,hb3⟩
 obtain ⟨xa,xc,ya,yc,rfl,rfl⟩:=chV_form hX
 obtain ⟨W2,hW2⟩:∃ W2,w2.alloc (.cells #[.slice va c.vars.length vc,.slice (some ⟨b,0,none⟩) c.states.length cap,.slice ga (gosT c.states).length gc] 28) = W2:=⟨_,rfl⟩
 rw [hW2] at hb3
 have t2:W2.heap[w2.heap.size]? = some (.cells #[.slice va c.vars.length vc,.slice (some ⟨b,0,none⟩) c.states.length cap,.slice ga (gosT c.states).length gc] 28 (0,0)):=by rw [← hW2];exact heap_alloc_new w2 _
 have hb22:Below w2.heap.size w2 W2:=by rw [← hW2];(first | exact gwT | exact lzT)
 have hb23:Below w2.heap.size w2 w3:=hb22.trans (hb3.mono hb22.size)
 have t3:=blk_keep t2 hb3
 have hw3:Below w.heap.size w w3:=hw1.trans ((hw2.trans (hb23.mono hz3)).mono hz1)
 have s0:=blk_keep (blk_keep r0 hw2) hb23
 have s1:=blk_keep (blk_keep r1 hw2) hb23
 obtain ⟨a0,a1,a2,al,af⟩:=cells3 t3
 obtain ⟨b0,b1,b2,bl,bf⟩:=cells3 s0
 obtain ⟨d0,d1,d2,dl,df⟩:=cells3 s1
 have f0:=bf 0
 have f1:=bf 1
 have f2:=bf 2
 have g0:=df 0
 have g1:=df 1
 have g2:=df 2
 have e0:=hasC_of b0
 have e1:=hasC_of b1
 have e2:=hasC_of b2
 have e3:=hasC_of d0
 have e4:=hasC_of d1
 have e5:=hasC_of d2
 have j0:InW w.heap.size w3:=⟨bl⟩
 have j1:InW rb w3:=⟨dl⟩
 have j2:InW w2.heap.size w3:=⟨al⟩
 have hz21:w1.heap.size < W1.heap.size:=by
  have:=lt_of_block r1
  rw [← hW1.out,World.size_alloc]
  omega
 have hrb1:rb < w1.heap.size:=lt_of_block r1
 have hC3:=tbC_keep hTC.out hb23
 have hfin:=Lib.hid hw3
 replace s0:=Lib.hid s0
 replace s1:=Lib.hid s1
 replace hC3:=Lib.hid hC3
 replace hX:=Lib.hid hX
 clear r0 r1 t2 t3 hb22 hb23 hb3 hW2 hw3 hTC hTV C hw2 hb2 hb1 hw1 hV0 af bf df LB hT' hW1
 go_wp2_with fail
 go_region
 obtain ⟨k1,k2,k3⟩:=put_made (v0 := .slice va c.vars.length vc) (v1 := .slice (some ⟨b,0,none⟩) c.states.length cap) (v2 := .slice ga (gosT c.states).length gc) (u0 := .string ⟨c.name.toArray⟩) (u1 := .slice xa c.vars.length xc) (u2 := .slice ya c.states.length yc) hC3.out hX.out s0.out s1.out (by omega) (by omega) (by omega) hfin.out (Nat.le_refl _) hr01
 have hK:=Lib.hid k1
 have hK2:=Lib.hid k2
 have hK3:=Lib.hid k3
 clear k1 k2 k3
 go_wp2
 go_returns
 refine ⟨rv,rx,gi,va,vc,b,cap,ga,gc,xa,xc,ya,yc,rfl,tbC_keep hK.out ?_,chV_keep hK2.out ?_,hK3.out.trans (Below.mono (B:=(put6 w3 w.heap.size rb _ _ _ _ _ _).heap.size) ?_ hK3.out.size)⟩
 all_goals
  (first | exact gwT | exact lzT)
end Go.Proofs.YtncmnhccmemagaaGreatDoor
namespace Go.Proofs.YtncmnhccmemagaaGreatDoor
open Go.RowKit
theorem below_6a {A p q:Nat} {w w3:World} {v0 v1 v2 u0 u1 u2:Value} (hw:Below A w w3) (hA:A ≤ w3.heap.size) (hp:A ≤ p) (hq:A ≤ q) (o:Obj):Below A w (((((((w3.setCell ⟨p,0,none⟩ v0).setCell ⟨p,1,none⟩ v1).setCell ⟨p,2,none⟩ v2).setCell ⟨q,0,none⟩ u0).setCell ⟨q,1,none⟩ u1).setCell ⟨q,2,none⟩ u2).alloc o):=by
 have h:=below_put6 (v0:=v0) (v1:=v1) (v2:=v2) (u0:=u0) (u1:=u1) (u2:=u2) hw hp hq
 refine h.alloc ?_ _
 simpa using hA
set_option maxRecDepth 100000 in
set_option maxHeartbeats 4000000 in
theorem made_no (s:ByteArray) (hs:s.size ≤ 2000000) (h:∀ c,chartT s.data.toList = .ok c → ¬ (checkE c).1 = 0) (w:World) (hw:Al w):Calls Tryz.prog 7 #[.string s] w (MdNo w):=by
 cases hx:chartT s.data.toList with
 | error x =>
  have P:=Lib.hid (fun wx (hb:Below w.heap.size w wx)=>cparse_no s (by omega) (by rw [hx];exact fun c h=>by cases h) wx (al_below hw hb))
  clear hw hx h
  go_enter Tryz.func7,Tryz.ntmps7
  go_wp2_with fail
  refine (P.out _ (by (first | exact gwT | exact lzT))).mono ?_
  rintro e w1 ⟨v1,v2,v3,y,n,rfl,hy,⟨a1,a2,a3,b1,b2,b3,t,rfl,rfl,rfl⟩,hb⟩
  have hw1:Below w.heap.size w w1:=Below.trans (by (first | exact gwT | exact lzT)) (hb.mono (by simp;omega))
  have r0:=blk_keep (blk_old (heap_alloc_new w (.cells #[.slice none 0 0,.slice none 0 0,.slice none 0 0] 28))) hb
  have r1:=blk_keep (new_at (b:=w.heap.size + 1) (w:=w.alloc (.cells #[.slice none 0 0,.slice none 0 0,.slice none 0 0] 28)) (o := .cells #[.string ⟨#[]⟩,.slice none 0 0,.slice none 0 0] 32) (by simp)) hb
  have hr01:w.heap.size ≤ w.heap.size + 1:=by omega
  have hy2:(y != 0) = true:=by rw [bne,hy];rfl
  obtain ⟨b0',b1',b2',bl,bf⟩:=cells3 r0
  obtain ⟨d0,d1,d2,dl,df⟩:=cells3 r1
  clear P hb
  have f0:=bf 0
  have f1:=bf 1
  have f2:=bf 2
  have g0:=df 0
  have g1:=df 1
  have g2:=df 2
  have e0:=hasC_of b0'
  have e1:=hasC_of b1'
  have e2:=hasC_of b2'
  have e3:=hasC_of d0
  have e4:=hasC_of d1
  have e5:=hasC_of d2
  have j0:InW w.heap.size w1:=⟨bl⟩
  have j1:InW (w.heap.size + 1) w1:=⟨dl⟩
  clear bf df r0 r1
  dsimp only
  go_wp2
  go_returns
  refine ⟨none,none,none,none,none,0,0,0,0,0,0,0,0,0,0,[],rfl,?_⟩
  exact below_6a hw1 hw1.size (Nat.le_refl _) (Nat.le_succ _) _
 | ok c =>
  have hk:=h c hx
  have O:=okC_of hx
  have SZ:=size_told (l:=s.data.toList) (c:=c) (y:=0) (n:=0) (by rw [hx];exact ⟨fun d h=>(by cases h;exact ⟨rfl,rfl,rfl⟩),fun _ _ h=>(by cases h)⟩)
  have P:=Lib.hid (fun wx (hb:Below w.heap.size w wx)=>cparse_ok s (by omega) hx wx (al_below hw hb))
  have LB:=Lib.hid (fun wx (hb:Below w.heap.size w wx)=>(al_below hw hb).ax.lb)
  have e1:((checkE c).1 == 0) = false:=by simpa using hk
  replace O:=Lib.hid O
  replace SZ:=Lib.hid SZ
  replace hk:=Lib.hid hk
  clear hx hw h
  go_enter Tryz.func7,Tryz.ntmps7
  go_wp2_with fail
  refine (P.out _ (by (first | exact gwT | exact lzT))).mono ?_
  rintro e w1 ⟨rv,va,vc,sa,sc,rfl,hV,hb⟩
  have hw1:Below w.heap.size w w1:=Below.trans (by (first | exact gwT | exact lzT)) (hb.mono (by simp;omega))
  have hV0:=Lib.hid (fun wx (hx:Below w1.heap.size w1 wx)=>chV_keep hV hx)
  have r0:=blk_keep (blk_old (heap_alloc_new w (.cells #[.slice none 0 0,.slice none 0 0,.slice none 0 0] 28))) hb
  have r1:=blk_keep (new_at (b:=w.heap.size + 1) (w:=w.alloc (.cells #[.slice none 0 0,.slice none 0 0,.slice none 0 0] 28)) (o := .cells #[.string ⟨#[]⟩,.slice none 0 0,.slice none 0 0] 32) (by simp)) hb
  have hz1:=hw1.size
  have hr01:w.heap.size ≤ w.heap.size + 1:=by omega
  have hr0:w.heap.size < w1.heap.size:=lt_of_block r0
  clear P hb hV
  have M:=Lib.hid (fun wx (hx:Below w1.heap.size w1 wx)=>tmake_no (w:=wx) O.out (LB.out _ (hw1.trans (hx.mono hz1))) (hV0.out _ hx) hk.out)
  have C:=Lib.hid (fun wx (hx:Below w1.heap.size w1 wx)=>mchart_all (B:=0) SZ.out wx (Nat.zero_le _) (chV_base (hV0.out wx hx) (Nat.zero_le _)))
  generalize (checkE c).1 = q at *
  have q1:=heap_alloc_new w1 (.cells #[str c.name,.slice va c.vars.length vc,.slice sa c.states.length sc] 62 (0,0))
  have q1':=Lib.hid q1
  have r0':=Lib.hid r0
  have r1':=Lib.hid r1
  clear q1 r0 r1
  dsimp only
  go_wp2_with fail
  refine (M.out _ (by (first | exact gwT | exact lzT))).mono ?_
  rintro e w2 ⟨rfl,hb2⟩
  have hw2:Below w1.heap.size w1 w2:=Below.trans (by (first | exact gwT | exact lzT)) (hb2.mono (by simp))
  obtain ⟨u0,u1,u2,ul,-⟩:=cells3 (blk_keep q1'.out hb2)
  have i1:InW w1.heap.size w2:=⟨ul⟩
  have C2:=Lib.hid (fun wx (hx:Below w2.heap.size w2 wx)=>C.out wx (hw2.trans (hx.mono hw2.size)))
  have t2:=Lib.hid (heap_alloc_new w2 (.cells #[.slice none 0 0,.slice none 0 0,.slice none 0 0] 28 (0,0)))
  have hz2:=hw2.size
  have hw2':=Lib.hid hw2
  clear M C hb2 hw2
  dsimp only
  go_wp2_with fail
  refine (C2.out _ (by (first | exact gwT | exact lzT))).mono ?_
  rintro e w3 ⟨rx,vx,sx,rfl,hX,hb3⟩
  obtain ⟨xa,xc,ya,yc,rfl,rfl⟩:=chV_form hX
  have hb23:Below w2.heap.size w2 w3:=Below.trans (by (first | exact gwT | exact lzT)) (hb3.mono (by simp))
  have hw13:=hw2'.out.trans (hb23.mono hz2)
  have hw3:=Lib.hid (hw1.trans (hw13.mono hz1))
  obtain ⟨a0,a1,a2,al,-⟩:=cells3 (blk_keep t2.out hb3)
  obtain ⟨b0',b1',b2',bl,bf⟩:=cells3 (blk_keep r0'.out hw13)
  obtain ⟨d0,d1,d2,dl,df⟩:=cells3 (blk_keep r1'.out hw13)
  have f0:=bf 0
  have f1:=bf 1
  have f2:=bf 2
  have g0:=df 0
  have g1:=df 1
  have g2:=df 2
  have h0:=hasC_of b0'
  have h1:=hasC_of b1'
  have h2:=hasC_of b2'
  have h3:=hasC_of d0
  have h4:=hasC_of d1
  have h5:=hasC_of d2
  have j0:InW w.heap.size w3:=⟨bl⟩
  have j1:InW (w.heap.size + 1) w3:=⟨dl⟩
  have j2:InW w2.heap.size w3:=⟨al⟩
  clear bf df hb3 hb23 hw13 hX C2 t2 r0' r1' q1' hw2'
  dsimp only
  go_wp2_with fail
  go_region
  go_wp2
  go_returns
  refine ⟨none,none,none,xa,ya,0,0,0,0,0,0,c.vars.length,xc,c.states.length,yc,c.name,rfl,?_⟩
  exact (below_6a hw3.out hw3.out.size (Nat.le_refl _) (Nat.le_succ _) _).drew
def text11:ByteArray:=⟨#[99,104,97,114,116,32,99,10,115,116,97,116,101,32,97,10,115,116,97,116,101,32,98,10,101,110,100,10,115,116,97,116,101,32,99,10,101,110,100,10,101,110,100]⟩
def ch11:Ch:=⟨[99],[],[⟨[99],1,-1,[],[],[],[]⟩,⟨[97],3,0,[],[],[],[]⟩,⟨[98],3,1,[],[],[],[]⟩,⟨[99],3,1,[],[],[],[]⟩]⟩
theorem chart_11:chartT text11.data.toList = .ok ch11:=by kernel_rfl
theorem check_11:(checkE ch11).1 = 0:=by kernel_rfl
theorem beg_11:begS ch11.states 1 = 2:=by kernel_rfl
theorem arnd_11:arndS ch11.states 2 [3] = 1:=by kernel_rfl
set_option maxRecDepth 100000 in
set_option maxHeartbeats 4000000 in
theorem anchor11_any (w:World) (hw:Al w) (hT:Db w):Calls Tryz.prog 6 #[] w (Ret (.bool true) w):=by
 have M:=Lib.hid (fun wx (hb:Below w.heap.size w wx)=>made_yes text11 (by decide) chart_11 check_11 wx (al_below hw hb) (db_below hT hb))
 have hT':=Lib.hid (fun wx (hb:Below w.heap.size w wx)=>db_below hT hb)
 unfold text11 at M
 clear hw hT
 go_enter Tryz.func6,Tryz.ntmps6
 go_wp2_with fail
 refine (M.out _ (by (first | exact gwT | exact lzT))).mono ?_
 rintro e w1 ⟨rv,rx,gi,va,vc,b,cap,ga,gc,xa,xc,ya,yc,rfl,hTC,-,hb⟩
 have hw1:Below w.heap.size w w1:=Below.trans (by (first | exact gwT | exact lzT)) (hb.mono (by first | exact Nat.le_refl _ | (first | exact gwT | exact lzT)))
 obtain ⟨-,-,-,n3,-⟩:=tbC_row hTC (k:=1) (by decide)
 rw [beg_11] at n3
 have n3':w1.cell? ⟨b,14,none⟩ = some (.int .i64 2):=n3
 have A:Hid (∀ (blk:Nat) (wx:World),Below w1.heap.size w1 wx → wx.heap[blk]? = some (.cells #[.int .i64 3] 3 (0,0)) → Calls Tryz.prog 8 #[.agg #[.slice va 0 vc,.slice (some ⟨b,0,none⟩) 4 cap,.slice ga (gosT ch11.states).length gc],.int .i64 2,.slice (some ⟨blk,0,none⟩) 1 1] wx (Ret (.int .i64 1) wx)):=Lib.hid fun blk wx hx hr=>by
  have h:=tbaround_any (vv := .slice va 0 vc) (gv := .slice ga (gosT ch11.states).length gc) (cap:=cap) (a:=2) (by decide) [3] (by decide) (by decide) (some ⟨blk,0,none⟩) 1 (hT'.out wx (hw1.trans (hx.mono hw1.size))) (tbC_keep hTC hx) (row_ints (xs:=[3]) hr)
  rw [arnd_11] at h
  exact h
 have i0:InW b w1:=⟨hTC.lt⟩
 have hz:=hw1.size
 clear M hTC hb n3
 simp only [show ch11.states.length = 4 from rfl,show ch11.vars.length = 0 from rfl]
 generalize (gosT ch11.states).length = gn at *
 generalize ch11.name = cn at *
 (try dsimp only)
 go_wp2_with (((with_reducible refine (A.out _ _ (by (first | exact gwT | exact lzT)) (new_at (by simp))).mono ?_);intro e w1 hr;obtain ⟨rfl,p,rfl⟩:=hr.out;clear hr))
 go_returns
 exact ⟨rfl,hw1.trans (Below.mono (show Below w1.heap.size w1 _ by (first | exact gwT | exact lzT)) hz)⟩
end Go.Proofs.YtncmnhccmemagaaGreatDoor
namespace Go.Proofs.YtncmnhccmemagaaGreatDoor
def KnL (ss:List St):Prop:=∀ i s,ss[i]? = some s → (i = 0 → s.kind = 1) ∧ (0 < i → 3 ≤ s.kind ∧ s.kind ≤ 7)
theorem knL_set {ss:List St} {j:Nat} {t:St} (h:KnL ss) (hk:t.kind = (ss.getD j st0).kind):KnL (ss.set j t):=fun i s hs=>by
 rw [List.getElem?_set] at hs
 split at hs
 ·rename_i e
  subst e
  split at hs
  ·rename_i hj
   cases hs
   have:=h j ss[j] (List.getElem?_eq_getElem hj)
   rw [hk,List.getD_eq_getElem?_getD,List.getElem?_eq_getElem hj]
   exact this
  ·cases hs
 ·exact h i s hs
theorem knL_snoc {ss:List St} {t:St} (h:KnL ss) (h0:0 < ss.length) (h3:3 ≤ t.kind) (h7:t.kind ≤ 7):KnL (ss ++ [t]):=fun i s hs=>by
 rcases Nat.lt_or_ge i ss.length with hi | hi
 ·rw [List.getElem?_append_left hi] at hs
  exact h i s hs
 ·rw [List.getElem?_append_right hi] at hs
  have h1:=(List.getElem?_eq_some_iff.1 hs).1
  simp only [List.length_singleton] at h1
  rw [show i - ss.length = 0 by omega] at hs
  cases hs
  exact ⟨fun e=>by omega,fun _=>⟨h3,h7⟩⟩
theorem kn_step {c d:Ch} {o p:Int} {n:Ln} (h:KnL c.states) (h0:0 ≤ o → 0 < c.states.length) (hn:1 ≤ n.kind) (e:stepT c o n = .ok (d,p)):KnL d.states ∧ 0 < d.states.length:=by
 have hw:∀ s:St,s.kind = (c.states.getD o.toNat st0).kind → KnL (withT c o s).states:=fun s hs=>knL_set h hs
 have hl:∀ s:St,(withT c o s).states.length = c.states.length:=fun s=>by simp [withT]
 unfold stepT at e
 split at e
 ·split at e
  ·cases e
  ·cases e
   refine ⟨fun i s hs=>?_,Nat.zero_lt_one⟩
   have h1:=(List.getElem?_eq_some_iff.1 hs).1
   simp only [List.length_singleton] at h1
   obtain rfl:i = 0:=by omega
   cases hs
   exact ⟨fun _=>rfl,fun h=>absurd h (Nat.lt_irrefl 0)⟩
 ·split at e
  ·cases e
  ·have hz:=h0 (by omega)
   split at e
   ·repeat' split at e
    all_goals first | (cases e;done) | (cases e;exact ⟨h,hz⟩)
   ·split at e
    ·unfold innerT at e
     simp only at e
     repeat' split at e
     all_goals first | (cases e;done) | (cases e;exact ⟨h,hz⟩) | (cases e;exact ⟨hw _ rfl,by rw [hl];exact hz⟩)
    ·repeat' split at e
     all_goals first | (cases e;done) | (cases e;exact ⟨knL_snoc h hz (by show 3 ≤ n.kind;omega) (by show n.kind ≤ 7;omega),by simp⟩)
theorem kn_run:∀ (ls:List (List UInt8)) (i:Nat) (c d:Ch) (o p:Int),KnL c.states → (0 ≤ o → 0 < c.states.length) → runT i ls c o = .ok (d,p) → KnL d.states
 | [],_,_,_,_,_,g,_,h=>by cases h;exact g
 | l :: ls,i,c,d,o,p,g,g0,h=>by
  rw [runT] at h
  split at h
  ·cases h
  ·split at h
   ·cases h
   ·split at h
    ·exact kn_run ls _ _ _ _ _ g g0 h
    ·split at h
     ·cases h
     ·rename_i hp
      split at h
      ·cases h
      ·rename_i hs
       obtain ⟨k1,k2⟩:=kn_step g g0 (parseL_kind hp).1 hs
       exact kn_run ls _ _ _ _ _ k1 (fun _=>k2) h
theorem kinds_chart {l:List UInt8} {c:Ch} (h:chartT l = .ok c) {i:Nat} (hi:i < c.states.length):(i = 0 → (c.states.getD i st0).kind = 1) ∧ (0 < i → 3 ≤ (c.states.getD i st0).kind ∧ (c.states.getD i st0).kind ≤ 7):=by
 have k:KnL c.states:=by
  unfold chartT at h
  split at h
  ·cases h
  ·rename_i hr
   split at h
   ·cases h
    exact kn_run _ _ _ _ _ _ (fun i s hs=>by cases hs) (fun h=>absurd h (by decide)) hr
   ·cases h
 rw [List.getD_eq_getElem?_getD,List.getElem?_eq_getElem hi]
 exact k i _ (List.getElem?_eq_getElem hi)
end Go.Proofs.YtncmnhccmemagaaGreatDoor
