/- Several texts of this proof, joined: SD, SX. -/
import Derived.Test.YtfgpmcepppcmiaaGreatDoorL4
import Derived.BigRegion
import Derived.WalkKit
import Derived.ProofKit
import Derived.OpenShut
import Derived.Handy
import Derived.BigQuiet
import Derived.OwnWalk
import Derived.Lib.Hide
import Derived.WalkSmall
import Derived.WalkLawsBesides
import Derived.Test.YtfgpmcepppcmiaaGreatDoorL5
import Derived.Test.YtfgpmcepppcmiaaGreatDoorO7
namespace Go.Proofs.YtfgpmcepppcmiaaGreatDoor
open Go.RowKit
theorem vars_set {A b j:Nat} {w:World} {v u:Value} {n:Nat} {xs:List Value} {cs:Array Value} {t:TypeId} {fr:Nat × Nat} (h:w.ownsRow A 83 4 v n xs) (hb:w.heap[b]? = some (.cells cs t fr)) (ht:t = 27 ∨ t = 31):(w.setCell ⟨b,j,none⟩ u).ownsRow A 83 4 v n xs:=by
 have k:Tp A A w (w.setCell ⟨b,j,none⟩ u) 83:=by
  rcases ht with rfl | rfl <;> exact tp_set hb (by decide)
 exact k _ _ _ _ h
theorem vars_put {A p q:Nat} {w:World} {v v0 v1 v2 u0 u1 u2:Value} {n:Nat} {xs:List Value} {c0 c1:Array Value} (h:w.ownsRow A 83 4 v n xs) (s0:w.heap[p]? = some (.cells c0 27 (0,0))) (s1:w.heap[q]? = some (.cells c1 31 (0,0))) (hpq:p ≠ q) :
  (put6 w p q v0 v1 v2 u0 u1 u2).ownsRow A 83 4 v n xs:=by
 have t1:=blk_far (i:=2) (v:=v2) (blk_far (i:=1) (v:=v1) (blk_far (i:=0) (v:=v0) s1 hpq.symm) hpq.symm) hpq.symm
 exact vars_set (vars_set (vars_set (vars_set (vars_set (vars_set h s0 (.inl rfl)) (blk_set s0) (.inl rfl)) (blk_set (blk_set s0)) (.inl rfl)) t1 (.inr rfl)) (blk_set t1) (.inr rfl)) (blk_set (blk_set t1)) (.inr rfl)
theorem G_put6 {p:Regrown} {w:World} {a b:Nat} {v0 v1 v2 u0 u1 u2:Value} (ha:a < w.heap.size) (hb:b < w.heap.size):G p (put6 w a b v0 v1 v2 u0 u1 u2) = put6 (G p w) a b v0 v1 v2 u0 u1 u2:=by
 unfold put6
 rw [setCell_G p _ a 0 v0 ha,setCell_G p _ a 1 v1 (by simpa using ha),setCell_G p _ a 2 v2 (by simpa using ha),setCell_G p _ b 0 u0 (by simpa using hb),setCell_G p _ b 1 u1 (by simpa using hb),setCell_G p _ b 2 u2 (by simpa using hb)]
def MdOkV (c:Ch) (w:World) (e:Ending) (w':World):Prop :=
 ∃ (rv rx gi:Nat → Value) (va:Option Addr) (vc b cap:Nat) (ga:Option Addr) (gc:Nat) (xa:Option Addr) (xc:Nat) (ya:Option Addr) (yc:Nat),e = .returned (.tuple #[.agg #[.slice va c.vars.length vc,.slice (some ⟨b,0,none⟩) c.states.length cap,.slice ga (gosT c.states).length gc],.agg #[str c.name,.slice xa c.vars.length xc,.slice ya c.states.length yc],.bool true]) ∧
  TbC c rv gi b w' ∧ ChV ct1 0 w' c rx (.slice xa c.vars.length xc) (.slice ya c.states.length yc) ∧ w'.ownsRow w.heap.size 83 4 (.slice va c.vars.length vc) c.vars.length (vrsC c.vars) ∧ Below w.heap.size w w'
set_option maxRecDepth 100000 in
set_option maxHeartbeats 4000000 in
theorem made14_yes {c:Ch} (s:ByteArray) (hs:s.size ≤ 20000) (hx:chartT s.data.toList = .ok c) (hk:(checkE c).1 = 0) (w:World) (hw:Al w) (hT:Db w):Calls Tryz.prog 8 #[.string s] w (MdOkV c w):=by
 have O:=okC_of hx
 have SZ:=size_told (l:=s.data.toList) (c:=c) (y:=0) (n:=0) (by rw [hx];exact ⟨fun d h=>(by cases h;exact ⟨rfl,rfl,rfl⟩),fun _ _ h=>(by cases h)⟩)
 have P:=Lib.hid (fun wx (hb:Below w.heap.size w wx)=>cparse_ok s (by omega) hx wx (al_below hw hb))
 have LB:=Lib.hid (fun wx (hb:Below w.heap.size w wx)=>(al_below hw hb).ax.lb)
 have hT':=Lib.hid (fun wx (hb:Below w.heap.size w wx)=>db_below hT hb)
 have hlen:¬ (20000:Int) < (s.size:Int):=by omega
 replace O:=Lib.hid O
 replace SZ:=Lib.hid SZ
 replace hk:=Lib.hid hk
 clear hx hw hT
 go_enter Tryz.func8,Tryz.ntmps8
 go_wp2_with fail
 refine (P.out _ (by (first | exact gwT | exact lzT))).mono ?_
 rintro e w1 ⟨rv,va,vc,sa,sc,rfl,hV,hb⟩
 have hw1:Below w.heap.size w w1:=Below.trans (by (first | exact gwT | exact lzT)) (hb.mono (by simp;omega))
 have hV0:=Lib.hid (fun wx (hx:Below w1.heap.size w1 wx)=>chV_keep hV hx)
 have r0:=blk_keep (blk_old (heap_alloc_new w (.cells #[.slice none 0 0,.slice none 0 0,.slice none 0 0] 27))) hb
 have r1:=blk_keep (new_at (b:=w.heap.size + 1) (w:=w.alloc (.cells #[.slice none 0 0,.slice none 0 0,.slice none 0 0] 27)) (o := .cells #[.string ⟨#[]⟩,.slice none 0 0,.slice none 0 0] 31) (by simp)) hb
 have hz1:=hw1.size
 have hr01:w.heap.size ≤ w.heap.size + 1:=by omega
 have hr0:w.heap.size < w1.heap.size:=lt_of_block r0
 have hbase:w.heap.size ≤ (((w.alloc (.cells #[.slice none 0 0,.slice none 0 0,.slice none 0 0] 27)).alloc (.cells #[.string ⟨#[]⟩,.slice none 0 0,.slice none 0 0] 31))).heap.size:=by simp;omega
 have hvs:=Lib.hid (owns_base hV.vars hbase)
 clear P hb hV hbase
 generalize hrb:w.heap.size + 1 = rb at *
 obtain ⟨W1,hW1⟩:∃ W1,w1.alloc (.cells #[str c.name,.slice va c.vars.length vc,.slice sa c.states.length sc] 75) = W1:=⟨_,rfl⟩
 have hb1:Below w1.heap.size w1 W1:=by rw [← hW1];(first | exact gwT | exact lzT)
 have q1:W1.heap[w1.heap.size]? = some (.cells #[str c.name,.slice va c.vars.length vc,.slice sa c.states.length sc] 75 (0,0)):=by rw [← hW1];exact heap_alloc_new w1 _
 have hz2:=hb1.size
 have M:=Lib.hid (tmake_yes (w:=W1) O.out (hT'.out _ (hw1.trans (hb1.mono hz1))) (LB.out _ (hw1.trans (hb1.mono hz1))) (hV0.out _ hb1) hk.out)
 replace hW1:=Lib.hid hW1
 replace q1:=Lib.hid q1
 dsimp only
 go_wp2_with fail
 rw [hW1.out]
 refine M.out.mono ?_
 rintro e w2 ⟨tv,gv,rfl,hTV⟩
 obtain ⟨ys,_,hys⟩:=hTV.gos
 obtain ⟨ga,gc,rfl⟩:=own_form hys
 clear hys
 obtain ⟨b,cap,gi,rfl,hTC⟩:=tbC_of (hV0.out _ hb1) hTV O.out.some
 have hbl:W1.heap.size ≤ b:=by
  obtain ⟨xs,_,hxs⟩:=hTV.rows
  exact (hxs.lt b rfl).1
 have hb2:=hTV.env
 obtain ⟨u0,u1,u2,ul,uf⟩:=cells3 (blk_keep q1.out hb2)
 have i1:InW w1.heap.size w2:=⟨ul⟩
 have hw2:Below w1.heap.size w1 w2:=hb1.trans (hb2.mono hz2)
 have hz3:=hw2.size
 have C:=Lib.hid (fun wx (hx:Below w2.heap.size w2 wx)=>mchart_all (B:=0) SZ.out wx (Nat.zero_le _) (chV_base (hV0.out wx (hw2.trans (hx.mono hz3))) (Nat.zero_le _)))
 replace hTV:=Lib.hid hTV
 replace hTC:=Lib.hid hTC
 clear M q1 uf
 dsimp only
 go_wp2_with fail
 obtain ⟨W2,hW2⟩:∃ W2,w2.alloc (.cells #[.slice va c.vars.length vc,.slice (some ⟨b,0,none⟩) c.states.length cap,.slice ga (gosT c.states).length gc] 27) = W2:=⟨_,rfl⟩
 have t2:W2.heap[w2.heap.size]? = some (.cells #[.slice va c.vars.length vc,.slice (some ⟨b,0,none⟩) c.states.length cap,.slice ga (gosT c.states).length gc] 27 (0,0)):=by rw [← hW2];exact heap_alloc_new w2 _
 have hb22:Below w2.heap.size w2 W2:=by rw [← hW2];(first | exact gwT | exact lzT)
 rw [hW2]
 obtain ⟨a0,a1,a2,al,-⟩:=cells3 t2
 have u0':=(hb22.cell (p:=⟨w1.heap.size,0,none⟩) ul).trans u0
 have u1':=(hb22.cell (p:=⟨w1.heap.size,1,none⟩) ul).trans u1
 have u2':=(hb22.cell (p:=⟨w1.heap.size,2,none⟩) ul).trans u2
 have j2:InW w2.heap.size W2:=⟨al⟩
 have j1:InW w1.heap.size W2:=⟨Nat.lt_of_lt_of_le ul hb22.size⟩
 replace hb22:=Lib.hid hb22
 clear u0 u1 u2 hW2 i1
 have C2:Hid (∀ wx,Below W2.heap.size W2 wx → Calls Tryz.prog 22 #[.agg #[str c.name,.slice va c.vars.length vc,.slice sa c.states.length sc]] wx (MChIs 0 c wx)):=Lib.hid fun wx hx=>C.out wx (hb22.out.trans (hx.mono hb22.out.size))
 clear C
 replace t2:=Lib.hid t2
 have s0:=blk_keep (blk_keep r0 hw2) hb22.out
 have s1:=blk_keep (blk_keep r1 hw2) hb22.out
 obtain ⟨b0,b1,b2,bl,bf⟩:=cells3 s0
 obtain ⟨d0,d1,d2,dl,df⟩:=cells3 s1
 have f0:=bf 0
 have f1:=bf 1
 have f2:=bf 2
 have g0:=df 0
 have g1:=df 1
 have g2:=df 2
 have e0:=hasC_of b0
 have e1:=hasC_of b1
 have e2:=hasC_of b2
 have e3:=hasC_of d0
 have e4:=hasC_of d1
 have e5:=hasC_of d2
 have j3:InW w.heap.size W2:=⟨bl⟩
 have j4:InW rb W2:=⟨dl⟩
 have hrb1:rb < w1.heap.size:=lt_of_block r1
 replace s0:=Lib.hid s0
 replace s1:=Lib.hid s1
 replace hb2:=Lib.hid hb2
 replace hw2:=Lib.hid hw2
 clear bf df r0 r1
 refine wp_region_m (S:=fun w'=>w'.cell? ⟨w2.heap.size,0,none⟩ = some (.slice va c.vars.length vc) ∧ w'.cell? ⟨w2.heap.size,1,none⟩ = some (.slice (some ⟨b,0,none⟩) c.states.length cap) ∧ w'.cell? ⟨w2.heap.size,2,none⟩ = some (.slice ga (gosT c.states).length gc) ∧ w'.cell? ⟨w1.heap.size,0,none⟩ = some (str c.name) ∧ w'.cell? ⟨w1.heap.size,1,none⟩ = some (.slice va c.vars.length vc) ∧ w'.cell? ⟨w1.heap.size,2,none⟩ = some (.slice sa c.states.length sc)) 16 (by kernel_rfl) (by exact ⟨a0,a1,a2,u0',u1',u2'⟩) (fun hS=>?_)
 have hT:=hS
 (try dsimp only at hT)
 obtain ⟨s0,s1,s2,s3,s4,s5⟩:=hT
 (refine wpAnyM_slot (i:=0) (v:=?_) rfl rfl (by kernel_rfl) (by kernel_rfl) (by kernel_rfl) (by kernel_rfl) (fun _ _ _ h=>h) (Or.inl ⟨by rfl,?_⟩) (by assumption) ?_;rotate_left;(focus (intro w hSw;(try dsimp only at hSw);go_simp;all_goals (with_reducible rfl)));simp only [List.setIfInBounds_toArray,List.set_cons_zero,List.set_cons_succ])
 (refine wpAnyM_slot (i:=1) (v:=?_) rfl rfl (by kernel_rfl) (by kernel_rfl) (by kernel_rfl) (by kernel_rfl) (fun _ _ _ h=>h) (Or.inl ⟨by rfl,?_⟩) (by assumption) ?_;rotate_left;(focus (intro w hSw;(try dsimp only at hSw);go_simp;all_goals (with_reducible rfl)));simp only [List.setIfInBounds_toArray,List.set_cons_zero,List.set_cons_succ])
 (refine wpAnyM_slot (i:=3) (v:=?_) rfl rfl (by kernel_rfl) (by kernel_rfl) (by kernel_rfl) (by kernel_rfl) (fun _ _ _ h=>h) (Or.inl ⟨by rfl,?_⟩) (by assumption) ?_;rotate_left;(focus (intro w hSw;(try dsimp only at hSw);go_simp;all_goals (with_reducible rfl)));simp only [List.setIfInBounds_toArray,List.set_cons_zero,List.set_cons_succ])
 (refine wpAnyM_slot (i:=4) (v:=?_) rfl rfl (by kernel_rfl) (by kernel_rfl) (by kernel_rfl) (by kernel_rfl) (fun _ _ _ h=>h) (Or.inl ⟨by rfl,?_⟩) (by assumption) ?_;rotate_left;(focus (intro w hSw;(try dsimp only at hSw);go_simp;all_goals (with_reducible rfl)));simp only [List.setIfInBounds_toArray,List.set_cons_zero,List.set_cons_succ])
 refine wpAnyM_one (t:=2) (by kernel_rfl) rfl rfl (fun K' hK=>?_)
 go_simp
 refine (C2.out _ (by (first | exact gwT | exact lzT))).mono ?_
 rintro e w3 ⟨rx,vx,sx,rfl,hX,hb3⟩
 obtain ⟨xa,xc,ya,yc,rfl,rfl⟩:=chV_form hX
 obtain ⟨p1,rfl⟩:=toG hb3
 replace hX:=Lib.hid hX
 clear hb3
 refine hK.out _ _ (fun _=>?_) (fun hS=>?_)
 ·(try dsimp only)
  exact ⟨(cell_GI _ _ _ _).trans s0,(cell_GI _ _ _ _).trans s1,(cell_GI _ _ _ _).trans s2,(cell_GI _ _ _ _).trans s3,(cell_GI _ _ _ _).trans s4,(cell_GI _ _ _ _).trans s5⟩
 clear s0 s1 s2 s3 s4 s5 hK K'
 replace hS:=hS (by decide)
 have hT:=hS
 (try dsimp only at hT)
 obtain ⟨s0,s1,s2,s3,s4,s5⟩:=hT
 (refine wpAnyM_slot (i:=5) (v:=?_) rfl rfl (by kernel_rfl) (by kernel_rfl) (by kernel_rfl) (by kernel_rfl) (fun _ _ _ h=>h) (Or.inl ⟨by rfl,?_⟩) (by assumption) ?_;rotate_left;(focus (intro w hSw;(try dsimp only at hSw);go_simp;all_goals (with_reducible rfl)));simp only [List.setIfInBounds_toArray,List.set_cons_zero,List.set_cons_succ])
 (refine wpAnyM_slot (i:=6) (v:=?_) rfl rfl (by kernel_rfl) (by kernel_rfl) (by kernel_rfl) (by kernel_rfl) (fun _ _ _ h=>h) (Or.inl ⟨by rfl,?_⟩) (by assumption) ?_;rotate_left;(focus (intro w hSw;(try dsimp only at hSw);go_simp;all_goals (with_reducible rfl)));simp only [List.setIfInBounds_toArray,List.set_cons_zero,List.set_cons_succ])
 (refine wpAnyM_slot (i:=7) (v:=?_) rfl rfl (by kernel_rfl) (by kernel_rfl) (by kernel_rfl) (by kernel_rfl) (fun _ _ _ h=>h) (Or.inl ⟨by rfl,?_⟩) (by assumption) ?_;rotate_left;(focus (intro w hSw;(try dsimp only at hSw);go_simp;all_goals (with_reducible rfl)));simp only [List.setIfInBounds_toArray,List.set_cons_zero,List.set_cons_succ])
 (refine wpAnyM_slot (i:=8) (v:=?_) rfl rfl (by kernel_rfl) (by kernel_rfl) (by kernel_rfl) (by kernel_rfl) (fun _ _ _ h=>h) (Or.inl ⟨by rfl,?_⟩) (by assumption) ?_;rotate_left;(focus (intro w hSw;(try dsimp only at hSw);go_simp;all_goals (with_reducible rfl)));simp only [List.setIfInBounds_toArray,List.set_cons_zero,List.set_cons_succ])
 (refine wpAnyM_slot (i:=9) (v:=?_) rfl rfl (by kernel_rfl) (by kernel_rfl) (by kernel_rfl) (by kernel_rfl) (fun _ _ _ h=>h) (Or.inl ⟨by rfl,?_⟩) (by assumption) ?_;rotate_left;(focus (intro w hSw;(try dsimp only at hSw);go_simp;all_goals (with_reducible rfl)));simp only [List.setIfInBounds_toArray,List.set_cons_zero,List.set_cons_succ])
 (refine wpAnyM_slot (i:=10) (v:=?_) rfl rfl (by kernel_rfl) (by kernel_rfl) (by kernel_rfl) (by kernel_rfl) (fun _ _ _ h=>h) (Or.inl ⟨by rfl,?_⟩) (by assumption) ?_;rotate_left;(focus (intro w hSw;(try dsimp only at hSw);go_simp;all_goals (with_reducible rfl)));simp only [List.setIfInBounds_toArray,List.set_cons_zero,List.set_cons_succ])
 (refine wpAnyM_slot (i:=11) (v:=?_) rfl rfl (by kernel_rfl) (by kernel_rfl) (by kernel_rfl) (by kernel_rfl) (fun _ _ _ h=>h) (Or.inl ⟨by rfl,?_⟩) (by assumption) ?_;rotate_left;(focus (intro w hSw;(try dsimp only at hSw);go_simp;all_goals (with_reducible rfl)));simp only [List.setIfInBounds_toArray,List.set_cons_zero,List.set_cons_succ])
 (refine wpAnyM_slot (i:=12) (v:=?_) rfl rfl (by kernel_rfl) (by kernel_rfl) (by kernel_rfl) (by kernel_rfl) (fun _ _ _ h=>h) (Or.inl ⟨by rfl,?_⟩) (by assumption) ?_;rotate_left;(focus (intro w hSw;(try dsimp only at hSw);go_simp;all_goals (with_reducible rfl)));simp only [List.setIfInBounds_toArray,List.set_cons_zero,List.set_cons_succ])
 (refine wpAnyM_slot (i:=13) (v:=?_) rfl rfl (by kernel_rfl) (by kernel_rfl) (by kernel_rfl) (by kernel_rfl) (fun _ _ _ h=>h) (Or.inl ⟨by rfl,?_⟩) (by assumption) ?_;rotate_left;(focus (intro w hSw;(try dsimp only at hSw);go_simp;all_goals (with_reducible rfl)));simp only [List.setIfInBounds_toArray,List.set_cons_zero,List.set_cons_succ])
 refine wpAnyM_one (t:=14) (by kernel_rfl) rfl rfl (fun K' hK=>?_)
 go_simp
 refine hK.out _ _ (fun _=>?_) (fun hS=>?_)
 ·(try dsimp only)
  refine ⟨?_,?_,?_,?_,?_,?_⟩ <;> (simp [go_sem, *];done)
 clear s0 s1 s2 s3 s4 s5 hK K' hS
 refine wpAnyM_one (t:=15) (by kernel_rfl) rfl rfl (fun K' hK=>?_)
 go_simp
 refine hK.out _ _ (fun _=>?_) (fun hS=>?_)
 ·(try dsimp only)
  refine ⟨?_,?_,?_,?_,?_,?_⟩ <;> (simp [go_sem, *];done)
 clear hK K' hS
 refine wpAnyM_one (t:=16) (by kernel_rfl) rfl rfl (fun K' hK=>?_)
 go_simp
 refine hK.out _ _ (fun h=>absurd rfl h) (fun _=>wpAnyM_done (by kernel_rfl) ?_)
 go_wp2
 go_returns
 have hW2:Below w2.heap.size w2 (G p1 W2):=belowG hb22.out hb22.out.size
 have hwG:Below w.heap.size w (G p1 W2):=hw1.trans ((hw2.out.trans (hW2.mono hz3)).mono hz1)
 have hbG:Below W2.heap.size W2 (G p1 W2):=belowG0 p1 W2
 have q0:=blk_keep s0.out hbG
 have q1:=blk_keep s1.out hbG
 have hC3:TbC c rv gi b (G p1 W2):=tbC_keep hTC.out hW2
 have hV3:=vars_put (v0 := .slice va c.vars.length vc) (v1 := .slice (some ⟨b,0,none⟩) c.states.length cap) (v2 := .slice ga (gosT c.states).length gc) (u0 := .string ⟨c.name.toArray⟩) (u1 := .slice xa c.vars.length xc) (u2 := .slice ya c.states.length yc) (owns_below hvs.out (hw2.out.trans (hW2.mono hz3))) q0 q1 (show w.heap.size ≠ rb by omega)
 obtain ⟨k1,k2,k3⟩:=put_made (v0 := .slice va c.vars.length vc) (v1 := .slice (some ⟨b,0,none⟩) c.states.length cap) (v2 := .slice ga (gosT c.states).length gc) (u0 := .string ⟨c.name.toArray⟩) (u1 := .slice xa c.vars.length xc) (u2 := .slice ya c.states.length yc) hC3 hX.out q0 q1 (by omega) (by omega) (by omega) hwG (Nat.le_refl _) hr01
 have e6:=G_put6 (p:=p1) (v0 := .slice va c.vars.length vc) (v1 := .slice (some ⟨b,0,none⟩) c.states.length cap) (v2 := .slice ga (gosT c.states).length gc) (u0 := .string ⟨c.name.toArray⟩) (u1 := .slice xa c.vars.length xc) (u2 := .slice ya c.states.length yc) bl dl
 rw [← e6] at k1 k2 k3 hV3
 exact ⟨rv,rx,gi,va,vc,b,cap,ga,gc,xa,xc,ya,yc,rfl,k1,k2,hV3,k3⟩
end Go.Proofs.YtfgpmcepppcmiaaGreatDoor
namespace Go.Proofs.YtfgpmcepppcmiaaGreatDoor
open Go.RowKit
structure Ap (w:World):Prop where
 al:Al w
 db:Db w
 tab:Tab w
 sw:Sw w
theorem ap_below {w w':World} (h:Ap w) (hb:Below w.heap.size w w'):Ap w':=⟨al_below h.al hb,db_below h.db hb,tab_below h.tab hb,sw_keep h.sw hb⟩
def text14:ByteArray:=⟨#[99,104,97,114,116,32,99,10,115,116,97,116,101,32,97,10,101,110,100]⟩
def ch14:Ch:=⟨[99],[],[⟨[99],1,-1,[],[],[],[]⟩,⟨[97],3,0,[],[],[],[]⟩]⟩
theorem chart_14:chartT text14.data.toList = .ok ch14:=by kernel_rfl
theorem check_14:(checkE ch14).1 = 0:=by kernel_rfl
theorem lns_14:(lnsB ch14)[0]? = some ⟨#[102,114,101,115,104,32,109,111,118,101,115,32,48,32,99,108,111,99,107,32,48]⟩:=by decide +kernel
set_option maxRecDepth 100000 in
set_option maxHeartbeats 4000000 in
theorem anchor14_any (w:World) (h:Ap w):Calls Tryz.prog 7 #[] w (Ret (.bool true) w):=by
 have M:=Lib.hid (fun wx (hb:Below w.heap.size w wx)=>made14_yes text14 (by decide) chart_14 check_14 wx (al_below h.al hb) (db_below h.db hb))
 have hA:=Lib.hid (fun wx (hb:Below w.heap.size w wx)=>ap_below h hb)
 unfold text14 at M
 clear h
 go_enter Tryz.func7,Tryz.ntmps7
 go_wp2_with fail
 refine (M.out _ (by (first | exact gwT | exact lzT))).mono ?_
 rintro e w1 ⟨rv,rx,gi,va,vc,b,cap,ga,gc,xa,xc,ya,yc,rfl,hTC,-,hV,hb⟩
 have hw1:Below w.heap.size w w1:=Below.trans (by (first | exact gwT | exact lzT)) (hb.mono (by first | exact Nat.le_refl _ | (first | exact gwT | exact lzT)))
 have Bg:Hid (∀ wx,Below w1.heap.size w1 wx → Calls Tryz.prog 9 #[.agg #[.slice va 0 vc,.slice (some ⟨b,0,none⟩) 2 cap,.slice ga (gosT ch14.states).length gc]] wx (fun e w'=>∃ (pb:Nat) (da:Option Addr) (dc:Nat),e = .returned (.agg #[.int .i64 1,.int .i64 0,.int .i64 0,.int .i64 0,.int .u64 0,.slice (some ⟨pb,0,none⟩) 2 2,.slice da 0 dc,.slice none 0 0,.slice none 0 0,.slice none 0 0,.string ⟨#[]⟩,.slice none 0 0,.int .u64 0,.slice none 0 0]) ∧ SnRd w' (sn0 ch14) (some ⟨pb,0,none⟩) 2 da dc none 0 none 0 none 0 none 0 none 0 ∧ Below wx.heap.size wx w')):=Lib.hid fun wx hx=>(sbegin_any ch14 w.heap.size va (some ⟨b,0,none⟩) ga vc cap (gosT ch14.states).length gc (by decide) (by decide) wx (owns_below hV hx)).mono fun e w' hr=>by
  obtain ⟨pb,da,dc,he,h1,h2⟩:=hr
  exact ⟨pb,da,dc,he,h1,h2⟩
 have Ls:Hid (∀ wx,Below w1.heap.size w1 wx → ∀ (pb:Nat) (da:Option Addr) (dc:Nat),SnRd wx (sn0 ch14) (some ⟨pb,0,none⟩) 2 da dc none 0 none 0 none 0 none 0 none 0 → Calls Tryz.prog 12 #[(.agg #[.int .i64 1,.int .i64 0,.int .i64 0,.int .i64 0,.int .u64 0,.slice (some ⟨pb,0,none⟩) 2 2,.slice da 0 dc,.slice none 0 0,.slice none 0 0,.slice none 0 0,.string ⟨#[]⟩,.slice none 0 0,.int .u64 0,.slice none 0 0]),.agg #[.slice va 0 vc,.slice (some ⟨b,0,none⟩) 2 cap,.slice ga (gosT ch14.states).length gc]] wx (fun e w'=>∃ (ao:Option Addr) (cp:Nat),e = .returned (.slice ao 4 cp) ∧ SrcAt w' ao cp ((lnsB ch14).flatMap stC1) ∧ Below wx.heap.size wx w')):=Lib.hid fun wx hx pb da dc hs=>by
  have hp:=hA.out wx (hw1.trans (hx.mono hw1.size))
  exact slines_any (c:=ch14) (by decide) (by decide) (fun v hv=>by cases hv) pb da dc va vc wx hp.db hp.tab hp.sw (tbC_keep hTC hx) (owns_below hV hx) hs
 have hz:=hw1.size
 clear M hTC hb hV hA
 simp only [show ch14.states.length = 2 from rfl,show ch14.vars.length = 0 from rfl]
 generalize (gosT ch14.states).length = gn at *
 generalize ch14.name = cn at *
 have hw1':=Lib.hid hw1
 clear hw1
 (try dsimp only)
 go_wp2_with fail
 refine (Bg.out _ (by (first | exact gwT | exact lzT))).mono ?_
 rintro e w2 ⟨pb,da,dc,rfl,hR,hb2⟩
 have hb2':Below w1.heap.size w1 w2:=Below.trans (by (first | exact gwT | exact lzT)) (hb2.mono (by (first | exact gwT | exact lzT)))
 have q0:w2.heap[w1.heap.size]? = some (.cells #[.slice va 0 vc,.slice (some ⟨b,0,none⟩) 2 cap,.slice ga gn gc] 27 (0,0)):=blk_keep (blk_old (heap_alloc_new w1 _)) hb2
 obtain ⟨u0,u1,u2,ul,-⟩:=cells3 q0
 have i1:InW w1.heap.size w2:=⟨ul⟩
 have hz2:=hb2'.size
 have Ls2:Hid (∀ wx,Below w2.heap.size w2 wx → Calls Tryz.prog 12 #[(.agg #[.int .i64 1,.int .i64 0,.int .i64 0,.int .i64 0,.int .u64 0,.slice (some ⟨pb,0,none⟩) 2 2,.slice da 0 dc,.slice none 0 0,.slice none 0 0,.slice none 0 0,.string ⟨#[]⟩,.slice none 0 0,.int .u64 0,.slice none 0 0]),.agg #[.slice va 0 vc,.slice (some ⟨b,0,none⟩) 2 cap,.slice ga gn gc]] wx (fun e w'=>∃ (ao:Option Addr) (cp:Nat),e = .returned (.slice ao 4 cp) ∧ SrcAt w' ao cp ((lnsB ch14).flatMap stC1) ∧ Below wx.heap.size wx w')):=Lib.hid fun wx hx=>Ls.out wx (hb2'.trans (hx.mono hz2)) pb da dc (snRd_below hR hx)
 have hw2:=Lib.hid (hw1'.out.trans (hb2'.mono hz))
 have hw2z:=hw2.out.size
 clear Bg Ls hR hb2 hb2' q0
 dsimp only
 go_wp2_with fail
 refine (Ls2.out _ (by (first | exact gwT | exact lzT))).mono ?_
 rintro e w3 ⟨ao,cp,rfl,hL,hb3⟩
 have q1:w3.heap[w2.heap.size]? = some (.cells #[.int .i64 1,.int .i64 0,.int .i64 0,.int .i64 0,.int .u64 0,.slice (some ⟨pb,0,none⟩) 2 2,.slice da 0 dc,.slice none 0 0,.slice none 0 0,.slice none 0 0,.string ⟨#[]⟩,.slice none 0 0,.int .u64 0,.slice none 0 0] 44 (0,0)):=blk_keep (heap_alloc_new w2 _) hb3
 have hb3':Below w.heap.size w w3:=hw2.out.trans (Below.mono (Below.trans (show Below w2.heap.size w2 _ by (first | exact gwT | exact lzT)) (hb3.mono (by (first | exact gwT | exact lzT)))) hw2z)
 obtain ⟨d0,-⟩:=cells14 q1
 have i2:InW w2.heap.size w3:=⟨lt_of_block q1⟩
 obtain ⟨g,o,rfl,hg,hc⟩:=src_at stC1 1 st_len hL 0 (by decide) (by decide)
 have c0:=hc 0 _ (by decide) rfl
 have e0:(lnsB ch14)[0] = ⟨#[102,114,101,115,104,32,109,111,118,101,115,32,48,32,99,108,111,99,107,32,48]⟩:=by
  have:=lns_14
  rw [List.getElem?_eq_getElem (by decide)] at this
  exact Option.some.inj this
 rw [e0,Nat.zero_mul,Nat.add_zero] at c0
 have i3:InW g w3:=⟨hg⟩
 have hfin:=Lib.hid hb3'
 clear hL hb3 hb3' q1 hc e0 Ls2 hw2
 dsimp only
 go_wp2
 go_returns
 exact ⟨rfl,hfin.out.trans (Below.mono (show Below w3.heap.size w3 _ by (first | exact gwT | exact lzT)) hfin.out.size)⟩
set_option maxRecDepth 100000 in
set_option maxHeartbeats 4000000 in
theorem snwords_walk (n:Int) (w:World) (h:Ap w):Calls Tryz.prog 6 #[.int .i64 n] w (Ret (.bool true) w):=by
 have A:=Lib.hid (fun wx (hb:Below w.heap.size w wx)=>anchor14_any wx (ap_below h hb))
 have Wd:=Lib.hid (fun wx (hb:Below w.heap.size w wx)=>sword_any n wx (sw_keep h.sw hb))
 clear h
 by_cases h1:n < 1
 ·have e:Hid (wordS n = ⟨#[]⟩):=Lib.hid (if_neg (by omega))
  rw [e.out] at Wd
  go_enter Tryz.func6,Tryz.ntmps6
  go_wp2_with (first | ((with_reducible refine (A.out _ (by (first | exact gwT | exact lzT))).mono ?_);intro e w1 hr;obtain ⟨rfl,p,rfl⟩:=hr.out;clear hr) | ((with_reducible refine (Wd.out _ (by (first | exact gwT | exact lzT))).mono ?_);intro e w1 hr;obtain ⟨rfl,p,rfl⟩:=hr.out;clear hr))
  go_returns
  exact ⟨rfl,by (first | exact gwT | exact lzT)⟩
 ·by_cases h4:4 < n
  ·have e:Hid (wordS n = ⟨#[]⟩):=Lib.hid (if_neg (by omega))
   rw [e.out] at Wd
   go_enter Tryz.func6,Tryz.ntmps6
   go_wp2_with (first | ((with_reducible refine (A.out _ (by (first | exact gwT | exact lzT))).mono ?_);intro e w1 hr;obtain ⟨rfl,p,rfl⟩:=hr.out;clear hr) | ((with_reducible refine (Wd.out _ (by (first | exact gwT | exact lzT))).mono ?_);intro e w1 hr;obtain ⟨rfl,p,rfl⟩:=hr.out;clear hr))
   go_returns
   exact ⟨rfl,by (first | exact gwT | exact lzT)⟩
  ·rcases (by omega:n = 1 ∨ n = 2 ∨ n = 3 ∨ n = 4) with rfl | rfl | rfl | rfl
   ·have e:Hid (wordS 1 = ⟨#[102,114,101,115,104]⟩):=Lib.hid (by decide +kernel)
    rw [e.out] at Wd
    go_enter Tryz.func6,Tryz.ntmps6
    go_wp2_with (first | ((with_reducible refine (A.out _ (by (first | exact gwT | exact lzT))).mono ?_);intro e w1 hr;obtain ⟨rfl,p,rfl⟩:=hr.out;clear hr))
    (refine wp_region_G (by kernel_rfl) (by kernel_rfl) ?_;(repeat (go_big_quiet_step (exact quietG (Wd.out _ (by (first | exact gwT | exact lzT))))));refine wpQuiet_nil ?_;intro _ hw';obtain ⟨pg,hw''⟩:=hw';subst hw'')
    go_wp2
    go_returns
    exact ⟨rfl,by (first | exact gwT | exact lzT)⟩
   ·have e:Hid (wordS 2 = ⟨#[114,117,110,110,105,110,103]⟩):=Lib.hid (by decide +kernel)
    rw [e.out] at Wd
    go_enter Tryz.func6,Tryz.ntmps6
    go_wp2_with (first | ((with_reducible refine (A.out _ (by (first | exact gwT | exact lzT))).mono ?_);intro e w1 hr;obtain ⟨rfl,p,rfl⟩:=hr.out;clear hr))
    (refine wp_region_G (by kernel_rfl) (by kernel_rfl) ?_;(repeat (go_big_quiet_step (exact quietG (Wd.out _ (by (first | exact gwT | exact lzT))))));refine wpQuiet_nil ?_;intro _ hw';obtain ⟨pg,hw''⟩:=hw';subst hw'')
    go_wp2
    go_returns
    exact ⟨rfl,by (first | exact gwT | exact lzT)⟩
   ·have e:Hid (wordS 3 = ⟨#[100,111,110,101]⟩):=Lib.hid (by decide +kernel)
    rw [e.out] at Wd
    go_enter Tryz.func6,Tryz.ntmps6
    go_wp2_with (first | ((with_reducible refine (A.out _ (by (first | exact gwT | exact lzT))).mono ?_);intro e w1 hr;obtain ⟨rfl,p,rfl⟩:=hr.out;clear hr))
    (refine wp_region_G (by kernel_rfl) (by kernel_rfl) ?_;(repeat (go_big_quiet_step (exact quietG (Wd.out _ (by (first | exact gwT | exact lzT))))));refine wpQuiet_nil ?_;intro _ hw';obtain ⟨pg,hw''⟩:=hw';subst hw'')
    go_wp2
    go_returns
    exact ⟨rfl,by (first | exact gwT | exact lzT)⟩
   ·have e:Hid (wordS 4 = ⟨#[104,97,108,116,101,100]⟩):=Lib.hid (by decide +kernel)
    rw [e.out] at Wd
    go_enter Tryz.func6,Tryz.ntmps6
    go_wp2_with (first | ((with_reducible refine (A.out _ (by (first | exact gwT | exact lzT))).mono ?_);intro e w1 hr;obtain ⟨rfl,p,rfl⟩:=hr.out;clear hr))
    (refine wp_region_G (by kernel_rfl) (by kernel_rfl) ?_;(repeat (go_big_quiet_step (exact quietG (Wd.out _ (by (first | exact gwT | exact lzT))))));refine wpQuiet_nil ?_;intro _ hw';obtain ⟨pg,hw''⟩:=hw';subst hw'')
    go_wp2
    go_returns
    exact ⟨rfl,by (first | exact gwT | exact lzT)⟩
end Go.Proofs.YtfgpmcepppcmiaaGreatDoor
