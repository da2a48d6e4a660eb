/- Several texts of this proof, joined: SD, SX. -/
import Derived.Test.YtacnlghljmgdiaaGreatDoorL4
import Derived.Test.YtacnlghljmgdiaaGreatDoorL5
import Derived.BigRegion
import Derived.WalkKit
import Derived.ProofKit
import Derived.OpenShut
import Derived.Handy
import Derived.BigQuiet
import Derived.OwnWalk
import Derived.Lib.Hide
import Derived.WalkSmall
import Derived.WalkLawsBesides
import Derived.Test.YtacnlghljmgdiaaGreatDoorO7
namespace Go.Proofs.YtacnlghljmgdiaaGreatDoor
open Go.RowKit
instance hasC_GI (p:Regrown) (w:World) (b i:Nat) [h:HasC w b i] [hi:InW b w]:HasC (G p w) b i:=⟨by rw [z1f];exact h.has⟩
instance hasC_drew (w:World) (b i:Nat) [h:HasC w b i]:HasC w.drew b i:=⟨h.has⟩
theorem q1f {A b j:Nat} {w:World} {v u:Value} {n:Nat} {xs:List Value} {cs:Array Value} {t:TypeId} {fr:Nat × Nat} (h:w.ownsRow A 80 4 v n xs) (hb:w.heap[b]? = some (.cells cs t fr)) (ht:t = 27 ∨ t = 31):(w.setCell ⟨b,j,none⟩ u).ownsRow A 80 4 v n xs:=by
 have k:Tp A A w (w.setCell ⟨b,j,none⟩ u) 80:=by
  rcases ht with rfl | rfl <;> exact z1m hb deT
 exact k _ _ _ _ h
theorem v0o {A p q:Nat} {w:World} {v v0 v1 v2 u0 u1 u2:Value} {n:Nat} {xs:List Value} {c0 c1:Array Value} (h:w.ownsRow A 80 4 v n xs) (s0:w.heap[p]? = some (.cells c0 27 (0,0))) (s1:w.heap[q]? = some (.cells c1 31 (0,0))) (hpq:p ≠ q) :
  (v1x w p q v0 v1 v2 u0 u1 u2).ownsRow A 80 4 v n xs:=by
 have t1:=z0i (i:=2) (v:=v2) (z0i (i:=1) (v:=v1) (z0i (i:=0) (v:=v0) s1 hpq.symm) hpq.symm) hpq.symm
 exact q1f (q1f (q1f (q1f (q1f (q1f h s0 (.inl rfl)) (z0l s0) (.inl rfl)) (z0l (z0l s0)) (.inl rfl)) t1 (.inr rfl)) (z0l t1) (.inr rfl)) (z0l (z0l t1)) (.inr rfl)
theorem v7m {p:Regrown} {w:World} {a b:Nat} {v0 v1 v2 u0 u1 u2:Value} (ha:a < w.heap.size) (hb:b < w.heap.size):G p (v1x w a b v0 v1 v2 u0 u1 u2) = v1x (G p w) a b v0 v1 v2 u0 u1 u2:=by
 unfold v1x
 rw [z2n p _ a 0 v0 ha,z2n p _ a 1 v1 (by simpa using ha),z2n p _ a 2 v2 (by simpa using ha),z2n p _ b 0 u0 (by simpa using hb),z2n p _ b 1 u1 (by simpa using hb),z2n p _ b 2 u2 (by simpa using hb)]
def x1m (c:Ch) (w:World) (e:Ending) (w':World):Prop :=
 ∃ (rv rx gi:Nat → Value) (va:Option Addr) (vc b cap:Nat) (ga:Option Addr) (gc:Nat) (xa:Option Addr) (xc:Nat) (ya:Option Addr) (yc:Nat),e = .returned (.tuple #[.agg #[.slice va c.vars.length vc,.slice (some ⟨b,0,none⟩) c.states.length cap,.slice ga (y4v c.states).length gc],.agg #[str c.name,.slice xa c.vars.length xc,.slice ya c.states.length yc],.bool true]) ∧
  TbC c rv gi b w' ∧ ChV ct1 0 w' c rx (.slice xa c.vars.length xc) (.slice ya c.states.length yc) ∧ w'.ownsRow w.heap.size 80 4 (.slice va c.vars.length vc) c.vars.length (j0g c.vars) ∧ Below w.heap.size w w'
set_option maxRecDepth 100000 in
set_option maxHeartbeats 4000000 in
theorem y5w {c:Ch} (s:ByteArray) (hs:s.size ≤ 20000) (hx:z3q s.data.toList = .ok c) (hk:(z4r c).1 = 0) (w:World) (hw:Al w) (hT:Db w):Calls Tryz.prog 7 #[.string s] w (x1m c w):=by
 have O:=v1t hx
 have SZ:=j7q (l:=s.data.toList) (c:=c) (y:=0) (n:=0) (by rw [hx];exact ⟨fun d h=>(by cases h;exact ⟨rfl,rfl,rfl⟩),fun _ _ h=>(by cases h)⟩)
 have P:=hiT (fun wx (hb:Below w.heap.size w wx)=>j5x s omT hx wx (z2o hw hb))
 have LB:=hiT (fun wx (hb:Below w.heap.size w wx)=>(z2o hw hb).ax.lb)
 have hT':=hiT (fun wx (hb:Below w.heap.size w wx)=>z4f hT hb)
 have hlen:¬ (20000:Int) < (s.size:Int):=by omega
 replace O:=hiT O
 replace SZ:=hiT SZ
 replace hk:=hiT hk
 clear hx hw hT
 go_enter Tryz.func7,Tryz.ntmps7
 go_wp2_with fail
 refine (P.out _ gzT).mono ?_
 rintro e w1 ⟨rv,va,vc,sa,sc,rfl,hV,hb⟩
 have hw1:Below w.heap.size w w1:=Below.trans gzT (hb.mono (by simp;omega))
 have hV0:=hiT (fun wx (hx:Below w1.heap.size w1 wx)=>z1u hV hx)
 have r0:=z0c (z0j (heap_alloc_new w (.cells #[.slice none 0 0,.slice none 0 0,.slice none 0 0] 27))) hb
 have r1:=z0c (z0s (b:=w.heap.size + 1) (w:=w.alloc (.cells #[.slice none 0 0,.slice none 0 0,.slice none 0 0] 27)) (o := .cells #[.string ⟨#[]⟩,.slice none 0 0,.slice none 0 0] 31) (by simp)) hb
 have hz1:=hw1.size
 have hr01:w.heap.size ≤ w.heap.size + 1:=by omega
 have hr0:w.heap.size < w1.heap.size:=lt_of_block r0
 have hbase:w.heap.size ≤ (((w.alloc (.cells #[.slice none 0 0,.slice none 0 0,.slice none 0 0] 27)).alloc (.cells #[.string ⟨#[]⟩,.slice none 0 0,.slice none 0 0] 31))).heap.size:=by simp;omega
 have hvs:=hiT (z0m hV.vars hbase)
 clear P hb hV hbase
 generalize hrb:w.heap.size + 1 = rb at *
 obtain ⟨W1,hW1⟩:∃ W1,w1.alloc (.cells #[str c.name,.slice va c.vars.length vc,.slice sa c.states.length sc] 72) = W1:=⟨_,rfl⟩
 have hb1:Below w1.heap.size w1 W1:=by rw [← hW1];exact gzT
 have q1:W1.heap[w1.heap.size]? = some (.cells #[str c.name,.slice va c.vars.length vc,.slice sa c.states.length sc] 72 (0,0)):=by rw [← hW1];exact heap_alloc_new w1 _
 have hz2:=hb1.size
 have M:=hiT (k4h (w:=W1) O.out (hT'.out _ (hw1.trans (hb1.mono hz1))) (LB.out _ (hw1.trans (hb1.mono hz1))) (hV0.out _ hb1) hk.out)
 replace hW1:=hiT hW1
 replace q1:=hiT q1
 dsimp only
 go_wp2_with fail
 rw [hW1.out]
 refine M.out.mono ?_
 rintro e w2 ⟨tv,gv,rfl,hTV⟩
 obtain ⟨ys,_,hys⟩:=hTV.gos
 obtain ⟨ga,gc,rfl⟩:=z0g hys
 clear hys
 obtain ⟨b,cap,gi,rfl,hTC⟩:=v9x (hV0.out _ hb1) hTV O.out.some
 have hbl:W1.heap.size ≤ b:=by
  obtain ⟨xs,_,hxs⟩:=hTV.rows
  exact (hxs.lt b rfl).1
 have hb2:=hTV.env
 obtain ⟨u0,u1,u2,ul,uf⟩:=z3p (z0c q1.out hb2)
 have i1:InW w1.heap.size w2:=⟨ul⟩
 have hw2:Below w1.heap.size w1 w2:=hb1.trans (hb2.mono hz2)
 have hz3:=hw2.size
 have C:=hiT (fun wx (hx:Below w2.heap.size w2 wx)=>j1j (B:=0) SZ.out wx (Nat.zero_le _) (y1u (hV0.out wx (hw2.trans (hx.mono hz3))) (Nat.zero_le _)))
 replace hTV:=hiT hTV
 replace hTC:=hiT hTC
 clear M q1 uf
 dsimp only
 go_wp2_with fail
 obtain ⟨W2,hW2⟩:∃ W2,w2.alloc (.cells #[.slice va c.vars.length vc,.slice (some ⟨b,0,none⟩) c.states.length cap,.slice ga (y4v c.states).length gc] 27) = W2:=⟨_,rfl⟩
 have t2:W2.heap[w2.heap.size]? = some (.cells #[.slice va c.vars.length vc,.slice (some ⟨b,0,none⟩) c.states.length cap,.slice ga (y4v c.states).length gc] 27 (0,0)):=by rw [← hW2];exact heap_alloc_new w2 _
 have hb22:Below w2.heap.size w2 W2:=by rw [← hW2];exact gzT
 rw [hW2]
 obtain ⟨a0,a1,a2,al,-⟩:=z3p t2
 have u0':=(hb22.cell (p:=⟨w1.heap.size,0,none⟩) ul).trans u0
 have u1':=(hb22.cell (p:=⟨w1.heap.size,1,none⟩) ul).trans u1
 have u2':=(hb22.cell (p:=⟨w1.heap.size,2,none⟩) ul).trans u2
 have j2:InW w2.heap.size W2:=⟨al⟩
 have j1:InW w1.heap.size W2:=⟨Nat.lt_of_lt_of_le ul hb22.size⟩
 replace hb22:=hiT hb22
 clear u0 u1 u2 hW2 i1
 have C2:Hid (∀ wx,Below W2.heap.size W2 wx → Calls Tryz.prog 20 #[.agg #[str c.name,.slice va c.vars.length vc,.slice sa c.states.length sc]] wx (k5m 0 c wx)):=hiT fun wx hx=>C.out wx (hb22.out.trans (hx.mono hb22.out.size))
 clear C
 replace t2:=hiT t2
 have s0:=z0c (z0c r0 hw2) hb22.out
 have s1:=z0c (z0c r1 hw2) hb22.out
 obtain ⟨b0,b1,b2,bl,bf⟩:=z3p s0
 obtain ⟨d0,d1,d2,dl,df⟩:=z3p s1
 have f0:=bf 0
 have f1:=bf 1
 have f2:=bf 2
 have g0:=df 0
 have g1:=df 1
 have g2:=df 2
 have e0:=z0b b0
 have e1:=z0b b1
 have e2:=z0b b2
 have e3:=z0b d0
 have e4:=z0b d1
 have e5:=z0b d2
 have j3:InW w.heap.size W2:=⟨bl⟩
 have j4:InW rb W2:=⟨dl⟩
 have hrb1:rb < w1.heap.size:=lt_of_block r1
 replace s0:=hiT s0
 replace s1:=hiT s1
 replace hb2:=hiT hb2
 replace hw2:=hiT hw2
 clear bf df r0 r1
 refine z1n (S:=fun w'=>w'.cell? ⟨w2.heap.size,0,none⟩ = some (.slice va c.vars.length vc) ∧ w'.cell? ⟨w2.heap.size,1,none⟩ = some (.slice (some ⟨b,0,none⟩) c.states.length cap) ∧ w'.cell? ⟨w2.heap.size,2,none⟩ = some (.slice ga (y4v c.states).length gc) ∧ w'.cell? ⟨w1.heap.size,0,none⟩ = some (str c.name) ∧ w'.cell? ⟨w1.heap.size,1,none⟩ = some (.slice va c.vars.length vc) ∧ w'.cell? ⟨w1.heap.size,2,none⟩ = some (.slice sa c.states.length sc)) 16 krT (by exact ⟨a0,a1,a2,u0',u1',u2'⟩) (fun hS=>?_)
 have hT:=hS
 (try dsimp only at hT)
 obtain ⟨s0,s1,s2,s3,s4,s5⟩:=hT
 (refine mT 0 rfl rfl (v:=?_) (Or.inl ⟨by rfl,?_⟩) ?_;rotate_left;(focus (intro w hSw;(try dsimp only at hSw);go_simp;all_goals (with_reducible rfl)));simp only [List.setIfInBounds_toArray,List.set_cons_zero,List.set_cons_succ])
 (refine mT 1 rfl rfl (v:=?_) (Or.inl ⟨by rfl,?_⟩) ?_;rotate_left;(focus (intro w hSw;(try dsimp only at hSw);go_simp;all_goals (with_reducible rfl)));simp only [List.setIfInBounds_toArray,List.set_cons_zero,List.set_cons_succ])
 (refine mT 3 rfl rfl (v:=?_) (Or.inl ⟨by rfl,?_⟩) ?_;rotate_left;(focus (intro w hSw;(try dsimp only at hSw);go_simp;all_goals (with_reducible rfl)));simp only [List.setIfInBounds_toArray,List.set_cons_zero,List.set_cons_succ])
 (refine mT 4 rfl rfl (v:=?_) (Or.inl ⟨by rfl,?_⟩) ?_;rotate_left;(focus (intro w hSw;(try dsimp only at hSw);go_simp;all_goals (with_reducible rfl)));simp only [List.setIfInBounds_toArray,List.set_cons_zero,List.set_cons_succ])
 refine z0f (t:=2) krT rfl rfl (fun K' hK=>?_)
 go_simp
 refine (C2.out _ gzT).mono ?_
 rintro e w3 ⟨rx,vx,sx,rfl,hX,hb3⟩
 obtain ⟨xa,xc,ya,yc,rfl,rfl⟩:=q6a hX
 obtain ⟨p1,rfl⟩:=toG hb3
 replace hX:=hiT hX
 clear hb3
 refine hK.out _ _ (fun _=>?_) (fun hS=>?_)
 ·(try dsimp only)
  exact ⟨(z1f _ _ _ _).trans s0,(z1f _ _ _ _).trans s1,(z1f _ _ _ _).trans s2,(z1f _ _ _ _).trans s3,(z1f _ _ _ _).trans s4,(z1f _ _ _ _).trans s5⟩
 clear s0 s1 s2 s3 s4 s5 hK K'
 replace hS:=hS deT
 have hT:=hS
 (try dsimp only at hT)
 obtain ⟨s0,s1,s2,s3,s4,s5⟩:=hT
 (refine mT 5 rfl rfl (v:=?_) (Or.inl ⟨by rfl,?_⟩) ?_;rotate_left;(focus (intro w hSw;(try dsimp only at hSw);go_simp;all_goals (with_reducible rfl)));simp only [List.setIfInBounds_toArray,List.set_cons_zero,List.set_cons_succ])
 (refine mT 6 rfl rfl (v:=?_) (Or.inl ⟨by rfl,?_⟩) ?_;rotate_left;(focus (intro w hSw;(try dsimp only at hSw);go_simp;all_goals (with_reducible rfl)));simp only [List.setIfInBounds_toArray,List.set_cons_zero,List.set_cons_succ])
 (refine mT 7 rfl rfl (v:=?_) (Or.inl ⟨by rfl,?_⟩) ?_;rotate_left;(focus (intro w hSw;(try dsimp only at hSw);go_simp;all_goals (with_reducible rfl)));simp only [List.setIfInBounds_toArray,List.set_cons_zero,List.set_cons_succ])
 (refine mT 8 rfl rfl (v:=?_) (Or.inl ⟨by rfl,?_⟩) ?_;rotate_left;(focus (intro w hSw;(try dsimp only at hSw);go_simp;all_goals (with_reducible rfl)));simp only [List.setIfInBounds_toArray,List.set_cons_zero,List.set_cons_succ])
 (refine mT 9 rfl rfl (v:=?_) (Or.inl ⟨by rfl,?_⟩) ?_;rotate_left;(focus (intro w hSw;(try dsimp only at hSw);go_simp;all_goals (with_reducible rfl)));simp only [List.setIfInBounds_toArray,List.set_cons_zero,List.set_cons_succ])
 (refine mT 10 rfl rfl (v:=?_) (Or.inl ⟨by rfl,?_⟩) ?_;rotate_left;(focus (intro w hSw;(try dsimp only at hSw);go_simp;all_goals (with_reducible rfl)));simp only [List.setIfInBounds_toArray,List.set_cons_zero,List.set_cons_succ])
 (refine mT 11 rfl rfl (v:=?_) (Or.inl ⟨by rfl,?_⟩) ?_;rotate_left;(focus (intro w hSw;(try dsimp only at hSw);go_simp;all_goals (with_reducible rfl)));simp only [List.setIfInBounds_toArray,List.set_cons_zero,List.set_cons_succ])
 (refine mT 12 rfl rfl (v:=?_) (Or.inl ⟨by rfl,?_⟩) ?_;rotate_left;(focus (intro w hSw;(try dsimp only at hSw);go_simp;all_goals (with_reducible rfl)));simp only [List.setIfInBounds_toArray,List.set_cons_zero,List.set_cons_succ])
 (refine mT 13 rfl rfl (v:=?_) (Or.inl ⟨by rfl,?_⟩) ?_;rotate_left;(focus (intro w hSw;(try dsimp only at hSw);go_simp;all_goals (with_reducible rfl)));simp only [List.setIfInBounds_toArray,List.set_cons_zero,List.set_cons_succ])
 refine z0f (t:=14) krT rfl rfl (fun K' hK=>?_)
 go_simp
 refine hK.out _ _ (fun _=>?_) (fun hS=>?_)
 ·(try dsimp only)
  refine ⟨?_,?_,?_,?_,?_,?_⟩ <;> (simp [go_sem, *];done)
 clear s0 s1 s2 s3 s4 s5 hK K' hS
 refine z0f (t:=15) krT rfl rfl (fun K' hK=>?_)
 go_simp
 refine hK.out _ _ (fun _=>?_) (fun hS=>?_)
 ·(try dsimp only)
  refine ⟨?_,?_,?_,?_,?_,?_⟩ <;> (simp [go_sem, *];done)
 clear hK K' hS
 refine z0f (t:=16) krT rfl rfl (fun K' hK=>?_)
 go_simp
 refine hK.out _ _ (fun h=>absurd rfl h) (fun _=>z1j krT ?_)
 go_wp2
 go_returns
 have hW2:Below w2.heap.size w2 (G p1 W2):=y9c hb22.out hb22.out.size
 have hwG:Below w.heap.size w (G p1 W2):=hw1.trans ((hw2.out.trans (hW2.mono hz3)).mono hz1)
 have hbG:Below W2.heap.size W2 (G p1 W2):=z1e p1 W2
 have q0:=z0c s0.out hbG
 have q1:=z0c s1.out hbG
 have hC3:TbC c rv gi b (G p1 W2):=z7n hTC.out hW2
 have hV3:=v0o (v0 := .slice va c.vars.length vc) (v1 := .slice (some ⟨b,0,none⟩) c.states.length cap) (v2 := .slice ga (y4v c.states).length gc) (u0 := .string ⟨c.name.toArray⟩) (u1 := .slice xa c.vars.length xc) (u2 := .slice ya c.states.length yc) (z0a hvs.out (hw2.out.trans (hW2.mono hz3))) q0 q1 (show w.heap.size ≠ rb by omega)
 obtain ⟨k1,k2,k3⟩:=k8s (v0 := .slice va c.vars.length vc) (v1 := .slice (some ⟨b,0,none⟩) c.states.length cap) (v2 := .slice ga (y4v c.states).length gc) (u0 := .string ⟨c.name.toArray⟩) (u1 := .slice xa c.vars.length xc) (u2 := .slice ya c.states.length yc) hC3 hX.out q0 q1 omT omT omT hwG (Nat.le_refl _) hr01
 have e6:=v7m (p:=p1) (v0 := .slice va c.vars.length vc) (v1 := .slice (some ⟨b,0,none⟩) c.states.length cap) (v2 := .slice ga (y4v c.states).length gc) (u0 := .string ⟨c.name.toArray⟩) (u1 := .slice xa c.vars.length xc) (u2 := .slice ya c.states.length yc) bl dl
 rw [← e6] at k1 k2 k3 hV3
 exact ⟨rv,rx,gi,va,vc,b,cap,ga,gc,xa,xc,ya,yc,rfl,k1,k2,hV3,k3⟩
structure Ap (w:World):Prop where
 al:Al w
 db:Db w
 tab:Tab w
 sw:Sw w
theorem j2v {w w':World} (h:Ap w) (hb:Below w.heap.size w w'):Ap w':=⟨z2o h.al hb,z4f h.db hb,q3v h.tab hb,k4a h.sw hb⟩
def k4d:ByteArray:=⟨#[99,104,97,114,116,32,99,10,115,116,97,116,101,32,97,10,101,110,100]⟩
def j5c:Ch:=⟨[99],[],[⟨[99],1,-1,[],[],[],[]⟩,⟨[97],3,0,[],[],[],[]⟩]⟩
theorem k6k:z3q k4d.data.toList = .ok j5c:=by kernel_rfl
theorem k6l:(z4r j5c).1 = 0:=by kernel_rfl
theorem v8z:(q5l j5c)[0]? = some ⟨#[102,114,101,115,104,32,109,111,118,101,115,32,48,32,99,108,111,99,107,32,48]⟩:=by decide +kernel
theorem x3j:(q5l j5c).length = 4:=rfl
set_option maxRecDepth 100000 in
set_option maxHeartbeats 4000000 in
theorem q5c (w:World) (h:Ap w):Calls Tryz.prog 6 #[] w (Ret (.bool true) w):=by
 have M:=hiT (fun wx (hb:Below w.heap.size w wx)=>y5w k4d deT k6k k6l wx (z2o h.al hb) (z4f h.db hb))
 have hA:=hiT (fun wx (hb:Below w.heap.size w wx)=>j2v h hb)
 unfold k4d at M
 clear h
 go_enter Tryz.func6,Tryz.ntmps6
 go_wp2_with fail
 refine (M.out _ gzT).mono ?_
 rintro e w1 ⟨rv,rx,gi,va,vc,b,cap,ga,gc,xa,xc,ya,yc,rfl,hTC,-,hV,hb⟩
 have hw1:Below w.heap.size w w1:=Below.trans gzT (hb.mono (by first | exact Nat.le_refl _ | exact gzT))
 have Bg:Hid (∀ wx,Below w1.heap.size w1 wx → Calls Tryz.prog 8 #[.agg #[.slice va 0 vc,.slice (some ⟨b,0,none⟩) 2 cap,.slice ga (y4v j5c.states).length gc]] wx (fun e w'=>∃ (pb:Nat) (da:Option Addr) (dc:Nat),e = .returned (.agg #[.int .i64 1,.int .i64 0,.int .i64 0,.int .i64 0,.int .u64 0,.slice (some ⟨pb,0,none⟩) 2 2,.slice da 0 dc,.slice none 0 0,.slice none 0 0,.slice none 0 0,.string ⟨#[]⟩,.slice none 0 0,.int .u64 0,.slice none 0 0]) ∧ SnRd w' (sn0 j5c) (some ⟨pb,0,none⟩) 2 da dc none 0 none 0 none 0 none 0 none 0 ∧ Below wx.heap.size wx w')):=hiT fun wx hx=>(y7g j5c w.heap.size va (some ⟨b,0,none⟩) ga vc cap (y4v j5c.states).length gc deT deT wx (z0a hV hx)).mono fun e w' hr=>by
  obtain ⟨pb,da,dc,he,h1,h2⟩:=hr
  exact ⟨pb,da,dc,he,h1,h2⟩
 have Ls:Hid (∀ wx,Below w1.heap.size w1 wx → ∀ (pb:Nat) (da:Option Addr) (dc:Nat),SnRd wx (sn0 j5c) (some ⟨pb,0,none⟩) 2 da dc none 0 none 0 none 0 none 0 none 0 → Calls Tryz.prog 11 #[(.agg #[.int .i64 1,.int .i64 0,.int .i64 0,.int .i64 0,.int .u64 0,.slice (some ⟨pb,0,none⟩) 2 2,.slice da 0 dc,.slice none 0 0,.slice none 0 0,.slice none 0 0,.string ⟨#[]⟩,.slice none 0 0,.int .u64 0,.slice none 0 0]),.agg #[.slice va 0 vc,.slice (some ⟨b,0,none⟩) 2 cap,.slice ga (y4v j5c.states).length gc]] wx (fun e w'=>∃ (ao:Option Addr) (cp:Nat),e = .returned (.slice ao 4 cp) ∧ z2d w' ao cp ((q5l j5c).flatMap z3j) ∧ Below wx.heap.size wx w')):=hiT fun wx hx pb da dc hs=>by
  have hp:=hA.out wx (hw1.trans (hx.mono hw1.size))
  exact y7j (c:=j5c) deT deT (fun v hv=>by cases hv) pb da dc va vc wx hp.db hp.tab hp.sw (z7n hTC hx) (z0a hV hx) hs
 have hz:=hw1.size
 clear M hTC hb hV hA
 simp only [show j5c.states.length = 2 from rfl,show j5c.vars.length = 0 from rfl]
 generalize (y4v j5c.states).length = gn at *
 generalize j5c.name = cn at *
 have hw1':=hiT hw1
 clear hw1
 (try dsimp only)
 go_wp2_with fail
 refine (Bg.out _ gzT).mono ?_
 rintro e w2 ⟨pb,da,dc,rfl,hR,hb2⟩
 have hb2':Below w1.heap.size w1 w2:=Below.trans gzT (hb2.mono gzT)
 have q0:w2.heap[w1.heap.size]? = some (.cells #[.slice va 0 vc,.slice (some ⟨b,0,none⟩) 2 cap,.slice ga gn gc] 27 (0,0)):=z0c (z0j (heap_alloc_new w1 _)) hb2
 obtain ⟨u0,u1,u2,ul,-⟩:=z3p q0
 have i1:InW w1.heap.size w2:=⟨ul⟩
 have hz2:=hb2'.size
 have Ls2:Hid (∀ wx,Below w2.heap.size w2 wx → Calls Tryz.prog 11 #[(.agg #[.int .i64 1,.int .i64 0,.int .i64 0,.int .i64 0,.int .u64 0,.slice (some ⟨pb,0,none⟩) 2 2,.slice da 0 dc,.slice none 0 0,.slice none 0 0,.slice none 0 0,.string ⟨#[]⟩,.slice none 0 0,.int .u64 0,.slice none 0 0]),.agg #[.slice va 0 vc,.slice (some ⟨b,0,none⟩) 2 cap,.slice ga gn gc]] wx (fun e w'=>∃ (ao:Option Addr) (cp:Nat),e = .returned (.slice ao 4 cp) ∧ z2d w' ao cp ((q5l j5c).flatMap z3j) ∧ Below wx.heap.size wx w')):=hiT fun wx hx=>Ls.out wx (hb2'.trans (hx.mono hz2)) pb da dc (z2v hR hx)
 have hw2:=hiT (hw1'.out.trans (hb2'.mono hz))
 have hw2z:=hw2.out.size
 clear Bg Ls hR hb2 hb2' q0
 dsimp only
 go_wp2_with fail
 refine (Ls2.out _ gzT).mono ?_
 rintro e w3 ⟨ao,cp,rfl,hL,hb3⟩
 have q1:w3.heap[w2.heap.size]? = some (.cells #[.int .i64 1,.int .i64 0,.int .i64 0,.int .i64 0,.int .u64 0,.slice (some ⟨pb,0,none⟩) 2 2,.slice da 0 dc,.slice none 0 0,.slice none 0 0,.slice none 0 0,.string ⟨#[]⟩,.slice none 0 0,.int .u64 0,.slice none 0 0] 44 (0,0)):=z0c (heap_alloc_new w2 _) hb3
 have hb3':Below w.heap.size w w3:=hw2.out.trans (Below.mono (Below.trans (show Below w2.heap.size w2 _ from gzT) (hb3.mono gzT)) hw2z)
 obtain ⟨d0,-⟩:=z1p q1
 have i2:InW w2.heap.size w3:=⟨lt_of_block q1⟩
 obtain ⟨g,o,rfl,hg,hc⟩:=z8g z3j 1 q0h hL 0 deT deT
 have c0:=hc 0 _ deT rfl
 have e0:(q5l j5c)[0] = ⟨#[102,114,101,115,104,32,109,111,118,101,115,32,48,32,99,108,111,99,107,32,48]⟩:=by
  have:=v8z
  rw [List.getElem?_eq_getElem deT] at this
  exact Option.some.inj this
 rw [e0,Nat.zero_mul,Nat.add_zero] at c0
 have i3:InW g w3:=⟨hg⟩
 have hfin:=hiT hb3'
 clear hL hb3 hb3' q1 hc e0 Ls2 hw2
 dsimp only
 go_wp2
 go_returns
 exact ⟨rfl,hfin.out.trans (Below.mono (show Below w3.heap.size w3 _ from gzT) hfin.out.size)⟩
end Go.Proofs.YtacnlghljmgdiaaGreatDoor
