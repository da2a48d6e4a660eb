/- Several texts of this proof, joined: SD2, SR4, SR5, SY4. -/
import Derived.Test.YtacnlghljmgdiaaGreatDoorL6
import Derived.BigRegion
import Derived.WalkKit
import Derived.ProofKit
import Derived.OpenShut
import Derived.Handy
import Derived.BigQuiet
import Derived.OwnWalk
import Derived.Lib.Hide
import Derived.WalkSmall
import Derived.WalkLawsBesides
import Derived.Test.YtacnlghljmgdiaaGreatDoorK3
import Derived.Test.YtacnlghljmgdiaaGreatDoorZ4
import Derived.Test.YtacnlghljmgdiaaGreatDoorO5
import Derived.Test.YtacnlghljmgdiaaGreatDoorQ7
namespace Go.Proofs.YtacnlghljmgdiaaGreatDoor
open Go.RowKit
set_option maxRecDepth 100000 in
set_option maxHeartbeats 4000000 in
theorem v5d (s:ByteArray) (hs:20000 < s.size) (h63:s.size < 2 ^ 63) (w:World):Calls Tryz.prog 7 #[.string s] w (x2v w):=by
 have hlen:(20000:Int) < (s.size:Int):=by omega
 have hb:=Below.refl w.heap.size w
 have f0:=heap_alloc_new w (.cells #[.slice none 0 0,.slice none 0 0,.slice none 0 0] 27)
 go_enter Tryz.func7,Tryz.ntmps7
 go_wp2_with fail
 go_returns
 refine ⟨none,none,none,none,none,0,0,0,0,0,0,0,0,0,0,[],rfl,?_⟩
 exact gzT
set_option maxRecDepth 100000 in
set_option maxHeartbeats 4000000 in
theorem v9c (s:ByteArray) (hs:s.size ≤ 20000) (h:∀ c,z3q s.data.toList = .ok c → ¬ (z4r c).1 = 0) (w:World) (hw:Al w):Calls Tryz.prog 7 #[.string s] w (x2v w):=by
 have hlen:¬ (20000:Int) < (s.size:Int):=by omega
 cases hx:z3q s.data.toList with
 | error x =>
  have P:=hiT (fun wx (hb:Below w.heap.size w wx)=>y9p s omT (by rw [hx];exact fun c h=>by cases h) wx (z2o hw hb))
  clear hw hx h
  go_enter Tryz.func7,Tryz.ntmps7
  go_wp2_with fail
  refine (P.out _ gzT).mono ?_
  rintro e w1 ⟨v1,v2,v3,y,n,rfl,hy,⟨a1,a2,a3,b1,b2,b3,t,rfl,rfl,rfl⟩,hb⟩
  have hw1:Below w.heap.size w w1:=Below.trans gzT (hb.mono (by simp;omega))
  have r0:=z0c (z0j (heap_alloc_new w (.cells #[.slice none 0 0,.slice none 0 0,.slice none 0 0] 27))) hb
  have r1:=z0c (z0s (b:=w.heap.size + 1) (w:=w.alloc (.cells #[.slice none 0 0,.slice none 0 0,.slice none 0 0] 27)) (o := .cells #[.string ⟨#[]⟩,.slice none 0 0,.slice none 0 0] 31) (by simp)) hb
  have hr01:w.heap.size ≤ w.heap.size + 1:=by omega
  have hy2:(y != 0) = true:=by rw [bne,hy];rfl
  obtain ⟨b0',b1',b2',bl,bf⟩:=z3p r0
  obtain ⟨d0,d1,d2,dl,df⟩:=z3p r1
  clear P hb
  have f0:=bf 0
  have f1:=bf 1
  have f2:=bf 2
  have g0:=df 0
  have g1:=df 1
  have g2:=df 2
  have e0:=z0b b0'
  have e1:=z0b b1'
  have e2:=z0b b2'
  have e3:=z0b d0
  have e4:=z0b d1
  have e5:=z0b d2
  have j0:InW w.heap.size w1:=⟨bl⟩
  have j1:InW (w.heap.size + 1) w1:=⟨dl⟩
  clear bf df r0 r1
  dsimp only
  go_wp2
  go_returns
  refine ⟨none,none,none,none,none,0,0,0,0,0,0,0,0,0,0,[],rfl,?_⟩
  exact k6d hw1 hw1.size (Nat.le_refl _) (Nat.le_succ _) _
 | ok c =>
  have hk:=h c hx
  have O:=v1t hx
  have SZ:=j7q (l:=s.data.toList) (c:=c) (y:=0) (n:=0) (by rw [hx];exact ⟨fun d h=>(by cases h;exact ⟨rfl,rfl,rfl⟩),fun _ _ h=>(by cases h)⟩)
  have P:=hiT (fun wx (hb:Below w.heap.size w wx)=>j5x s omT hx wx (z2o hw hb))
  have LB:=hiT (fun wx (hb:Below w.heap.size w wx)=>(z2o hw hb).ax.lb)
  have e1:((z4r c).1 == 0) = false:=by simpa using hk
  replace O:=hiT O
  replace SZ:=hiT SZ
  replace hk:=hiT hk
  clear hx hw h
  go_enter Tryz.func7,Tryz.ntmps7
  go_wp2_with fail
  refine (P.out _ gzT).mono ?_
  rintro e w1 ⟨rv,va,vc,sa,sc,rfl,hV,hb⟩
  have hw1:Below w.heap.size w w1:=Below.trans gzT (hb.mono (by simp;omega))
  have hV0:=hiT (fun wx (hx:Below w1.heap.size w1 wx)=>z1u hV hx)
  have r0:=z0c (z0j (heap_alloc_new w (.cells #[.slice none 0 0,.slice none 0 0,.slice none 0 0] 27))) hb
  have r1:=z0c (z0s (b:=w.heap.size + 1) (w:=w.alloc (.cells #[.slice none 0 0,.slice none 0 0,.slice none 0 0] 27)) (o := .cells #[.string ⟨#[]⟩,.slice none 0 0,.slice none 0 0] 31) (by simp)) hb
  have hz1:=hw1.size
  have hr01:w.heap.size ≤ w.heap.size + 1:=by omega
  have hr0:w.heap.size < w1.heap.size:=lt_of_block r0
  clear P hb hV
  generalize hrb:w.heap.size + 1 = rb at *
  have M:=hiT (fun wx (hx:Below w1.heap.size w1 wx)=>v0c (w:=wx) O.out (LB.out _ (hw1.trans (hx.mono hz1))) (hV0.out _ hx) hk.out)
  have C:=hiT (fun wx (hx:Below w1.heap.size w1 wx)=>j1j (B:=0) SZ.out wx (Nat.zero_le _) (y1u (hV0.out wx hx) (Nat.zero_le _)))
  generalize (z4r c).1 = q at *
  have q1:=heap_alloc_new w1 (.cells #[str c.name,.slice va c.vars.length vc,.slice sa c.states.length sc] 72 (0,0))
  have q1':=hiT q1
  clear q1
  dsimp only
  go_wp2_with fail
  refine (M.out _ gzT).mono ?_
  rintro e w2 ⟨rfl,hb2⟩
  have hw2:Below w1.heap.size w1 w2:=Below.trans gzT (hb2.mono (by simp))
  obtain ⟨u0,u1,u2,ul,-⟩:=z3p (z0c q1'.out hb2)
  have C2:=hiT (fun wx (hx:Below w2.heap.size w2 wx)=>C.out wx (hw2.trans (hx.mono hw2.size)))
  have hz2:=hw2.size
  clear M hb2 q1'
  dsimp only
  go_wp2_with fail
  obtain ⟨W2,hW2⟩:∃ W2,w2.alloc (.cells #[.slice none 0 0,.slice none 0 0,.slice none 0 0] 27) = W2:=⟨_,rfl⟩
  have t2:W2.heap[w2.heap.size]? = some (.cells #[.slice none 0 0,.slice none 0 0,.slice none 0 0] 27 (0,0)):=by rw [← hW2];exact heap_alloc_new w2 _
  have hb22:Below w2.heap.size w2 W2:=by rw [← hW2];exact gzT
  rw [hW2]
  obtain ⟨a0,a1,a2,al,-⟩:=z3p t2
  have u0':=(hb22.cell (p:=⟨w1.heap.size,0,none⟩) ul).trans u0
  have u1':=(hb22.cell (p:=⟨w1.heap.size,1,none⟩) ul).trans u1
  have u2':=(hb22.cell (p:=⟨w1.heap.size,2,none⟩) ul).trans u2
  have j2:InW w2.heap.size W2:=⟨al⟩
  have j1:InW w1.heap.size W2:=⟨Nat.lt_of_lt_of_le ul hb22.size⟩
  replace hb22:=hiT hb22
  clear u0 u1 u2 hW2
  have C3:Hid (∀ wx,Below W2.heap.size W2 wx → Calls Tryz.prog 20 #[.agg #[str c.name,.slice va c.vars.length vc,.slice sa c.states.length sc]] wx (k5m 0 c wx)):=hiT fun wx hx=>C2.out wx (hb22.out.trans (hx.mono hb22.out.size))
  clear C C2
  replace t2:=hiT t2
  have s0:=z0c (z0c r0 hw2) hb22.out
  have s1:=z0c (z0c r1 hw2) hb22.out
  obtain ⟨b0,b1,b2,bl,bf⟩:=z3p s0
  obtain ⟨d0,d1,d2,dl,df⟩:=z3p s1
  have f0:=bf 0
  have f1:=bf 1
  have f2:=bf 2
  have g0:=df 0
  have g1:=df 1
  have g2:=df 2
  have h0:=z0b b0
  have h1:=z0b b1
  have h2:=z0b b2
  have h3:=z0b d0
  have h4:=z0b d1
  have h5:=z0b d2
  have j3:InW w.heap.size W2:=⟨bl⟩
  have j4:InW rb W2:=⟨dl⟩
  have hrb1:rb < w1.heap.size:=lt_of_block r1
  replace s0:=hiT s0
  replace s1:=hiT s1
  replace hw2:=hiT hw2
  clear bf df r0 r1
  refine z1n (S:=fun w'=>w'.cell? ⟨w2.heap.size,0,none⟩ = some (.slice none 0 0) ∧ w'.cell? ⟨w2.heap.size,1,none⟩ = some (.slice none 0 0) ∧ w'.cell? ⟨w2.heap.size,2,none⟩ = some (.slice none 0 0) ∧ w'.cell? ⟨w1.heap.size,0,none⟩ = some (str c.name) ∧ w'.cell? ⟨w1.heap.size,1,none⟩ = some (.slice va c.vars.length vc) ∧ w'.cell? ⟨w1.heap.size,2,none⟩ = some (.slice sa c.states.length sc)) 16 krT (by exact ⟨a0,a1,a2,u0',u1',u2'⟩) (fun hS=>?_)
  have hT:=hS
  (try dsimp only at hT)
  obtain ⟨s0',s1',s2',s3',s4',s5'⟩:=hT
  (refine mT 0 rfl rfl (v:=?_) (Or.inl ⟨by rfl,?_⟩) ?_;rotate_left;(focus (intro w hSw;(try dsimp only at hSw);go_simp;all_goals (with_reducible rfl)));simp only [List.setIfInBounds_toArray,List.set_cons_zero,List.set_cons_succ])
  (refine mT 1 rfl rfl (v:=?_) (Or.inl ⟨by rfl,?_⟩) ?_;rotate_left;(focus (intro w hSw;(try dsimp only at hSw);go_simp;all_goals (with_reducible rfl)));simp only [List.setIfInBounds_toArray,List.set_cons_zero,List.set_cons_succ])
  (refine mT 3 rfl rfl (v:=?_) (Or.inl ⟨by rfl,?_⟩) ?_;rotate_left;(focus (intro w hSw;(try dsimp only at hSw);go_simp;all_goals (with_reducible rfl)));simp only [List.setIfInBounds_toArray,List.set_cons_zero,List.set_cons_succ])
  (refine mT 4 rfl rfl (v:=?_) (Or.inl ⟨by rfl,?_⟩) ?_;rotate_left;(focus (intro w hSw;(try dsimp only at hSw);go_simp;all_goals (with_reducible rfl)));simp only [List.setIfInBounds_toArray,List.set_cons_zero,List.set_cons_succ])
  refine z0f (t:=2) krT rfl rfl (fun K' hK=>?_)
  go_simp
  refine (C3.out _ gzT).mono ?_
  rintro e w3 ⟨rx,vx,sx,rfl,hX,hb3⟩
  obtain ⟨xa,xc,ya,yc,rfl,rfl⟩:=q6a hX
  obtain ⟨p1,rfl⟩:=toG hb3
  clear hX hb3
  refine hK.out _ _ (fun _=>?_) (fun hS=>?_)
  ·(try dsimp only)
   exact ⟨(z1f _ _ _ _).trans s0',(z1f _ _ _ _).trans s1',(z1f _ _ _ _).trans s2',(z1f _ _ _ _).trans s3',(z1f _ _ _ _).trans s4',(z1f _ _ _ _).trans s5'⟩
  clear s0' s1' s2' s3' s4' s5' hK K'
  replace hS:=hS deT
  (refine mT 5 rfl rfl (v:=?_) (Or.inl ⟨by rfl,?_⟩) ?_;rotate_left;(focus (intro w hSw;(try dsimp only at hSw);go_simp;all_goals (with_reducible rfl)));simp only [List.setIfInBounds_toArray,List.set_cons_zero,List.set_cons_succ])
  (try simp only [e1])
  (refine z0t (i:=6) (v:=undef) rfl rfl krT krT krT krT (fun _ _ _ h=>h) (Or.inr ⟨by rfl,rfl⟩) (by assumption) ?_;simp only [List.setIfInBounds_toArray,List.set_cons_zero,List.set_cons_succ])
  (refine z0t (i:=7) (v:=undef) rfl rfl krT krT krT krT (fun _ _ _ h=>h) (Or.inr ⟨by rfl,rfl⟩) (by assumption) ?_;simp only [List.setIfInBounds_toArray,List.set_cons_zero,List.set_cons_succ])
  (refine z0t (i:=8) (v:=undef) rfl rfl krT krT krT krT (fun _ _ _ h=>h) (Or.inr ⟨by rfl,rfl⟩) (by assumption) ?_;simp only [List.setIfInBounds_toArray,List.set_cons_zero,List.set_cons_succ])
  (refine z0t (i:=9) (v:=undef) rfl rfl krT krT krT krT (fun _ _ _ h=>h) (Or.inr ⟨by rfl,rfl⟩) (by assumption) ?_;simp only [List.setIfInBounds_toArray,List.set_cons_zero,List.set_cons_succ])
  (refine z0t (i:=10) (v:=undef) rfl rfl krT krT krT krT (fun _ _ _ h=>h) (Or.inr ⟨by rfl,rfl⟩) (by assumption) ?_;simp only [List.setIfInBounds_toArray,List.set_cons_zero,List.set_cons_succ])
  (refine z0t (i:=11) (v:=undef) rfl rfl krT krT krT krT (fun _ _ _ h=>h) (Or.inr ⟨by rfl,rfl⟩) (by assumption) ?_;simp only [List.setIfInBounds_toArray,List.set_cons_zero,List.set_cons_succ])
  (refine z0t (i:=12) (v:=undef) rfl rfl krT krT krT krT (fun _ _ _ h=>h) (Or.inr ⟨by rfl,rfl⟩) (by assumption) ?_;simp only [List.setIfInBounds_toArray,List.set_cons_zero,List.set_cons_succ])
  (refine mT 13 rfl rfl (v:=?_) (Or.inl ⟨by rfl,?_⟩) ?_;rotate_left;(focus (intro w hSw;(try dsimp only at hSw);go_simp;all_goals (with_reducible rfl)));simp only [List.setIfInBounds_toArray,List.set_cons_zero,List.set_cons_succ])
  refine z0f (t:=14) krT rfl rfl (fun K' hK=>?_)
  go_simp
  refine hK.out _ _ (fun _=>?_) (fun hS=>?_)
  ·(try dsimp only)
   refine ⟨?_,?_,?_,?_,?_,?_⟩ <;> (simp [go_sem, *];done)
  clear hK K' hS
  refine z0f (t:=15) krT rfl rfl (fun K' hK=>?_)
  go_simp
  refine hK.out _ _ (fun _=>?_) (fun hS=>?_)
  ·(try dsimp only)
   refine ⟨?_,?_,?_,?_,?_,?_⟩ <;> (simp [go_sem, *];done)
  clear hK K' hS
  refine z0f (t:=16) krT rfl rfl (fun K' hK=>?_)
  go_simp
  refine hK.out _ _ (fun h=>absurd rfl h) (fun _=>z1j krT ?_)
  go_wp2
  go_returns
  have hW2:Below w2.heap.size w2 W2:=hb22.out
  have hwG:Below w.heap.size w W2:=hw1.trans ((hw2.out.trans (hW2.mono hz2)).mono hz1)
  refine ⟨none,none,none,xa,ya,0,0,0,0,0,0,c.vars.length,xc,c.states.length,yc,c.name,rfl,?_⟩
  exact y9c (j0p hwG (Nat.le_refl _) hr01) (by simpa using hwG.size)
theorem k9c (n v:ByteArray):(⟨#[118,97,114,32]⟩ ++ n ++ ⟨#[32]⟩ ++ v:ByteArray) = q4s vaB [n,v]:=by
 apply ByteArray.ext
 rw [ByteArray.data_append,ByteArray.data_append,ByteArray.data_append]
 unfold q4s
 rw [q0v]
 simp [Lib.joinTail]
theorem v3v (w:World):Calls Tryz.prog 31 #[.int .i64 0] w (Ret (.string z7e) w):=by
 have h:=j0w 0 0 w deT (by unfold I64;omega)
 have e:z4b 0 = z7e:=by decide +kernel
 rw [e] at h
 exact h
theorem y5m:(((((⟨#[102,114,101,115,104]⟩ ++ ⟨#[32,109,111,118,101,115,32]⟩) ++ z7e) ++ ⟨#[32,99,108,111,99,107,32]⟩) ++ z7e:ByteArray)) = q4s (q5x 1) [mvB,z7e,ckB,z7e]:=by decide +kernel
theorem v4x:j9o = q4s j9o []:=by decide +kernel
theorem k7q:k0u = q4s k0u []:=by decide +kernel
theorem k1l:q8g = q4s q8g []:=by decide +kernel
set_option maxRecDepth 100000 in
set_option maxHeartbeats 8000000 in
theorem v2b (c:Ch) (rx:Nat → Value) (xa ya:Option Addr) (xc yc:Nat) (hm:c.states.length ≤ 49) (hv:c.vars.length ≤ 16) (hok:∀ v ∈ c.vars,VrOk v) (pb:Nat) (da:Option Addr) (dc:Nat) (w:World) (h:ChV ct1 0 w c rx (.slice xa c.vars.length xc) (.slice ya c.states.length yc)) (hs:RsRd w c pb da dc) :
  Calls Tryz.prog 12 #[.agg (rC c xa ya xc yc),.agg (rsB c.states.length c.vars.length pb da dc)] w (fun e w'=>∃ (ao:Option Addr) (cp:Nat),e = .returned (.slice ao (q5l c).length cp) ∧ z2d w' ao cp ((q5l c).flatMap z3j) ∧ Below w.heap.size w w'):=by
 have Ce:=hiT (fun wx (hb:Below w.heap.size w wx)=>j7i c rx xa ya xc yc hv pb da dc wx (z1u h hb) (y7c hs hb))
 have Dg:=hiT (fun wx=>v3v wx)
 have Nm:=hiT (fun x y z wx=>y0q x y z wx)
 have Sy:=hiT (fun f wx=>k3i f wx)
 have Sh:=hiT (fun k n s hr hn wx=>k3j k n s hr hn wx)
 have P:=hiT (fun wx (hb:Below w.heap.size w wx) i (hi:i < c.states.length)=>show wx.cell? ⟨pb,i,none⟩ = some (.slice none 0 0) ∧ pb < wx.heap.size from by
  obtain ⟨B,hp⟩:=hs.past
  obtain ⟨g,cap,e,hg,_,_,hc⟩:=z1g (z0a hp hb) omT
  cases e
  exact ⟨hc i _ (by simp [z9x,hi]),hg⟩)
 clear h hs
 go_enter Tryz.func12,Tryz.ntmps12
 go_wp2_with fail
 obtain ⟨W1,hW1⟩:∃ X,((w.alloc (.cells (rC c xa ya xc yc) 31)).alloc (.cells (rsB c.states.length c.vars.length pb da dc) 54)).alloc (.cells #[.string ⟨#[]⟩,.string ⟨#[102,114,101,115,104]⟩,.string ⟨#[114,117,110,110,105,110,103]⟩,.string ⟨#[100,111,110,101]⟩,.string ⟨#[104,97,108,116,101,100]⟩] 97) = X:=⟨_,rfl⟩
 have bW:Below w.heap.size w W1:=by rw [← hW1];exact gzT
 have tx:W1.heap[w.heap.size]? = some (.cells (rC c xa ya xc yc) 31 (0,0)):=by rw [← hW1];exact z0j (z0j (heap_alloc_new w _))
 have sx:W1.heap[w.heap.size + 1]? = some (.cells (rsB c.states.length c.vars.length pb da dc) 54 (0,0)):=by rw [← hW1];exact z0j (z0s (by simp))
 have wx5:W1.cell? ⟨w.heap.size + 1 + 1,1,none⟩ = some (.string ⟨#[102,114,101,115,104]⟩):=by rw [← hW1];rw [cell_of_row _ _ _ _ _ _ (z0s (by simp))];rfl
 have wl5:w.heap.size + 1 + 1 < W1.heap.size:=by rw [← hW1];simp
 rw [hW1]
 clear hW1
 have hzW:=bW.size
 have hG:Hid (∀ wx,Below W1.heap.size W1 wx → Below w.heap.size w wx):=hiT fun wx hx=>bW.trans (hx.mono bW.size)
 have tx':=hiT tx
 have sx':=hiT sx
 have k0:W1.cell? ⟨w.heap.size,0,none⟩ = some (str c.name):=by rw [cell_of_row _ _ _ _ _ _ tx];rfl
 have k1:W1.cell? ⟨w.heap.size,1,none⟩ = some (.slice xa c.vars.length xc):=by rw [cell_of_row _ _ _ _ _ _ tx];rfl
 have k2:W1.cell? ⟨w.heap.size,2,none⟩ = some (.slice ya c.states.length yc):=by rw [cell_of_row _ _ _ _ _ _ tx];rfl
 obtain ⟨s0,s1,-,s3,s4,-,-,-,-,-,-,-,-,-,sl,-⟩:=z1p sx
 have tl:=lt_of_block tx
 have i1:InW w.heap.size W1:=⟨tl⟩
 have i2:InW (w.heap.size + 1) W1:=⟨sl⟩
 have i3:InW (w.heap.size + 1 + 1) W1:=⟨wl5⟩
 clear tx sx bW
 have KS:Hid (∀ X,Below W1.heap.size W1 X → X.cell? ⟨w.heap.size,0,none⟩ = some (str c.name) ∧ X.cell? ⟨w.heap.size,1,none⟩ = some (.slice xa c.vars.length xc) ∧ X.cell? ⟨w.heap.size,2,none⟩ = some (.slice ya c.states.length yc) ∧ X.cell? ⟨w.heap.size + 1,0,none⟩ = some (.int .i64 1) ∧ X.cell? ⟨w.heap.size + 1,1,none⟩ = some (.int .i64 0) ∧ X.cell? ⟨w.heap.size + 1,3,none⟩ = some (.int .i64 0) ∧ X.cell? ⟨w.heap.size + 1,4,none⟩ = some (.slice none 0 0) ∧ X.cell? ⟨w.heap.size + 1 + 1,1,none⟩ = some (.string ⟨#[102,114,101,115,104]⟩)):=hiT fun X hx=>⟨(hx.cell (p:=⟨_,_,none⟩) tl).trans k0,(hx.cell (p:=⟨_,_,none⟩) tl).trans k1,(hx.cell (p:=⟨_,_,none⟩) tl).trans k2,(hx.cell (p:=⟨_,_,none⟩) sl).trans s0,(hx.cell (p:=⟨_,_,none⟩) sl).trans s1,(hx.cell (p:=⟨_,_,none⟩) sl).trans s3,(hx.cell (p:=⟨_,_,none⟩) sl).trans s4,(hx.cell (p:=⟨_,_,none⟩) wl5).trans wx5⟩
 refine z1n (S:=fun w'=>w'.cell? ⟨w.heap.size,0,none⟩ = some (str c.name) ∧ w'.cell? ⟨w.heap.size,1,none⟩ = some (.slice xa c.vars.length xc) ∧ w'.cell? ⟨w.heap.size,2,none⟩ = some (.slice ya c.states.length yc) ∧ w'.cell? ⟨w.heap.size + 1,0,none⟩ = some (.int .i64 1) ∧ w'.cell? ⟨w.heap.size + 1,1,none⟩ = some (.int .i64 0) ∧ w'.cell? ⟨w.heap.size + 1,3,none⟩ = some (.int .i64 0) ∧ w'.cell? ⟨w.heap.size + 1,4,none⟩ = some (.slice none 0 0) ∧ w'.cell? ⟨w.heap.size + 1 + 1,1,none⟩ = some (.string ⟨#[102,114,101,115,104]⟩)) 20 krT (by exact ⟨k0,k1,k2,s0,s1,s3,s4,wx5⟩) (fun hS=>?_)
 clear k0 k1 k2 s0 s1 s3 s4 wx5
 (refine mT 0 rfl rfl (v:=?_) (Or.inl ⟨by rfl,?_⟩) ?_;rotate_left;(focus (intro w hSw;(try dsimp only at hSw);go_simp;all_goals (with_reducible rfl)));simp only [List.setIfInBounds_toArray,List.set_cons_zero,List.set_cons_succ])
 (refine mT 1 rfl rfl (v:=?_) (Or.inl ⟨by rfl,?_⟩) ?_;rotate_left;(focus (intro w hSw;(try dsimp only at hSw);go_simp;all_goals (with_reducible rfl)));simp only [List.setIfInBounds_toArray,List.set_cons_zero,List.set_cons_succ])
 (refine mT 2 rfl rfl (v:=?_) (Or.inl ⟨by rfl,?_⟩) ?_;rotate_left;(focus (intro w hSw;(try dsimp only at hSw);go_simp;all_goals (with_reducible rfl)));simp only [List.setIfInBounds_toArray,List.set_cons_zero,List.set_cons_succ])
 (refine mT 3 rfl rfl (v:=?_) (Or.inl ⟨by rfl,?_⟩) ?_;rotate_left;(focus (intro w hSw;(try dsimp only at hSw);go_simp;all_goals (with_reducible rfl)));simp only [List.setIfInBounds_toArray,List.set_cons_zero,List.set_cons_succ])
 (refine mT 4 rfl rfl (v:=?_) (Or.inl ⟨by rfl,?_⟩) ?_;rotate_left;(focus (intro w hSw;(try dsimp only at hSw);go_simp;all_goals (with_reducible rfl)));simp only [List.setIfInBounds_toArray,List.set_cons_zero,List.set_cons_succ])
 (refine mT 5 rfl rfl (v:=?_) (Or.inl ⟨by rfl,?_⟩) ?_;rotate_left;(focus (intro w hSw;(try dsimp only at hSw);go_simp;all_goals (with_reducible rfl)));simp only [List.setIfInBounds_toArray,List.set_cons_zero,List.set_cons_succ])
 (refine mT 6 rfl rfl (v:=?_) (Or.inl ⟨by rfl,?_⟩) ?_;rotate_left;(focus (intro w hSw;(try dsimp only at hSw);go_simp;all_goals (with_reducible rfl)));simp only [List.setIfInBounds_toArray,List.set_cons_zero,List.set_cons_succ])
 (refine mT 10 rfl rfl (v:=?_) (Or.inl ⟨by rfl,?_⟩) ?_;rotate_left;(focus (intro w hSw;(try dsimp only at hSw);go_simp;all_goals (with_reducible rfl)));simp only [List.setIfInBounds_toArray,List.set_cons_zero,List.set_cons_succ])
 (refine mT 11 rfl rfl (v:=?_) (Or.inl ⟨by rfl,?_⟩) ?_;rotate_left;(focus (intro w hSw;(try dsimp only at hSw);go_simp;all_goals (with_reducible rfl)));simp only [List.setIfInBounds_toArray,List.set_cons_zero,List.set_cons_succ])
 (refine mT 14 rfl rfl (v:=?_) (Or.inl ⟨by rfl,?_⟩) ?_;rotate_left;(focus (intro w hSw;(try dsimp only at hSw);go_simp;all_goals (with_reducible rfl)));simp only [List.setIfInBounds_toArray,List.set_cons_zero,List.set_cons_succ])
 (refine mT 15 rfl rfl (v:=?_) (Or.inl ⟨by rfl,?_⟩) ?_;rotate_left;(focus (intro w hSw;(try dsimp only at hSw);go_simp;all_goals (with_reducible rfl)));simp only [List.setIfInBounds_toArray,List.set_cons_zero,List.set_cons_succ])
 (refine mT 16 rfl rfl (v:=?_) (Or.inl ⟨by rfl,?_⟩) ?_;rotate_left;(focus (intro w hSw;(try dsimp only at hSw);go_simp;all_goals (with_reducible rfl)));simp only [List.setIfInBounds_toArray,List.set_cons_zero,List.set_cons_succ])
 refine z0f (t:=7) krT rfl rfl (fun K' hK=>?_)
 go_simp
 refine (Dg.out _).mono ?_
 intro e wz hr
 obtain ⟨rfl,p1,rfl⟩:=hr.out
 clear hr
 refine hK.out _ _ (fun _=>KS.out _ gzT) (fun hS=>?_)
 clear hK K'
 replace hS:=hS deT
 (refine mT 8 rfl rfl (v:=?_) (Or.inl ⟨by rfl,?_⟩) ?_;rotate_left;(focus (intro w hSw;(try dsimp only at hSw);go_simp;all_goals (with_reducible rfl)));simp only [List.setIfInBounds_toArray,List.set_cons_zero,List.set_cons_succ])
 (refine mT 9 rfl rfl (v:=?_) (Or.inl ⟨by rfl,?_⟩) ?_;rotate_left;(focus (intro w hSw;(try dsimp only at hSw);go_simp;all_goals (with_reducible rfl)));simp only [List.setIfInBounds_toArray,List.set_cons_zero,List.set_cons_succ])
 refine z0f (t:=12) krT rfl rfl (fun K' hK=>?_)
 go_simp
 refine (Dg.out _).mono ?_
 intro e wz hr
 obtain ⟨rfl,p2,rfl⟩:=hr.out
 clear hr
 refine hK.out _ _ (fun _=>KS.out _ gzT) (fun hS=>?_)
 clear hK K'
 replace hS:=hS deT
 (refine mT 13 rfl rfl (v:=?_) (Or.inl ⟨by rfl,?_⟩) ?_;rotate_left;(focus (intro w hSw;(try dsimp only at hSw);go_simp;all_goals (with_reducible rfl)));simp only [List.setIfInBounds_toArray,List.set_cons_zero,List.set_cons_succ])
 refine z0f (t:=17) krT rfl rfl (fun K' hK=>?_)
 go_simp
 refine (Nm.out _ _ _ _).mono ?_
 intro e wz hr
 obtain ⟨rfl,p3,rfl⟩:=hr.out
 clear hr
 refine hK.out _ _ (fun _=>KS.out _ gzT) (fun hS=>?_)
 clear hK K'
 replace hS:=hS deT
 refine z0f (t:=18) krT rfl rfl (fun K' hK=>?_)
 go_simp
 refine (Sy.out j9o _).mono ?_
 intro e wz hr
 obtain ⟨rfl,p4,rfl⟩:=hr.out
 clear hr
 refine hK.out _ _ (fun _=>KS.out _ gzT) (fun hS=>?_)
 clear hK K'
 replace hS:=hS deT
 refine z0f (t:=19) krT rfl rfl (fun K' hK=>?_)
 go_simp
 refine hK.out _ _ (fun _=>KS.out _ gzT) (fun hS=>?_)
 clear hK K'
 replace hS:=hS deT
 refine z0f (t:=20) krT rfl rfl (fun K' hK=>?_)
 go_simp
 refine hK.out _ _ (fun h=>absurd rfl h) (fun _=>z1j krT ?_)
 clear hS KS i1 i2 i3 wl5 tl sl
 rw [y5m]
 have hLn:Hid (q5l c = [q4s (q5x 1) [mvB,z7e,ckB,z7e],j9o] ++ c.vars.map j8g ++ [k0u,q8g]):=hiT (by unfold q5l;rw [← v4x,← k7q,← k1l])
 generalize q4s (q5x 1) [mvB,z7e,ckB,z7e] = l0 at *
 generalize hg:G _ W1 = Y
 have bY:Below W1.heap.size W1 Y:=by rw [← hg];exact gzT
 clear hg
 obtain ⟨Y1,hY1⟩:∃ X,Y.alloc (.cells #[.string l0,.string j9o] 9) = X:=⟨_,rfl⟩
 have bY1:Below W1.heap.size W1 Y1:=by rw [← hY1];exact bY.trans ((Below.refl Y.heap.size Y).alloc (Nat.le_refl _) _ |>.mono bY.size)
 have lO:Y1.ownsRow W1.heap.size 9 1 (.slice (some ⟨Y.heap.size,0,none⟩) 2 2) 2 [.string l0,.string j9o]:=by
  rw [← hY1]
  exact q3m (cs:=#[_,_]) bY.size (heap_alloc_new Y _) rfl deT
 rw [hY1]
 clear hY1 bY
 generalize Y.heap.size = s2 at *
 have tY:=z0c tx'.out bY1
 have sY:=z0c sx'.out bY1
 have k0:Y1.cell? ⟨w.heap.size,0,none⟩ = some (str c.name):=by rw [cell_of_row _ _ _ _ _ _ tY];rfl
 have k1:Y1.cell? ⟨w.heap.size,1,none⟩ = some (.slice xa c.vars.length xc):=by rw [cell_of_row _ _ _ _ _ _ tY];rfl
 have k2:Y1.cell? ⟨w.heap.size,2,none⟩ = some (.slice ya c.states.length yc):=by rw [cell_of_row _ _ _ _ _ _ tY];rfl
 obtain ⟨s0,s1,q2,s3,s4,s5,s6,s7,s8,s9,s10,s11,s12,s13,sl,-⟩:=z1p sY
 have i1:InW w.heap.size Y1:=⟨lt_of_block tY⟩
 have i2:InW (w.heap.size + 1) Y1:=⟨sl⟩
 have lO':=hiT lO
 have bY':=hiT bY1
 clear tY sY lO bY1
 go_wp2_with fail
 refine (Ce.out _ (hG.out _ bY'.out)).mono ?_
 rintro e w1 ⟨ea,ec,rfl,hE,hb1⟩
 have bw:Below W1.heap.size W1 w1:=bY'.out.trans (hb1.mono bY'.out.size)
 have lO1:=hiT (z0a lO'.out hb1)
 have hE':=hiT (z0m hE bY'.out.size)
 have bw':=hiT bw
 have hzw:=bw.size
 clear Ce hb1 lO' bY' hE bw s0 s1 q2 s3 s4 s5 s6 s7 s8 s9 s10 s11 s12 s13 sl k0 k1 k2 i1 i2
 dsimp only
 go_wp2
 have T1:=hiT (fun i (hi:i < c.vars.length)=>show ([l0,j9o] ++ (c.vars.map j8g).take (i + 1)).flatMap z3j = ([l0,j9o] ++ (c.vars.map j8g).take i).flatMap z3j ++ z3j (j8g c.vars[i]) by
  rw [List.take_succ_eq_append_getElem (by rw [List.length_map];exact hi),← List.append_assoc,List.flatMap_append,List.getElem_map];simp)
 have V1:=hiT (fun i (hi:i < c.vars.length)=>hok _ (List.getElem_mem hi))
 obtain ⟨j0,hj,hy1,hy2,hy3⟩:=info_parts Tryz.infoQs
 go_loopw [6,8] (fun l v wr=>∃ (i:Nat) (la:Option Addr) (lc:Nat),l = .slice la (2 + i) lc ∧ v = .int .i64 (i:Int) ∧ i ≤ c.vars.length ∧ wr.ownsRow W1.heap.size 9 1 (.slice la (2 + i) lc) (2 + i) (([l0,j9o] ++ (c.vars.map j8g).take i).flatMap z3j) ∧ wr.ownsRow W1.heap.size 104 4 (.slice ea c.vars.length ec) c.vars.length ((ev0 c).flatMap evC) ∧ Below W1.heap.size W1 wr) (fun _ v _=>c.vars.length - (intOf v).toNat)
 case atStart=>exact ⟨0,some ⟨s2,0,none⟩,2,rfl,rfl,Nat.zero_le _,lO1.out,hE'.out,bw'.out⟩
 case round =>
  obtain ⟨i,la,lc,rfl,rfl,hi,hO,hE1,hb⟩:=hrel
  clear hE' lO1 bw'
  rename World=>wr
  have hwz:=hb.size
  by_cases hlt:i < c.vars.length
  ·have hE2:=hiT hE1
   obtain ⟨g,o,rfl,hg,k0,k1,k2,k3⟩:=v4d (z2s hE1) i hlt
   have t1:=hiT (T1.out i hlt)
   obtain ⟨r1,r2,r3,r4⟩:=V1.out i hlt
   have hI:(i:Int) < (c.vars.length:Int):=by omega
   have i2:InW g wr:=⟨hg⟩
   have hO':=hiT hO
   have hb':=hiT hb
   have hvS:=y3w _ (V1.out i hlt)
   have hvD:Hid ((⟨#[118,97,114,32]⟩ ++ (⟨c.vars[i].name.toArray⟩:ByteArray) ++ ⟨#[32]⟩ ++ y0t c.vars[i].vk c.vars[i].vn ⟨c.vars[i].vs.toArray⟩:ByteArray) = j8g c.vars[i]):=hiT (k9c _ _)
   have hnm:(⟨c.vars[i].name.toArray⟩:ByteArray).size ≤ 64:=by
    show c.vars[i].name.toArray.size ≤ 64
    simpa using r3
   replace hvS:(y0t c.vars[i].vk c.vars[i].vn ⟨c.vars[i].vs.toArray⟩).size ≤ 200:=hvS
   have z1:(⟨#[118,97,114,32]⟩:ByteArray).size = 4:=rfl
   have z2:(⟨#[32]⟩:ByteArray).size = 1:=rfl
   generalize hxx:c.vars[i] = x at *
   have R1:=hiT (Sh.out x.vk x.vn ⟨x.vs.toArray⟩ r1 r2)
   generalize y0t x.vk x.vn ⟨x.vs.toArray⟩ = sh at *
   have f0:x.name.length ≤ 64:=by simpa using r3
   have f1:¬ 9223372036854775807 < 4 + x.name.length:=by omega
   have f2:¬ 9223372036854775807 < 4 + x.name.length + 1:=by omega
   have f3:¬ 9223372036854775807 < 4 + x.name.length + 1 + sh.size:=by omega
   have KS:Hid (∀ X,Below wr.heap.size wr X → X.cell? ⟨g,o + i * 4,none⟩ = some (str x.name) ∧ X.cell? ⟨g,o + i * 4 + 1,none⟩ = some (.int .i64 x.vk) ∧ X.cell? ⟨g,o + i * 4 + 2,none⟩ = some (.int .i64 x.vn) ∧ X.cell? ⟨g,o + i * 4 + 3,none⟩ = some (str x.vs)):=hiT fun X hx=>⟨(hx.cell (p:=⟨_,_,none⟩) hg).trans k0,(hx.cell (p:=⟨_,_,none⟩) hg).trans k1,(hx.cell (p:=⟨_,_,none⟩) hg).trans k2,(hx.cell (p:=⟨_,_,none⟩) hg).trans k3⟩
   have K1:=hiT (fun (X:World) (hx:X.ownsRow W1.heap.size 104 4 (.slice (some ⟨g,o,none⟩) c.vars.length ec) c.vars.length ((ev0 c).flatMap evC))=>show X.cell? ⟨g,o + i * 4,none⟩ = some (str x.name) ∧ X.cell? ⟨g,o + i * 4 + 1,none⟩ = some (.int .i64 x.vk) ∧ X.cell? ⟨g,o + i * 4 + 2,none⟩ = some (.int .i64 x.vn) ∧ X.cell? ⟨g,o + i * 4 + 3,none⟩ = some (str x.vs) from by
    obtain ⟨g3,o3,e3,-,h0,h1,h2,h3⟩:=v4d (z2s hx) i hlt
    cases e3
    rw [hxx] at h0 h1 h2 h3
    exact ⟨h0,h1,h2,h3⟩)
   clear T1 V1 hO hb hE1 hxx Sh P hok
   go_wp2_with fail
   refine z1n (S:=fun w'=>w'.cell? ⟨g,o + i * 4,none⟩ = some (str x.name) ∧ w'.cell? ⟨g,o + i * 4 + 1,none⟩ = some (.int .i64 x.vk) ∧ w'.cell? ⟨g,o + i * 4 + 2,none⟩ = some (.int .i64 x.vn) ∧ w'.cell? ⟨g,o + i * 4 + 3,none⟩ = some (str x.vs)) 17 krT (by exact ⟨k0,k1,k2,k3⟩) (fun hS=>?_)
   clear k0 k1 k2 k3
   (refine mT 0 rfl rfl (v:=?_) (Or.inl ⟨by rfl,?_⟩) ?_;rotate_left;(focus (intro w hSw;(try dsimp only at hSw);go_simp;all_goals (with_reducible rfl)));simp only [List.setIfInBounds_toArray,List.set_cons_zero,List.set_cons_succ])
   (refine mT 1 rfl rfl (v:=?_) (Or.inl ⟨by rfl,?_⟩) ?_;rotate_left;(focus (intro w hSw;(try dsimp only at hSw);go_simp;all_goals (with_reducible rfl)));simp only [List.setIfInBounds_toArray,List.set_cons_zero,List.set_cons_succ])
   (refine mT 2 rfl rfl (v:=?_) (Or.inl ⟨by rfl,?_⟩) ?_;rotate_left;(focus (intro w hSw;(try dsimp only at hSw);go_simp;all_goals (with_reducible rfl)));simp only [List.setIfInBounds_toArray,List.set_cons_zero,List.set_cons_succ])
   (refine mT 3 rfl rfl (v:=?_) (Or.inl ⟨by rfl,?_⟩) ?_;rotate_left;(focus (intro w hSw;(try dsimp only at hSw);go_simp;all_goals (with_reducible rfl)));simp only [List.setIfInBounds_toArray,List.set_cons_zero,List.set_cons_succ])
   (refine mT 4 rfl rfl (v:=?_) (Or.inl ⟨by rfl,?_⟩) ?_;rotate_left;(focus (intro w hSw;(try dsimp only at hSw);go_simp;all_goals (with_reducible rfl)));simp only [List.setIfInBounds_toArray,List.set_cons_zero,List.set_cons_succ])
   (refine mT 5 rfl rfl (v:=?_) (Or.inl ⟨by rfl,?_⟩) ?_;rotate_left;(focus (intro w hSw;(try dsimp only at hSw);go_simp;all_goals (with_reducible rfl)));simp only [List.setIfInBounds_toArray,List.set_cons_zero,List.set_cons_succ])
   (refine mT 6 rfl rfl (v:=?_) (Or.inl ⟨by rfl,?_⟩) ?_;rotate_left;(focus (intro w hSw;(try dsimp only at hSw);go_simp;all_goals (with_reducible rfl)));simp only [List.setIfInBounds_toArray,List.set_cons_zero,List.set_cons_succ])
   (refine mT 7 rfl rfl (v:=?_) (Or.inl ⟨by rfl,?_⟩) ?_;rotate_left;(focus (intro w hSw;(try dsimp only at hSw);go_simp;all_goals (with_reducible rfl)));simp only [List.setIfInBounds_toArray,List.set_cons_zero,List.set_cons_succ])
   (refine mT 8 rfl rfl (v:=?_) (Or.inl ⟨by rfl,?_⟩) ?_;rotate_left;(focus (intro w hSw;(try dsimp only at hSw);go_simp;all_goals (with_reducible rfl)));simp only [List.setIfInBounds_toArray,List.set_cons_zero,List.set_cons_succ])
   (refine mT 9 rfl rfl (v:=?_) (Or.inl ⟨by rfl,?_⟩) ?_;rotate_left;(focus (intro w hSw;(try dsimp only at hSw);go_simp;all_goals (with_reducible rfl)));simp only [List.setIfInBounds_toArray,List.set_cons_zero,List.set_cons_succ])
   (refine mT 10 rfl rfl (v:=?_) (Or.inl ⟨by rfl,?_⟩) ?_;rotate_left;(focus (intro w hSw;(try dsimp only at hSw);go_simp;all_goals (with_reducible rfl)));simp only [List.setIfInBounds_toArray,List.set_cons_zero,List.set_cons_succ])
   (refine mT 11 rfl rfl (v:=?_) (Or.inl ⟨by rfl,?_⟩) ?_;rotate_left;(focus (intro w hSw;(try dsimp only at hSw);go_simp;all_goals (with_reducible rfl)));simp only [List.setIfInBounds_toArray,List.set_cons_zero,List.set_cons_succ])
   (refine mT 12 rfl rfl (v:=?_) (Or.inl ⟨by rfl,?_⟩) ?_;rotate_left;(focus (intro w hSw;(try dsimp only at hSw);go_simp;all_goals (with_reducible rfl)));simp only [List.setIfInBounds_toArray,List.set_cons_zero,List.set_cons_succ])
   refine z0f (t:=13) krT rfl rfl (fun K' hK=>?_)
   go_simp
   refine (R1.out _).mono ?_
   intro e wz hr
   obtain ⟨rfl,p5,rfl⟩:=hr.out
   clear hr
   refine hK.out _ _ (fun _=>KS.out _ gzT) (fun hS=>?_)
   clear hK K'
   replace hS:=hS deT
   (refine mT 14 rfl rfl (v:=?_) (Or.inl ⟨by rfl,?_⟩) ?_;rotate_left;(focus (intro w hSw;(try dsimp only at hSw);go_simp;all_goals (with_reducible rfl)));simp only [List.setIfInBounds_toArray,List.set_cons_zero,List.set_cons_succ])
   refine z0f (t:=15) krT rfl rfl (fun K' hK=>?_)
   go_simp
   refine hK.out _ _ (fun _=>KS.out _ gzT) (fun hS=>?_)
   clear hK K'
   replace hS:=hS deT
   refine z2w (t:=16) krT rfl rfl rfl (fun K' hK=>?_)
   refine wp_append_lies _ (.tmp 44) (.tmp 59) 38 rfl W1.heap.size 9 j0 _ 1 16 Tryz.underlying38 hj hy1 hy2 hy3 rfl deT (.slice la (2 + i) lc) (2 + i) _ (by simp [Act.eval]) (z0a hO'.out gzT) ⟨_,0,none⟩ 1 1 [.string (⟨#[118,97,114,32]⟩ ++ ⟨x.name.toArray⟩ ++ ⟨#[32]⟩ ++ sh)] rfl rfl (World.news_of_block (z0s (by simp))) (by intro u hu;simp at hu;subst hu;rfl) deT (by unfold maxLen;omega) omT gzT _ rfl ?_
   intro g' cap' w5 hown1 hgrow hat1 hg1
   have hb5:Below W1.heap.size W1 w5:=Below.grown (show Below W1.heap.size W1 _ from hb'.out.trans (Below.mono (B:=wr.heap.size) gzT hwz)) hgrow gzT (fun k hk=>(hO'.out.lt k hk).1)
   have hE5:=z0o (z0a hE2.out gzT) (z0a hO'.out gzT) (z1a hE2.out hO'.out deT) hgrow
   have hown2:w5.ownsRow W1.heap.size 9 1 (.slice (some ⟨g',0,none⟩) (2 + (i + 1)) cap') (2 + (i + 1)) (([l0,j9o] ++ (c.vars.map j8g).take (i + 1)).flatMap z3j):=by
    rw [t1.out,← hvD.out]
    exact hown1
   have hS5:=K1.out _ hE5
   have hall:=hiT (And.intro hown2 (And.intro hE5 hb5))
   refine hK.out _ _ (fun _=>hS5) (fun hS=>?_)
   clear hK K' hS hown1 hgrow hat1 hg1 hown2 hb5 hE5 hS5 K1 KS hO' hb' hE2 t1 hvD R1 hj hy1 hy2 hy3 i2 hg
   refine z0f (t:=17) krT rfl rfl (fun K' hK=>?_)
   go_simp
   refine hK.out _ _ (fun h=>absurd rfl h) (fun _=>z1j krT ?_)
   go_wp2
   go_roundw
   case rel=>exact ⟨i + 1,some ⟨g',0,none⟩,cap',rfl,by go_num,by omega,hall.out.1,hall.out.2.1,hall.out.2.2⟩
   case measure=>simp [intOf];omega
  ·obtain rfl:i = c.vars.length:=by omega
   have hI:¬ ((c.vars.length:Nat):Int) < (c.vars.length:Int):=by omega
   rw [List.take_of_length_le (by rw [List.length_map];exact Nat.le_refl _)] at hO
   have sb:=z0c sx'.out hb
   obtain ⟨-,-,-,-,-,-,-,z7,z8,-,-,-,-,-,zl,-⟩:=z1p sb
   have i2:InW (w.heap.size + 1) wr:=⟨zl⟩
   have hO':=hiT hO
   have hb':=hiT hb
   have KS:Hid (∀ X,Below wr.heap.size wr X → X.cell? ⟨w.heap.size + 1,7,none⟩ = some (.slice none 0 0) ∧ X.cell? ⟨w.heap.size + 1,8,none⟩ = some (.slice none 0 0)):=hiT fun X hx=>⟨(hx.cell (p:=⟨_,_,none⟩) zl).trans z7,(hx.cell (p:=⟨_,_,none⟩) zl).trans z8⟩
   clear T1 V1 hO hb hE1 Sh hok sb
   go_wp2_with fail
   refine z1n (S:=fun w'=>w'.cell? ⟨w.heap.size + 1,7,none⟩ = some (.slice none 0 0) ∧ w'.cell? ⟨w.heap.size + 1,8,none⟩ = some (.slice none 0 0)) 9 krT (by exact ⟨z7,z8⟩) (fun hS=>?_)
   clear z7 z8
   (refine mT 0 rfl rfl (v:=?_) (Or.inl ⟨by rfl,?_⟩) ?_;rotate_left;(focus (intro w hSw;(try dsimp only at hSw);go_simp;all_goals (with_reducible rfl)));simp only [List.setIfInBounds_toArray,List.set_cons_zero,List.set_cons_succ])
   (refine mT 1 rfl rfl (v:=?_) (Or.inl ⟨by rfl,?_⟩) ?_;rotate_left;(focus (intro w hSw;(try dsimp only at hSw);go_simp;all_goals (with_reducible rfl)));simp only [List.setIfInBounds_toArray,List.set_cons_zero,List.set_cons_succ])
   (refine mT 2 rfl rfl (v:=?_) (Or.inl ⟨by rfl,?_⟩) ?_;rotate_left;(focus (intro w hSw;(try dsimp only at hSw);go_simp;all_goals (with_reducible rfl)));simp only [List.setIfInBounds_toArray,List.set_cons_zero,List.set_cons_succ])
   (refine mT 4 rfl rfl (v:=?_) (Or.inl ⟨by rfl,?_⟩) ?_;rotate_left;(focus (intro w hSw;(try dsimp only at hSw);go_simp;all_goals (with_reducible rfl)));simp only [List.setIfInBounds_toArray,List.set_cons_zero,List.set_cons_succ])
   (refine mT 5 rfl rfl (v:=?_) (Or.inl ⟨by rfl,?_⟩) ?_;rotate_left;(focus (intro w hSw;(try dsimp only at hSw);go_simp;all_goals (with_reducible rfl)));simp only [List.setIfInBounds_toArray,List.set_cons_zero,List.set_cons_succ])
   refine z0f (t:=3) krT rfl rfl (fun K' hK=>?_)
   go_simp
   refine (Sy.out k0u _).mono ?_
   intro e wz hr
   obtain ⟨rfl,p6,rfl⟩:=hr.out
   clear hr
   refine hK.out _ _ (fun _=>KS.out _ gzT) (fun hS=>?_)
   clear hK K'
   replace hS:=hS deT
   refine z0f (t:=6) krT rfl rfl (fun K' hK=>?_)
   go_simp
   refine (Sy.out q8g _).mono ?_
   intro e wz hr
   obtain ⟨rfl,p7,rfl⟩:=hr.out
   clear hr
   refine hK.out _ _ (fun _=>KS.out _ gzT) (fun hS=>?_)
   clear hK K'
   replace hS:=hS deT
   refine z0f (t:=7) krT rfl rfl (fun K' hK=>?_)
   go_simp
   refine hK.out _ _ (fun _=>KS.out _ gzT) (fun hS=>?_)
   clear hK K'
   replace hS:=hS deT
   refine z2w (t:=8) krT rfl rfl rfl (fun K' hK=>?_)
   refine wp_append_lies _ (.tmp 61) (.tmp 68) 38 rfl W1.heap.size 9 j0 _ 1 16 Tryz.underlying38 hj hy1 hy2 hy3 rfl deT (.slice la (2 + c.vars.length) lc) (2 + c.vars.length) _ (by simp [Act.eval]) (z0a hO'.out gzT) ⟨_,0,none⟩ 2 2 [.string k0u,.string q8g] rfl rfl (World.news_of_block (z0s (by simp))) (by intro u hu;simp at hu;rcases hu with rfl | rfl <;> rfl) deT (by unfold maxLen;omega) omT gzT _ rfl ?_
   intro g' cap' w5 hown1 hgrow hat1 hg1
   have hb5:Below W1.heap.size W1 w5:=Below.grown (show Below W1.heap.size W1 _ from hb'.out.trans (Below.mono (B:=wr.heap.size) gzT hwz)) hgrow gzT (fun k hk=>(hO'.out.lt k hk).1)
   have e1:Hid (2 + c.vars.length + 2 = (q5l c).length):=hiT (by rw [hLn.out];simp;omega)
   have e2:(q5l c).flatMap z3j = ([l0,j9o] ++ c.vars.map j8g).flatMap z3j ++ [.string k0u,.string q8g]:=by rw [hLn.out,List.flatMap_append];rfl
   have hsrc:z2d w5 (some ⟨g',0,none⟩) cap' ((q5l c).flatMap z3j):=by rw [e2];exact z2s hown1
   have s5:=z0c sx'.out hb5
   have hS5:w5.cell? ⟨w.heap.size + 1,7,none⟩ = some (.slice none 0 0) ∧ w5.cell? ⟨w.heap.size + 1,8,none⟩ = some (.slice none 0 0):=⟨by rw [cell_of_row _ _ _ _ _ _ s5];rfl,by rw [cell_of_row _ _ _ _ _ _ s5];rfl⟩
   have z9:w5.cell? ⟨w.heap.size + 1,9,none⟩ = some (.slice none 0 0):=by rw [cell_of_row _ _ _ _ _ _ s5];rfl
   have i5:InW (w.heap.size + 1) w5:=⟨lt_of_block s5⟩
   have hall:=hiT (And.intro hsrc hb5)
   rw [e1.out]
   generalize hLL:(q5l c).flatMap z3j = LL at *
   generalize hLN:(q5l c).length = LN at *
   replace hLL:=hiT hLL
   replace hLN:=hiT hLN
   refine hK.out _ _ (fun _=>hS5) (fun hS=>?_)
   clear hK K' hS hown1 hgrow hat1 hg1 hsrc hb5 hS5 s5 KS hO' hb' e2 e1 hLn hj hy1 hy2 hy3 i2 zl
   refine z0f (t:=9) krT rfl rfl (fun K' hK=>?_)
   go_simp
   refine hK.out _ _ (fun h=>absurd rfl h) (fun _=>z1j krT ?_)
   clear hK K'
   go_wp2
   go_loopw [6,9] (fun x v wq=>x = .slice (some ⟨g',0,none⟩) LN cap' ∧ v = .int .i64 0 ∧ z2d wq (some ⟨g',0,none⟩) cap' LL ∧ Below W1.heap.size W1 wq) (fun _ _ _=>0)
   case atStart=>exact ⟨rfl,rfl,hall.out.1,hall.out.2⟩
   case round =>
    obtain ⟨rfl,rfl,hsq,hbq⟩:=hrel
    rename World=>wq
    have hwq:=hbq.size
    have sq:=z0c sx'.out hbq
    have y9:wq.cell? ⟨w.heap.size + 1,9,none⟩ = some (.slice none 0 0):=by rw [cell_of_row _ _ _ _ _ _ sq];rfl
    have j5:InW (w.heap.size + 1) wq:=⟨lt_of_block sq⟩
    have hsq':=hiT hsq
    clear hall z9 i5 sq hsq
    go_wp2
    go_loopw [6,10] (fun x v wp=>∃ i:Nat,x = .slice (some ⟨g',0,none⟩) LN cap' ∧ v = .int .i64 (i:Int) ∧ i ≤ c.states.length ∧ z2d wp (some ⟨g',0,none⟩) cap' LL ∧ Below W1.heap.size W1 wp) (fun _ v _=>c.states.length - (intOf v).toNat)
    case atStart=>exact ⟨0,rfl,rfl,Nat.zero_le _,z0k hsq'.out gzT,gzT⟩
    case round =>
     obtain ⟨i,rfl,rfl,hi,hsp,hbp⟩:=hrel
     rename World=>wp
     have hwp:=hbp.size
     have sp:=z0c sx'.out hbp
     obtain ⟨-,-,-,-,-,y5,-,-,-,-,y10,y11,y12,y13,yl,-⟩:=z1p sp
     have k5:InW (w.heap.size + 1) wp:=⟨yl⟩
     have hsp':=hiT hsp
     clear y9 j5 hsq' sp hsp
     by_cases hlt:i < c.states.length
     ·obtain ⟨p0,pl⟩:=P.out wp (hG.out _ hbp) i hlt
      have i0:InW pb wp:=⟨pl⟩
      have hI:(i:Int) < (c.states.length:Int):=by omega
      clear P y10 y11 y12 y13
      go_wp2
      go_roundw
      case rel=>exact ⟨i + 1,rfl,by go_num,by omega,z0k hsp'.out gzT,gzT⟩
      case measure=>simp [intOf];omega
     ·obtain rfl:i = c.states.length:=by omega
      have hI:¬ ((c.states.length:Nat):Int) < (c.states.length:Int):=by omega
      clear P
      go_wp2
      go_loopw [6,13] (fun x v wo=>x = .slice (some ⟨g',0,none⟩) LN cap' ∧ v = .int .i64 0 ∧ z2d wo (some ⟨g',0,none⟩) cap' LL ∧ Below W1.heap.size W1 wo) (fun _ _ _=>0)
      case atStart=>exact ⟨rfl,rfl,z0k hsp'.out gzT,gzT⟩
      case round =>
       obtain ⟨rfl,rfl,hso,hbo⟩:=hrel
       rename World=>wo
       have so:=z0c sx'.out hbo
       have x13:wo.cell? ⟨w.heap.size + 1,13,none⟩ = some (.slice none 0 0):=by rw [cell_of_row _ _ _ _ _ _ so];rfl
       have k6:InW (w.heap.size + 1) wo:=⟨lt_of_block so⟩
       have hfin:=hiT (And.intro hso (hG.out _ hbo))
       clear y5 y10 y11 y12 y13 yl k5 so hso hbo
       go_wp2
       go_returns
       have q1:=hLL.out
       have q2:=hLN.out
       subst q1 q2
       exact ⟨some ⟨g',0,none⟩,cap',rfl,hfin.out.1,hfin.out.2⟩
theorem meet0_any (s:Nat) (hs:s < 2 ^ 64) (w:World):Calls Tryz.prog 67 #[.int .u64 (s:Int),.int .u64 0] w (z6k (.int .u64 0) w):=by
 have h:=x0v s 0 hs deT w
 have e:s &&& 0 = 0:=Nat.and_zero s
 rw [e] at h
 exact h
abbrev sn0V (n m pb:Nat) (da:Option Addr) (dc:Nat):Value := .agg #[.int .i64 1,.int .i64 0,.int .i64 0,.int .i64 0,.int .u64 0,.slice (some ⟨pb,0,none⟩) n n,.slice da m dc,.slice none 0 0,.slice none 0 0,.slice none 0 0,.string ⟨#[]⟩,.slice none 0 0,.int .u64 0,.slice none 0 0]
theorem sn0V_eq (c:Ch) (pb:Nat) (da:Option Addr) (dc:Nat):snV (sn0 c) (some ⟨pb,0,none⟩) c.states.length da dc none 0 none 0 none 0 none 0 none 0 = sn0V c.states.length c.vars.length pb da dc:=by
 have eP:(sn0 c).past.length = c.states.length:=List.length_replicate ..
 have eD:(sn0 c).data.length = c.vars.length:=List.length_map ..
 unfold snV sn0V
 rw [eP,eD]
 rfl
set_option maxRecDepth 100000 in
set_option maxHeartbeats 4000000 in
theorem kidsFit0_any {c:Ch} {rv gi:Nat → Value} {b cap:Nat} {ga:Option Addr} {gn gc:Nat} (h0:0 < c.states.length) (hk:j1e c.states 0 < 2 ^ 64) (pb:Nat) (da:Option Addr) (dc:Nat) (va:Option Addr) (vc:Nat) (w:World) (h:TbC c rv gi b w) :
  Calls Tryz.prog 47 #[sn0V c.states.length c.vars.length pb da dc,.agg #[.slice va c.vars.length vc,.slice (some ⟨b,0,none⟩) c.states.length cap,.slice ga gn gc],.int .i64 0] w (Ret (.bool false) w):=by
 obtain ⟨-,-,-,-,-,-,n6,-⟩:=y1a h h0
 rw [Nat.zero_mul,Nat.zero_add] at n6
 have i0:InW b w:=⟨h.lt⟩
 have M:=hiT (fun wx=>meet0_any _ hk wx)
 have C:=hiT (fun wx=>j0u wx)
 have hI:(0:Int) < (c.states.length:Int):=by omega
 clear h hk h0
 unfold sn0V
 generalize j1e c.states 0 = ks at *
 go_enter Tryz.func47,Tryz.ntmps47
 go_wp2_with (first | ((with_reducible refine (M.out _).mono ?_);rintro e w1 ⟨rfl,rfl⟩) | ((with_reducible refine (C.out _).mono ?_);rintro e w1 ⟨rfl,rfl⟩))
 go_returns
 exact ⟨rfl,gzT⟩
set_option maxRecDepth 100000 in
set_option maxHeartbeats 4000000 in
theorem slegal0_any {c:Ch} {rv gi:Nat → Value} {b cap:Nat} {ga:Option Addr} {gn gc:Nat} (h0:0 < c.states.length) (hk:j1e c.states 0 < 2 ^ 64) (pb:Nat) (da:Option Addr) (dc:Nat) (va:Option Addr) (vc:Nat) (w:World) (h:TbC c rv gi b w) :
  Calls Tryz.prog 16 #[sn0V c.states.length c.vars.length pb da dc,.agg #[.slice va c.vars.length vc,.slice (some ⟨b,0,none⟩) c.states.length cap,.slice ga gn gc]] w (Ret (.bool false) w):=by
 have K:=hiT (fun wx (hb:Below w.heap.size w wx)=>kidsFit0_any (cap:=cap) (ga:=ga) (gn:=gn) (gc:=gc) h0 hk pb da dc va vc wx (z7n h hb))
 have hI:((c.states.length:Int) == 0) = false:=by rw [beq_eq_false_iff_ne];omega
 have hI2:¬ (c.states.length:Int) = 0:=by omega
 have hI3:¬ c.states.length = 0:=by omega
 clear h hk
 unfold sn0V at *
 go_enter Tryz.func16,Tryz.ntmps16
 go_wp2_with (first | ((with_reducible refine (K.out _ gzT).mono ?_);intro e w1 hr;obtain ⟨rfl,p,rfl⟩:=hr.out;clear hr))
 go_returns
 exact ⟨rfl,gzT⟩
theorem wpM_want {P:Program} {md:Region.Mode} {ops:Array Oper} {Q:Exit → Act → World → Prop} {S:World → Prop} {n t:Nat} {o:Oper} {fuel:Nat} {listed:Array Bool} {a:Act} {w:World} (hr:Region.ready md ops listed = [t]) (ho:ops[t]? = some o) (hw:Region.wanted o (yielded ops a.tmps) = true)
  (h:∀ K':Act → World → Prop,RowKit.Hid (∀ a' w',(t ≠ n → S w') → ((t ≠ n → S w') → z5a P md ops Q S n fuel (listed.setIfInBounds t true) a' w') → K' a' w') → Oper.wp P o a w K' Q):z5a P md ops Q S n (fuel + 1) listed a w:=by
 refine ⟨fun h0=>(by rw [hr] at h0;cases h0),fun j hj=>?_⟩
 rw [hr,List.mem_singleton] at hj
 subst hj
 refine wpOp_step ho fun K' hK=>?_
 rw [if_pos hw]
 exact h K' fun a' w' h1 h2=>hK a' w' ⟨h1,h2 h1⟩
abbrev sn0W (n m:Nat) (pa:Option Addr) (pc:Nat) (da:Option Addr) (dc:Nat) (ia:Option Addr) (ic:Nat) (oa:Option Addr) (oc:Nat) (ta:Option Addr) (tc:Nat) (ka:Option Addr) (kc:Nat) (ua:Option Addr) (uc:Nat):Value := .agg #[.int .i64 1,.int .i64 0,.int .i64 0,.int .i64 0,.int .u64 0,.slice pa n pc,.slice da m dc,.slice ia 0 ic,.slice oa 0 oc,.slice ta 0 tc,.string ⟨#[]⟩,.slice ka 0 kc,.int .u64 0,.slice ua 0 uc]
theorem sn0_form (c:Ch) (pa:Option Addr) (pc:Nat) (da:Option Addr) (dc:Nat) (ia:Option Addr) (ic:Nat) (oa:Option Addr) (oc:Nat) (ta:Option Addr) (tc:Nat) (ka:Option Addr) (kc:Nat) (ua:Option Addr) (uc:Nat):snV (sn0 c) pa pc da dc ia ic oa oc ta tc ka kc ua uc = sn0W c.states.length c.vars.length pa pc da dc ia ic oa oc ta tc ka kc ua uc:=by
 have eP:(sn0 c).past.length = c.states.length:=List.length_replicate ..
 have eD:(sn0 c).data.length = c.vars.length:=List.length_map ..
 unfold snV sn0W
 rw [eP,eD]
 rfl
theorem sn0_few {c:Ch} (hn:c.states.length ≤ 49) (hv:c.vars.length ≤ 16):(sn0 c).past.length ≤ 400 ∧ (sn0 c).data.length ≤ 400 ∧ (sn0 c).inner.length ≤ 400 ∧ (sn0 c).outer.length ≤ 400 ∧ (sn0 c).timers.length ≤ 400 ∧ (sn0 c).taken.length ≤ 400 ∧ (sn0 c).out.length ≤ 400:=by
 have eP:(sn0 c).past.length = c.states.length:=List.length_replicate ..
 have eD:(sn0 c).data.length = c.vars.length:=List.length_map ..
 exact ⟨by omega,by omega,Nat.zero_le _,Nat.zero_le _,Nat.zero_le _,Nat.zero_le _,Nat.zero_le _⟩
set_option maxRecDepth 100000 in
set_option maxHeartbeats 8000000 in
theorem snbegins_yes (c:Ch) (s:ByteArray) (hs:s.size ≤ 20000) (hx:z3q s.data.toList = .ok c) (hk:(z4r c).1 = 0) (w:World) (hA:Ap w):Calls Tryz.prog 3 #[.string s] w (Ret (.bool true) w):=by
 have O:=v1t hx
 have hok:=v7k hx
 have hn:=O.few
 have hv:=O.vars
 have h0:=O.some
 have A:=hiT (fun wx (hb:Below w.heap.size w wx)=>q5c wx (j2v hA hb))
 have M:=hiT (fun wx (hb:Below w.heap.size w wx)=>y5w s hs hx hk wx (z2o hA.al hb) (z4f hA.db hb))
 have Ap':=hiT (fun wx (hb:Below w.heap.size w wx)=>j2v hA hb)
 replace hok:=hiT hok
 clear hx hk O hA
 go_enter Tryz.func3,Tryz.ntmps3
 go_wp2_with (first | ((with_reducible refine (A.out _ gzT).mono ?_);intro e w1 hr;obtain ⟨rfl,p,rfl⟩:=hr.out;clear hr))
 refine (M.out _ gzT).mono ?_
 rintro e w1 ⟨rv,rx,gi,va,vc,b,cap,ga,gc,xa,xc,ya,yc,rfl,hTC,hX,hV,hb1⟩
 have hw1:Below w.heap.size w w1:=Below.trans gzT (hb1.mono gzT)
 have hV1:=hiT hV
 have hTC1:=hiT hTC
 have hX1:=hiT hX
 have hw1':=hiT hw1
 clear A M hb1 hTC hX hV hw1
 dsimp only
 go_wp2_with fail
 have hVB:=hV1.out
 refine (y7g c _ va (some ⟨b,0,none⟩) ga vc cap (y4v c.states).length gc hn hv _ (z0a hVB gzT)).mono ?_
 rintro e w2 ⟨pb,da,dc,rfl,hS,hb2⟩
 have tX:w2.heap[w1.heap.size]? = some (.cells #[.slice va c.vars.length vc,.slice (some ⟨b,0,none⟩) c.states.length cap,.slice ga (y4v c.states).length gc] 27 (0,0)):=z0c (z0j (heap_alloc_new w1 _)) hb2
 have cX:w2.heap[w1.heap.size + 1]? = some (.cells #[str c.name,.slice xa c.vars.length xc,.slice ya c.states.length yc] 31 (0,0)):=z0c (z0s (by simp)) hb2
 have hb12:Below w1.heap.size w1 w2:=Below.trans gzT (hb2.mono gzT)
 rw [sn0_form]
 unfold sn0W
 obtain ⟨X0,hX0⟩:∃ X,w2.alloc (.cells #[.int .i64 1,.int .i64 0,.int .i64 0,.int .i64 0,.int .u64 0,.slice (some ⟨pb,0,none⟩) c.states.length c.states.length,.slice da c.vars.length dc,.slice none 0 0,.slice none 0 0,.slice none 0 0,.string ⟨#[]⟩,.slice none 0 0,.int .u64 0,.slice none 0 0] 44 (0,0)) = X:=⟨_,rfl⟩
 have bX:Below w2.heap.size w2 X0:=by rw [← hX0];exact gzT
 have oX:X0.heap[w2.heap.size]? = some (.cells #[.int .i64 1,.int .i64 0,.int .i64 0,.int .i64 0,.int .u64 0,.slice (some ⟨pb,0,none⟩) c.states.length c.states.length,.slice da c.vars.length dc,.slice none 0 0,.slice none 0 0,.slice none 0 0,.string ⟨#[]⟩,.slice none 0 0,.int .u64 0,.slice none 0 0] 44 (0,0)):=by rw [← hX0];exact heap_alloc_new w2 _
 replace tX:=z0c tX bX
 replace cX:=z0c cX bX
 have hb1X:Below w1.heap.size w1 X0:=hb12.trans (bX.mono hb12.size)
 have hSX:=hiT (z2v hS bX)
 have hGX:Hid (∀ wx,Below X0.heap.size X0 wx → Below w1.heap.size w1 wx):=hiT fun wx hx=>hb1X.trans (hx.mono hb1X.size)
 have hGw:Hid (∀ wx,Below X0.heap.size X0 wx → Below w.heap.size w wx):=hiT fun wx hx=>hw1'.out.trans ((hGX.out wx hx).mono hw1'.out.size)
 have t':=hiT tX
 have c':=hiT cX
 have o':=hiT oX
 replace hX0:=hiT hX0
 have Ft:=hiT (fun wx (hx:Below X0.heap.size X0 wx)=>show Calls Tryz.prog 9 #[.agg #[.slice va c.vars.length vc,.slice (some ⟨b,0,none⟩) c.states.length cap,.slice ga (y4v c.states).length gc],.agg #[.int .i64 1,.int .i64 0,.int .i64 0,.int .i64 0,.int .u64 0,.slice (some ⟨pb,0,none⟩) c.states.length c.states.length,.slice da c.vars.length dc,.slice none 0 0,.slice none 0 0,.slice none 0 0,.string ⟨#[]⟩,.slice none 0 0,.int .u64 0,.slice none 0 0]] wx (Ret (.bool true) wx) from by
  have h:=x0p (rv:=rv) (gi:=gi) (b:=b) (cap:=cap) (ga:=ga) (gn:=(y4v c.states).length) (gc:=gc) hn hv hok.out pb da dc va vc wx (z7n hTC1.out (hGX.out wx hx)) (z2v hSX.out hx)
  rw [sn0_form] at h
  exact h)
 obtain ⟨t0,t1,t2,tl,-⟩:=z3p tX
 obtain ⟨d0,d1,d2,dl,-⟩:=z3p cX
 obtain ⟨s0,s1,s2,s3,s4,s5,s6,s7,s8,s9,s10,s11,s12,s13,sl,-⟩:=z1p oX
 have hob:Hid (w2.heap.size = w2.heap.size):=hiT rfl
 clear hb2 hb12 bX hS hVB tX cX oX hb1X
 dsimp only
 go_upto_region 7 with (fail)
 rw [hX0.out]
 clear hX0
 generalize w2.heap.size = ob at *
 have i1:InW w1.heap.size X0:=⟨tl⟩
 have i2:InW (w1.heap.size + 1) X0:=⟨dl⟩
 have i3:InW ob X0:=⟨sl⟩
 go_wp2_with (((with_reducible refine (Ft.out _ gzT).mono ?_);intro e w1 hr;obtain ⟨rfl,p,rfl⟩:=hr.out;clear hr))
 have LX:=hiT (fun wx (hx:Below X0.heap.size X0 wx)=>show Calls Tryz.prog 11 #[.agg #[.int .i64 1,.int .i64 0,.int .i64 0,.int .i64 0,.int .u64 0,.slice (some ⟨pb,0,none⟩) c.states.length c.states.length,.slice da c.vars.length dc,.slice none 0 0,.slice none 0 0,.slice none 0 0,.string ⟨#[]⟩,.slice none 0 0,.int .u64 0,.slice none 0 0],.agg #[.slice va c.vars.length vc,.slice (some ⟨b,0,none⟩) c.states.length cap,.slice ga (y4v c.states).length gc]] wx (fun e w'=>∃ (ao:Option Addr) (cp:Nat),e = .returned (.slice ao (q5l c).length cp) ∧ z2d w' ao cp ((q5l c).flatMap z3j) ∧ Below wx.heap.size wx w') from by
  have hp:=Ap'.out wx (hGw.out wx hx)
  have h:=y7j (cap:=cap) (gv := .slice ga (y4v c.states).length gc) hn hv hok.out pb da dc va vc wx hp.db hp.tab hp.sw (z7n hTC1.out (hGX.out wx hx)) (z0a hV1.out (hGX.out wx hx)) (z2v hSX.out hx)
  rw [sn0_form] at h
  exact h)
 have RB:=hiT (fun wx (hx:Below X0.heap.size X0 wx)=>v1y c rx xa ya xc yc hn hv wx (z1u hX1.out (hGX.out wx hx)))
 have RL:=hiT (fun pb2 da2 dc2 wx (hx:Below X0.heap.size X0 wx) (hs:RsRd wx c pb2 da2 dc2)=>v2b c rx xa ya xc yc hn hv hok.out pb2 da2 dc2 wx (z1u hX1.out (hGX.out wx hx)) hs)
 have hln:(q5l c).length ≤ 400:=by
  have:(q5l c).length = 2 + c.vars.length + 2:=by unfold q5l;simp;omega
  omega
 have TX:=hiT (fun ao bo c1 c2 wx h1 h2=>v6m ao bo c1 c2 (q5l c) hln wx h1 h2)
 have CP:=hiT (fun wx (hx:Below X0.heap.size X0 wx)=>show Calls Tryz.prog 15 #[.agg #[.int .i64 1,.int .i64 0,.int .i64 0,.int .i64 0,.int .u64 0,.slice (some ⟨pb,0,none⟩) c.states.length c.states.length,.slice da c.vars.length dc,.slice none 0 0,.slice none 0 0,.slice none 0 0,.string ⟨#[]⟩,.slice none 0 0,.int .u64 0,.slice none 0 0]] wx _ from by
  have h:=z6j (sn0 c) (some ⟨pb,0,none⟩) c.states.length da dc none 0 none 0 none 0 none 0 none 0 wx (sn0_few hn hv) (z2v hSX.out hx)
  rw [sn0_form c (some ⟨pb,0,none⟩)] at h
  exact h)
 have SM:=hiT (fun pa' pc' da' dc' ia' ic' oa' oc' ta' tc' ka' kc' ua' uc' wx (hx:Below X0.heap.size X0 wx) (h2:SnRd wx (sn0 c) pa' pc' da' dc' ia' ic' oa' oc' ta' tc' ka' kc' ua' uc')=>show Calls Tryz.prog 14 #[.agg #[.int .i64 1,.int .i64 0,.int .i64 0,.int .i64 0,.int .u64 0,.slice (some ⟨pb,0,none⟩) c.states.length c.states.length,.slice da c.vars.length dc,.slice none 0 0,.slice none 0 0,.slice none 0 0,.string ⟨#[]⟩,.slice none 0 0,.int .u64 0,.slice none 0 0],sn0W c.states.length c.vars.length pa' pc' da' dc' ia' ic' oa' oc' ta' tc' ka' kc' ua' uc'] wx (Ret (.bool true) wx) from by
  have h:=q1a (sn0 c) (sn0 c) (some ⟨pb,0,none⟩) c.states.length da dc none 0 none 0 none 0 none 0 none 0 pa' pc' da' dc' ia' ic' oa' oc' ta' tc' ka' kc' ua' uc' wx (sn0_few hn hv) (z2v hSX.out hx) h2
  rw [sn0_form,sn0_form,q8q] at h
  exact h)
 have LG:=hiT (fun wx (hx:Below X0.heap.size X0 wx)=>slegal0_any (cap:=cap) (ga:=ga) (gn:=(y4v c.states).length) (gc:=gc) h0 (v4p _ _) pb da dc va vc wx (z7n hTC1.out (hGX.out wx hx)))
 unfold sn0V at LG
 have KS:Hid (∀ X,Below X0.heap.size X0 X → (X.cell? ⟨w1.heap.size,0,none⟩ = some (.slice va c.vars.length vc) ∧ X.cell? ⟨w1.heap.size,1,none⟩ = some (.slice (some ⟨b,0,none⟩) c.states.length cap) ∧ X.cell? ⟨w1.heap.size,2,none⟩ = some (.slice ga (y4v c.states).length gc)) ∧ (X.cell? ⟨w1.heap.size + 1,0,none⟩ = some (str c.name) ∧ X.cell? ⟨w1.heap.size + 1,1,none⟩ = some (.slice xa c.vars.length xc) ∧ X.cell? ⟨w1.heap.size + 1,2,none⟩ = some (.slice ya c.states.length yc)) ∧ (X.cell? ⟨ob,0,none⟩ = some (.int .i64 1) ∧ X.cell? ⟨ob,1,none⟩ = some (.int .i64 0) ∧ X.cell? ⟨ob,2,none⟩ = some (.int .i64 0) ∧ X.cell? ⟨ob,3,none⟩ = some (.int .i64 0) ∧ X.cell? ⟨ob,4,none⟩ = some (.int .u64 0) ∧ X.cell? ⟨ob,5,none⟩ = some (.slice (some ⟨pb,0,none⟩) c.states.length c.states.length) ∧ X.cell? ⟨ob,6,none⟩ = some (.slice da c.vars.length dc) ∧ X.cell? ⟨ob,7,none⟩ = some (.slice none 0 0) ∧ X.cell? ⟨ob,8,none⟩ = some (.slice none 0 0) ∧ X.cell? ⟨ob,9,none⟩ = some (.slice none 0 0) ∧ X.cell? ⟨ob,10,none⟩ = some (.string ⟨#[]⟩) ∧ X.cell? ⟨ob,11,none⟩ = some (.slice none 0 0) ∧ X.cell? ⟨ob,12,none⟩ = some (.int .u64 0) ∧ X.cell? ⟨ob,13,none⟩ = some (.slice none 0 0))):=hiT fun X hx=>⟨⟨(hx.cell (p:=⟨_,_,none⟩) tl).trans t0,(hx.cell (p:=⟨_,_,none⟩) tl).trans t1,(hx.cell (p:=⟨_,_,none⟩) tl).trans t2⟩,⟨(hx.cell (p:=⟨_,_,none⟩) dl).trans d0,(hx.cell (p:=⟨_,_,none⟩) dl).trans d1,(hx.cell (p:=⟨_,_,none⟩) dl).trans d2⟩,(hx.cell (p:=⟨_,_,none⟩) sl).trans s0,(hx.cell (p:=⟨_,_,none⟩) sl).trans s1,(hx.cell (p:=⟨_,_,none⟩) sl).trans s2,(hx.cell (p:=⟨_,_,none⟩) sl).trans s3,(hx.cell (p:=⟨_,_,none⟩) sl).trans s4,(hx.cell (p:=⟨_,_,none⟩) sl).trans s5,(hx.cell (p:=⟨_,_,none⟩) sl).trans s6,(hx.cell (p:=⟨_,_,none⟩) sl).trans s7,(hx.cell (p:=⟨_,_,none⟩) sl).trans s8,(hx.cell (p:=⟨_,_,none⟩) sl).trans s9,(hx.cell (p:=⟨_,_,none⟩) sl).trans s10,(hx.cell (p:=⟨_,_,none⟩) sl).trans s11,(hx.cell (p:=⟨_,_,none⟩) sl).trans s12,(hx.cell (p:=⟨_,_,none⟩) sl).trans s13⟩
 clear t0 t1 t2 d0 d1 d2 s0 s1 s2 s3 s4 s5 s6 s7 s8 s9 s10 s11 s12 s13 Ft hob
 refine z1n (S:=fun w'=>(w'.cell? ⟨w1.heap.size,0,none⟩ = some (.slice va c.vars.length vc) ∧ w'.cell? ⟨w1.heap.size,1,none⟩ = some (.slice (some ⟨b,0,none⟩) c.states.length cap) ∧ w'.cell? ⟨w1.heap.size,2,none⟩ = some (.slice ga (y4v c.states).length gc)) ∧ (w'.cell? ⟨w1.heap.size + 1,0,none⟩ = some (str c.name) ∧ w'.cell? ⟨w1.heap.size + 1,1,none⟩ = some (.slice xa c.vars.length xc) ∧ w'.cell? ⟨w1.heap.size + 1,2,none⟩ = some (.slice ya c.states.length yc)) ∧ (w'.cell? ⟨ob,0,none⟩ = some (.int .i64 1) ∧ w'.cell? ⟨ob,1,none⟩ = some (.int .i64 0) ∧ w'.cell? ⟨ob,2,none⟩ = some (.int .i64 0) ∧ w'.cell? ⟨ob,3,none⟩ = some (.int .i64 0) ∧ w'.cell? ⟨ob,4,none⟩ = some (.int .u64 0) ∧ w'.cell? ⟨ob,5,none⟩ = some (.slice (some ⟨pb,0,none⟩) c.states.length c.states.length) ∧ w'.cell? ⟨ob,6,none⟩ = some (.slice da c.vars.length dc) ∧ w'.cell? ⟨ob,7,none⟩ = some (.slice none 0 0) ∧ w'.cell? ⟨ob,8,none⟩ = some (.slice none 0 0) ∧ w'.cell? ⟨ob,9,none⟩ = some (.slice none 0 0) ∧ w'.cell? ⟨ob,10,none⟩ = some (.string ⟨#[]⟩) ∧ w'.cell? ⟨ob,11,none⟩ = some (.slice none 0 0) ∧ w'.cell? ⟨ob,12,none⟩ = some (.int .u64 0) ∧ w'.cell? ⟨ob,13,none⟩ = some (.slice none 0 0))) 25 krT (by exact KS.out _ gzT) (fun hS=>?_)
 (refine mT 0 rfl rfl (v:=?_) (Or.inl ⟨by rfl,?_⟩) ?_;rotate_left;(focus (intro w hSw;(try dsimp only at hSw);go_simp;all_goals (with_reducible rfl)));simp only [List.setIfInBounds_toArray,List.set_cons_zero,List.set_cons_succ])
 (refine mT 1 rfl rfl (v:=?_) (Or.inl ⟨by rfl,?_⟩) ?_;rotate_left;(focus (intro w hSw;(try dsimp only at hSw);go_simp;all_goals (with_reducible rfl)));simp only [List.setIfInBounds_toArray,List.set_cons_zero,List.set_cons_succ])
 (refine mT 3 rfl rfl (v:=?_) (Or.inl ⟨by rfl,?_⟩) ?_;rotate_left;(focus (intro w hSw;(try dsimp only at hSw);go_simp;all_goals (with_reducible rfl)));simp only [List.setIfInBounds_toArray,List.set_cons_zero,List.set_cons_succ])
 (refine mT 4 rfl rfl (v:=?_) (Or.inl ⟨by rfl,?_⟩) ?_;rotate_left;(focus (intro w hSw;(try dsimp only at hSw);go_simp;all_goals (with_reducible rfl)));simp only [List.setIfInBounds_toArray,List.set_cons_zero,List.set_cons_succ])
 refine z0f (t:=2) krT rfl rfl (fun K' hK=>?_)
 go_simp
 refine (LX.out _ gzT).mono ?_
 rintro e v1 ⟨ao1,cp1,rfl,hL1,hb1⟩
 replace hL1:=hiT hL1
 replace hb1:Below X0.heap.size X0 v1:=Below.trans gzT (hb1.mono gzT)
 have hz1:=hb1.size
 refine hK.out _ _ (fun _=>KS.out _ gzT) (fun hS=>?_)
 clear hK K'
 replace hS:=hS deT
 refine z0f (t:=5) krT rfl rfl (fun K' hK=>?_)
 go_simp
 refine (RB.out _ gzT).mono ?_
 rintro e v2 ⟨pb2,da2,dc2,rfl,hR2,hb2⟩
 have hc2:=hb2
 replace hL1:=hiT (z0k hL1.out (Below.trans (show Below v1.heap.size v1 _ from gzT) (hc2.mono gzT)))
 replace hb2:Below X0.heap.size X0 v2:=Below.trans gzT (hb2.mono gzT)
 have hz2:=hb2.size
 replace hR2:=hiT hR2
 clear hc2
 refine hK.out _ _ (fun _=>KS.out _ gzT) (fun hS=>?_)
 clear hK K'
 replace hS:=hS deT
 refine z0f (t:=6) krT rfl rfl (fun K' hK=>?_)
 go_simp
 refine (RL.out pb2 da2 dc2 _ gzT (y7c hR2.out gzT)).mono ?_
 rintro e v3 ⟨ao3,cp3,rfl,hL3,hb3⟩
 have hc3:=hb3
 replace hL1:=hiT (z0k hL1.out (Below.trans (show Below v2.heap.size v2 _ from gzT) (hc3.mono gzT)))
 replace hb3:Below X0.heap.size X0 v3:=Below.trans gzT (hb3.mono gzT)
 have hz3:=hb3.size
 replace hL3:=hiT hL3
 clear hc3
 refine hK.out _ _ (fun _=>KS.out _ gzT) (fun hS=>?_)
 clear hK K'
 replace hS:=hS deT
 refine z0f (t:=7) krT rfl rfl (fun K' hK=>?_)
 go_simp
 refine (TX.out ao1 ao3 cp1 cp3 _ (z0k hL1.out gzT) (z0k hL3.out gzT)).mono ?_
 intro e wz hr
 obtain ⟨rfl,p4,rfl⟩:=hr.out
 clear hr
 refine hK.out _ _ (fun _=>KS.out _ gzT) (fun hS=>?_)
 clear hK K'
 replace hS:=hS deT
 (refine mT 8 rfl rfl (v:=?_) (Or.inl ⟨by rfl,?_⟩) ?_;rotate_left;(focus (intro w hSw;(try dsimp only at hSw);go_simp;all_goals (with_reducible rfl)));simp only [List.setIfInBounds_toArray,List.set_cons_zero,List.set_cons_succ])
 (refine mT 9 rfl rfl (v:=?_) (Or.inl ⟨by rfl,?_⟩) ?_;rotate_left;(focus (intro w hSw;(try dsimp only at hSw);go_simp;all_goals (with_reducible rfl)));simp only [List.setIfInBounds_toArray,List.set_cons_zero,List.set_cons_succ])
 (refine mT 10 rfl rfl (v:=?_) (Or.inl ⟨by rfl,?_⟩) ?_;rotate_left;(focus (intro w hSw;(try dsimp only at hSw);go_simp;all_goals (with_reducible rfl)));simp only [List.setIfInBounds_toArray,List.set_cons_zero,List.set_cons_succ])
 refine wpM_want (t:=11) krT rfl (by rfl) (fun K' hK=>?_)
 go_simp
 refine (CP.out _ gzT).mono ?_
 rintro e v5 ⟨pa',pc',da',dc',ia',ic',oa',oc',ta',tc',ka',kc',ua',uc',rfl,hO5,hb5⟩
 rw [sn0_form]
 replace hb5:Below X0.heap.size X0 v5:=Below.trans gzT (hb5.mono gzT)
 have hz5:=hb5.size
 have hR5:=hiT (y3i hO5)
 clear hO5
 refine hK.out _ _ (fun _=>KS.out _ gzT) (fun hS=>?_)
 clear hK K'
 replace hS:=hS deT
 refine wpM_want (t:=12) krT rfl (by rfl) (fun K' hK=>?_)
 go_simp
 refine (SM.out pa' pc' da' dc' ia' ic' oa' oc' ta' tc' ka' kc' ua' uc' _ gzT (z2v hR5.out gzT)).mono ?_
 intro e wz hr
 obtain ⟨rfl,p6,rfl⟩:=hr.out
 clear hr
 refine hK.out _ _ (fun _=>KS.out _ gzT) (fun hS=>?_)
 clear hK K'
 replace hS:=hS deT
 (refine mT 13 rfl rfl (v:=?_) (Or.inl ⟨by rfl,?_⟩) ?_;rotate_left;(focus (intro w hSw;(try dsimp only at hSw);go_simp;all_goals (with_reducible rfl)));simp only [List.setIfInBounds_toArray,List.set_cons_zero,List.set_cons_succ])
 (refine mT 14 rfl rfl (v:=?_) (Or.inl ⟨by rfl,?_⟩) ?_;rotate_left;(focus (intro w hSw;(try dsimp only at hSw);go_simp;all_goals (with_reducible rfl)));simp only [List.setIfInBounds_toArray,List.set_cons_zero,List.set_cons_succ])
 (refine mT 15 rfl rfl (v:=?_) (Or.inl ⟨by rfl,?_⟩) ?_;rotate_left;(focus (intro w hSw;(try dsimp only at hSw);go_simp;all_goals (with_reducible rfl)));simp only [List.setIfInBounds_toArray,List.set_cons_zero,List.set_cons_succ])
 (refine mT 16 rfl rfl (v:=?_) (Or.inl ⟨by rfl,?_⟩) ?_;rotate_left;(focus (intro w hSw;(try dsimp only at hSw);go_simp;all_goals (with_reducible rfl)));simp only [List.setIfInBounds_toArray,List.set_cons_zero,List.set_cons_succ])
 (refine mT 17 rfl rfl (v:=?_) (Or.inl ⟨by rfl,?_⟩) ?_;rotate_left;(focus (intro w hSw;(try dsimp only at hSw);go_simp;all_goals (with_reducible rfl)));simp only [List.setIfInBounds_toArray,List.set_cons_zero,List.set_cons_succ])
 (refine mT 18 rfl rfl (v:=?_) (Or.inl ⟨by rfl,?_⟩) ?_;rotate_left;(focus (intro w hSw;(try dsimp only at hSw);go_simp;all_goals (with_reducible rfl)));simp only [List.setIfInBounds_toArray,List.set_cons_zero,List.set_cons_succ])
 (refine mT 19 rfl rfl (v:=?_) (Or.inl ⟨by rfl,?_⟩) ?_;rotate_left;(focus (intro w hSw;(try dsimp only at hSw);go_simp;all_goals (with_reducible rfl)));simp only [List.setIfInBounds_toArray,List.set_cons_zero,List.set_cons_succ])
 (refine mT 20 rfl rfl (v:=?_) (Or.inl ⟨by rfl,?_⟩) ?_;rotate_left;(focus (intro w hSw;(try dsimp only at hSw);go_simp;all_goals (with_reducible rfl)));simp only [List.setIfInBounds_toArray,List.set_cons_zero,List.set_cons_succ])
 (refine mT 21 rfl rfl (v:=?_) (Or.inl ⟨by rfl,?_⟩) ?_;rotate_left;(focus (intro w hSw;(try dsimp only at hSw);go_simp;all_goals (with_reducible rfl)));simp only [List.setIfInBounds_toArray,List.set_cons_zero,List.set_cons_succ])
 refine wpM_want (t:=22) krT rfl (by rfl) (fun K' hK=>?_)
 go_simp
 refine (LG.out _ gzT).mono ?_
 intro e wz hr
 obtain ⟨rfl,p7,rfl⟩:=hr.out
 clear hr
 refine hK.out _ _ (fun _=>KS.out _ gzT) (fun hS=>?_)
 clear hK K'
 replace hS:=hS deT
 (refine mT 23 rfl rfl (v:=?_) (Or.inl ⟨by rfl,?_⟩) ?_;rotate_left;(focus (intro w hSw;(try dsimp only at hSw);go_simp;all_goals (with_reducible rfl)));simp only [List.setIfInBounds_toArray,List.set_cons_zero,List.set_cons_succ])
 (refine mT 24 rfl rfl (v:=?_) (Or.inl ⟨by rfl,?_⟩) ?_;rotate_left;(focus (intro w hSw;(try dsimp only at hSw);go_simp;all_goals (with_reducible rfl)));simp only [List.setIfInBounds_toArray,List.set_cons_zero,List.set_cons_succ])
 refine z0f (t:=25) krT rfl rfl (fun K' hK=>?_)
 go_simp
 refine hK.out _ _ (fun h=>absurd rfl h) (fun _=>z1j krT ?_)
 clear hS hK K' KS
 go_wp2
 go_returns
 exact ⟨rfl,hGw.out _ gzT⟩
theorem snbegins_no (s:ByteArray) (w:World) (hA:Ap w) (M:∀ wx,Below w.heap.size w wx → Calls Tryz.prog 7 #[.string s] wx (x2v wx)):Calls Tryz.prog 3 #[.string s] w (Ret (.bool true) w):=by
 have A:=hiT (fun wx (hb:Below w.heap.size w wx)=>q5c wx (j2v hA hb))
 replace M:=hiT M
 clear hA
 go_enter Tryz.func3,Tryz.ntmps3
 go_wp2_with (first | ((with_reducible refine (A.out _ gzT).mono ?_);intro e w1 hr;obtain ⟨rfl,p,rfl⟩:=hr.out;clear hr))
 refine (M.out _ gzT).mono ?_
 rintro e w1 ⟨a,b,c,x,y,i,j,k,l,m,n,p,q,r,s1,t,rfl,hb1⟩
 have hw1:Below w.heap.size w w1:=Below.trans gzT (hb1.mono gzT)
 have hz1:=hw1.size
 clear A M hb1
 dsimp only
 go_wp2
 go_returns
 exact ⟨rfl,gzT⟩
theorem snbegins_walk (s:ByteArray) (hz:s.size ≤ maxLen) (w:World) (hA:Ap w):Calls Tryz.prog 3 #[.string s] w (Ret (.bool true) w):=by
 by_cases hs:s.size ≤ 20000
 ·by_cases hv:∃ c,z3q s.data.toList = .ok c ∧ (z4r c).1 = 0
  ·obtain ⟨c,hx,hk⟩:=hv
   exact snbegins_yes c s hs hx hk w hA
  ·exact snbegins_no s w hA fun wx hb=>v9c s hs (fun c hx hk=>hv ⟨c,hx,hk⟩) wx (z2o hA.al hb)
 ·exact snbegins_no s w hA fun wx _=>v5d s omT (by unfold maxLen at hz;omega) wx
end Go.Proofs.YtacnlghljmgdiaaGreatDoor
