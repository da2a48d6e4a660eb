/- Several texts of this proof, joined: LV, LX7, LY. -/
import Derived.Test.YtacnlghljmgdiaaGreatDoorP3
import Derived.Test.YtacnlghljmgdiaaGreatDoorZ1
import Derived.WalkKit
import Derived.ProofKit
import Derived.OpenShut
import Derived.Handy
import Derived.BigQuiet
import Derived.OwnWalk
import Derived.Deep.AppendLies
import Derived.Deep.RegionHeld3
import Derived.Lib.Hide
import Derived.WalkSmall
import Derived.WalkLawsBesides
namespace Go.Proofs.YtacnlghljmgdiaaGreatDoor
open Go.RowKit
section
variable {w0:World} {rb nb:Nat} {ao:Option Addr} {cap:Nat} {ts:List Tk} {a:Nat} {n:Ln}
theorem y5c {k:Nat} (h1:1 ≤ k) (h12:k ≤ 12) (hn:∀ j,1 ≤ j → j < k → z2t ts a (lwL j) = false) (hy:z2t ts a (lwL k) = true):q1q ts a = k:=by
 have:∀ f i,i + f = 13 → 1 ≤ i → i ≤ k → z5w ts a f i = k:=by
  intro f
  induction f with
  | zero=>intro i h h' h'';omega
  | succ f ih =>
   intro i h h' h''
   rw [z5w]
   by_cases he:i = k
   ·rw [he,if_pos hy]
   ·rw [if_neg (by rw [hn i h' omT];decide)]
    exact ih (i + 1) omT omT omT
 exact this 12 1 rfl (Nat.le_refl _) h1
theorem k0z (hn:∀ j,1 ≤ j → j < 13 → z2t ts a (lwL j) = false):q1q ts a = 0:=by
 rcases q1z (ts:=ts) (a:=a) 12 1 with h1 | ⟨h1,h2,h3⟩
 ·exact h1
 ·rw [hn _ h1 h2] at h3
  cases h3
def x3q (w0:World) (rb:Nat) (ao:Option Addr) (cap:Nat) (ts:List Tk) (a k:Nat) (w:World) (e:Ending) (w':World):Prop :=
 e = .returned (.tuple #[.int .i64 (k:Int),.bool (decide (k ≠ 0))]) ∧ z8q w0 rb ao cap ts (if k = 0 then a else a + 1) w w'
set_option maxRecDepth 100000 in
set_option maxHeartbeats 2000000 in
theorem k1m (hB:BaseL w0 ao ts) (w:World) (h:RdrAt w0 rb ao cap ts a w) :
  Calls Tryz.prog 108 #[.pointer (some ⟨rb,0,none⟩)] w (x3q w0 rb ao cap ts a (q1q ts a) w):=by
 have T:=hiT (fun (x:ByteArray) b wx (hb:RdrAt w0 rb ao cap ts a wx) (hx:z2t ts a x.data.toList = b)=>q0w x hB wx hb hx)
 have L:=hiT (fun wx (hb:RdrAt w0 rb ao cap ts a wx)=>(z2o hB.al hb.env).lw)
 have h0:=hiT (show z8q w0 rb ao cap ts a w w from z3k h (Below.refl _ _))
 clear hB h
 go_enter Tryz.func108,Tryz.ntmps108
 go_wp2
 go_loopw [4] (fun v wr=>∃ k:Nat,v = .int .i64 (k:Int) ∧ 1 ≤ k ∧ k ≤ 13 ∧ (∀ j,1 ≤ j → j < k → z2t ts a (lwL j) = false) ∧ z8q w0 rb ao cap ts a w wr) (fun v _=>13 - (intOf v).toNat)
 case atStart=>exact ⟨1,rfl,by decide,by decide,fun j h1 h2=>by omega,h0.out⟩
 case round =>
  obtain ⟨k,rfl,h1,h13,hn,hM⟩:=hrel
  rename World=>wr
  have hnK:=hiT hn
  clear hn h0
  by_cases h12:k ≤ 12
  ·have hL:=L.out wr hM.1
   have c0:=v5c hL k h12
   have hgl:=v9b hL
   obtain ⟨b,hbb⟩:∃ b,z2t ts a (lwL k) = b:=⟨_,rfl⟩
   have Tk:=hiT (T.out ⟨(lwL k).toArray⟩ b wr hM.1 (by simpa using hbb))
   have hI:(k:Int) ≤ 12:=by omega
   have hyes:=(fun h=>y5c h1 h12 hnK.out (hbb.trans h))
   have hno:=(fun (h:b = false) j (j1:1 ≤ j) (j2:j < k + 1)=>(by
    by_cases he:j = k
    ·subst he;exact hbb.trans h
    ·exact hnK.out j j1 omT:z2t ts a (lwL j) = false))
   generalize (⟨(lwL k).toArray⟩:ByteArray) = x at *
   clear hL T L hbb
   cases b
   ·replace hno:=hiT (hno rfl)
    clear hyes
    go_wp2_with fail
    refine Tk.out.mono ?_
    intro e w1 hr
    obtain ⟨rfl,hM1⟩:=hr
    have hM2:=hiT (z2u hM (show z8q w0 rb ao cap ts a wr w1 from hM1))
    clear Tk hM1 hM
    go_wp2
    go_roundw
    case rel=>exact ⟨k + 1,by go_num,by omega,by omega,hno.out,hM2.out⟩
    case measure=>simp [intOf];omega
   ·replace hyes:=hiT (hyes rfl)
    clear hno
    go_wp2_with fail
    refine Tk.out.mono ?_
    intro e w1 hr
    obtain ⟨rfl,hM1⟩:=hr
    have hM2:=hiT (z2u hM (show z8q w0 rb ao cap ts (a + 1) wr w1 from hM1))
    have hk0:¬ k = 0:=by omega
    clear Tk hM1 hM
    go_wp2
    go_returns
    rw [hyes.out]
    exact ⟨by rw [show decide (k ≠ 0) = true from decide_eq_true hk0];rfl,by rw [if_neg hk0];exact q4r hM2.out gzT⟩
  ·obtain rfl:k = 13:=by omega
   have h0:=hiT (k0z hnK.out)
   clear T L hnK
   go_wp2
   go_returns
   rw [h0.out]
   exact ⟨rfl,q4r hM gzT⟩
theorem q3f (hB:BaseL w0 ao ts) (w:World) (h:LnSt w0 rb nb ao cap ts n a w) {o:Option (List UInt8)} (ho:z2b ts a = o) :
  Calls Tryz.prog 180 #[.pointer (some ⟨rb,0,none⟩)] w fun e w'=>e = .returned (.tuple #[str (o.getD []),.bool o.isSome]) ∧ LnSt w0 rb nb ao cap ts n (if o.isSome then a + 1 else a) w' :=
 (j6j hB w h.rdr ho).mono fun _ _ hr=>⟨hr.1,j1h h hr.2⟩
def v7c (w0:World) (rb nb:Nat) (ao:Option Addr) (cap:Nat) (ts:List Tk) (o:Option (Ln × Nat)) (e:Ending) (w':World):Prop :=
 match o with
 | none=>e = .returned (.bool false) ∧ ∃ m b,LnSt w0 rb nb ao cap ts m b w'
 | some (m,b)=>e = .returned (.bool true) ∧ LnSt w0 rb nb ao cap ts m b w'
set_option maxRecDepth 100000 in
set_option maxHeartbeats 4000000 in
theorem j9u {k:Nat} (hB:BaseL w0 ao ts) (w:World) (h:LnSt w0 rb nb ao cap ts (ln0 k) a w) (ho:z2b ts a = none) :
  Calls Tryz.prog 145 #[.pointer (some ⟨rb,0,none⟩),.pointer (some ⟨nb,0,none⟩)] w (v7c w0 rb nb ao cap ts none):=by
 have N:=hiT (fun (b:Nat) o wx (hb:LnSt w0 rb nb ao cap ts (ln0 k) b wx) (ho:z2b ts b = o)=>q3f hB wx hb ho)
 have hS:=hiT h
 clear hB h
 go_enter Tryz.func145,Tryz.ntmps145
 go_wp2_with fail
 refine (N.out a _ w hS.out ho).mono ?_
 intro e w1 hr
 obtain ⟨rfl,hS1⟩:=hr
 replace hS1:=hiT hS1
 clear hS N ho
 go_wp2
 go_returns
 exact ⟨rfl,_,_,z0y hS1.out gzT⟩
set_option maxRecDepth 100000 in
set_option maxHeartbeats 4000000 in
theorem y5p {k:Nat} (hk:k = 4 ∨ k = 5) {s:List UInt8} (hB:BaseL w0 ao ts) (w:World) (h:LnSt w0 rb nb ao cap ts (ln0 k) a w) (ho:z2b ts a = some s) :
  Calls Tryz.prog 145 #[.pointer (some ⟨rb,0,none⟩),.pointer (some ⟨nb,0,none⟩)] w (v7c w0 rb nb ao cap ts (some ({ ln0 k with name:=s },a + 1))):=by
 have N:=hiT (fun (b:Nat) o wx (hb:LnSt w0 rb nb ao cap ts (ln0 k) b wx) (ho:z2b ts b = o)=>q3f hB wx hb ho)
 have hS:=hiT h
 have e1:((k:Int) == 1) = false:=beq_eq_false_iff_ne.2 omT
 have e2:((k:Int) == 2) = false:=beq_eq_false_iff_ne.2 omT
 have e3:((k:Int) == 3) = false:=beq_eq_false_iff_ne.2 omT
 have e6:((k:Int) == 6) = false:=beq_eq_false_iff_ne.2 omT
 have e7:((k:Int) == 7) = false:=beq_eq_false_iff_ne.2 omT
 clear hB h hk
 go_enter Tryz.func145,Tryz.ntmps145
 go_wp2_with fail
 refine (N.out a _ w hS.out ho).mono ?_
 intro e w1 hr
 obtain ⟨rfl,hS1⟩:=hr
 replace hS1:LnSt w0 rb nb ao cap ts (ln0 k) (a + 1) w1:=hS1
 obtain ⟨xo,xc,io,ic,go,gc,to',tc,hblk,hV,hnb,hfr,hcl⟩:=z3a hS1
 have c0:w1.cell? ⟨nb,0,none⟩ = some (.int .i64 (k:Int)):=hcl 0
 have c1:=hcl 1
 have f1:=hfr 1
 have i1:InW nb w1:=⟨hnb⟩
 have hS2:=hiT (show LnSt w0 rb nb ao cap ts { ln0 k with name:=s } (a + 1) (w1.setCell ⟨nb,1,none⟩ (str s)) from j3o s hS1)
 clear hblk hV hfr hcl hS1 hS
 clear N ho
 go_wp2
 go_returns
 exact ⟨rfl,z0y hS2.out gzT⟩
set_option maxRecDepth 100000 in
set_option maxHeartbeats 4000000 in
theorem y5o {k:Nat} (hk:k = 1 ∨ k = 3) {s:List UInt8} (hB:BaseL w0 ao ts) (w:World) (h:LnSt w0 rb nb ao cap ts (ln0 k) a w) (ho:z2b ts a = some s) {o:Option (List UInt8)} (ho2:z2b ts (a + 1) = o) {q:List UInt8} {b:Nat} (hq:o.getD [] = q) (hb:(if o.isSome then a + 2 else a + 1) = b) :
  Calls Tryz.prog 145 #[.pointer (some ⟨rb,0,none⟩),.pointer (some ⟨nb,0,none⟩)] w (v7c w0 rb nb ao cap ts (some ({ ln0 k with name:=s,start:=q },b))):=by
 have N:=hiT (fun m (b:Nat) o wx (hb:LnSt w0 rb nb ao cap ts m b wx) (ho:z2b ts b = o)=>q3f hB wx hb ho)
 have hS:=hiT h
 have e2:((k:Int) == 2) = false:=beq_eq_false_iff_ne.2 omT
 have hk1:((k:Int) == 1) = true ∨ ((k:Int) == 1) = false ∧ ((k:Int) == 3) = true:=by
  rcases hk with rfl | rfl
  ·exact .inl rfl
  ·exact .inr ⟨rfl,rfl⟩
 clear hB h hk
 rcases hk1 with e1 | ⟨e1,e3⟩
 all_goals
  go_enter Tryz.func145,Tryz.ntmps145
  go_wp2_with fail
  refine (N.out _ a _ w hS.out ho).mono ?_
  intro e w1 hr
  obtain ⟨rfl,hS1⟩:=hr
  replace hS1:LnSt w0 rb nb ao cap ts (ln0 k) (a + 1) w1:=hS1
  obtain ⟨xo,xc,io,ic,go,gc,to',tc,hblk,hV,hnb,hfr,hcl⟩:=z3a hS1
  have c0:w1.cell? ⟨nb,0,none⟩ = some (.int .i64 (k:Int)):=hcl 0
  have c1:=hcl 1
  have f1:=hfr 1
  have i1:InW nb w1:=⟨hnb⟩
  have hS2:=hiT (show LnSt w0 rb nb ao cap ts { ln0 k with name:=s } (a + 1) (w1.setCell ⟨nb,1,none⟩ (str s)) from j3o s hS1)
  clear hblk hV hfr hcl hS1 hS
  clear ho
  go_wp2_with fail
  refine (N.out _ (a + 1) _ _ (z0y hS2.out gzT) ho2).mono ?_
  intro e w3 hr
  rw [hq,show a + 1 + 1 = a + 2 from rfl,hb] at hr
  obtain ⟨rfl,hS3⟩:=hr
  clear hS2 c0 c1 f1 i1 N ho2 hq hb
  obtain ⟨xo,xc,io,ic,go,gc,to',tc,hblk,hV,hnb3,hfr,hcl⟩:=z3a hS3
  have c2:=hcl 2
  have f2:=hfr 2
  have i3:InW nb w3:=⟨hnb3⟩
  have hS4:=hiT (show LnSt w0 rb nb ao cap ts { ln0 k with name:=s,start:=q } b (w3.setCell ⟨nb,2,none⟩ (str q)) from j3p q hS3)
  clear hblk hV hfr hcl hS3
  go_wp2
  go_returns
  exact ⟨rfl,z0y hS4.out gzT⟩
set_option maxRecDepth 100000 in
set_option maxHeartbeats 4000000 in
theorem y5q {k:Nat} (hk:k = 6 ∨ k = 7) {s:List UInt8} (hB:BaseL w0 ao ts) (w:World) (h:LnSt w0 rb nb ao cap ts (ln0 k) a w) (ho:z2b ts a = some s) {o:Option (List UInt8)} (ho2:z2b ts (a + 1) = o) :
  Calls Tryz.prog 145 #[.pointer (some ⟨rb,0,none⟩),.pointer (some ⟨nb,0,none⟩)] w (v7c w0 rb nb ao cap ts (o.map fun t=>({ ln0 k with name:=s,start:=t },a + 2))):=by
 have N:=hiT (fun m (b:Nat) o wx (hb:LnSt w0 rb nb ao cap ts m b wx) (ho:z2b ts b = o)=>q3f hB wx hb ho)
 have hS:=hiT h
 have e1:((k:Int) == 1) = false:=beq_eq_false_iff_ne.2 omT
 have e2:((k:Int) == 2) = false:=beq_eq_false_iff_ne.2 omT
 have e3:((k:Int) == 3) = false:=beq_eq_false_iff_ne.2 omT
 have hk1:((k:Int) == 6) = true ∨ ((k:Int) == 6) = false ∧ ((k:Int) == 7) = true:=by
  rcases hk with rfl | rfl
  ·exact .inl rfl
  ·exact .inr ⟨rfl,rfl⟩
 clear hB h hk
 rcases hk1 with e6 | ⟨e6,e7⟩
 all_goals
  go_enter Tryz.func145,Tryz.ntmps145
  go_wp2_with fail
  refine (N.out _ a _ w hS.out ho).mono ?_
  intro e w1 hr
  obtain ⟨rfl,hS1⟩:=hr
  replace hS1:LnSt w0 rb nb ao cap ts (ln0 k) (a + 1) w1:=hS1
  obtain ⟨xo,xc,io,ic,go,gc,to',tc,hblk,hV,hnb,hfr,hcl⟩:=z3a hS1
  have c0:w1.cell? ⟨nb,0,none⟩ = some (.int .i64 (k:Int)):=hcl 0
  have c1:=hcl 1
  have f1:=hfr 1
  have i1:InW nb w1:=⟨hnb⟩
  have hS2:=hiT (show LnSt w0 rb nb ao cap ts { ln0 k with name:=s } (a + 1) (w1.setCell ⟨nb,1,none⟩ (str s)) from j3o s hS1)
  clear hblk hV hfr hcl hS1 hS
  clear ho
  go_wp2_with fail
  refine (N.out _ (a + 1) _ _ (z0y hS2.out gzT) ho2).mono ?_
  intro e w3 hr
  obtain ⟨rfl,hS3⟩:=hr
  clear hS2 c0 c1 f1 i1 N ho2
  obtain ⟨xo,xc,io,ic,go,gc,to',tc,hblk,hV,hnb3,hfr,hcl⟩:=z3a hS3
  have c2:=hcl 2
  have f2:=hfr 2
  have i3:InW nb w3:=⟨hnb3⟩
  rcases o with _ | t
  ·have hS4:=hiT (show LnSt w0 rb nb ao cap ts { ln0 k with name:=s,start:=[] } (a + 1) (w3.setCell ⟨nb,2,none⟩ (str [])) from j3p [] hS3)
   clear hblk hV hfr hcl hS3
   go_wp2
   go_returns
   exact ⟨rfl,_,_,z0y hS4.out gzT⟩
  ·have hS4:=hiT (show LnSt w0 rb nb ao cap ts { ln0 k with name:=s,start:=t } (a + 2) (w3.setCell ⟨nb,2,none⟩ (str t)) from j3p t hS3)
   clear hblk hV hfr hcl hS3
   go_wp2
   go_returns
   exact ⟨rfl,z0y hS4.out gzT⟩
set_option maxRecDepth 100000 in
set_option maxHeartbeats 4000000 in
theorem y5r {s:List UInt8} (hB:BaseL w0 ao ts) (w:World) (h:LnSt w0 rb nb ao cap ts (ln0 (2:Nat)) a w) (ho:z2b ts a = some s) {o:Option (Int × Int × List UInt8 × Nat)} (ho2:z9g ts (a + 1) = o) :
  Calls Tryz.prog 145 #[.pointer (some ⟨rb,0,none⟩),.pointer (some ⟨nb,0,none⟩)] w (v7c w0 rb nb ao cap ts (o.map fun v=>({ ln0 (2:Nat) with name:=s,vk:=v.1,vn:=v.2.1,vs:=v.2.2.1 },v.2.2.2))):=by
 have N:=hiT (fun m (b:Nat) o wx (hb:LnSt w0 rb nb ao cap ts m b wx) (ho:z2b ts b = o)=>q3f hB wx hb ho)
 have V:=hiT (fun m (b:Nat) wx (hb:LnSt w0 rb nb ao cap ts m b wx)=>y5v hB wx hb.rdr)
 have hS:=hiT h
 clear hB h
 obtain ⟨k,hk⟩:∃ k,k = 2:=⟨_,rfl⟩
 rw [← hk] at hS ⊢
 have e2:((k:Int) == 2) = true:=by rw [hk];rfl
 clear hk
 go_enter Tryz.func145,Tryz.ntmps145
 go_wp2_with fail
 refine (N.out _ a _ w hS.out ho).mono ?_
 intro e w1 hr
 obtain ⟨rfl,hS1⟩:=hr
 replace hS1:LnSt w0 rb nb ao cap ts (ln0 k) (a + 1) w1:=hS1
 obtain ⟨xo,xc,io,ic,go,gc,to',tc,hblk,hV,hnb,hfr,hcl⟩:=z3a hS1
 have c0:w1.cell? ⟨nb,0,none⟩ = some (.int .i64 (k:Int)):=hcl 0
 have c1:=hcl 1
 have f1:=hfr 1
 have i1:InW nb w1:=⟨hnb⟩
 have hS2:=hiT (show LnSt w0 rb nb ao cap ts { ln0 k with name:=s } (a + 1) (w1.setCell ⟨nb,1,none⟩ (str s)) from j3o s hS1)
 clear hblk hV hfr hcl hS1 hS
 clear ho N
 have V1:=V.out _ (a + 1) _ (z0y hS2.out (Below.refl _ _))
 rw [ho2] at V1
 replace V1:=hiT V1
 clear ho2 V
 rcases o with _ | ⟨vk,vn,vs,b⟩
 ·go_wp2_with fail
  refine V1.out.mono ?_
  intro e w3 hr
  obtain ⟨rfl,b,hM⟩:=hr
  have hS3:=j1h hS2.out hM
  clear hS2 c0 c1 f1 i1 V1 hM
  obtain ⟨xo,xc,io,ic,go,gc,to',tc,hblk,hV,hnb3,hfr,hcl⟩:=z3a hS3
  have c3:=hcl 3
  have c4:=hcl 4
  have c5:=hcl 5
  have f3:=hfr 3
  have f4:=hfr 4
  have f5:=hfr 5
  have i3:InW nb w3:=⟨hnb3⟩
  have hS4:=hiT (v8y [] (v8x 0 (v8w 0 hS3)))
  clear hblk hV hfr hcl hS3
  go_wp2
  go_returns
  exact ⟨rfl,_,_,z0y hS4.out gzT⟩
 ·go_wp2_with fail
  refine V1.out.mono ?_
  intro e w3 hr
  obtain ⟨rfl,hM⟩:=hr
  have hS3:=j1h hS2.out hM
  clear hS2 c0 c1 f1 i1 V1 hM
  obtain ⟨xo,xc,io,ic,go,gc,to',tc,hblk,hV,hnb3,hfr,hcl⟩:=z3a hS3
  have c3:=hcl 3
  have c4:=hcl 4
  have c5:=hcl 5
  have f3:=hfr 3
  have f4:=hfr 4
  have f5:=hfr 5
  have i3:InW nb w3:=⟨hnb3⟩
  have hS4:=hiT (v8y vs (v8x vn (v8w vk hS3)))
  clear hblk hV hfr hcl hS3
  go_wp2
  go_returns
  exact ⟨rfl,z0y hS4.out gzT⟩
theorem y5n {k:Nat} (hk1:1 ≤ k) (hk7:k ≤ 7) (hB:BaseL w0 ao ts) (w:World) (h:LnSt w0 rb nb ao cap ts (ln0 k) a w) :
  Calls Tryz.prog 145 #[.pointer (some ⟨rb,0,none⟩),.pointer (some ⟨nb,0,none⟩)] w (v7c w0 rb nb ao cap ts (q1s ts k a)):=by
 unfold q1s
 rcases ho:z2b ts a with _ | s
 ·exact j9u hB w h ho
 ·simp only
  by_cases h2:k = 2
  ·subst h2
   rw [if_pos rfl]
   have:=y5r hB w h ho rfl
   rcases ho2:z9g ts (a + 1) with _ | ⟨vk,vn,vs,b⟩
   ·rw [ho2] at this
    exact this
   ·rw [ho2] at this
    exact this
  ·rw [if_neg h2]
   by_cases h3:k = 1 ∨ k = 3
   ·rw [if_pos h3]
    have:=y5o h3 hB w h ho rfl rfl rfl
    rcases ho2:z2b ts (a + 1) with _ | t
    ·rw [ho2] at this
     exact this
    ·rw [ho2] at this
     exact this
   ·rw [if_neg h3]
    by_cases h6:k = 6 ∨ k = 7
    ·rw [if_pos h6]
     have:=y5q h6 hB w h ho rfl
     rcases ho2:z2b ts (a + 1) with _ | t
     ·rw [ho2] at this
      exact this
     ·rw [ho2] at this
      exact this
    ·rw [if_neg h6]
     exact y5p omT hB w h ho
end
section
variable {w0:World} {rb nb:Nat} {ao:Option Addr} {cap:Nat} {ts:List Tk} {a:Nat} {n:Ln}
set_option maxRecDepth 100000 in
set_option maxHeartbeats 4000000 in
theorem k1q {k:Nat} (hk1:1 ≤ k) (hk12:k ≤ 12) (hB:BaseL w0 ao ts) (w:World) (h:LnSt w0 rb nb ao cap ts (ln0 k) a w) {x:Except Int (Ln × Nat)} (hx:j0e ts k a = x) :
  Calls Tryz.prog 109 #[.pointer (some ⟨rb,0,none⟩),.pointer (some ⟨nb,0,none⟩)] w (z9l w0 rb nb ao cap ts x):=by
 obtain ⟨xo,xc,io,ic,go,gc,to',tc,hblk,hV,hnb,hfr,hcl⟩:=z3a h
 have c0:w.cell? ⟨nb,0,none⟩ = some (.int .i64 (k:Int)):=hcl 0
 have i1:InW nb w:=⟨hnb⟩
 have hS:=hiT h
 clear hblk hV hfr hcl
 unfold j0e at hx
 by_cases h12:k = 12
 ·rw [if_pos h12] at hx
  subst hx
  have e12:((k:Int) == 12) = true:=by rw [beq_iff_eq];omega
  clear hB h h12
  go_enter Tryz.func109,Tryz.ntmps109
  go_wp2
  go_returns
  exact ⟨rfl,z0y hS.out gzT⟩
 ·rw [if_neg h12] at hx
  have e12:((k:Int) == 12) = false:=beq_eq_false_iff_ne.2 omT
  by_cases h89:k = 8 ∨ k = 9
  ·rw [if_pos h89] at hx
   have A:=y5f hB w h (x:=z9a ts (a:Int)) rfl
   have hk:((k:Int) == 8) = true ∨ ((k:Int) == 8) = false ∧ ((k:Int) == 9) = true:=by
    rcases h89 with rfl | rfl
    ·exact .inl rfl
    ·exact .inr ⟨rfl,rfl⟩
   replace A:=hiT A
   have hx2:y1k (fun cs=>{ ln0 k with acts:=cs }) (z9a ts (a:Int)) = x:=by
    rw [← hx]
    cases z9a ts (a:Int) with
    | error x=>rfl
    | ok p=>rfl
   rw [hx2] at A
   clear hB h h12 h89 hx hx2 hS
   rcases hk with e8 | ⟨e8,e9⟩
   all_goals
    go_enter Tryz.func109,Tryz.ntmps109
    go_wp2_with fail
    refine A.out.mono ?_
    intro e w1 hr
    obtain ⟨v,rfl,hs⟩:=z6i hr
    replace hs:=hiT hs
    clear A hr
    go_wp2
    go_returns
    exact q0x (z5p hs.out gzT)
  ·rw [if_neg h89] at hx
   have e8:((k:Int) == 8) = false:=beq_eq_false_iff_ne.2 omT
   have e9:((k:Int) == 9) = false:=beq_eq_false_iff_ne.2 omT
   by_cases h10:k = 10
   ·rw [if_pos h10] at hx
    have e10:((k:Int) == 10) = true:=by rw [beq_iff_eq];omega
    have E:=y5h hB w h
    rcases hev:q5h ts a with _ | s
    ·rw [hev] at hx E
     subst hx
     replace E:=hiT E
     clear hB h h12 h89 h10 hev hS
     go_enter Tryz.func109,Tryz.ntmps109
     go_wp2_with fail
     refine E.out.mono ?_
     intro e w1 hr
     obtain ⟨rfl,hs⟩:=hr
     replace hs:=hiT hs
     clear E
     go_wp2
     go_returns
     exact ⟨rfl,rfl,_,_,z0y hs.out gzT⟩
    ·rw [hev] at hx E
     have T:=hiT (fun wx (s':LnSt w0 rb nb ao cap ts { ln0 k with event:=s } (a + 1) wx)=>j1i hB wx s' rfl rfl rfl hx)
     replace E:=hiT E
     clear hB h h12 h89 h10 hev hx hS
     go_enter Tryz.func109,Tryz.ntmps109
     go_wp2_with fail
     refine E.out.mono ?_
     intro e w1 hr
     obtain ⟨rfl,hs⟩:=hr
     have T1:=hiT (fun wx (hb:Below w1.heap.size w1 wx)=>T.out wx (z0y hs hb))
     clear E T hs
     go_wp2_with fail
     refine (T1.out _ gzT).mono ?_
     intro e w2 hr
     obtain ⟨v,rfl,hs⟩:=z6i hr
     replace hs:=hiT hs
     clear T1 hr
     go_wp2
     go_returns
     exact q0x (z5p hs.out gzT)
   ·rw [if_neg h10] at hx
    have e10:((k:Int) == 10) = false:=beq_eq_false_iff_ne.2 omT
    by_cases h11:k = 11
    ·rw [if_pos h11] at hx
     have e11:((k:Int) == 11) = true:=by rw [beq_iff_eq];omega
     have T1:=hiT (j1i hB w h rfl rfl rfl hx)
     clear hB h h12 h89 h10 h11 hx hS
     go_enter Tryz.func109,Tryz.ntmps109
     go_wp2_with fail
     refine (T1.out).mono ?_
     intro e w2 hr
     obtain ⟨v,rfl,hs⟩:=z6i hr
     replace hs:=hiT hs
     clear T1 hr
     go_wp2
     go_returns
     exact q0x (z5p hs.out gzT)
    ·rw [if_neg h11] at hx
     have e11:((k:Int) == 11) = false:=beq_eq_false_iff_ne.2 omT
     have N:=y5n hk1 omT hB w h
     rcases hn:q1s ts k a with _ | ⟨m,b⟩
     ·rw [hn] at hx N
      subst hx
      replace N:=hiT N
      clear hB h h12 h89 h10 h11 hn hS
      go_enter Tryz.func109,Tryz.ntmps109
      go_wp2_with fail
      refine N.out.mono ?_
      intro e w1 hr
      obtain ⟨rfl,m,b,hs⟩:=hr
      replace hs:=hiT hs
      clear N
      go_wp2
      go_returns
      exact ⟨rfl,rfl,_,_,z0y hs.out gzT⟩
     ·rw [hn] at hx N
      subst hx
      replace N:=hiT N
      clear hB h h12 h89 h10 h11 hn hS
      go_enter Tryz.func109,Tryz.ntmps109
      go_wp2_with fail
      refine N.out.mono ?_
      intro e w1 hr
      obtain ⟨rfl,hs⟩:=hr
      replace hs:=hiT hs
      clear N
      go_wp2
      go_returns
      exact ⟨rfl,z0y hs.out gzT⟩
end
def x3n (w:World) (b:Nat):Nat → List Value → World
 | _,[]=>w
 | i,v :: vs=>x3n (w.setCell ⟨b,i,none⟩ v) b (i + 1) vs
theorem y2m {B b t:Nat} {n:Ln} {av iv gv tv:Value} (h1:t ≠ 239) (h2:t ≠ 235) (h3:t ≠ 9):∀ (vs:List Value) (i:Nat) (w:World) {cells:Array Value},LnV B w n av iv gv tv → w.heap[b]? = some (.cells cells t (0,0)) → LnV B (x3n w b i vs) n av iv gv tv
 | [],_,_,_,h,_=>h
 | _ :: vs,i,_,_,h,hb=>y2m h1 h2 h3 vs (i + 1) _ (z5g h hb h1 h2 h3) (z0l hb)
theorem y2l {B B':Nat} {w:World} {n:Ln} {av iv gv tv:Value} (h:LnV B w n av iv gv tv) (hB:B' ≤ B):LnV B' w n av iv gv tv :=
 ⟨z6c h.acts hB,z0m h.cond hB,z0m h.goes hB,z6c h.thn hB⟩
abbrev j6h (k:Int):Obj := .cells #[.int .i64 k,.string ⟨#[]⟩,.string ⟨#[]⟩,.int .i64 0,.int .i64 0,.string ⟨#[]⟩,.slice none 0 0,.string ⟨#[]⟩,.slice none 0 0,.slice none 0 0,.bool false,.slice none 0 0] 164 (0,0)
def x3r (x:Except Int Ln) (w:World) (e:Ending) (w':World):Prop :=
 match x with
 | .error x=>e = .returned (.tuple #[.agg (lnC (ln0 0) (.slice none 0 0) (.slice none 0 0) (.slice none 0 0) (.slice none 0 0)),.int .i64 x]) ∧ (x == 0) = false ∧ Below w.heap.size w w'
 | .ok n=>∃ av iv gv tv,e = .returned (.tuple #[.agg (lnC n av iv gv tv),.int .i64 0]) ∧ LnV w.heap.size w' n av iv gv tv ∧ Below w.heap.size w w'
theorem twelve {w:World} {b:Nat} {t:TypeId} {v0 v1 v2 v3 v4 v5 v6 v7 v8 v9 va vb:Value} (h:w.heap[b]? = some (.cells #[v0,v1,v2,v3,v4,v5,v6,v7,v8,v9,va,vb] t (0,0))) :
  w.cell? ⟨b,0,none⟩ = some v0 ∧ w.cell? ⟨b,1,none⟩ = some v1 ∧ w.cell? ⟨b,2,none⟩ = some v2 ∧ w.cell? ⟨b,3,none⟩ = some v3 ∧ w.cell? ⟨b,4,none⟩ = some v4 ∧ w.cell? ⟨b,5,none⟩ = some v5 ∧ w.cell? ⟨b,6,none⟩ = some v6 ∧ w.cell? ⟨b,7,none⟩ = some v7 ∧ w.cell? ⟨b,8,none⟩ = some v8 ∧ w.cell? ⟨b,9,none⟩ = some v9 ∧ w.cell? ⟨b,10,none⟩ = some va ∧ w.cell? ⟨b,11,none⟩ = some vb ∧ InW b w ∧ ∀ i,w.frozen? ⟨b,i,none⟩ = false:=by
 refine ⟨?_,?_,?_,?_,?_,?_,?_,?_,?_,?_,?_,?_,⟨lt_of_block h⟩,fun i=>frozen_of_row w b i _ _ h⟩
 all_goals exact (cell_of_row w b _ _ _ _ h).trans rfl
theorem k7s {w0 w:World} {rb:Nat} {ao:Option Addr} {cap:Nat} {ts:List Tk} {a:Nat} {k:Int} (h:RdrAt w0 rb ao cap ts a w):LnSt w0 rb w.heap.size ao cap ts (ln0 k) a (w.alloc (j6h k)):=by
 have hlt:=lt_of_block h.blk
 refine ⟨z2e h ((Below.refl _ w).alloc (Nat.le_refl _) _),⟨_,_,_,_,heap_alloc_new w _,?_⟩,h.env.size,by omega⟩
 exact ⟨q2q _ _ _ _,World.ownsRow_nil _ _ _ _,World.ownsRow_nil _ _ _ _,q2q _ _ _ _⟩
theorem j7m {l:List UInt8} {x:Int} {p:Nat} (h:z5b 120 0 l = .error (x,p)):(x == 0) = false:=by
 have:∀ (m a:Nat) (l:List UInt8),z5b m a l = .error (x,p) → (x == 0) = false:=by
  intro m
  induction m with
  | zero =>
   intro a l h
   rw [z5b] at h
   split at h
   ·cases h
   ·cases h;rfl
  | succ m ih =>
   intro a l h
   rw [z5b] at h
   split at h
   ·cases h
   ·split at h
    ·rename_i ht
     cases h
     exact j4v ht
    ·split at h
     ·rename_i h2
      cases h
      exact ih _ _ h2
     ·cases h
 exact this _ _ _ h
set_option maxRecDepth 100000 in
set_option maxHeartbeats 2000000 in
theorem y5t (s:ByteArray) (hs:s.size ≤ 140737488351232) (w:World) (hw:Al w) :
  Calls Tryz.prog 74 #[.string s] w (x3r (z7j s.data.toList) w):=by
 have L:=hiT (fun wx (hb:Below w.heap.size w wx)=>q6q s hs wx (z2o hw hb).ax.lb)
 have hA:=hiT (fun wx (hb:Below w.heap.size w wx)=>z2o hw hb)
 have hss:s.data.toList.length ≤ 140737488351232:=by simpa using hs
 unfold z7j
 rcases hl:z5b 120 0 s.data.toList with ⟨x,p⟩ | ts
 ·have hnz:=j7m hl
  have hnz2:(x != 0) = true:=by rw [bne,hnz];rfl
  simp only
  clear hw hA hss
  go_enter Tryz.func74,Tryz.ntmps74
  go_wp2_with fail
  refine (L.out _ gzT).mono ?_
  intro e w1 hr
  rw [q3c hl] at hr
  obtain ⟨rfl,hb⟩:=hr
  have hres:=z0c (heap_alloc_new w (j6h 0)) (show Below (w.alloc (j6h 0)).heap.size (w.alloc (j6h 0)) w1 from hb)
  obtain ⟨g0,g1,g2,g3,g4,g5,g6,g7,g8,g9,ga,gb,ir,rf⟩:=twelve hres
  have hb1:Below w.heap.size w w1:=Below.trans gzT (hb.mono (by simp))
  have e0:=z0b g0
  have e1:=z0b g1
  have e2:=z0b g2
  have e3:=z0b g3
  have e4:=z0b g4
  have e5:=z0b g5
  have e6:=z0b g6
  have e7:=z0b g7
  have e8:=z0b g8
  have e9:=z0b g9
  have ea:=z0b ga
  have eb:=z0b gb
  have r0:=rf 0
  have r1:=rf 1
  have r2:=rf 2
  have r3:=rf 3
  have r4:=rf 4
  have r5:=rf 5
  have r6:=rf 6
  have r7:=rf 7
  have r8:=rf 8
  have r9:=rf 9
  have ra:=rf 10
  have rb:=rf 11
  clear hb hres L hl rf
  go_wp2
  go_returns
  exact ⟨rfl,hnz,gzT⟩
 ·simp only
  have hok:=k1h hl
  have hcount:=y5j hl
  have hshort:=y5k hl
  obtain ⟨x,hx⟩:∃ x,y5l ts = x:=⟨_,rfl⟩
  rw [hx]
  replace hx:=hiT hx
  go_enter Tryz.func74,Tryz.ntmps74
  go_wp2_with fail
  refine (L.out _ gzT).mono ?_
  intro e w1 hr
  obtain ⟨ao,cap,rfl,hs1,hb1⟩:=k1i hl hr
  have hres:=z0c (heap_alloc_new w (j6h 0)) hb1
  have hb2:Below w.heap.size w w1:=Below.trans gzT (hb1.mono (by simp))
  have hB:BaseL w1 ao ts:=⟨hA.out w1 hb2,hs1,hcount,fun t ht=>Nat.le_trans (hshort t ht) hss,hok⟩
  have hR0:RdrAt w1 w1.heap.size ao cap ts 0 (w1.alloc (x3m ao cap ts 0)):=⟨heap_alloc_new w1 _,Nat.le_refl _,Nat.zero_le _,gzT⟩
  have K:=hiT (k1m hB _ hR0)
  have hresf:=hiT (fun wx (hb:Below w1.heap.size w1 wx)=>(hb.block w.heap.size (lt_of_block hres)).trans hres)
  have hbf:=hiT (fun wx (hb:Below w1.heap.size w1 wx)=>hb2.trans (hb.mono hb2.size))
  have hB2:=hiT hB
  obtain ⟨k,hk⟩:∃ k,q1q ts 0 = k:=⟨_,rfl⟩
  replace hx:=hx.out
  rw [hk] at K
  have hkl:=hiT (fun h=>j6f (ts:=ts) (a:=0) h)
  rw [hk] at hkl
  unfold y5l at hx
  rw [hk] at hx
  clear hr L hl hs1 hA hok hcount hshort hss hs hw hb1 hR0 hres hb2 hB hk
  dsimp only
  replace hx:=hiT hx
  go_wp2_with fail
  refine K.out.mono ?_
  intro e w3 hr
  obtain ⟨rfl,hM⟩:=hr
  clear K
  by_cases h0:k = 0
  ·subst h0
   have hx2:=hx.out
   rw [if_pos rfl] at hx2
   subst hx2
   have hE:=hM.1.env
   clear hM hkl hB2
   obtain ⟨g0,g1,g2,g3,g4,g5,g6,g7,g8,g9,ga,gb,ir,rf⟩:=twelve (hresf.out w3 hE)
   have e0:=z0b g0
   have e1:=z0b g1
   have e2:=z0b g2
   have e3:=z0b g3
   have e4:=z0b g4
   have e5:=z0b g5
   have e6:=z0b g6
   have e7:=z0b g7
   have e8:=z0b g8
   have e9:=z0b g9
   have ea:=z0b ga
   have eb:=z0b gb
   have r0:=rf 0
   have r1:=rf 1
   have r2:=rf 2
   have r3:=rf 3
   have r4:=rf 4
   have r5:=rf 5
   have r6:=rf 6
   have r7:=rf 7
   have r8:=rf 8
   have r9:=rf 9
   have ra:=rf 10
   have rb:=rf 11
   clear rf
   have hb3:=hbf.out w3 hE
   clear hE hbf hresf hx
   go_wp2
   go_returns
   exact ⟨rfl,rfl,gzT⟩
  ·obtain ⟨k1,k12,_⟩:=hkl.out h0
   rw [if_neg h0] at hM
   have hx2:=hx.out
   rw [if_neg h0] at hx2
   rw [show (decide (k ≠ 0)) = true from decide_eq_true h0]
   have R:=k1q k1 k12 hB2.out _ (k7s (k:=(k:Int)) hM.1) rfl
   have hz3:=hM.1.env.size
   clear hM hkl hB2 hx h0 k1 k12
   rcases hr1:j0e ts k 1 with x1 | ⟨m,b⟩
   ·rw [hr1] at R hx2
    subst hx2
    replace R:=hiT R
    clear hr1
    go_wp2_with fail
    refine R.out.mono ?_
    intro e w5 hr
    obtain ⟨rfl,hne,m,b,hS⟩:=hr
    have hne2:(x1 != 0) = true:=by rw [bne,hne];rfl
    have hE:=hS.rdr.env
    clear hS R
    obtain ⟨g0,g1,g2,g3,g4,g5,g6,g7,g8,g9,ga,gb,ir,rf⟩:=twelve (hresf.out w5 hE)
    have e0:=z0b g0
    have e1:=z0b g1
    have e2:=z0b g2
    have e3:=z0b g3
    have e4:=z0b g4
    have e5:=z0b g5
    have e6:=z0b g6
    have e7:=z0b g7
    have e8:=z0b g8
    have e9:=z0b g9
    have ea:=z0b ga
    have eb:=z0b gb
    have r0:=rf 0
    have r1:=rf 1
    have r2:=rf 2
    have r3:=rf 3
    have r4:=rf 4
    have r5:=rf 5
    have r6:=rf 6
    have r7:=rf 7
    have r8:=rf 8
    have r9:=rf 9
    have ra:=rf 10
    have rb:=rf 11
    clear rf
    have hb3:=hbf.out w5 hE
    clear hE hbf hresf
    go_wp2
    go_returns
    exact ⟨rfl,hne,gzT⟩
   ·rw [hr1] at R hx2
    simp only at hx2
    replace R:=hiT R
    clear hr1
    go_wp2_with fail
    refine R.out.mono ?_
    intro e w5 hr
    obtain ⟨rfl,hS⟩:=hr
    obtain ⟨c0,c1,htb,f1⟩:=z2m hS.rdr
    have i1:InW w1.heap.size w5:=⟨htb⟩
    have hE:=hS.rdr.env
    clear R c0 f1
    obtain ⟨g0,g1,g2,g3,g4,g5,g6,g7,g8,g9,ga,gb,ir,rf⟩:=twelve (hresf.out w5 hE)
    have e0:=z0b g0
    have e1:=z0b g1
    have e2:=z0b g2
    have e3:=z0b g3
    have e4:=z0b g4
    have e5:=z0b g5
    have e6:=z0b g6
    have e7:=z0b g7
    have e8:=z0b g8
    have e9:=z0b g9
    have ea:=z0b ga
    have eb:=z0b gb
    have r0:=rf 0
    have r1:=rf 1
    have r2:=rf 2
    have r3:=rf 3
    have r4:=rf 4
    have r5:=rf 5
    have r6:=rf 6
    have r7:=rf 7
    have r8:=rf 8
    have r9:=rf 9
    have ra:=rf 10
    have rb:=rf 11
    clear rf
    have hres5:=hiT (hresf.out w5 hE)
    have hb3:=hbf.out w5 hE
    by_cases hlt:b < ts.length
    ·rw [if_pos hlt] at hx2
     subst hx2
     have hltI:(b:Int) < (ts.length:Int):=by omega
     clear hE hbf hresf hS hlt hres5
     go_wp2
     go_returns
     exact ⟨rfl,rfl,gzT⟩
    ·rw [if_neg hlt] at hx2
     subst hx2
     have hltI:¬ (b:Int) < (ts.length:Int):=by omega
     have hws:=hb3.size
     obtain ⟨xo,xc,io,ic,go,gc,to',tc,hblk,hV,hnb,hfr,hcl⟩:=z3a hS
     have i2:InW w3.heap.size w5:=⟨hnb⟩
     obtain ⟨d0,d1,d2,d3,d4,d5,d6,d7,d8,d9,da,db,_,_⟩:=twelve hblk
     have hVk:=hiT hV
     have hbm:=hiT (show Below w.heap.size w w1 from hbf.out w1 (Below.refl _ _))
     clear hE hbf hresf hS hlt hblk hV hfr hcl
     go_wp2
     go_returns
     refine ⟨_,_,_,_,rfl,?_,gzT⟩
     exact y2m (b:=w.heap.size) deT deT deT [.int .i64 m.kind,str m.name,str m.start,.int .i64 m.vk,.int .i64 m.vn,str m.vs,.slice xo m.acts.length xc,str m.event,.slice io m.cond.length ic,.slice go m.goes.length gc,.bool m.inner,.slice to' m.thn.length tc] 0 w5 (y2l hVk.out hbm.out.size) hres5.out
end Go.Proofs.YtacnlghljmgdiaaGreatDoor
