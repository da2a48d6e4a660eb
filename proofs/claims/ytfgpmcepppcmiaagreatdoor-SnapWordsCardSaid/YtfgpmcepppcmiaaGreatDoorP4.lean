/- Several texts of this proof, joined: LV, LX7, LY. -/
import Derived.Test.YtfgpmcepppcmiaaGreatDoorP3
import Derived.Test.YtfgpmcepppcmiaaGreatDoorZ1
import Derived.WalkKit
import Derived.ProofKit
import Derived.OpenShut
import Derived.Handy
import Derived.BigQuiet
import Derived.OwnWalk
import Derived.Deep.AppendLies
import Derived.Deep.RegionHeld3
import Derived.Lib.Hide
import Derived.WalkSmall
import Derived.WalkLawsBesides
namespace Go.Proofs.YtfgpmcepppcmiaaGreatDoor
open Go.RowKit
section
variable {w0:World} {rb nb:Nat} {ao:Option Addr} {cap:Nat} {ts:List Tk} {a:Nat} {n:Ln}
theorem kindAt_yes {k:Nat} (h1:1 ≤ k) (h12:k ≤ 12) (hn:∀ j,1 ≤ j → j < k → tkAt ts a (lwL j) = false) (hy:tkAt ts a (lwL k) = true):kindAt ts a = k:=by
 have:∀ f i,i + f = 13 → 1 ≤ i → i ≤ k → kindFrom ts a f i = k:=by
  intro f
  induction f with
  | zero=>intro i h h' h'';omega
  | succ f ih =>
   intro i h h' h''
   rw [kindFrom]
   by_cases he:i = k
   ·rw [he,if_pos hy]
   ·rw [if_neg (by rw [hn i h' (by omega)];decide)]
    exact ih (i + 1) (by omega) (by omega) (by omega)
 exact this 12 1 rfl (Nat.le_refl _) h1
theorem kindAt_no (hn:∀ j,1 ≤ j → j < 13 → tkAt ts a (lwL j) = false):kindAt ts a = 0:=by
 rcases kindFrom_lt (ts:=ts) (a:=a) 12 1 with h1 | ⟨h1,h2,h3⟩
 ·exact h1
 ·rw [hn _ h1 h2] at h3
  cases h3
def LkIs (w0:World) (rb:Nat) (ao:Option Addr) (cap:Nat) (ts:List Tk) (a k:Nat) (w:World) (e:Ending) (w':World):Prop :=
 e = .returned (.tuple #[.int .i64 (k:Int),.bool (decide (k ≠ 0))]) ∧ RMov w0 rb ao cap ts (if k = 0 then a else a + 1) w w'
set_option maxRecDepth 100000 in
set_option maxHeartbeats 2000000 in
theorem lkind_any (hB:BaseL w0 ao ts) (w:World) (h:RdrAt w0 rb ao cap ts a w) :
  Calls Tryz.prog 109 #[.pointer (some ⟨rb,0,none⟩)] w (LkIs w0 rb ao cap ts a (kindAt ts a) w):=by
 have T:=Lib.hid (fun (x:ByteArray) b wx (hb:RdrAt w0 rb ao cap ts a wx) (hx:tkAt ts a x.data.toList = b)=>ltakes_mov x hB wx hb hx)
 have L:=Lib.hid (fun wx (hb:RdrAt w0 rb ao cap ts a wx)=>(al_below hB.al hb.env).lw)
 have h0:=Lib.hid (show RMov w0 rb ao cap ts a w w from rmov_keep h (Below.refl _ _))
 clear hB h
 go_enter Tryz.func109,Tryz.ntmps109
 go_wp2
 go_loopw [4] (fun v wr=>∃ k:Nat,v = .int .i64 (k:Int) ∧ 1 ≤ k ∧ k ≤ 13 ∧ (∀ j,1 ≤ j → j < k → tkAt ts a (lwL j) = false) ∧ RMov w0 rb ao cap ts a w wr) (fun v _=>13 - (intOf v).toNat)
 case atStart=>exact ⟨1,rfl,by decide,by decide,fun j h1 h2=>by omega,h0.out⟩
 case round =>
  obtain ⟨k,rfl,h1,h13,hn,hM⟩:=hrel
  rename World=>wr
  have hnK:=Lib.hid hn
  clear hn h0
  by_cases h12:k ≤ 12
  ·have hL:=L.out wr hM.1
   have c0:=lw_word hL k h12
   have hgl:=lw_lt hL
   obtain ⟨b,hbb⟩:∃ b,tkAt ts a (lwL k) = b:=⟨_,rfl⟩
   have Tk:=Lib.hid (T.out ⟨(lwL k).toArray⟩ b wr hM.1 (by simpa using hbb))
   have hI:(k:Int) ≤ 12:=by omega
   have hyes:=(fun h=>kindAt_yes h1 h12 hnK.out (hbb.trans h))
   have hno:=(fun (h:b = false) j (j1:1 ≤ j) (j2:j < k + 1)=>(by
    by_cases he:j = k
    ·subst he;exact hbb.trans h
    ·exact hnK.out j j1 (by omega):tkAt ts a (lwL j) = false))
   generalize (⟨(lwL k).toArray⟩:ByteArray) = x at *
   clear hL T L hbb
   cases b
   ·replace hno:=Lib.hid (hno rfl)
    clear hyes
    go_wp2_with fail
    refine Tk.out.mono ?_
    intro e w1 hr
    obtain ⟨rfl,hM1⟩:=hr
    have hM2:=Lib.hid (rmov_trans hM (show RMov w0 rb ao cap ts a wr w1 from hM1))
    clear Tk hM1 hM
    go_wp2
    go_roundw
    case rel=>exact ⟨k + 1,by go_num,by omega,by omega,hno.out,hM2.out⟩
    case measure=>simp [intOf];omega
   ·replace hyes:=Lib.hid (hyes rfl)
    clear hno
    go_wp2_with fail
    refine Tk.out.mono ?_
    intro e w1 hr
    obtain ⟨rfl,hM1⟩:=hr
    have hM2:=Lib.hid (rmov_trans hM (show RMov w0 rb ao cap ts (a + 1) wr w1 from hM1))
    have hk0:¬ k = 0:=by omega
    clear Tk hM1 hM
    go_wp2
    go_returns
    rw [hyes.out]
    exact ⟨by rw [show decide (k ≠ 0) = true from decide_eq_true hk0];rfl,by rw [if_neg hk0];exact rmov_on hM2.out (by (first | exact gwT | exact lzT))⟩
  ·obtain rfl:k = 13:=by omega
   have h0:=Lib.hid (kindAt_no hnK.out)
   clear T L hnK
   go_wp2
   go_returns
   rw [h0.out]
   exact ⟨rfl,rmov_on hM (by (first | exact gwT | exact lzT))⟩
theorem lname_ln (hB:BaseL w0 ao ts) (w:World) (h:LnSt w0 rb nb ao cap ts n a w) {o:Option (List UInt8)} (ho:nameAt ts a = o) :
  Calls Tryz.prog 181 #[.pointer (some ⟨rb,0,none⟩)] w fun e w'=>e = .returned (.tuple #[str (o.getD []),.bool o.isSome]) ∧ LnSt w0 rb nb ao cap ts n (if o.isSome then a + 1 else a) w' :=
 (lname_mov hB w h.rdr ho).mono fun _ _ hr=>⟨hr.1,ln_mov h hr.2⟩
def NdIs (w0:World) (rb nb:Nat) (ao:Option Addr) (cap:Nat) (ts:List Tk) (o:Option (Ln × Nat)) (e:Ending) (w':World):Prop :=
 match o with
 | none=>e = .returned (.bool false) ∧ ∃ m b,LnSt w0 rb nb ao cap ts m b w'
 | some (m,b)=>e = .returned (.bool true) ∧ LnSt w0 rb nb ao cap ts m b w'
set_option maxRecDepth 100000 in
set_option maxHeartbeats 4000000 in
theorem lnamed_none {k:Nat} (hB:BaseL w0 ao ts) (w:World) (h:LnSt w0 rb nb ao cap ts (ln0 k) a w) (ho:nameAt ts a = none) :
  Calls Tryz.prog 146 #[.pointer (some ⟨rb,0,none⟩),.pointer (some ⟨nb,0,none⟩)] w (NdIs w0 rb nb ao cap ts none):=by
 have N:=Lib.hid (fun (b:Nat) o wx (hb:LnSt w0 rb nb ao cap ts (ln0 k) b wx) (ho:nameAt ts b = o)=>lname_ln hB wx hb ho)
 have hS:=Lib.hid h
 clear hB h
 go_enter Tryz.func146,Tryz.ntmps146
 go_wp2_with fail
 refine (N.out a _ w hS.out ho).mono ?_
 intro e w1 hr
 obtain ⟨rfl,hS1⟩:=hr
 replace hS1:=Lib.hid hS1
 clear hS N ho
 go_wp2
 go_returns
 exact ⟨rfl,_,_,ln_keep hS1.out (by (first | exact gwT | exact lzT))⟩
set_option maxRecDepth 100000 in
set_option maxHeartbeats 4000000 in
theorem lnamed_one {k:Nat} (hk:k = 4 ∨ k = 5) {s:List UInt8} (hB:BaseL w0 ao ts) (w:World) (h:LnSt w0 rb nb ao cap ts (ln0 k) a w) (ho:nameAt ts a = some s) :
  Calls Tryz.prog 146 #[.pointer (some ⟨rb,0,none⟩),.pointer (some ⟨nb,0,none⟩)] w (NdIs w0 rb nb ao cap ts (some ({ ln0 k with name:=s },a + 1))):=by
 have N:=Lib.hid (fun (b:Nat) o wx (hb:LnSt w0 rb nb ao cap ts (ln0 k) b wx) (ho:nameAt ts b = o)=>lname_ln hB wx hb ho)
 have hS:=Lib.hid h
 have e1:((k:Int) == 1) = false:=beq_eq_false_iff_ne.2 (by omega)
 have e2:((k:Int) == 2) = false:=beq_eq_false_iff_ne.2 (by omega)
 have e3:((k:Int) == 3) = false:=beq_eq_false_iff_ne.2 (by omega)
 have e6:((k:Int) == 6) = false:=beq_eq_false_iff_ne.2 (by omega)
 have e7:((k:Int) == 7) = false:=beq_eq_false_iff_ne.2 (by omega)
 clear hB h hk
 go_enter Tryz.func146,Tryz.ntmps146
 go_wp2_with fail
 refine (N.out a _ w hS.out ho).mono ?_
 intro e w1 hr
 obtain ⟨rfl,hS1⟩:=hr
 replace hS1:LnSt w0 rb nb ao cap ts (ln0 k) (a + 1) w1:=hS1
 obtain ⟨xo,xc,io,ic,go,gc,to',tc,hblk,hV,hnb,hfr,hcl⟩:=ln_cells hS1
 have c0:w1.cell? ⟨nb,0,none⟩ = some (.int .i64 (k:Int)):=hcl 0
 have c1:=hcl 1
 have f1:=hfr 1
 have i1:InW nb w1:=⟨hnb⟩
 have hS2:=Lib.hid (show LnSt w0 rb nb ao cap ts { ln0 k with name:=s } (a + 1) (w1.setCell ⟨nb,1,none⟩ (str s)) from ln_name s hS1)
 clear hblk hV hfr hcl hS1 hS
 clear N ho
 go_wp2
 go_returns
 exact ⟨rfl,ln_keep hS2.out (by (first | exact gwT | exact lzT))⟩
set_option maxRecDepth 100000 in
set_option maxHeartbeats 4000000 in
theorem lnamed_may {k:Nat} (hk:k = 1 ∨ k = 3) {s:List UInt8} (hB:BaseL w0 ao ts) (w:World) (h:LnSt w0 rb nb ao cap ts (ln0 k) a w) (ho:nameAt ts a = some s) {o:Option (List UInt8)} (ho2:nameAt ts (a + 1) = o) {q:List UInt8} {b:Nat} (hq:o.getD [] = q) (hb:(if o.isSome then a + 2 else a + 1) = b) :
  Calls Tryz.prog 146 #[.pointer (some ⟨rb,0,none⟩),.pointer (some ⟨nb,0,none⟩)] w (NdIs w0 rb nb ao cap ts (some ({ ln0 k with name:=s,start:=q },b))):=by
 have N:=Lib.hid (fun m (b:Nat) o wx (hb:LnSt w0 rb nb ao cap ts m b wx) (ho:nameAt ts b = o)=>lname_ln hB wx hb ho)
 have hS:=Lib.hid h
 have e2:((k:Int) == 2) = false:=beq_eq_false_iff_ne.2 (by omega)
 have hk1:((k:Int) == 1) = true ∨ ((k:Int) == 1) = false ∧ ((k:Int) == 3) = true:=by
  rcases hk with rfl | rfl
  ·exact .inl rfl
  ·exact .inr ⟨rfl,rfl⟩
 clear hB h hk
 rcases hk1 with e1 | ⟨e1,e3⟩
 all_goals
  go_enter Tryz.func146,Tryz.ntmps146
  go_wp2_with fail
  refine (N.out _ a _ w hS.out ho).mono ?_
  intro e w1 hr
  obtain ⟨rfl,hS1⟩:=hr
  replace hS1:LnSt w0 rb nb ao cap ts (ln0 k) (a + 1) w1:=hS1
  obtain ⟨xo,xc,io,ic,go,gc,to',tc,hblk,hV,hnb,hfr,hcl⟩:=ln_cells hS1
  have c0:w1.cell? ⟨nb,0,none⟩ = some (.int .i64 (k:Int)):=hcl 0
  have c1:=hcl 1
  have f1:=hfr 1
  have i1:InW nb w1:=⟨hnb⟩
  have hS2:=Lib.hid (show LnSt w0 rb nb ao cap ts { ln0 k with name:=s } (a + 1) (w1.setCell ⟨nb,1,none⟩ (str s)) from ln_name s hS1)
  clear hblk hV hfr hcl hS1 hS
  clear ho
  go_wp2_with fail
  refine (N.out _ (a + 1) _ _ (ln_keep hS2.out (by (first | exact gwT | exact lzT))) ho2).mono ?_
  intro e w3 hr
  rw [hq,show a + 1 + 1 = a + 2 from rfl,hb] at hr
  obtain ⟨rfl,hS3⟩:=hr
  clear hS2 c0 c1 f1 i1 N ho2 hq hb
  obtain ⟨xo,xc,io,ic,go,gc,to',tc,hblk,hV,hnb3,hfr,hcl⟩:=ln_cells hS3
  have c2:=hcl 2
  have f2:=hfr 2
  have i3:InW nb w3:=⟨hnb3⟩
  have hS4:=Lib.hid (show LnSt w0 rb nb ao cap ts { ln0 k with name:=s,start:=q } b (w3.setCell ⟨nb,2,none⟩ (str q)) from ln_start q hS3)
  clear hblk hV hfr hcl hS3
  go_wp2
  go_returns
  exact ⟨rfl,ln_keep hS4.out (by (first | exact gwT | exact lzT))⟩
set_option maxRecDepth 100000 in
set_option maxHeartbeats 4000000 in
theorem lnamed_two {k:Nat} (hk:k = 6 ∨ k = 7) {s:List UInt8} (hB:BaseL w0 ao ts) (w:World) (h:LnSt w0 rb nb ao cap ts (ln0 k) a w) (ho:nameAt ts a = some s) {o:Option (List UInt8)} (ho2:nameAt ts (a + 1) = o) :
  Calls Tryz.prog 146 #[.pointer (some ⟨rb,0,none⟩),.pointer (some ⟨nb,0,none⟩)] w (NdIs w0 rb nb ao cap ts (o.map fun t=>({ ln0 k with name:=s,start:=t },a + 2))):=by
 have N:=Lib.hid (fun m (b:Nat) o wx (hb:LnSt w0 rb nb ao cap ts m b wx) (ho:nameAt ts b = o)=>lname_ln hB wx hb ho)
 have hS:=Lib.hid h
 have e1:((k:Int) == 1) = false:=beq_eq_false_iff_ne.2 (by omega)
 have e2:((k:Int) == 2) = false:=beq_eq_false_iff_ne.2 (by omega)
 have e3:((k:Int) == 3) = false:=beq_eq_false_iff_ne.2 (by omega)
 have hk1:((k:Int) == 6) = true ∨ ((k:Int) == 6) = false ∧ ((k:Int) == 7) = true:=by
  rcases hk with rfl | rfl
  ·exact .inl rfl
  ·exact .inr ⟨rfl,rfl⟩
 clear hB h hk
 rcases hk1 with e6 | ⟨e6,e7⟩
 all_goals
  go_enter Tryz.func146,Tryz.ntmps146
  go_wp2_with fail
  refine (N.out _ a _ w hS.out ho).mono ?_
  intro e w1 hr
  obtain ⟨rfl,hS1⟩:=hr
  replace hS1:LnSt w0 rb nb ao cap ts (ln0 k) (a + 1) w1:=hS1
  obtain ⟨xo,xc,io,ic,go,gc,to',tc,hblk,hV,hnb,hfr,hcl⟩:=ln_cells hS1
  have c0:w1.cell? ⟨nb,0,none⟩ = some (.int .i64 (k:Int)):=hcl 0
  have c1:=hcl 1
  have f1:=hfr 1
  have i1:InW nb w1:=⟨hnb⟩
  have hS2:=Lib.hid (show LnSt w0 rb nb ao cap ts { ln0 k with name:=s } (a + 1) (w1.setCell ⟨nb,1,none⟩ (str s)) from ln_name s hS1)
  clear hblk hV hfr hcl hS1 hS
  clear ho
  go_wp2_with fail
  refine (N.out _ (a + 1) _ _ (ln_keep hS2.out (by (first | exact gwT | exact lzT))) ho2).mono ?_
  intro e w3 hr
  obtain ⟨rfl,hS3⟩:=hr
  clear hS2 c0 c1 f1 i1 N ho2
  obtain ⟨xo,xc,io,ic,go,gc,to',tc,hblk,hV,hnb3,hfr,hcl⟩:=ln_cells hS3
  have c2:=hcl 2
  have f2:=hfr 2
  have i3:InW nb w3:=⟨hnb3⟩
  rcases o with _ | t
  ·have hS4:=Lib.hid (show LnSt w0 rb nb ao cap ts { ln0 k with name:=s,start:=[] } (a + 1) (w3.setCell ⟨nb,2,none⟩ (str [])) from ln_start [] hS3)
   clear hblk hV hfr hcl hS3
   go_wp2
   go_returns
   exact ⟨rfl,_,_,ln_keep hS4.out (by (first | exact gwT | exact lzT))⟩
  ·have hS4:=Lib.hid (show LnSt w0 rb nb ao cap ts { ln0 k with name:=s,start:=t } (a + 2) (w3.setCell ⟨nb,2,none⟩ (str t)) from ln_start t hS3)
   clear hblk hV hfr hcl hS3
   go_wp2
   go_returns
   exact ⟨rfl,ln_keep hS4.out (by (first | exact gwT | exact lzT))⟩
set_option maxRecDepth 100000 in
set_option maxHeartbeats 4000000 in
theorem lnamed_var {s:List UInt8} (hB:BaseL w0 ao ts) (w:World) (h:LnSt w0 rb nb ao cap ts (ln0 (2:Nat)) a w) (ho:nameAt ts a = some s) {o:Option (Int × Int × List UInt8 × Nat)} (ho2:valueL ts (a + 1) = o) :
  Calls Tryz.prog 146 #[.pointer (some ⟨rb,0,none⟩),.pointer (some ⟨nb,0,none⟩)] w (NdIs w0 rb nb ao cap ts (o.map fun v=>({ ln0 (2:Nat) with name:=s,vk:=v.1,vn:=v.2.1,vs:=v.2.2.1 },v.2.2.2))):=by
 have N:=Lib.hid (fun m (b:Nat) o wx (hb:LnSt w0 rb nb ao cap ts m b wx) (ho:nameAt ts b = o)=>lname_ln hB wx hb ho)
 have V:=Lib.hid (fun m (b:Nat) wx (hb:LnSt w0 rb nb ao cap ts m b wx)=>lvalue_any hB wx hb.rdr)
 have hS:=Lib.hid h
 clear hB h
 obtain ⟨k,hk⟩:∃ k,k = 2:=⟨_,rfl⟩
 rw [← hk] at hS ⊢
 have e2:((k:Int) == 2) = true:=by rw [hk];rfl
 clear hk
 go_enter Tryz.func146,Tryz.ntmps146
 go_wp2_with fail
 refine (N.out _ a _ w hS.out ho).mono ?_
 intro e w1 hr
 obtain ⟨rfl,hS1⟩:=hr
 replace hS1:LnSt w0 rb nb ao cap ts (ln0 k) (a + 1) w1:=hS1
 obtain ⟨xo,xc,io,ic,go,gc,to',tc,hblk,hV,hnb,hfr,hcl⟩:=ln_cells hS1
 have c0:w1.cell? ⟨nb,0,none⟩ = some (.int .i64 (k:Int)):=hcl 0
 have c1:=hcl 1
 have f1:=hfr 1
 have i1:InW nb w1:=⟨hnb⟩
 have hS2:=Lib.hid (show LnSt w0 rb nb ao cap ts { ln0 k with name:=s } (a + 1) (w1.setCell ⟨nb,1,none⟩ (str s)) from ln_name s hS1)
 clear hblk hV hfr hcl hS1 hS
 clear ho N
 have V1:=V.out _ (a + 1) _ (ln_keep hS2.out (Below.refl _ _))
 rw [ho2] at V1
 replace V1:=Lib.hid V1
 clear ho2 V
 rcases o with _ | ⟨vk,vn,vs,b⟩
 ·go_wp2_with fail
  refine V1.out.mono ?_
  intro e w3 hr
  obtain ⟨rfl,b,hM⟩:=hr
  have hS3:=ln_mov hS2.out hM
  clear hS2 c0 c1 f1 i1 V1 hM
  obtain ⟨xo,xc,io,ic,go,gc,to',tc,hblk,hV,hnb3,hfr,hcl⟩:=ln_cells hS3
  have c3:=hcl 3
  have c4:=hcl 4
  have c5:=hcl 5
  have f3:=hfr 3
  have f4:=hfr 4
  have f5:=hfr 5
  have i3:InW nb w3:=⟨hnb3⟩
  have hS4:=Lib.hid (ln_vs [] (ln_vn 0 (ln_vk 0 hS3)))
  clear hblk hV hfr hcl hS3
  go_wp2
  go_returns
  exact ⟨rfl,_,_,ln_keep hS4.out (by (first | exact gwT | exact lzT))⟩
 ·go_wp2_with fail
  refine V1.out.mono ?_
  intro e w3 hr
  obtain ⟨rfl,hM⟩:=hr
  have hS3:=ln_mov hS2.out hM
  clear hS2 c0 c1 f1 i1 V1 hM
  obtain ⟨xo,xc,io,ic,go,gc,to',tc,hblk,hV,hnb3,hfr,hcl⟩:=ln_cells hS3
  have c3:=hcl 3
  have c4:=hcl 4
  have c5:=hcl 5
  have f3:=hfr 3
  have f4:=hfr 4
  have f5:=hfr 5
  have i3:InW nb w3:=⟨hnb3⟩
  have hS4:=Lib.hid (ln_vs vs (ln_vn vn (ln_vk vk hS3)))
  clear hblk hV hfr hcl hS3
  go_wp2
  go_returns
  exact ⟨rfl,ln_keep hS4.out (by (first | exact gwT | exact lzT))⟩
theorem lnamed_any {k:Nat} (hk1:1 ≤ k) (hk7:k ≤ 7) (hB:BaseL w0 ao ts) (w:World) (h:LnSt w0 rb nb ao cap ts (ln0 k) a w) :
  Calls Tryz.prog 146 #[.pointer (some ⟨rb,0,none⟩),.pointer (some ⟨nb,0,none⟩)] w (NdIs w0 rb nb ao cap ts (namedL ts k a)):=by
 unfold namedL
 rcases ho:nameAt ts a with _ | s
 ·exact lnamed_none hB w h ho
 ·simp only
  by_cases h2:k = 2
  ·subst h2
   rw [if_pos rfl]
   have:=lnamed_var hB w h ho rfl
   rcases ho2:valueL ts (a + 1) with _ | ⟨vk,vn,vs,b⟩
   ·rw [ho2] at this
    exact this
   ·rw [ho2] at this
    exact this
  ·rw [if_neg h2]
   by_cases h3:k = 1 ∨ k = 3
   ·rw [if_pos h3]
    have:=lnamed_may h3 hB w h ho rfl rfl rfl
    rcases ho2:nameAt ts (a + 1) with _ | t
    ·rw [ho2] at this
     exact this
    ·rw [ho2] at this
     exact this
   ·rw [if_neg h3]
    by_cases h6:k = 6 ∨ k = 7
    ·rw [if_pos h6]
     have:=lnamed_two h6 hB w h ho rfl
     rcases ho2:nameAt ts (a + 1) with _ | t
     ·rw [ho2] at this
      exact this
     ·rw [ho2] at this
      exact this
    ·rw [if_neg h6]
     exact lnamed_one (by omega) hB w h ho
end
end Go.Proofs.YtfgpmcepppcmiaaGreatDoor
namespace Go.Proofs.YtfgpmcepppcmiaaGreatDoor
open Go.RowKit
section
variable {w0:World} {rb nb:Nat} {ao:Option Addr} {cap:Nat} {ts:List Tk} {a:Nat} {n:Ln}
set_option maxRecDepth 100000 in
set_option maxHeartbeats 4000000 in
theorem lrest_any {k:Nat} (hk1:1 ≤ k) (hk12:k ≤ 12) (hB:BaseL w0 ao ts) (w:World) (h:LnSt w0 rb nb ao cap ts (ln0 k) a w) {x:Except Int (Ln × Nat)} (hx:restL ts k a = x) :
  Calls Tryz.prog 110 #[.pointer (some ⟨rb,0,none⟩),.pointer (some ⟨nb,0,none⟩)] w (PieceIs w0 rb nb ao cap ts x):=by
 obtain ⟨xo,xc,io,ic,go,gc,to',tc,hblk,hV,hnb,hfr,hcl⟩:=ln_cells h
 have c0:w.cell? ⟨nb,0,none⟩ = some (.int .i64 (k:Int)):=hcl 0
 have i1:InW nb w:=⟨hnb⟩
 have hS:=Lib.hid h
 clear hblk hV hfr hcl
 unfold restL at hx
 by_cases h12:k = 12
 ·rw [if_pos h12] at hx
  subst hx
  have e12:((k:Int) == 12) = true:=by rw [beq_iff_eq];omega
  clear hB h h12
  go_enter Tryz.func110,Tryz.ntmps110
  go_wp2
  go_returns
  exact ⟨rfl,ln_keep hS.out (by (first | exact gwT | exact lzT))⟩
 ·rw [if_neg h12] at hx
  have e12:((k:Int) == 12) = false:=beq_eq_false_iff_ne.2 (by omega)
  by_cases h89:k = 8 ∨ k = 9
  ·rw [if_pos h89] at hx
   have A:=lacts6_any hB w h (x:=takeT ts (a:Int)) rfl
   have hk:((k:Int) == 8) = true ∨ ((k:Int) == 8) = false ∧ ((k:Int) == 9) = true:=by
    rcases h89 with rfl | rfl
    ·exact .inl rfl
    ·exact .inr ⟨rfl,rfl⟩
   replace A:=Lib.hid A
   have hx2:withE (fun cs=>{ ln0 k with acts:=cs }) (takeT ts (a:Int)) = x:=by
    rw [← hx]
    cases takeT ts (a:Int) with
    | error x=>rfl
    | ok p=>rfl
   rw [hx2] at A
   clear hB h h12 h89 hx hx2 hS
   rcases hk with e8 | ⟨e8,e9⟩
   all_goals
    go_enter Tryz.func110,Tryz.ntmps110
    go_wp2_with fail
    refine A.out.mono ?_
    intro e w1 hr
    obtain ⟨v,rfl,hs⟩:=piece_slot hr
    replace hs:=Lib.hid hs
    clear A hr
    go_wp2
    go_returns
    exact slot_piece (slot_keep hs.out (by (first | exact gwT | exact lzT)))
  ·rw [if_neg h89] at hx
   have e8:((k:Int) == 8) = false:=beq_eq_false_iff_ne.2 (by omega)
   have e9:((k:Int) == 9) = false:=beq_eq_false_iff_ne.2 (by omega)
   by_cases h10:k = 10
   ·rw [if_pos h10] at hx
    have e10:((k:Int) == 10) = true:=by rw [beq_iff_eq];omega
    have E:=levent_any hB w h
    rcases hev:eventL ts a with _ | s
    ·rw [hev] at hx E
     subst hx
     replace E:=Lib.hid E
     clear hB h h12 h89 h10 hev hS
     go_enter Tryz.func110,Tryz.ntmps110
     go_wp2_with fail
     refine E.out.mono ?_
     intro e w1 hr
     obtain ⟨rfl,hs⟩:=hr
     replace hs:=Lib.hid hs
     clear E
     go_wp2
     go_returns
     exact ⟨rfl,rfl,_,_,ln_keep hs.out (by (first | exact gwT | exact lzT))⟩
    ·rw [hev] at hx E
     have T:=Lib.hid (fun wx (s':LnSt w0 rb nb ao cap ts { ln0 k with event:=s } (a + 1) wx)=>ltrans_any hB wx s' rfl rfl rfl hx)
     replace E:=Lib.hid E
     clear hB h h12 h89 h10 hev hx hS
     go_enter Tryz.func110,Tryz.ntmps110
     go_wp2_with fail
     refine E.out.mono ?_
     intro e w1 hr
     obtain ⟨rfl,hs⟩:=hr
     have T1:=Lib.hid (fun wx (hb:Below w1.heap.size w1 wx)=>T.out wx (ln_keep hs hb))
     clear E T hs
     go_wp2_with fail
     refine (T1.out _ (by (first | exact gwT | exact lzT))).mono ?_
     intro e w2 hr
     obtain ⟨v,rfl,hs⟩:=piece_slot hr
     replace hs:=Lib.hid hs
     clear T1 hr
     go_wp2
     go_returns
     exact slot_piece (slot_keep hs.out (by (first | exact gwT | exact lzT)))
   ·rw [if_neg h10] at hx
    have e10:((k:Int) == 10) = false:=beq_eq_false_iff_ne.2 (by omega)
    by_cases h11:k = 11
    ·rw [if_pos h11] at hx
     have e11:((k:Int) == 11) = true:=by rw [beq_iff_eq];omega
     have T1:=Lib.hid (ltrans_any hB w h rfl rfl rfl hx)
     clear hB h h12 h89 h10 h11 hx hS
     go_enter Tryz.func110,Tryz.ntmps110
     go_wp2_with fail
     refine (T1.out).mono ?_
     intro e w2 hr
     obtain ⟨v,rfl,hs⟩:=piece_slot hr
     replace hs:=Lib.hid hs
     clear T1 hr
     go_wp2
     go_returns
     exact slot_piece (slot_keep hs.out (by (first | exact gwT | exact lzT)))
    ·rw [if_neg h11] at hx
     have e11:((k:Int) == 11) = false:=beq_eq_false_iff_ne.2 (by omega)
     have N:=lnamed_any hk1 (by omega) hB w h
     rcases hn:namedL ts k a with _ | ⟨m,b⟩
     ·rw [hn] at hx N
      subst hx
      replace N:=Lib.hid N
      clear hB h h12 h89 h10 h11 hn hS
      go_enter Tryz.func110,Tryz.ntmps110
      go_wp2_with fail
      refine N.out.mono ?_
      intro e w1 hr
      obtain ⟨rfl,m,b,hs⟩:=hr
      replace hs:=Lib.hid hs
      clear N
      go_wp2
      go_returns
      exact ⟨rfl,rfl,_,_,ln_keep hs.out (by (first | exact gwT | exact lzT))⟩
     ·rw [hn] at hx N
      subst hx
      replace N:=Lib.hid N
      clear hB h h12 h89 h10 h11 hn hS
      go_enter Tryz.func110,Tryz.ntmps110
      go_wp2_with fail
      refine N.out.mono ?_
      intro e w1 hr
      obtain ⟨rfl,hs⟩:=hr
      replace hs:=Lib.hid hs
      clear N
      go_wp2
      go_returns
      exact ⟨rfl,ln_keep hs.out (by (first | exact gwT | exact lzT))⟩
end
end Go.Proofs.YtfgpmcepppcmiaaGreatDoor
namespace Go.Proofs.YtfgpmcepppcmiaaGreatDoor
open Go.RowKit
def setL (w:World) (b:Nat):Nat → List Value → World
 | _,[]=>w
 | i,v :: vs=>setL (w.setCell ⟨b,i,none⟩ v) b (i + 1) vs
theorem lnV_setL {B b t:Nat} {n:Ln} {av iv gv tv:Value} (h1:t ≠ 239) (h2:t ≠ 235) (h3:t ≠ 9):∀ (vs:List Value) (i:Nat) (w:World) {cells:Array Value},LnV B w n av iv gv tv → w.heap[b]? = some (.cells cells t (0,0)) → LnV B (setL w b i vs) n av iv gv tv
 | [],_,_,_,h,_=>h
 | _ :: vs,i,_,_,h,hb=>lnV_setL h1 h2 h3 vs (i + 1) _ (lnV_set h hb h1 h2 h3) (blk_set hb)
theorem lnV_base {B B':Nat} {w:World} {n:Ln} {av iv gv tv:Value} (h:LnV B w n av iv gv tv) (hB:B' ≤ B):LnV B' w n av iv gv tv :=
 ⟨acRow_base h.acts hB,owns_base h.cond hB,owns_base h.goes hB,acRow_base h.thn hB⟩
abbrev lineB0 (k:Int):Obj := .cells #[.int .i64 k,.string ⟨#[]⟩,.string ⟨#[]⟩,.int .i64 0,.int .i64 0,.string ⟨#[]⟩,.slice none 0 0,.string ⟨#[]⟩,.slice none 0 0,.slice none 0 0,.bool false,.slice none 0 0] 164 (0,0)
def LpIs (x:Except Int Ln) (w:World) (e:Ending) (w':World):Prop :=
 match x with
 | .error x=>e = .returned (.tuple #[.agg (lnC (ln0 0) (.slice none 0 0) (.slice none 0 0) (.slice none 0 0) (.slice none 0 0)),.int .i64 x]) ∧ (x == 0) = false ∧ Below w.heap.size w w'
 | .ok n=>∃ av iv gv tv,e = .returned (.tuple #[.agg (lnC n av iv gv tv),.int .i64 0]) ∧ LnV w.heap.size w' n av iv gv tv ∧ Below w.heap.size w w'
theorem twelve {w:World} {b:Nat} {t:TypeId} {v0 v1 v2 v3 v4 v5 v6 v7 v8 v9 va vb:Value} (h:w.heap[b]? = some (.cells #[v0,v1,v2,v3,v4,v5,v6,v7,v8,v9,va,vb] t (0,0))) :
  w.cell? ⟨b,0,none⟩ = some v0 ∧ w.cell? ⟨b,1,none⟩ = some v1 ∧ w.cell? ⟨b,2,none⟩ = some v2 ∧ w.cell? ⟨b,3,none⟩ = some v3 ∧ w.cell? ⟨b,4,none⟩ = some v4 ∧ w.cell? ⟨b,5,none⟩ = some v5 ∧ w.cell? ⟨b,6,none⟩ = some v6 ∧ w.cell? ⟨b,7,none⟩ = some v7 ∧ w.cell? ⟨b,8,none⟩ = some v8 ∧ w.cell? ⟨b,9,none⟩ = some v9 ∧ w.cell? ⟨b,10,none⟩ = some va ∧ w.cell? ⟨b,11,none⟩ = some vb ∧ InW b w ∧ ∀ i,w.frozen? ⟨b,i,none⟩ = false:=by
 refine ⟨?_,?_,?_,?_,?_,?_,?_,?_,?_,?_,?_,?_,⟨lt_of_block h⟩,fun i=>frozen_of_row w b i _ _ h⟩
 all_goals exact (cell_of_row w b _ _ _ _ h).trans rfl
theorem ln_begin {w0 w:World} {rb:Nat} {ao:Option Addr} {cap:Nat} {ts:List Tk} {a:Nat} {k:Int} (h:RdrAt w0 rb ao cap ts a w):LnSt w0 rb w.heap.size ao cap ts (ln0 k) a (w.alloc (lineB0 k)):=by
 have hlt:=lt_of_block h.blk
 refine ⟨rdr_keep h ((Below.refl _ w).alloc (Nat.le_refl _) _),⟨_,_,_,_,heap_alloc_new w _,?_⟩,h.env.size,by omega⟩
 exact ⟨acRow_nil _ _ _ _,World.ownsRow_nil _ _ _ _,World.ownsRow_nil _ _ _ _,acRow_nil _ _ _ _⟩
theorem restL_nz_lex {l:List UInt8} {x:Int} {p:Nat} (h:lexT 120 0 l = .error (x,p)):(x == 0) = false:=by
 have:∀ (m a:Nat) (l:List UInt8),lexT m a l = .error (x,p) → (x == 0) = false:=by
  intro m
  induction m with
  | zero =>
   intro a l h
   rw [lexT] at h
   split at h
   ·cases h
   ·cases h;rfl
  | succ m ih =>
   intro a l h
   rw [lexT] at h
   split at h
   ·cases h
   ·split at h
    ·rename_i ht
     cases h
     exact tokT_err ht
    ·split at h
     ·rename_i h2
      cases h
      exact ih _ _ h2
     ·cases h
 exact this _ _ _ h
set_option maxRecDepth 100000 in
set_option maxHeartbeats 2000000 in
theorem lparse_any (s:ByteArray) (hs:s.size ≤ 140737488351232) (w:World) (hw:Al w) :
  Calls Tryz.prog 75 #[.string s] w (LpIs (parseL s.data.toList) w):=by
 have L:=Lib.hid (fun wx (hb:Below w.heap.size w wx)=>tlex_any s hs wx (al_below hw hb).ax.lb)
 have hA:=Lib.hid (fun wx (hb:Below w.heap.size w wx)=>al_below hw hb)
 have hss:s.data.toList.length ≤ 140737488351232:=by simpa using hs
 unfold parseL
 rcases hl:lexT 120 0 s.data.toList with ⟨x,p⟩ | ts
 ·have hnz:=restL_nz_lex hl
  have hnz2:(x != 0) = true:=by rw [bne,hnz];rfl
  simp only
  clear hw hA hss
  go_enter Tryz.func75,Tryz.ntmps75
  go_wp2_with fail
  refine (L.out _ (by (first | exact gwT | exact lzT))).mono ?_
  intro e w1 hr
  rw [lexIs_err hl] at hr
  obtain ⟨rfl,hb⟩:=hr
  have hres:=blk_keep (heap_alloc_new w (lineB0 0)) (show Below (w.alloc (lineB0 0)).heap.size (w.alloc (lineB0 0)) w1 from hb)
  obtain ⟨g0,g1,g2,g3,g4,g5,g6,g7,g8,g9,ga,gb,ir,rf⟩:=twelve hres
  have hb1:Below w.heap.size w w1:=Below.trans (by (first | exact gwT | exact lzT)) (hb.mono (by simp))
  have e0:=hasC_of g0
  have e1:=hasC_of g1
  have e2:=hasC_of g2
  have e3:=hasC_of g3
  have e4:=hasC_of g4
  have e5:=hasC_of g5
  have e6:=hasC_of g6
  have e7:=hasC_of g7
  have e8:=hasC_of g8
  have e9:=hasC_of g9
  have ea:=hasC_of ga
  have eb:=hasC_of gb
  have r0:=rf 0
  have r1:=rf 1
  have r2:=rf 2
  have r3:=rf 3
  have r4:=rf 4
  have r5:=rf 5
  have r6:=rf 6
  have r7:=rf 7
  have r8:=rf 8
  have r9:=rf 9
  have ra:=rf 10
  have rb:=rf 11
  clear hb hres L hl rf
  go_wp2
  go_returns
  exact ⟨rfl,hnz,by (first | exact gwT | exact lzT)⟩
 ·simp only
  have hok:=lexT_ok hl
  have hcount:=lexT_count hl
  have hshort:=lexT_texts hl
  obtain ⟨x,hx⟩:∃ x,lineT ts = x:=⟨_,rfl⟩
  rw [hx]
  replace hx:=Lib.hid hx
  go_enter Tryz.func75,Tryz.ntmps75
  go_wp2_with fail
  refine (L.out _ (by (first | exact gwT | exact lzT))).mono ?_
  intro e w1 hr
  obtain ⟨ao,cap,rfl,hs1,hb1⟩:=lex_sl hl hr
  have hres:=blk_keep (heap_alloc_new w (lineB0 0)) hb1
  have hb2:Below w.heap.size w w1:=Below.trans (by (first | exact gwT | exact lzT)) (hb1.mono (by simp))
  have hB:BaseL w1 ao ts:=⟨hA.out w1 hb2,hs1,hcount,fun t ht=>Nat.le_trans (hshort t ht) hss,hok⟩
  have hR0:RdrAt w1 w1.heap.size ao cap ts 0 (w1.alloc (rdrB ao cap ts 0)):=⟨heap_alloc_new w1 _,Nat.le_refl _,Nat.zero_le _,by (first | exact gwT | exact lzT)⟩
  have K:=Lib.hid (lkind_any hB _ hR0)
  have hresf:=Lib.hid (fun wx (hb:Below w1.heap.size w1 wx)=>(hb.block w.heap.size (lt_of_block hres)).trans hres)
  have hbf:=Lib.hid (fun wx (hb:Below w1.heap.size w1 wx)=>hb2.trans (hb.mono hb2.size))
  have hB2:=Lib.hid hB
  obtain ⟨k,hk⟩:∃ k,kindAt ts 0 = k:=⟨_,rfl⟩
  replace hx:=hx.out
  rw [hk] at K
  have hkl:=Lib.hid (fun h=>kindAt_lt (ts:=ts) (a:=0) h)
  rw [hk] at hkl
  unfold lineT at hx
  rw [hk] at hx
  clear hr L hl hs1 hA hok hcount hshort hss hs hw hb1 hR0 hres hb2 hB hk
  dsimp only
  replace hx:=Lib.hid hx
  go_wp2_with fail
  refine K.out.mono ?_
  intro e w3 hr
  obtain ⟨rfl,hM⟩:=hr
  clear K
  by_cases h0:k = 0
  ·subst h0
   have hx2:=hx.out
   rw [if_pos rfl] at hx2
   subst hx2
   have hE:=hM.1.env
   clear hM hkl hB2
   obtain ⟨g0,g1,g2,g3,g4,g5,g6,g7,g8,g9,ga,gb,ir,rf⟩:=twelve (hresf.out w3 hE)
   have e0:=hasC_of g0
   have e1:=hasC_of g1
   have e2:=hasC_of g2
   have e3:=hasC_of g3
   have e4:=hasC_of g4
   have e5:=hasC_of g5
   have e6:=hasC_of g6
   have e7:=hasC_of g7
   have e8:=hasC_of g8
   have e9:=hasC_of g9
   have ea:=hasC_of ga
   have eb:=hasC_of gb
   have r0:=rf 0
   have r1:=rf 1
   have r2:=rf 2
   have r3:=rf 3
   have r4:=rf 4
   have r5:=rf 5
   have r6:=rf 6
   have r7:=rf 7
   have r8:=rf 8
   have r9:=rf 9
   have ra:=rf 10
   have rb:=rf 11
   clear rf
   have hb3:=hbf.out w3 hE
   clear hE hbf hresf hx
   go_wp2
   go_returns
   exact ⟨rfl,rfl,by (first | exact gwT | exact lzT)⟩
  ·obtain ⟨k1,k12,_⟩:=hkl.out h0
   rw [if_neg h0] at hM
   have hx2:=hx.out
   rw [if_neg h0] at hx2
   rw [show (decide (k ≠ 0)) = true from decide_eq_true h0]
   have R:=lrest_any k1 k12 hB2.out _ (ln_begin (k:=(k:Int)) hM.1) rfl
   have hz3:=hM.1.env.size
   clear hM hkl hB2 hx h0 k1 k12
   rcases hr1:restL ts k 1 with x1 | ⟨m,b⟩
   ·rw [hr1] at R hx2
    subst hx2
    replace R:=Lib.hid R
    clear hr1
    go_wp2_with fail
    refine R.out.mono ?_
    intro e w5 hr
    obtain ⟨rfl,hne,m,b,hS⟩:=hr
    have hne2:(x1 != 0) = true:=by rw [bne,hne];rfl
    have hE:=hS.rdr.env
    clear hS R
    obtain ⟨g0,g1,g2,g3,g4,g5,g6,g7,g8,g9,ga,gb,ir,rf⟩:=twelve (hresf.out w5 hE)
    have e0:=hasC_of g0
    have e1:=hasC_of g1
    have e2:=hasC_of g2
    have e3:=hasC_of g3
    have e4:=hasC_of g4
    have e5:=hasC_of g5
    have e6:=hasC_of g6
    have e7:=hasC_of g7
    have e8:=hasC_of g8
    have e9:=hasC_of g9
    have ea:=hasC_of ga
    have eb:=hasC_of gb
    have r0:=rf 0
    have r1:=rf 1
    have r2:=rf 2
    have r3:=rf 3
    have r4:=rf 4
    have r5:=rf 5
    have r6:=rf 6
    have r7:=rf 7
    have r8:=rf 8
    have r9:=rf 9
    have ra:=rf 10
    have rb:=rf 11
    clear rf
    have hb3:=hbf.out w5 hE
    clear hE hbf hresf
    go_wp2
    go_returns
    exact ⟨rfl,hne,by (first | exact gwT | exact lzT)⟩
   ·rw [hr1] at R hx2
    simp only at hx2
    replace R:=Lib.hid R
    clear hr1
    go_wp2_with fail
    refine R.out.mono ?_
    intro e w5 hr
    obtain ⟨rfl,hS⟩:=hr
    obtain ⟨c0,c1,htb,f1⟩:=rdr_cells hS.rdr
    have i1:InW w1.heap.size w5:=⟨htb⟩
    have hE:=hS.rdr.env
    clear R c0 f1
    obtain ⟨g0,g1,g2,g3,g4,g5,g6,g7,g8,g9,ga,gb,ir,rf⟩:=twelve (hresf.out w5 hE)
    have e0:=hasC_of g0
    have e1:=hasC_of g1
    have e2:=hasC_of g2
    have e3:=hasC_of g3
    have e4:=hasC_of g4
    have e5:=hasC_of g5
    have e6:=hasC_of g6
    have e7:=hasC_of g7
    have e8:=hasC_of g8
    have e9:=hasC_of g9
    have ea:=hasC_of ga
    have eb:=hasC_of gb
    have r0:=rf 0
    have r1:=rf 1
    have r2:=rf 2
    have r3:=rf 3
    have r4:=rf 4
    have r5:=rf 5
    have r6:=rf 6
    have r7:=rf 7
    have r8:=rf 8
    have r9:=rf 9
    have ra:=rf 10
    have rb:=rf 11
    clear rf
    have hres5:=Lib.hid (hresf.out w5 hE)
    have hb3:=hbf.out w5 hE
    by_cases hlt:b < ts.length
    ·rw [if_pos hlt] at hx2
     subst hx2
     have hltI:(b:Int) < (ts.length:Int):=by omega
     clear hE hbf hresf hS hlt hres5
     go_wp2
     go_returns
     exact ⟨rfl,rfl,by (first | exact gwT | exact lzT)⟩
    ·rw [if_neg hlt] at hx2
     subst hx2
     have hltI:¬ (b:Int) < (ts.length:Int):=by omega
     have hws:=hb3.size
     obtain ⟨xo,xc,io,ic,go,gc,to',tc,hblk,hV,hnb,hfr,hcl⟩:=ln_cells hS
     have i2:InW w3.heap.size w5:=⟨hnb⟩
     obtain ⟨d0,d1,d2,d3,d4,d5,d6,d7,d8,d9,da,db,_,_⟩:=twelve hblk
     have hVk:=Lib.hid hV
     have hbm:=Lib.hid (show Below w.heap.size w w1 from hbf.out w1 (Below.refl _ _))
     clear hE hbf hresf hS hlt hblk hV hfr hcl
     go_wp2
     go_returns
     refine ⟨_,_,_,_,rfl,?_,by (first | exact gwT | exact lzT)⟩
     exact lnV_setL (b:=w.heap.size) (by decide) (by decide) (by decide) [.int .i64 m.kind,str m.name,str m.start,.int .i64 m.vk,.int .i64 m.vn,str m.vs,.slice xo m.acts.length xc,str m.event,.slice io m.cond.length ic,.slice go m.goes.length gc,.bool m.inner,.slice to' m.thn.length tc] 0 w5 (lnV_base hVk.out hbm.out.size) hres5.out
end Go.Proofs.YtfgpmcepppcmiaaGreatDoor
