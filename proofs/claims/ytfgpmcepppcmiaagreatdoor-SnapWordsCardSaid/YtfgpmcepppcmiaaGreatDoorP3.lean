/- Several texts of this proof, joined: LE, LF, LG. -/
import Derived.Test.YtfgpmcepppcmiaaGreatDoorP2
import Derived.WalkKit
import Derived.ProofKit
import Derived.OpenShut
import Derived.Handy
import Derived.BigQuiet
import Derived.Deep.RegionHeld3
import Derived.Lib.Hide
import Derived.WalkSmall
import Derived.WalkLawsBesides
import Derived.Test.YtfgpmcepppcmiaaGreatDoorY9
import Derived.OwnWalk
import Derived.Deep.AppendLies
namespace Go.Proofs.YtfgpmcepppcmiaaGreatDoor
open Go.RowKit
section
variable {w0:World} {rb nb:Nat} {ao:Option Addr} {cap:Nat} {ts:List Tk} {a:Nat} {n:Ln}
theorem eventL_lt {s:List UInt8} (h:eventL ts a = some s):a < ts.length:=by
 unfold eventL at h
 rcases Nat.lt_or_ge a ts.length with h1 | h1
 ·exact h1
 ·rw [List.getElem?_eq_none h1] at h;cases h
def EvIs (w0:World) (rb nb:Nat) (ao:Option Addr) (cap:Nat) (ts:List Tk) (n:Ln) (a:Nat) (o:Option (List UInt8)) (e:Ending) (w':World):Prop :=
 match o with
 | none=>e = .returned (.bool false) ∧ LnSt w0 rb nb ao cap ts n a w'
 | some s=>e = .returned (.bool true) ∧ LnSt w0 rb nb ao cap ts { n with event:=s } (a + 1) w'
set_option maxRecDepth 100000 in
set_option maxHeartbeats 4000000 in
theorem levent_any (hB:BaseL w0 ao ts) (w:World) (h:LnSt w0 rb nb ao cap ts n a w) :
  Calls Tryz.prog 144 #[.pointer (some ⟨rb,0,none⟩),.pointer (some ⟨nb,0,none⟩)] w (EvIs w0 rb nb ao cap ts n a (eventL ts a)):=by
 obtain ⟨k,num,p,s,hT⟩:=tok_parts ts a hB.short hB.ok
 have N:=fun wx (hb:Below w.heap.size w wx)=>lnext_any hB wx (rdr_keep h.rdr hb)
 rw [hT.val] at N
 replace N:=Lib.hid N
 have E:=Lib.hid (fun wx (hb:Below w.heap.size w wx)=>aevent_any ⟨s.toArray⟩ (by rw [Lib.size_eq];simpa using hT.short) wx (al_below hB.al (h.rdr.env.trans (hb.mono h.rdr.env.size))).ax.lb)
 simp only at E
 have hl:=fun s'=>eventL_lt (ts:=ts) (a:=a) (s:=s')
 rw [hT.event] at hl ⊢
 obtain ⟨st,hst⟩:∃ b,((k == 1 || k == 5) && s == [42]) = b:=⟨_,rfl⟩
 have I:=fun g wx hc=>Lib.hid (is1_any k ⟨s.toArray⟩ num p ⟨#[42]⟩ st (by rw [← hst]) g wx hc)
 replace I:=Lib.hid I
 rw [hst] at hl ⊢
 obtain ⟨c0,c1,htb,f1⟩:=rdr_cells h.rdr
 obtain ⟨xo,xc,io,ic,go,gc,to',tc,hblk,hV,hnb,hfr,hcl⟩:=ln_cells h
 have c7:=hcl 7
 have f7:=hfr 7
 have n1:¬ rb = nb:=h.ne
 have n2:¬ nb = rb:=fun e=>h.ne e.symm
 have hfew:=hB.few
 have hle:=h.rdr.le
 have i1:InW rb w:=⟨htb⟩
 have i2:InW nb w:=⟨hnb⟩
 have hS:=Lib.hid h
 have hev:=Lib.hid (ln_event s h)
 have hmv:=Lib.hid (fun (hlt:a < ts.length)=>(show LnSt w0 rb nb ao cap ts { n with event:=s } (a + 1) ((w.setCell ⟨nb,7,none⟩ (.string ⟨s.toArray⟩)).setCell ⟨rb,1,none⟩ (.int .i64 ((a:Int) + 1))) from ln_move (ln_event s h) hlt (Below.refl _ _)))
 clear hT h hB hst hV hblk hfr hcl
 generalize namedB true s = m at *
 have hq:=Lib.hid (rfl:(⟨s.toArray⟩:ByteArray) = ⟨s.toArray⟩)
 by_cases h1:k = 1
 ·subst h1
  cases m
  ·cases st
   ·clear hl hmv hev
    rw [if_neg (by decide)]
    go_enter Tryz.func144,Tryz.ntmps144
    go_wp2_with (first | ((with_reducible refine (N.out _ (by (first | exact gwT | exact lzT))).mono ?_);intro e w1 hr;obtain ⟨rfl,p,rfl⟩:=hr.out;clear hr) | ((with_reducible refine ((E.out _ (by (first | exact gwT | exact lzT)))).mono ?_);intro e w1 hr;obtain ⟨rfl,p,rfl⟩:=hr.out;clear hr) | ((with_reducible refine ((I.out _ _ (by simp [go_sem])).out).mono ?_);intro e w1 hr;obtain ⟨rfl,p,rfl⟩:=hr.out;clear hr))
    go_returns
    exact ⟨rfl,ln_keep hS.out (by (first | exact gwT | exact lzT))⟩
   ·have hlt:=hl s rfl
    have hm:=Lib.hid (hmv.out hlt)
    clear hl hmv hev
    rw [if_pos (by decide)]
    go_enter Tryz.func144,Tryz.ntmps144
    go_wp2_with (first | ((with_reducible refine (N.out _ (by (first | exact gwT | exact lzT))).mono ?_);intro e w1 hr;obtain ⟨rfl,p,rfl⟩:=hr.out;clear hr) | ((with_reducible refine ((E.out _ (by (first | exact gwT | exact lzT)))).mono ?_);intro e w1 hr;obtain ⟨rfl,p,rfl⟩:=hr.out;clear hr) | ((with_reducible refine ((I.out _ _ (by simp [go_sem])).out).mono ?_);intro e w1 hr;obtain ⟨rfl,p,rfl⟩:=hr.out;clear hr))
    go_returns
    exact ⟨rfl,ln_keep hm.out (by (first | exact gwT | exact lzT))⟩
  ·have hlt:=hl s rfl
   have hm:=Lib.hid (hmv.out hlt)
   clear hl hmv hev
   rw [if_pos (by rfl)]
   go_enter Tryz.func144,Tryz.ntmps144
   go_wp2_with (first | ((with_reducible refine (N.out _ (by (first | exact gwT | exact lzT))).mono ?_);intro e w1 hr;obtain ⟨rfl,p,rfl⟩:=hr.out;clear hr) | ((with_reducible refine ((E.out _ (by (first | exact gwT | exact lzT)))).mono ?_);intro e w1 hr;obtain ⟨rfl,p,rfl⟩:=hr.out;clear hr) | ((with_reducible refine ((I.out _ _ (by simp [go_sem])).out).mono ?_);intro e w1 hr;obtain ⟨rfl,p,rfl⟩:=hr.out;clear hr))
   go_returns
   exact ⟨rfl,ln_keep hm.out (by (first | exact gwT | exact lzT))⟩
 ·by_cases h2:k = 2
  ·subst h2
   cases m
   ·cases st
    ·clear hl hmv hev
     rw [if_neg (by decide)]
     go_enter Tryz.func144,Tryz.ntmps144
     go_wp2_with (first | ((with_reducible refine (N.out _ (by (first | exact gwT | exact lzT))).mono ?_);intro e w1 hr;obtain ⟨rfl,p,rfl⟩:=hr.out;clear hr) | ((with_reducible refine ((E.out _ (by (first | exact gwT | exact lzT)))).mono ?_);intro e w1 hr;obtain ⟨rfl,p,rfl⟩:=hr.out;clear hr) | ((with_reducible refine ((I.out _ _ (by simp [go_sem])).out).mono ?_);intro e w1 hr;obtain ⟨rfl,p,rfl⟩:=hr.out;clear hr))
     go_returns
     exact ⟨rfl,ln_keep hS.out (by (first | exact gwT | exact lzT))⟩
    ·have hlt:=hl s rfl
     have hm:=Lib.hid (hmv.out hlt)
     clear hl hmv hev
     rw [if_pos (by decide)]
     go_enter Tryz.func144,Tryz.ntmps144
     go_wp2_with (first | ((with_reducible refine (N.out _ (by (first | exact gwT | exact lzT))).mono ?_);intro e w1 hr;obtain ⟨rfl,p,rfl⟩:=hr.out;clear hr) | ((with_reducible refine ((E.out _ (by (first | exact gwT | exact lzT)))).mono ?_);intro e w1 hr;obtain ⟨rfl,p,rfl⟩:=hr.out;clear hr) | ((with_reducible refine ((I.out _ _ (by simp [go_sem])).out).mono ?_);intro e w1 hr;obtain ⟨rfl,p,rfl⟩:=hr.out;clear hr))
     go_returns
     exact ⟨rfl,ln_keep hm.out (by (first | exact gwT | exact lzT))⟩
   ·have hlt:=hl s rfl
    have hm:=Lib.hid (hmv.out hlt)
    clear hl hmv hev
    rw [if_pos (by rfl)]
    go_enter Tryz.func144,Tryz.ntmps144
    go_wp2_with (first | ((with_reducible refine (N.out _ (by (first | exact gwT | exact lzT))).mono ?_);intro e w1 hr;obtain ⟨rfl,p,rfl⟩:=hr.out;clear hr) | ((with_reducible refine ((E.out _ (by (first | exact gwT | exact lzT)))).mono ?_);intro e w1 hr;obtain ⟨rfl,p,rfl⟩:=hr.out;clear hr) | ((with_reducible refine ((I.out _ _ (by simp [go_sem])).out).mono ?_);intro e w1 hr;obtain ⟨rfl,p,rfl⟩:=hr.out;clear hr))
    go_returns
    exact ⟨rfl,ln_keep hm.out (by (first | exact gwT | exact lzT))⟩
  ·have e1:(k == 1) = false:=beq_eq_false_iff_ne.2 h1
   have e2:(k == 2) = false:=beq_eq_false_iff_ne.2 h2
   rw [e1,e2] at hl ⊢
   rw [Bool.or_self,Bool.false_and,Bool.false_or] at hl ⊢
   clear h1 h2 E
   cases st
   ·clear hl hmv hev
    rw [if_neg (by decide)]
    go_enter Tryz.func144,Tryz.ntmps144
    go_wp2_with (first | ((with_reducible refine (N.out _ (by (first | exact gwT | exact lzT))).mono ?_);intro e w1 hr;obtain ⟨rfl,p,rfl⟩:=hr.out;clear hr) | ((with_reducible refine ((I.out _ _ (by simp [go_sem])).out).mono ?_);intro e w1 hr;obtain ⟨rfl,p,rfl⟩:=hr.out;clear hr))
    go_returns
    exact ⟨rfl,ln_keep hS.out (by (first | exact gwT | exact lzT))⟩
   ·have hlt:=hl s rfl
    have hm:=Lib.hid (hmv.out hlt)
    clear hl hmv hev
    rw [if_pos rfl]
    go_enter Tryz.func144,Tryz.ntmps144
    go_wp2_with (first | ((with_reducible refine (N.out _ (by (first | exact gwT | exact lzT))).mono ?_);intro e w1 hr;obtain ⟨rfl,p,rfl⟩:=hr.out;clear hr) | ((with_reducible refine ((I.out _ _ (by simp [go_sem])).out).mono ?_);intro e w1 hr;obtain ⟨rfl,p,rfl⟩:=hr.out;clear hr))
    go_returns
    exact ⟨rfl,ln_keep hm.out (by (first | exact gwT | exact lzT))⟩
def PieceIs (w0:World) (rb nb:Nat) (ao:Option Addr) (cap:Nat) (ts:List Tk) (x:Except Int (Ln × Nat)) (e:Ending) (w':World):Prop :=
 match x with
 | .error x=>e = .returned (.int .i64 x) ∧ (x == 0) = false ∧ ∃ m b,LnSt w0 rb nb ao cap ts m b w'
 | .ok (m,b)=>e = .returned (.int .i64 0) ∧ LnSt w0 rb nb ao cap ts m b w'
def withE {α:Type} (f:α → Ln):Except Int (α × Nat) → Except Int (Ln × Nat)
 | .error x => .error x
 | .ok (c,b) => .ok (f c,b)
set_option maxRecDepth 100000 in
set_option maxHeartbeats 4000000 in
theorem lexpr_any (hB:BaseL w0 ao ts) (w:World) (h:LnSt w0 rb nb ao cap ts n a w) {x:Except Int (List Nd × Nat)} (hx:parseT ts (a:Int) = x) :
  Calls Tryz.prog 179 #[.pointer (some ⟨rb,0,none⟩),.pointer (some ⟨nb,8,none⟩)] w (PieceIs w0 rb nb ao cap ts (withE (fun cs=>{ n with cond:=cs }) x)):=by
 obtain ⟨c0,c1,htb,f1⟩:=rdr_cells h.rdr
 obtain ⟨xo,xc,io,ic,go,gc,to',tc,hblk,hV,hnb,hfr,hcl⟩:=ln_cells h
 have c8:=hcl 8
 have f8:=hfr 8
 have n1:¬ rb = nb:=h.ne
 have n2:¬ nb = rb:=fun e=>h.ne e.symm
 have hz:=h.rdr.env.size
 have hP:=Lib.hid (fun wx (hb:Below w.heap.size w wx)=>xparse_any ao cap ts (a:Int) hB.few wx (sl_below (sl_below hB.sl h.rdr.env) hb) (al_below (al_below hB.al h.rdr.env) hb).ax.eg)
 have i1:InW rb w:=⟨htb⟩
 have i2:InW nb w:=⟨hnb⟩
 have hS:=Lib.hid h
 clear h hB hV hblk hfr hcl
 rcases x with x | ⟨ns,b⟩
 ·rw [hx] at hP
  have hnz:=parseT_nz hx
  have hnz2:(x == 0) = false:=by
   rw [bne,Bool.not_eq_true'] at hnz
   exact hnz
  clear hx
  go_enter Tryz.func179,Tryz.ntmps179
  go_wp2_with fail
  go_region_held3 (fun w'=>w'.cell? ⟨rb,0,none⟩ = some (.slice ao ts.length cap) ∧ w'.cell? ⟨rb,1,none⟩ = some (.int .i64 (a:Int))) ((refine ⟨?_,?_⟩ <;> first | assumption | (rw [cell_GI];assumption) | (simp [go_sem, *];done))) (first | ((with_reducible refine (hP.out _ (by (first | exact gwT | exact lzT))).mono ?_);intro e w1 hr;obtain ⟨rfl,hb⟩:=hr;obtain ⟨p1,rfl⟩:=toG hb;clear hb))
  go_wp2
  go_returns
  exact ⟨rfl,hnz2,_,_,ln_keep hS.out (by (first | exact gwT | exact lzT))⟩
 ·rw [hx] at hP
  have hb:=(parseT_at hx).1
  clear hx
  go_enter Tryz.func179,Tryz.ntmps179
  go_wp2_with fail
  go_region_held3 (fun w'=>w'.cell? ⟨rb,0,none⟩ = some (.slice ao ts.length cap) ∧ w'.cell? ⟨rb,1,none⟩ = some (.int .i64 (a:Int))) ((refine ⟨?_,?_⟩ <;> first | assumption | (rw [cell_GI];assumption) | (simp [go_sem, *];done))) (first | ((with_reducible refine (hP.out _ (by (first | exact gwT | exact lzT))).mono ?_);intro e w1 hr;obtain ⟨v,rfl,hown,hb⟩:=hr;obtain ⟨na,nc,hv⟩:=own_form hown;subst hv;obtain ⟨p1,rfl⟩:=toG hb;clear hb;(try simp only [G_drew] at hown)))
  have hS1:=ln_keep hS.out (show Below w.heap.size w (G p1 w) by (first | exact gwT | exact lzT))
  have hm:=Lib.hid (ln_move (ln_cond ns (owns_base hown hz) hS1) hb (Below.refl _ _))
  rw [setCell_G _ _ _ _ _ hnb,setCell_G _ _ _ _ _ (by rw [size_set];exact htb)] at hm
  clear hP hown hS1 hS
  go_wp2
  go_returns
  exact ⟨rfl,ln_keep hm.out (by (first | exact gwT | exact lzT))⟩
end
end Go.Proofs.YtfgpmcepppcmiaaGreatDoor
namespace Go.Proofs.YtfgpmcepppcmiaaGreatDoor
open Go.RowKit
theorem takeA_ok:∀ (f:Nat) {ts:List Tk} {a:Nat} {cs:List Ac} {b:Nat},takeA f ts a = .ok (cs,b) → b ≤ ts.length
 | 0,_,_,_,_,h=>by cases h
 | f + 1,ts,a,cs,b,h=>by
  rw [takeA] at h
  split at h
  ·cases h
  ·rename_i h1
   split at h
   ·split at h
    ·cases h
    ·rename_i h2
     cases h
     exact takeA_ok f h2
   ·cases h
    exact oneA_le h1
theorem takeA_nz:∀ (f:Nat) {ts:List Tk} {a:Nat} {x:Int},takeA f ts a = .error x → (x == 0) = false
 | 0,_,_,_,h=>by cases h;rfl
 | f + 1,ts,a,x,h=>by
  rw [takeA] at h
  split at h
  ·rename_i h1
   cases h
   have:=oneA_nz h1
   rw [bne,Bool.not_eq_true'] at this
   exact this
  ·split at h
   ·split at h
    ·rename_i h2
     cases h
     exact takeA_nz f h2
    ·cases h
   ·cases h
theorem takeT_le {ts:List Tk} {a:Int} {cs:List Ac} {b:Nat} (h:takeT ts a = .ok (cs,b)):b ≤ ts.length:=by
 unfold takeT at h
 split at h
 ·cases h
 ·exact takeA_ok 8 h
theorem takeT_nz {ts:List Tk} {a:Int} {x:Int} (h:takeT ts a = .error x):(x == 0) = false:=by
 unfold takeT at h
 split at h
 ·cases h;rfl
 ·exact takeA_nz 8 h
section
variable {w0:World} {rb nb:Nat} {ao:Option Addr} {cap:Nat} {ts:List Tk} {a:Nat} {n:Ln}
set_option maxRecDepth 100000 in
set_option maxHeartbeats 4000000 in
theorem lacts6_any (hB:BaseL w0 ao ts) (w:World) (h:LnSt w0 rb nb ao cap ts n a w) {x:Except Int (List Ac × Nat)} (hx:takeT ts (a:Int) = x) :
  Calls Tryz.prog 143 #[.pointer (some ⟨rb,0,none⟩),.pointer (some ⟨nb,6,none⟩)] w (PieceIs w0 rb nb ao cap ts (withE (fun cs=>{ n with acts:=cs }) x)):=by
 obtain ⟨c0,c1,htb,f1⟩:=rdr_cells h.rdr
 obtain ⟨xo,xc,io,ic,go,gc,to',tc,hblk,hV,hnb,hfr,hcl⟩:=ln_cells h
 have c8:=hcl 6
 have f8:=hfr 6
 have n1:¬ rb = nb:=h.ne
 have n2:¬ nb = rb:=fun e=>h.ne e.symm
 have hz:=h.rdr.env.size
 have hP:=Lib.hid (fun wx (hb:Below w.heap.size w wx)=>atake_any ao cap ts (a:Int) wx ⟨(al_below (al_below hB.al h.rdr.env) hb).ax,sl_below (sl_below hB.sl h.rdr.env) hb,hB.few,hB.short⟩)
 have i1:InW rb w:=⟨htb⟩
 have i2:InW nb w:=⟨hnb⟩
 have hS:=Lib.hid h
 clear h hB hV hblk hfr hcl
 rcases x with x | ⟨cs,b⟩
 ·rw [hx] at hP
  have hnz2:=takeT_nz hx
  clear hx
  go_enter Tryz.func143,Tryz.ntmps143
  go_wp2_with fail
  go_region_held3 (fun w'=>w'.cell? ⟨rb,0,none⟩ = some (.slice ao ts.length cap) ∧ w'.cell? ⟨rb,1,none⟩ = some (.int .i64 (a:Int))) ((refine ⟨?_,?_⟩ <;> first | assumption | (rw [cell_GI];assumption) | (simp [go_sem, *];done))) (first | ((with_reducible refine (hP.out _ (by (first | exact gwT | exact lzT))).mono ?_);intro e w1 hr;obtain ⟨rfl,hb⟩:=hr;obtain ⟨p1,rfl⟩:=toG hb;clear hb))
  go_wp2
  go_returns
  exact ⟨rfl,hnz2,_,_,ln_keep hS.out (by (first | exact gwT | exact lzT))⟩
 ·rw [hx] at hP
  have hb:=takeT_le hx
  clear hx
  go_enter Tryz.func143,Tryz.ntmps143
  go_wp2_with fail
  go_region_held3 (fun w'=>w'.cell? ⟨rb,0,none⟩ = some (.slice ao ts.length cap) ∧ w'.cell? ⟨rb,1,none⟩ = some (.int .i64 (a:Int))) ((refine ⟨?_,?_⟩ <;> first | assumption | (rw [cell_GI];assumption) | (simp [go_sem, *];done))) (first | ((with_reducible refine (hP.out _ (by (first | exact gwT | exact lzT))).mono ?_);intro e w1 hr;obtain ⟨v,rfl,hown,hb⟩:=hr;obtain ⟨na,nc,hv⟩:=own_form hown.choose_spec.2;subst hv;obtain ⟨p1,rfl⟩:=toG hb;clear hb;(try simp only [G_drew] at hown)))
  have hS1:=ln_keep hS.out (show Below w.heap.size w (G p1 w) by (first | exact gwT | exact lzT))
  have hm:=Lib.hid (ln_move (ln_acts cs (acRow_base hown hz) hS1) hb (Below.refl _ _))
  rw [setCell_G _ _ _ _ _ hnb,setCell_G _ _ _ _ _ (by rw [size_set];exact htb)] at hm
  clear hP hown hS1 hS
  go_wp2
  go_returns
  exact ⟨rfl,ln_keep hm.out (by (first | exact gwT | exact lzT))⟩
set_option maxRecDepth 100000 in
set_option maxHeartbeats 4000000 in
theorem lacts11_any (hB:BaseL w0 ao ts) (w:World) (h:LnSt w0 rb nb ao cap ts n a w) {x:Except Int (List Ac × Nat)} (hx:takeT ts (a:Int) = x) :
  Calls Tryz.prog 143 #[.pointer (some ⟨rb,0,none⟩),.pointer (some ⟨nb,11,none⟩)] w (PieceIs w0 rb nb ao cap ts (withE (fun cs=>{ n with thn:=cs }) x)):=by
 obtain ⟨c0,c1,htb,f1⟩:=rdr_cells h.rdr
 obtain ⟨xo,xc,io,ic,go,gc,to',tc,hblk,hV,hnb,hfr,hcl⟩:=ln_cells h
 have c8:=hcl 11
 have f8:=hfr 11
 have n1:¬ rb = nb:=h.ne
 have n2:¬ nb = rb:=fun e=>h.ne e.symm
 have hz:=h.rdr.env.size
 have hP:=Lib.hid (fun wx (hb:Below w.heap.size w wx)=>atake_any ao cap ts (a:Int) wx ⟨(al_below (al_below hB.al h.rdr.env) hb).ax,sl_below (sl_below hB.sl h.rdr.env) hb,hB.few,hB.short⟩)
 have i1:InW rb w:=⟨htb⟩
 have i2:InW nb w:=⟨hnb⟩
 have hS:=Lib.hid h
 clear h hB hV hblk hfr hcl
 rcases x with x | ⟨cs,b⟩
 ·rw [hx] at hP
  have hnz2:=takeT_nz hx
  clear hx
  go_enter Tryz.func143,Tryz.ntmps143
  go_wp2_with fail
  go_region_held3 (fun w'=>w'.cell? ⟨rb,0,none⟩ = some (.slice ao ts.length cap) ∧ w'.cell? ⟨rb,1,none⟩ = some (.int .i64 (a:Int))) ((refine ⟨?_,?_⟩ <;> first | assumption | (rw [cell_GI];assumption) | (simp [go_sem, *];done))) (first | ((with_reducible refine (hP.out _ (by (first | exact gwT | exact lzT))).mono ?_);intro e w1 hr;obtain ⟨rfl,hb⟩:=hr;obtain ⟨p1,rfl⟩:=toG hb;clear hb))
  go_wp2
  go_returns
  exact ⟨rfl,hnz2,_,_,ln_keep hS.out (by (first | exact gwT | exact lzT))⟩
 ·rw [hx] at hP
  have hb:=takeT_le hx
  clear hx
  go_enter Tryz.func143,Tryz.ntmps143
  go_wp2_with fail
  go_region_held3 (fun w'=>w'.cell? ⟨rb,0,none⟩ = some (.slice ao ts.length cap) ∧ w'.cell? ⟨rb,1,none⟩ = some (.int .i64 (a:Int))) ((refine ⟨?_,?_⟩ <;> first | assumption | (rw [cell_GI];assumption) | (simp [go_sem, *];done))) (first | ((with_reducible refine (hP.out _ (by (first | exact gwT | exact lzT))).mono ?_);intro e w1 hr;obtain ⟨v,rfl,hown,hb⟩:=hr;obtain ⟨na,nc,hv⟩:=own_form hown.choose_spec.2;subst hv;obtain ⟨p1,rfl⟩:=toG hb;clear hb;(try simp only [G_drew] at hown)))
  have hS1:=ln_keep hS.out (show Below w.heap.size w (G p1 w) by (first | exact gwT | exact lzT))
  have hm:=Lib.hid (ln_move (ln_thn cs (acRow_base hown hz) hS1) hb (Below.refl _ _))
  rw [setCell_G _ _ _ _ _ hnb,setCell_G _ _ _ _ _ (by rw [size_set];exact htb)] at hm
  clear hP hown hS1 hS
  go_wp2
  go_returns
  exact ⟨rfl,ln_keep hm.out (by (first | exact gwT | exact lzT))⟩
def atLr (w:World) (rb:Nat):Nat :=
 match w.cell? ⟨rb,1,none⟩ with
 | some (.int _ a)=>a.toNat
 | _=>0
theorem atLr_of {w:World} (h:RdrAt w0 rb ao cap ts a w):atLr w rb = a:=by
 unfold atLr
 rw [(rdr_cells h).2.1]
 rfl
theorem goesA_none {f:Nat} {gs:List (List UInt8)} (h:nameAt ts a = none):goesA ts f gs a = if gs.length = 0 then .error 11 else .ok (gs,a):=by
 cases f <;> rw [goesA,h]
theorem goesA_full {gs:List (List UInt8)} {s:List UInt8} (h:nameAt ts a = some s):goesA ts 0 gs a = .error 13:=by rw [goesA,h]
theorem goesA_more {f:Nat} {gs:List (List UInt8)} {s:List UInt8} (h:nameAt ts a = some s):goesA ts (f + 1) gs a = goesA ts f (gs ++ [s]) (a + 1):=by rw [goesA,h]
set_option maxRecDepth 100000 in
set_option maxHeartbeats 8000000 in
theorem ltargets_any (hB:BaseL w0 ao ts) (w:World) (h:LnSt w0 rb nb ao cap ts n a w) (hg:n.goes = []) {x:Except Int (List (List UInt8) × Nat)} (hx:goesA ts 4 [] a = x) :
  Calls Tryz.prog 180 #[.pointer (some ⟨rb,0,none⟩),.pointer (some ⟨nb,9,none⟩)] w (PieceIs w0 rb nb ao cap ts (withE (fun gs=>{ n with goes:=gs }) x)):=by
 have hS0:=Lib.hid (show LnSt w0 rb nb ao cap ts { n with goes:=[] } a w from by rw [← hg];exact h)
 have N:=Lib.hid (fun (b:Nat) o wx (hb:RdrAt w0 rb ao cap ts b wx) (ho:nameAt ts b = o)=>lname_mov hB wx hb ho)
 obtain ⟨i0,hi0,hz1,hz2,hz3⟩:=info_parts Tryz.infoStr
 replace hx:=Lib.hid hx
 have hfew:=hB.few
 have hsz:=h.rdr.env.size
 clear h hB hg
 go_enter Tryz.func180,Tryz.ntmps180
 go_wp2
 go_loopw [5] (fun _ wr=>∃ (gs:List (List UInt8)) (b:Nat),LnSt w0 rb nb ao cap ts { n with goes:=gs } b wr ∧ gs.length ≤ 4 ∧ x = goesA ts (4 - gs.length) gs b) (fun _ wr=>ts.length - atLr wr rb)
 case atStart=>exact ⟨[],a,hS0.out,by decide,hx.out.symm⟩
 case round =>
  obtain ⟨gs,b,hS,h4,hX⟩:=hrel
  rename World=>wr
  clear hS0 hx
  replace hX:=Lib.hid hX
  have hat:=atLr_of hS.rdr
  have hle:=hS.rdr.le
  rcases ho:nameAt ts b with _ | s
  ·have hX2:=hX.out
   rw [goesA_none ho] at hX2
   go_wp2_with fail
   refine (N.out b _ wr hS.rdr ho).mono ?_
   intro e w1 hr
   obtain ⟨rfl,hM⟩:=hr
   have hS1:=ln_mov hS (show RMov w0 rb ao cap ts b wr w1 from hM)
   clear hM hS N ho hX hat
   obtain ⟨xo,xc,io,ic,go,gc,to',tc,hblk,hV,hnb,hfr,hcl⟩:=ln_cells hS1
   have c9:w1.cell? ⟨nb,9,none⟩ = some (.slice go gs.length gc):=hcl 9
   have i1:InW nb w1:=⟨hnb⟩
   replace hS1:=Lib.hid hS1
   clear hblk hV hfr hcl
   dsimp only
   by_cases h0:gs.length = 0
   ·rw [if_pos h0] at hX2
    rw [h0] at c9
    replace hX2:=Lib.hid hX2
    clear h0 h4
    go_wp2
    go_returns
    rw [hX2.out]
    exact ⟨rfl,rfl,_,_,ln_keep hS1.out (by (first | exact gwT | exact lzT))⟩
   ·rw [if_neg h0] at hX2
    have h0b:((gs.length:Int) == 0) = false:=beq_eq_false_iff_ne.2 (by omega)
    replace hX2:=Lib.hid hX2
    clear h0
    go_wp2
    go_returns
    rw [hX2.out]
    exact ⟨rfl,ln_keep hS1.out (by (first | exact gwT | exact lzT))⟩
  ·have hX2:=hX.out
   have hlt:=nameAt_lt ho
   go_wp2_with fail
   refine (N.out b _ wr hS.rdr ho).mono ?_
   intro e w1 hr
   obtain ⟨rfl,hM⟩:=hr
   have hS1:=ln_mov hS (show RMov w0 rb ao cap ts (b + 1) wr w1 from hM)
   clear hM hS hX
   obtain ⟨xo,xc,io,ic,go,gc,to',tc,hblk,hV,hnb,hfr,hcl⟩:=ln_cells hS1
   have c9:w1.cell? ⟨nb,9,none⟩ = some (.slice go gs.length gc):=hcl 9
   have f9:=hfr 9
   have i1:InW nb w1:=⟨hnb⟩
   have hz:=hS1.rdr.env.size
   replace hS1:=Lib.hid hS1
   have hk:=Lib.hid hV.goes
   clear hV hfr hcl
   dsimp only
   by_cases h44:gs.length = 4
   ·rw [h44,Nat.sub_self,goesA_full ho] at hX2
    have hd:((gs.length:Int) == 4) = true:=by rw [beq_iff_eq];omega
    replace hX2:=Lib.hid hX2
    clear ho h44 N hblk
    go_wp2
    go_returns
    rw [hX2.out]
    exact ⟨rfl,rfl,_,_,ln_keep hS1.out (by (first | exact gwT | exact lzT))⟩
   ·obtain ⟨f,hf⟩:∃ f,4 - gs.length = f + 1:=⟨3 - gs.length,by omega⟩
    rw [hf,goesA_more ho] at hX2
    have hd:((gs.length:Int) == 4) = false:=beq_eq_false_iff_ne.2 (by omega)
    replace hX2:=Lib.hid hX2
    clear ho N
    go_wp2_with (at_builtin;refine wpList_append_lies _ rfl _ _ 38 rfl w0.heap.size 9 i0 _ 1 16 Tryz.underlying38 hi0 hz1 hz2 hz3 rfl (by decide) (.slice go gs.length gc) gs.length (strsC gs) rfl (owns_below hk.out (by (first | exact gwT | exact lzT))) ⟨_,0,none⟩ 1 1 [str s] rfl rfl (World.news_of_block (new_at (by simp))) (by intro u hu;simp at hu;subst hu;rfl) (by decide) (by unfold maxLen;omega) (by omega) (by simp [go_sem];omega) _ rfl ?_)
    intro g' cap' w2 hown1 hgrow hat1 hg1
    have hbW:Below w1.heap.size w1 (w1.alloc (.cells #[str s] 9 (0,0))):=by (first | exact gwT | exact lzT)
    have hfin:=Lib.hid (ln_grown (ln_keep hS1.out hbW) (owns_below hk.out hbW) hgrow hown1)
    have hb2:=grown_blk (owns_below hk.out hbW) (blk_keep hblk hbW) (by decide) hgrow
    have f92:w2.frozen? ⟨nb,9,none⟩ = false:=frozen_of_row w2 nb 9 _ _ hb2
    have c92:=cell_of_row w2 nb 9 _ _ _ hb2
    have i2:InW nb w2:=⟨lt_of_block hb2⟩
    clear hS1 hk hbW hown1 hgrow hat1 hg1 hblk hb2 c9 f9 i1
    go_wp2_with fail
    go_roundw
    case rel =>
     refine ⟨gs ++ [s],b + 1,hfin.out,by simp;omega,?_⟩
     rw [hX2.out,List.length_append,List.length_singleton,show 4 - (gs.length + 1) = f by omega]
    case measure =>
     have:=atLr_of hfin.out.rdr
     rw [hat]
     simp only [go_sem] at this ⊢
     rw [this]
     omega
end
end Go.Proofs.YtfgpmcepppcmiaaGreatDoor
namespace Go.Proofs.YtfgpmcepppcmiaaGreatDoor
open Go.RowKit
section
variable {w0:World} {rb nb:Nat} {ao:Option Addr} {cap:Nat} {ts:List Tk} {a:Nat} {n:Ln}
theorem ltakes_ln (x:ByteArray) (hB:BaseL w0 ao ts) (w:World) (h:LnSt w0 rb nb ao cap ts n a w) {b:Bool} (hb:tkAt ts a x.data.toList = b) :
  Calls Tryz.prog 142 #[.pointer (some ⟨rb,0,none⟩),.string x] w fun e w'=>e = .returned (.bool b) ∧ LnSt w0 rb nb ao cap ts n (if b then a + 1 else a) w' :=
 (ltakes_mov x hB w h.rdr hb).mono fun _ _ hr=>⟨hr.1,ln_mov h hr.2⟩
def SlotIs (w0:World) (rb nb:Nat) (ao:Option Addr) (cap:Nat) (ts:List Tk) (x:Except Int (Ln × Nat)) (v:Value) (w':World):Prop :=
 match x with
 | .error x=>v = .int .i64 x ∧ (x == 0) = false ∧ ∃ m b,LnSt w0 rb nb ao cap ts m b w'
 | .ok (m,b)=>v = .int .i64 0 ∧ LnSt w0 rb nb ao cap ts m b w'
theorem slot_keep {x:Except Int (Ln × Nat)} {v:Value} {w w':World} (h:SlotIs w0 rb nb ao cap ts x v w) (hb:Below w.heap.size w w'):SlotIs w0 rb nb ao cap ts x v w':=by
 cases x with
 | error x =>
  obtain ⟨h1,h2,m,b,h3⟩:=h
  exact ⟨h1,h2,m,b,ln_keep h3 hb⟩
 | ok p=>exact ⟨h.1,ln_keep h.2 hb⟩
theorem piece_slot {x:Except Int (Ln × Nat)} {e:Ending} {w':World} (h:PieceIs w0 rb nb ao cap ts x e w'):∃ v,e = .returned v ∧ SlotIs w0 rb nb ao cap ts x v w':=by
 cases x with
 | error x=>exact ⟨_,h.1,rfl,h.2⟩
 | ok p=>exact ⟨_,h.1,rfl,h.2⟩
theorem slot_piece {x:Except Int (Ln × Nat)} {v:Value} {w':World} (h:SlotIs w0 rb nb ao cap ts x v w'):PieceIs w0 rb nb ao cap ts x (.returned v) w':=by
 cases x with
 | error x=>exact ⟨by rw [h.1],h.2⟩
 | ok p=>exact ⟨by rw [h.1],h.2⟩
set_option maxRecDepth 100000 in
set_option maxHeartbeats 8000000 in
theorem ltrans_any (hB:BaseL w0 ao ts) (w:World) (h:LnSt w0 rb nb ao cap ts n a w) (hc:n.cond = []) (hg:n.goes = []) (ht:n.thn = []) {x:Except Int (Ln × Nat)} (hx:transL ts n a = x) :
  Calls Tryz.prog 145 #[.pointer (some ⟨rb,0,none⟩),.pointer (some ⟨nb,0,none⟩)] w (PieceIs w0 rb nb ao cap ts x):=by
 have T:=Lib.hid (fun (t:ByteArray) m b bb wx (s:LnSt w0 rb nb ao cap ts m b wx) (hb:tkAt ts b t.data.toList = bb)=>ltakes_ln t hB wx s hb)
 have X:=Lib.hid (fun m b wx (s:LnSt w0 rb nb ao cap ts m b wx)=>lexpr_any (n:=m) (a:=b) hB wx s rfl)
 have Gs:=Lib.hid (fun m b wx (s:LnSt w0 rb nb ao cap ts m b wx) (hg:m.goes = [])=>ltargets_any (n:=m) (a:=b) hB wx s hg rfl)
 have A:=Lib.hid (fun m b wx (s:LnSt w0 rb nb ao cap ts m b wx)=>lacts11_any (n:=m) (a:=b) hB wx s rfl)
 obtain ⟨k0,nm,st,vk,vn,vs,ac,ev,co,gg,inn,th⟩:=n
 simp only at hc hg ht
 subst hc hg ht
 unfold transL at hx
 obtain ⟨x1,hx1⟩:∃ x,ifL ts a = x:=⟨_,rfl⟩
 rw [hx1] at hx
 have hS0:=Lib.hid h
 replace hx:=Lib.hid hx
 clear hB h
 obtain ⟨bi,hbi⟩:∃ b,tkAt ts a [105,102] = b:=⟨_,rfl⟩
 go_enter Tryz.func145,Tryz.ntmps145
 go_wp2_with fail
 refine (T.out ⟨#[105,102]⟩ _ a bi w hS0.out hbi).mono ?_
 intro e w1 hr
 obtain ⟨rfl,hS1⟩:=hr
 clear hS0
 go_upto_if 7 with (fail)
 go_cut [5] (fun v5 wx=>SlotIs w0 rb nb ao cap ts (withE (fun cs=>⟨k0,nm,st,vk,vn,vs,ac,ev,cs,[],inn,[]⟩) x1) v5 wx)
 case first =>
  unfold ifL at hx1
  rw [hbi] at hx1
  cases bi
  ·rw [if_neg (by decide)] at hx1
   subst hx1
   replace hS1:LnSt w0 rb nb ao cap ts ⟨k0,nm,st,vk,vn,vs,ac,ev,[],[],inn,[]⟩ a w1:=hS1
   replace hS1:=Lib.hid hS1
   clear hbi T X Gs A
   go_wp2_with fail
   go_meet
   exact slot_keep (show SlotIs w0 rb nb ao cap ts (.ok (⟨k0,nm,st,vk,vn,vs,ac,ev,[],[],inn,[]⟩,a)) (.int .i64 0) w1 from ⟨rfl,hS1.out⟩) (by (first | exact gwT | exact lzT))
  ·rw [if_pos rfl] at hx1
   replace hS1:LnSt w0 rb nb ao cap ts ⟨k0,nm,st,vk,vn,vs,ac,ev,[],[],inn,[]⟩ (a + 1) w1:=hS1
   have X1:=X.out _ _ _ hS1
   rw [hx1] at X1
   clear hbi T X Gs A hx1
   replace X1:=Lib.hid X1
   go_wp2_with fail
   refine X1.out.mono ?_
   intro e w2 hr
   obtain ⟨v,rfl,hs⟩:=piece_slot hr
   replace hs:=Lib.hid hs
   clear X1 hr
   go_wp2_with fail
   go_meet
   exact slot_keep hs.out (by (first | exact gwT | exact lzT))
 case rest =>
  clear hx1 hbi hS1 X
  rcases x1 with x1 | ⟨cs,a1⟩
  ·obtain ⟨rfl,hne,m,b,hS⟩:=hcut
   rename World=>wc
   have hx':=hx.out
   subst hx'
   have hne2:(x1 != 0) = true:=by rw [bne,hne];rfl
   replace hS:=Lib.hid hS
   clear T Gs A
   go_wp2
   go_returns
   exact ⟨rfl,hne,_,_,ln_keep hS.out (by (first | exact gwT | exact lzT))⟩
  ·obtain ⟨rfl,hS⟩:=hcut
   rename World=>wc
   simp only at hx
   obtain ⟨x2,hx2⟩:∃ x,goL ts a1 = x:=⟨_,rfl⟩
   rw [hx2] at hx
   obtain ⟨bg,hbg⟩:∃ b,tkAt ts a1 [103,111] = b:=⟨_,rfl⟩
   go_wp2_with fail
   refine (T.out ⟨#[103,111]⟩ _ a1 bg _ (ln_keep hS (by (first | exact gwT | exact lzT))) hbg).mono ?_
   intro e w1 hr
   obtain ⟨rfl,hS1⟩:=hr
   clear hS
   go_upto_if 19 with (fail)
   go_cut [5] (fun v5 wx=>SlotIs w0 rb nb ao cap ts (withE (fun gs=>⟨k0,nm,st,vk,vn,vs,ac,ev,cs,gs,inn,[]⟩) x2) v5 wx)
   case first =>
    unfold goL at hx2
    rw [hbg] at hx2
    cases bg
    ·rw [if_neg (by decide)] at hx2
     subst hx2
     replace hS1:LnSt w0 rb nb ao cap ts ⟨k0,nm,st,vk,vn,vs,ac,ev,cs,[],inn,[]⟩ a1 w1:=hS1
     replace hS1:=Lib.hid hS1
     clear hbg T Gs A
     go_wp2_with fail
     go_meet
     exact slot_keep (show SlotIs w0 rb nb ao cap ts (.ok (⟨k0,nm,st,vk,vn,vs,ac,ev,cs,[],inn,[]⟩,a1)) (.int .i64 0) w1 from ⟨rfl,hS1.out⟩) (by (first | exact gwT | exact lzT))
    ·rw [if_pos rfl] at hx2
     replace hS1:LnSt w0 rb nb ao cap ts ⟨k0,nm,st,vk,vn,vs,ac,ev,cs,[],inn,[]⟩ (a1 + 1) w1:=hS1
     have X1:=Gs.out _ _ _ hS1 rfl
     rw [hx2] at X1
     clear hbg T Gs A hx2
     replace X1:=Lib.hid X1
     go_wp2_with fail
     refine X1.out.mono ?_
     intro e w2 hr
     obtain ⟨v,rfl,hs⟩:=piece_slot hr
     replace hs:=Lib.hid hs
     clear X1 hr
     go_wp2_with fail
     go_meet
     exact slot_keep hs.out (by (first | exact gwT | exact lzT))
   case rest =>
    clear hx2 hbg hS1 Gs
    rcases x2 with x2 | ⟨gs,a2⟩
    ·obtain ⟨rfl,hne,m,b,hS⟩:=hcut
     rename World=>wd
     have hx':=hx.out
     subst hx'
     have hne2:(x2 != 0) = true:=by rw [bne,hne];rfl
     replace hS:=Lib.hid hS
     clear T A
     go_wp2
     go_returns
     exact ⟨rfl,hne,_,_,ln_keep hS.out (by (first | exact gwT | exact lzT))⟩
    ·obtain ⟨rfl,hS⟩:=hcut
     rename World=>wd
     simp only at hx
     obtain ⟨bn,hbn⟩:∃ b,innerL ts a2 = b:=⟨_,rfl⟩
     rw [hbn] at hx
     go_wp2_with fail
     refine (T.out ⟨#[105,110,110,101,114]⟩ _ a2 bn _ (ln_keep hS (by (first | exact gwT | exact lzT))) hbn).mono ?_
     intro e w3 hr
     obtain ⟨rfl,hS3⟩:=hr
     clear hS hbn
     obtain ⟨a3,ha3⟩:∃ b,(if bn = true then a2 + 1 else a2) = b:=⟨_,rfl⟩
     rw [ha3] at hx hS3
     obtain ⟨xo,xc,io,ic,go,gc,to',tc,hblk,hV,hnb,hfr,hcl⟩:=ln_cells hS3
     have c10:=hcl 10
     have f10:=hfr 10
     have i1:InW nb w3:=⟨hnb⟩
     have hS4:=Lib.hid (show LnSt w0 rb nb ao cap ts ⟨k0,nm,st,vk,vn,vs,ac,ev,cs,gs,bn,[]⟩ a3 (w3.setCell ⟨nb,10,none⟩ (.bool bn)) from ln_inner bn hS3)
     clear hblk hV hfr hcl hS3 ha3
     obtain ⟨x3,hx3⟩:∃ x,doL ts a3 = x:=⟨_,rfl⟩
     rw [hx3] at hx
     obtain ⟨bd,hbd⟩:∃ b,tkAt ts a3 [100,111] = b:=⟨_,rfl⟩
     go_wp2_with fail
     refine (T.out ⟨#[100,111]⟩ _ a3 bd _ (ln_keep hS4.out (by (first | exact gwT | exact lzT))) hbd).mono ?_
     intro e w5 hr
     obtain ⟨rfl,hS5⟩:=hr
     clear hS4 T c10 f10 i1
     unfold doL at hx3
     rw [hbd] at hx3
     cases bd
     ·rw [if_neg (by decide)] at hx3
      subst hx3
      have hx':=hx.out
      simp only at hx'
      subst hx'
      replace hS5:LnSt w0 rb nb ao cap ts ⟨k0,nm,st,vk,vn,vs,ac,ev,cs,gs,bn,[]⟩ a3 w5:=hS5
      replace hS5:=Lib.hid hS5
      clear A hbd hx
      go_wp2
      go_returns
      exact ⟨rfl,ln_keep hS5.out (by (first | exact gwT | exact lzT))⟩
     ·rw [if_pos rfl] at hx3
      replace hS5:LnSt w0 rb nb ao cap ts ⟨k0,nm,st,vk,vn,vs,ac,ev,cs,gs,bn,[]⟩ (a3 + 1) w5:=hS5
      have X1:=A.out _ _ _ hS5
      rw [hx3] at X1
      replace X1:=Lib.hid X1
      have hx':=hx.out
      clear A hbd hx3 hS5
      go_wp2_with fail
      refine X1.out.mono ?_
      intro e w6 hr
      obtain ⟨v,rfl,hs⟩:=piece_slot hr
      replace hs:=Lib.hid hs
      clear X1 hr
      go_wp2
      go_returns
      rw [← hx']
      have h6:=slot_piece (slot_keep hs.out (show Below w6.heap.size w6 _ by (first | exact gwT | exact lzT)))
      rcases x3 with x3 | ⟨th,b3⟩
      ·exact h6
      ·exact h6
end
end Go.Proofs.YtfgpmcepppcmiaaGreatDoor
