/- Several texts of this proof, joined: LE, LF, LG. -/
import Derived.Test.YtacnlghljmgdiaaGreatDoorP2
import Derived.WalkKit
import Derived.ProofKit
import Derived.OpenShut
import Derived.Handy
import Derived.BigQuiet
import Derived.Deep.RegionHeld3
import Derived.Lib.Hide
import Derived.WalkSmall
import Derived.WalkLawsBesides
import Derived.Test.YtacnlghljmgdiaaGreatDoorY9
import Derived.OwnWalk
import Derived.Deep.AppendLies
namespace Go.Proofs.YtacnlghljmgdiaaGreatDoor
open Go.RowKit
section
variable {w0:World} {rb nb:Nat} {ao:Option Addr} {cap:Nat} {ts:List Tk} {a:Nat} {n:Ln}
theorem y9y {s:List UInt8} (h:q5h ts a = some s):a < ts.length:=by
 unfold q5h at h
 rcases Nat.lt_or_ge a ts.length with h1 | h1
 ·exact h1
 ·rw [List.getElem?_eq_none h1] at h;cases h
def x3p (w0:World) (rb nb:Nat) (ao:Option Addr) (cap:Nat) (ts:List Tk) (n:Ln) (a:Nat) (o:Option (List UInt8)) (e:Ending) (w':World):Prop :=
 match o with
 | none=>e = .returned (.bool false) ∧ LnSt w0 rb nb ao cap ts n a w'
 | some s=>e = .returned (.bool true) ∧ LnSt w0 rb nb ao cap ts { n with event:=s } (a + 1) w'
set_option maxRecDepth 100000 in
set_option maxHeartbeats 4000000 in
theorem y5h (hB:BaseL w0 ao ts) (w:World) (h:LnSt w0 rb nb ao cap ts n a w) :
  Calls Tryz.prog 143 #[.pointer (some ⟨rb,0,none⟩),.pointer (some ⟨nb,0,none⟩)] w (x3p w0 rb nb ao cap ts n a (q5h ts a)):=by
 obtain ⟨k,num,p,s,hT⟩:=q0j ts a hB.short hB.ok
 have N:=fun wx (hb:Below w.heap.size w wx)=>z9t hB wx (z2e h.rdr hb)
 rw [hT.val] at N
 replace N:=hiT N
 have E:=hiT (fun wx (hb:Below w.heap.size w wx)=>j0m ⟨s.toArray⟩ (by rw [Lib.size_eq];simpa using hT.short) wx (z2o hB.al (h.rdr.env.trans (hb.mono h.rdr.env.size))).ax.lb)
 simp only at E
 have hl:=fun s'=>y9y (ts:=ts) (a:=a) (s:=s')
 rw [hT.event] at hl ⊢
 obtain ⟨st,hst⟩:∃ b,((k == 1 || k == 5) && s == [42]) = b:=⟨_,rfl⟩
 have I:=fun g wx hc=>hiT (q1y k ⟨s.toArray⟩ num p ⟨#[42]⟩ st (by rw [← hst]) g wx hc)
 replace I:=hiT I
 rw [hst] at hl ⊢
 obtain ⟨c0,c1,htb,f1⟩:=z2m h.rdr
 obtain ⟨xo,xc,io,ic,go,gc,to',tc,hblk,hV,hnb,hfr,hcl⟩:=z3a h
 have c7:=hcl 7
 have f7:=hfr 7
 have n1:¬ rb = nb:=h.ne
 have n2:¬ nb = rb:=fun e=>h.ne e.symm
 have hfew:=hB.few
 have hle:=h.rdr.le
 have i1:InW rb w:=⟨htb⟩
 have i2:InW nb w:=⟨hnb⟩
 have hS:=hiT h
 have hev:=hiT (y2n s h)
 have hmv:=hiT (fun (hlt:a < ts.length)=>(show LnSt w0 rb nb ao cap ts { n with event:=s } (a + 1) ((w.setCell ⟨nb,7,none⟩ (.string ⟨s.toArray⟩)).setCell ⟨rb,1,none⟩ (.int .i64 ((a:Int) + 1))) from j3n (y2n s h) hlt (Below.refl _ _)))
 clear hT h hB hst hV hblk hfr hcl
 generalize z9u true s = m at *
 have hq:=hiT (rfl:(⟨s.toArray⟩:ByteArray) = ⟨s.toArray⟩)
 by_cases h1:k = 1
 ·subst h1
  cases m
  ·cases st
   ·clear hl hmv hev
    rw [if_neg deT]
    go_enter Tryz.func143,Tryz.ntmps143
    go_wp2_with (first | ((with_reducible refine (N.out _ gzT).mono ?_);intro e w1 hr;obtain ⟨rfl,p,rfl⟩:=hr.out;clear hr) | ((with_reducible refine ((E.out _ gzT)).mono ?_);intro e w1 hr;obtain ⟨rfl,p,rfl⟩:=hr.out;clear hr) | ((with_reducible refine ((I.out _ _ (by simp [go_sem])).out).mono ?_);intro e w1 hr;obtain ⟨rfl,p,rfl⟩:=hr.out;clear hr))
    go_returns
    exact ⟨rfl,z0y hS.out gzT⟩
   ·have hlt:=hl s rfl
    have hm:=hiT (hmv.out hlt)
    clear hl hmv hev
    rw [if_pos deT]
    go_enter Tryz.func143,Tryz.ntmps143
    go_wp2_with (first | ((with_reducible refine (N.out _ gzT).mono ?_);intro e w1 hr;obtain ⟨rfl,p,rfl⟩:=hr.out;clear hr) | ((with_reducible refine ((E.out _ gzT)).mono ?_);intro e w1 hr;obtain ⟨rfl,p,rfl⟩:=hr.out;clear hr) | ((with_reducible refine ((I.out _ _ (by simp [go_sem])).out).mono ?_);intro e w1 hr;obtain ⟨rfl,p,rfl⟩:=hr.out;clear hr))
    go_returns
    exact ⟨rfl,z0y hm.out gzT⟩
  ·have hlt:=hl s rfl
   have hm:=hiT (hmv.out hlt)
   clear hl hmv hev
   rw [if_pos (by rfl)]
   go_enter Tryz.func143,Tryz.ntmps143
   go_wp2_with (first | ((with_reducible refine (N.out _ gzT).mono ?_);intro e w1 hr;obtain ⟨rfl,p,rfl⟩:=hr.out;clear hr) | ((with_reducible refine ((E.out _ gzT)).mono ?_);intro e w1 hr;obtain ⟨rfl,p,rfl⟩:=hr.out;clear hr) | ((with_reducible refine ((I.out _ _ (by simp [go_sem])).out).mono ?_);intro e w1 hr;obtain ⟨rfl,p,rfl⟩:=hr.out;clear hr))
   go_returns
   exact ⟨rfl,z0y hm.out gzT⟩
 ·by_cases h2:k = 2
  ·subst h2
   cases m
   ·cases st
    ·clear hl hmv hev
     rw [if_neg deT]
     go_enter Tryz.func143,Tryz.ntmps143
     go_wp2_with (first | ((with_reducible refine (N.out _ gzT).mono ?_);intro e w1 hr;obtain ⟨rfl,p,rfl⟩:=hr.out;clear hr) | ((with_reducible refine ((E.out _ gzT)).mono ?_);intro e w1 hr;obtain ⟨rfl,p,rfl⟩:=hr.out;clear hr) | ((with_reducible refine ((I.out _ _ (by simp [go_sem])).out).mono ?_);intro e w1 hr;obtain ⟨rfl,p,rfl⟩:=hr.out;clear hr))
     go_returns
     exact ⟨rfl,z0y hS.out gzT⟩
    ·have hlt:=hl s rfl
     have hm:=hiT (hmv.out hlt)
     clear hl hmv hev
     rw [if_pos deT]
     go_enter Tryz.func143,Tryz.ntmps143
     go_wp2_with (first | ((with_reducible refine (N.out _ gzT).mono ?_);intro e w1 hr;obtain ⟨rfl,p,rfl⟩:=hr.out;clear hr) | ((with_reducible refine ((E.out _ gzT)).mono ?_);intro e w1 hr;obtain ⟨rfl,p,rfl⟩:=hr.out;clear hr) | ((with_reducible refine ((I.out _ _ (by simp [go_sem])).out).mono ?_);intro e w1 hr;obtain ⟨rfl,p,rfl⟩:=hr.out;clear hr))
     go_returns
     exact ⟨rfl,z0y hm.out gzT⟩
   ·have hlt:=hl s rfl
    have hm:=hiT (hmv.out hlt)
    clear hl hmv hev
    rw [if_pos (by rfl)]
    go_enter Tryz.func143,Tryz.ntmps143
    go_wp2_with (first | ((with_reducible refine (N.out _ gzT).mono ?_);intro e w1 hr;obtain ⟨rfl,p,rfl⟩:=hr.out;clear hr) | ((with_reducible refine ((E.out _ gzT)).mono ?_);intro e w1 hr;obtain ⟨rfl,p,rfl⟩:=hr.out;clear hr) | ((with_reducible refine ((I.out _ _ (by simp [go_sem])).out).mono ?_);intro e w1 hr;obtain ⟨rfl,p,rfl⟩:=hr.out;clear hr))
    go_returns
    exact ⟨rfl,z0y hm.out gzT⟩
  ·have e1:(k == 1) = false:=beq_eq_false_iff_ne.2 h1
   have e2:(k == 2) = false:=beq_eq_false_iff_ne.2 h2
   rw [e1,e2] at hl ⊢
   rw [Bool.or_self,Bool.false_and,Bool.false_or] at hl ⊢
   clear h1 h2 E
   cases st
   ·clear hl hmv hev
    rw [if_neg deT]
    go_enter Tryz.func143,Tryz.ntmps143
    go_wp2_with (first | ((with_reducible refine (N.out _ gzT).mono ?_);intro e w1 hr;obtain ⟨rfl,p,rfl⟩:=hr.out;clear hr) | ((with_reducible refine ((I.out _ _ (by simp [go_sem])).out).mono ?_);intro e w1 hr;obtain ⟨rfl,p,rfl⟩:=hr.out;clear hr))
    go_returns
    exact ⟨rfl,z0y hS.out gzT⟩
   ·have hlt:=hl s rfl
    have hm:=hiT (hmv.out hlt)
    clear hl hmv hev
    rw [if_pos rfl]
    go_enter Tryz.func143,Tryz.ntmps143
    go_wp2_with (first | ((with_reducible refine (N.out _ gzT).mono ?_);intro e w1 hr;obtain ⟨rfl,p,rfl⟩:=hr.out;clear hr) | ((with_reducible refine ((I.out _ _ (by simp [go_sem])).out).mono ?_);intro e w1 hr;obtain ⟨rfl,p,rfl⟩:=hr.out;clear hr))
    go_returns
    exact ⟨rfl,z0y hm.out gzT⟩
def z9l (w0:World) (rb nb:Nat) (ao:Option Addr) (cap:Nat) (ts:List Tk) (x:Except Int (Ln × Nat)) (e:Ending) (w':World):Prop :=
 match x with
 | .error x=>e = .returned (.int .i64 x) ∧ (x == 0) = false ∧ ∃ m b,LnSt w0 rb nb ao cap ts m b w'
 | .ok (m,b)=>e = .returned (.int .i64 0) ∧ LnSt w0 rb nb ao cap ts m b w'
def y1k {α:Type} (f:α → Ln):Except Int (α × Nat) → Except Int (Ln × Nat)
 | .error x => .error x
 | .ok (c,b) => .ok (f c,b)
set_option maxRecDepth 100000 in
set_option maxHeartbeats 4000000 in
theorem k1j (hB:BaseL w0 ao ts) (w:World) (h:LnSt w0 rb nb ao cap ts n a w) {x:Except Int (List Nd × Nat)} (hx:z3f ts (a:Int) = x) :
  Calls Tryz.prog 178 #[.pointer (some ⟨rb,0,none⟩),.pointer (some ⟨nb,8,none⟩)] w (z9l w0 rb nb ao cap ts (y1k (fun cs=>{ n with cond:=cs }) x)):=by
 obtain ⟨c0,c1,htb,f1⟩:=z2m h.rdr
 obtain ⟨xo,xc,io,ic,go,gc,to',tc,hblk,hV,hnb,hfr,hcl⟩:=z3a h
 have c8:=hcl 8
 have f8:=hfr 8
 have n1:¬ rb = nb:=h.ne
 have n2:¬ nb = rb:=fun e=>h.ne e.symm
 have hz:=h.rdr.env.size
 have hP:=hiT (fun wx (hb:Below w.heap.size w wx)=>j2q ao cap ts (a:Int) hB.few wx (z4g (z4g hB.sl h.rdr.env) hb) (z2o (z2o hB.al h.rdr.env) hb).ax.eg)
 have i1:InW rb w:=⟨htb⟩
 have i2:InW nb w:=⟨hnb⟩
 have hS:=hiT h
 clear h hB hV hblk hfr hcl
 rcases x with x | ⟨ns,b⟩
 ·rw [hx] at hP
  have hnz:=z6v hx
  have hnz2:(x == 0) = false:=by
   rw [bne,Bool.not_eq_true'] at hnz
   exact hnz
  clear hx
  go_enter Tryz.func178,Tryz.ntmps178
  go_wp2_with fail
  go_region_held3 (fun w'=>w'.cell? ⟨rb,0,none⟩ = some (.slice ao ts.length cap) ∧ w'.cell? ⟨rb,1,none⟩ = some (.int .i64 (a:Int))) ((refine ⟨?_,?_⟩ <;> first | assumption | (rw [z1f];assumption) | (simp [go_sem, *];done))) (first | ((with_reducible refine (hP.out _ gzT).mono ?_);intro e w1 hr;obtain ⟨rfl,hb⟩:=hr;obtain ⟨p1,rfl⟩:=toG hb;clear hb))
  go_wp2
  go_returns
  exact ⟨rfl,hnz2,_,_,z0y hS.out gzT⟩
 ·rw [hx] at hP
  have hb:=(z6u hx).1
  clear hx
  go_enter Tryz.func178,Tryz.ntmps178
  go_wp2_with fail
  go_region_held3 (fun w'=>w'.cell? ⟨rb,0,none⟩ = some (.slice ao ts.length cap) ∧ w'.cell? ⟨rb,1,none⟩ = some (.int .i64 (a:Int))) ((refine ⟨?_,?_⟩ <;> first | assumption | (rw [z1f];assumption) | (simp [go_sem, *];done))) (first | ((with_reducible refine (hP.out _ gzT).mono ?_);intro e w1 hr;obtain ⟨v,rfl,hown,hb⟩:=hr;obtain ⟨na,nc,hv⟩:=z0g hown;subst hv;obtain ⟨p1,rfl⟩:=toG hb;clear hb;(try simp only [z5j] at hown)))
  have hS1:=z0y hS.out (show Below w.heap.size w (G p1 w) from gzT)
  have hm:=hiT (j3n (v4z ns (z0m hown hz) hS1) hb (Below.refl _ _))
  rw [z2n _ _ _ _ _ hnb,z2n _ _ _ _ _ (by rw [z1w];exact htb)] at hm
  clear hP hown hS1 hS
  go_wp2
  go_returns
  exact ⟨rfl,z0y hm.out gzT⟩
end
theorem y3o:∀ (f:Nat) {ts:List Tk} {a:Nat} {cs:List Ac} {b:Nat},z7t f ts a = .ok (cs,b) → b ≤ ts.length
 | 0,_,_,_,_,h=>by cases h
 | f + 1,ts,a,cs,b,h=>by
  rw [z7t] at h
  split at h
  ·cases h
  ·rename_i h1
   split at h
   ·split at h
    ·cases h
    ·rename_i h2
     cases h
     exact y3o f h2
   ·cases h
    exact y0b h1
theorem y3n:∀ (f:Nat) {ts:List Tk} {a:Nat} {x:Int},z7t f ts a = .error x → (x == 0) = false
 | 0,_,_,_,h=>by cases h;rfl
 | f + 1,ts,a,x,h=>by
  rw [z7t] at h
  split at h
  ·rename_i h1
   cases h
   have:=k2c h1
   rw [bne,Bool.not_eq_true'] at this
   exact this
  ·split at h
   ·split at h
    ·rename_i h2
     cases h
     exact y3n f h2
    ·cases h
   ·cases h
theorem y3q {ts:List Tk} {a:Int} {cs:List Ac} {b:Nat} (h:z9a ts a = .ok (cs,b)):b ≤ ts.length:=by
 unfold z9a at h
 split at h
 ·cases h
 ·exact y3o 8 h
theorem y3r {ts:List Tk} {a:Int} {x:Int} (h:z9a ts a = .error x):(x == 0) = false:=by
 unfold z9a at h
 split at h
 ·cases h;rfl
 ·exact y3n 8 h
section
variable {w0:World} {rb nb:Nat} {ao:Option Addr} {cap:Nat} {ts:List Tk} {a:Nat} {n:Ln}
set_option maxRecDepth 100000 in
set_option maxHeartbeats 4000000 in
theorem y5f (hB:BaseL w0 ao ts) (w:World) (h:LnSt w0 rb nb ao cap ts n a w) {x:Except Int (List Ac × Nat)} (hx:z9a ts (a:Int) = x) :
  Calls Tryz.prog 142 #[.pointer (some ⟨rb,0,none⟩),.pointer (some ⟨nb,6,none⟩)] w (z9l w0 rb nb ao cap ts (y1k (fun cs=>{ n with acts:=cs }) x)):=by
 obtain ⟨c0,c1,htb,f1⟩:=z2m h.rdr
 obtain ⟨xo,xc,io,ic,go,gc,to',tc,hblk,hV,hnb,hfr,hcl⟩:=z3a h
 have c8:=hcl 6
 have f8:=hfr 6
 have n1:¬ rb = nb:=h.ne
 have n2:¬ nb = rb:=fun e=>h.ne e.symm
 have hz:=h.rdr.env.size
 have hP:=hiT (fun wx (hb:Below w.heap.size w wx)=>j5o ao cap ts (a:Int) wx ⟨(z2o (z2o hB.al h.rdr.env) hb).ax,z4g (z4g hB.sl h.rdr.env) hb,hB.few,hB.short⟩)
 have i1:InW rb w:=⟨htb⟩
 have i2:InW nb w:=⟨hnb⟩
 have hS:=hiT h
 clear h hB hV hblk hfr hcl
 rcases x with x | ⟨cs,b⟩
 ·rw [hx] at hP
  have hnz2:=y3r hx
  clear hx
  go_enter Tryz.func142,Tryz.ntmps142
  go_wp2_with fail
  go_region_held3 (fun w'=>w'.cell? ⟨rb,0,none⟩ = some (.slice ao ts.length cap) ∧ w'.cell? ⟨rb,1,none⟩ = some (.int .i64 (a:Int))) ((refine ⟨?_,?_⟩ <;> first | assumption | (rw [z1f];assumption) | (simp [go_sem, *];done))) (first | ((with_reducible refine (hP.out _ gzT).mono ?_);intro e w1 hr;obtain ⟨rfl,hb⟩:=hr;obtain ⟨p1,rfl⟩:=toG hb;clear hb))
  go_wp2
  go_returns
  exact ⟨rfl,hnz2,_,_,z0y hS.out gzT⟩
 ·rw [hx] at hP
  have hb:=y3q hx
  clear hx
  go_enter Tryz.func142,Tryz.ntmps142
  go_wp2_with fail
  go_region_held3 (fun w'=>w'.cell? ⟨rb,0,none⟩ = some (.slice ao ts.length cap) ∧ w'.cell? ⟨rb,1,none⟩ = some (.int .i64 (a:Int))) ((refine ⟨?_,?_⟩ <;> first | assumption | (rw [z1f];assumption) | (simp [go_sem, *];done))) (first | ((with_reducible refine (hP.out _ gzT).mono ?_);intro e w1 hr;obtain ⟨v,rfl,hown,hb⟩:=hr;obtain ⟨na,nc,hv⟩:=z0g hown.choose_spec.2;subst hv;obtain ⟨p1,rfl⟩:=toG hb;clear hb;(try simp only [z5j] at hown)))
  have hS1:=z0y hS.out (show Below w.heap.size w (G p1 w) from gzT)
  have hm:=hiT (j3n (v4y cs (z6c hown hz) hS1) hb (Below.refl _ _))
  rw [z2n _ _ _ _ _ hnb,z2n _ _ _ _ _ (by rw [z1w];exact htb)] at hm
  clear hP hown hS1 hS
  go_wp2
  go_returns
  exact ⟨rfl,z0y hm.out gzT⟩
set_option maxRecDepth 100000 in
set_option maxHeartbeats 4000000 in
theorem j9s (hB:BaseL w0 ao ts) (w:World) (h:LnSt w0 rb nb ao cap ts n a w) {x:Except Int (List Ac × Nat)} (hx:z9a ts (a:Int) = x) :
  Calls Tryz.prog 142 #[.pointer (some ⟨rb,0,none⟩),.pointer (some ⟨nb,11,none⟩)] w (z9l w0 rb nb ao cap ts (y1k (fun cs=>{ n with thn:=cs }) x)):=by
 obtain ⟨c0,c1,htb,f1⟩:=z2m h.rdr
 obtain ⟨xo,xc,io,ic,go,gc,to',tc,hblk,hV,hnb,hfr,hcl⟩:=z3a h
 have c8:=hcl 11
 have f8:=hfr 11
 have n1:¬ rb = nb:=h.ne
 have n2:¬ nb = rb:=fun e=>h.ne e.symm
 have hz:=h.rdr.env.size
 have hP:=hiT (fun wx (hb:Below w.heap.size w wx)=>j5o ao cap ts (a:Int) wx ⟨(z2o (z2o hB.al h.rdr.env) hb).ax,z4g (z4g hB.sl h.rdr.env) hb,hB.few,hB.short⟩)
 have i1:InW rb w:=⟨htb⟩
 have i2:InW nb w:=⟨hnb⟩
 have hS:=hiT h
 clear h hB hV hblk hfr hcl
 rcases x with x | ⟨cs,b⟩
 ·rw [hx] at hP
  have hnz2:=y3r hx
  clear hx
  go_enter Tryz.func142,Tryz.ntmps142
  go_wp2_with fail
  go_region_held3 (fun w'=>w'.cell? ⟨rb,0,none⟩ = some (.slice ao ts.length cap) ∧ w'.cell? ⟨rb,1,none⟩ = some (.int .i64 (a:Int))) ((refine ⟨?_,?_⟩ <;> first | assumption | (rw [z1f];assumption) | (simp [go_sem, *];done))) (first | ((with_reducible refine (hP.out _ gzT).mono ?_);intro e w1 hr;obtain ⟨rfl,hb⟩:=hr;obtain ⟨p1,rfl⟩:=toG hb;clear hb))
  go_wp2
  go_returns
  exact ⟨rfl,hnz2,_,_,z0y hS.out gzT⟩
 ·rw [hx] at hP
  have hb:=y3q hx
  clear hx
  go_enter Tryz.func142,Tryz.ntmps142
  go_wp2_with fail
  go_region_held3 (fun w'=>w'.cell? ⟨rb,0,none⟩ = some (.slice ao ts.length cap) ∧ w'.cell? ⟨rb,1,none⟩ = some (.int .i64 (a:Int))) ((refine ⟨?_,?_⟩ <;> first | assumption | (rw [z1f];assumption) | (simp [go_sem, *];done))) (first | ((with_reducible refine (hP.out _ gzT).mono ?_);intro e w1 hr;obtain ⟨v,rfl,hown,hb⟩:=hr;obtain ⟨na,nc,hv⟩:=z0g hown.choose_spec.2;subst hv;obtain ⟨p1,rfl⟩:=toG hb;clear hb;(try simp only [z5j] at hown)))
  have hS1:=z0y hS.out (show Below w.heap.size w (G p1 w) from gzT)
  have hm:=hiT (j3n (v8v cs (z6c hown hz) hS1) hb (Below.refl _ _))
  rw [z2n _ _ _ _ _ hnb,z2n _ _ _ _ _ (by rw [z1w];exact htb)] at hm
  clear hP hown hS1 hS
  go_wp2
  go_returns
  exact ⟨rfl,z0y hm.out gzT⟩
def x1y (w:World) (rb:Nat):Nat :=
 match w.cell? ⟨rb,1,none⟩ with
 | some (.int _ a)=>a.toNat
 | _=>0
theorem y8z {w:World} (h:RdrAt w0 rb ao cap ts a w):x1y w rb = a:=by
 unfold x1y
 rw [(z2m h).2.1]
 rfl
theorem y4u {f:Nat} {gs:List (List UInt8)} (h:z2b ts a = none):q2z ts f gs a = if gs.length = 0 then .error 11 else .ok (gs,a):=by
 cases f <;> rw [q2z,h]
theorem y4s {gs:List (List UInt8)} {s:List UInt8} (h:z2b ts a = some s):q2z ts 0 gs a = .error 13:=by rw [q2z,h]
theorem y4t {f:Nat} {gs:List (List UInt8)} {s:List UInt8} (h:z2b ts a = some s):q2z ts (f + 1) gs a = q2z ts f (gs ++ [s]) (a + 1):=by rw [q2z,h]
set_option maxRecDepth 100000 in
set_option maxHeartbeats 8000000 in
theorem j6l (hB:BaseL w0 ao ts) (w:World) (h:LnSt w0 rb nb ao cap ts n a w) (hg:n.goes = []) {x:Except Int (List (List UInt8) × Nat)} (hx:q2z ts 4 [] a = x) :
  Calls Tryz.prog 179 #[.pointer (some ⟨rb,0,none⟩),.pointer (some ⟨nb,9,none⟩)] w (z9l w0 rb nb ao cap ts (y1k (fun gs=>{ n with goes:=gs }) x)):=by
 have hS0:=hiT (show LnSt w0 rb nb ao cap ts { n with goes:=[] } a w from by rw [← hg];exact h)
 have N:=hiT (fun (b:Nat) o wx (hb:RdrAt w0 rb ao cap ts b wx) (ho:z2b ts b = o)=>j6j hB wx hb ho)
 obtain ⟨i0,hi0,hz1,hz2,hz3⟩:=info_parts Tryz.infoStr
 replace hx:=hiT hx
 have hfew:=hB.few
 have hsz:=h.rdr.env.size
 clear h hB hg
 go_enter Tryz.func179,Tryz.ntmps179
 go_wp2
 go_loopw [5] (fun _ wr=>∃ (gs:List (List UInt8)) (b:Nat),LnSt w0 rb nb ao cap ts { n with goes:=gs } b wr ∧ gs.length ≤ 4 ∧ x = q2z ts (4 - gs.length) gs b) (fun _ wr=>ts.length - x1y wr rb)
 case atStart=>exact ⟨[],a,hS0.out,by decide,hx.out.symm⟩
 case round =>
  obtain ⟨gs,b,hS,h4,hX⟩:=hrel
  rename World=>wr
  clear hS0 hx
  replace hX:=hiT hX
  have hat:=y8z hS.rdr
  have hle:=hS.rdr.le
  rcases ho:z2b ts b with _ | s
  ·have hX2:=hX.out
   rw [y4u ho] at hX2
   go_wp2_with fail
   refine (N.out b _ wr hS.rdr ho).mono ?_
   intro e w1 hr
   obtain ⟨rfl,hM⟩:=hr
   have hS1:=j1h hS (show z8q w0 rb ao cap ts b wr w1 from hM)
   clear hM hS N ho hX hat
   obtain ⟨xo,xc,io,ic,go,gc,to',tc,hblk,hV,hnb,hfr,hcl⟩:=z3a hS1
   have c9:w1.cell? ⟨nb,9,none⟩ = some (.slice go gs.length gc):=hcl 9
   have i1:InW nb w1:=⟨hnb⟩
   replace hS1:=hiT hS1
   clear hblk hV hfr hcl
   dsimp only
   by_cases h0:gs.length = 0
   ·rw [if_pos h0] at hX2
    rw [h0] at c9
    replace hX2:=hiT hX2
    clear h0 h4
    go_wp2
    go_returns
    rw [hX2.out]
    exact ⟨rfl,rfl,_,_,z0y hS1.out gzT⟩
   ·rw [if_neg h0] at hX2
    have h0b:((gs.length:Int) == 0) = false:=beq_eq_false_iff_ne.2 omT
    replace hX2:=hiT hX2
    clear h0
    go_wp2
    go_returns
    rw [hX2.out]
    exact ⟨rfl,z0y hS1.out gzT⟩
  ·have hX2:=hX.out
   have hlt:=q3i ho
   go_wp2_with fail
   refine (N.out b _ wr hS.rdr ho).mono ?_
   intro e w1 hr
   obtain ⟨rfl,hM⟩:=hr
   have hS1:=j1h hS (show z8q w0 rb ao cap ts (b + 1) wr w1 from hM)
   clear hM hS hX
   obtain ⟨xo,xc,io,ic,go,gc,to',tc,hblk,hV,hnb,hfr,hcl⟩:=z3a hS1
   have c9:w1.cell? ⟨nb,9,none⟩ = some (.slice go gs.length gc):=hcl 9
   have f9:=hfr 9
   have i1:InW nb w1:=⟨hnb⟩
   have hz:=hS1.rdr.env.size
   replace hS1:=hiT hS1
   have hk:=hiT hV.goes
   clear hV hfr hcl
   dsimp only
   by_cases h44:gs.length = 4
   ·rw [h44,Nat.sub_self,y4s ho] at hX2
    have hd:((gs.length:Int) == 4) = true:=by rw [beq_iff_eq];omega
    replace hX2:=hiT hX2
    clear ho h44 N hblk
    go_wp2
    go_returns
    rw [hX2.out]
    exact ⟨rfl,rfl,_,_,z0y hS1.out gzT⟩
   ·obtain ⟨f,hf⟩:∃ f,4 - gs.length = f + 1:=⟨3 - gs.length,by omega⟩
    rw [hf,y4t ho] at hX2
    have hd:((gs.length:Int) == 4) = false:=beq_eq_false_iff_ne.2 omT
    replace hX2:=hiT hX2
    clear ho N
    go_wp2_with (at_builtin;refine wpList_append_lies _ rfl _ _ 38 rfl w0.heap.size 9 i0 _ 1 16 Tryz.underlying38 hi0 hz1 hz2 hz3 rfl deT (.slice go gs.length gc) gs.length (z6a gs) rfl (z0a hk.out gzT) ⟨_,0,none⟩ 1 1 [str s] rfl rfl (World.news_of_block (z0s (by simp))) (by intro u hu;simp at hu;subst hu;rfl) deT (by unfold maxLen;omega) omT (by simp [go_sem];omega) _ rfl ?_)
    intro g' cap' w2 hown1 hgrow hat1 hg1
    have hbW:Below w1.heap.size w1 (w1.alloc (.cells #[str s] 9 (0,0))):=gzT
    have hfin:=hiT (k7t (z0y hS1.out hbW) (z0a hk.out hbW) hgrow hown1)
    have hb2:=z0h (z0a hk.out hbW) (z0c hblk hbW) deT hgrow
    have f92:w2.frozen? ⟨nb,9,none⟩ = false:=frozen_of_row w2 nb 9 _ _ hb2
    have c92:=cell_of_row w2 nb 9 _ _ _ hb2
    have i2:InW nb w2:=⟨lt_of_block hb2⟩
    clear hS1 hk hbW hown1 hgrow hat1 hg1 hblk hb2 c9 f9 i1
    go_wp2_with fail
    go_roundw
    case rel =>
     refine ⟨gs ++ [s],b + 1,hfin.out,by simp;omega,?_⟩
     rw [hX2.out,List.length_append,List.length_singleton,show 4 - (gs.length + 1) = f by omega]
    case measure =>
     have:=y8z hfin.out.rdr
     rw [hat]
     simp only [go_sem] at this ⊢
     rw [this]
     omega
end
section
variable {w0:World} {rb nb:Nat} {ao:Option Addr} {cap:Nat} {ts:List Tk} {a:Nat} {n:Ln}
theorem k1r (x:ByteArray) (hB:BaseL w0 ao ts) (w:World) (h:LnSt w0 rb nb ao cap ts n a w) {b:Bool} (hb:z2t ts a x.data.toList = b) :
  Calls Tryz.prog 141 #[.pointer (some ⟨rb,0,none⟩),.string x] w fun e w'=>e = .returned (.bool b) ∧ LnSt w0 rb nb ao cap ts n (if b then a + 1 else a) w' :=
 (q0w x hB w h.rdr hb).mono fun _ _ hr=>⟨hr.1,j1h h hr.2⟩
def q5b (w0:World) (rb nb:Nat) (ao:Option Addr) (cap:Nat) (ts:List Tk) (x:Except Int (Ln × Nat)) (v:Value) (w':World):Prop :=
 match x with
 | .error x=>v = .int .i64 x ∧ (x == 0) = false ∧ ∃ m b,LnSt w0 rb nb ao cap ts m b w'
 | .ok (m,b)=>v = .int .i64 0 ∧ LnSt w0 rb nb ao cap ts m b w'
theorem z5p {x:Except Int (Ln × Nat)} {v:Value} {w w':World} (h:q5b w0 rb nb ao cap ts x v w) (hb:Below w.heap.size w w'):q5b w0 rb nb ao cap ts x v w':=by
 cases x with
 | error x =>
  obtain ⟨h1,h2,m,b,h3⟩:=h
  exact ⟨h1,h2,m,b,z0y h3 hb⟩
 | ok p=>exact ⟨h.1,z0y h.2 hb⟩
theorem z6i {x:Except Int (Ln × Nat)} {e:Ending} {w':World} (h:z9l w0 rb nb ao cap ts x e w'):∃ v,e = .returned v ∧ q5b w0 rb nb ao cap ts x v w':=by
 cases x with
 | error x=>exact ⟨_,h.1,rfl,h.2⟩
 | ok p=>exact ⟨_,h.1,rfl,h.2⟩
theorem q0x {x:Except Int (Ln × Nat)} {v:Value} {w':World} (h:q5b w0 rb nb ao cap ts x v w'):z9l w0 rb nb ao cap ts x (.returned v) w':=by
 cases x with
 | error x=>exact ⟨by rw [h.1],h.2⟩
 | ok p=>exact ⟨by rw [h.1],h.2⟩
set_option maxRecDepth 100000 in
set_option maxHeartbeats 8000000 in
theorem j1i (hB:BaseL w0 ao ts) (w:World) (h:LnSt w0 rb nb ao cap ts n a w) (hc:n.cond = []) (hg:n.goes = []) (ht:n.thn = []) {x:Except Int (Ln × Nat)} (hx:q1v ts n a = x) :
  Calls Tryz.prog 144 #[.pointer (some ⟨rb,0,none⟩),.pointer (some ⟨nb,0,none⟩)] w (z9l w0 rb nb ao cap ts x):=by
 have T:=hiT (fun (t:ByteArray) m b bb wx (s:LnSt w0 rb nb ao cap ts m b wx) (hb:z2t ts b t.data.toList = bb)=>k1r t hB wx s hb)
 have X:=hiT (fun m b wx (s:LnSt w0 rb nb ao cap ts m b wx)=>k1j (n:=m) (a:=b) hB wx s rfl)
 have Gs:=hiT (fun m b wx (s:LnSt w0 rb nb ao cap ts m b wx) (hg:m.goes = [])=>j6l (n:=m) (a:=b) hB wx s hg rfl)
 have A:=hiT (fun m b wx (s:LnSt w0 rb nb ao cap ts m b wx)=>j9s (n:=m) (a:=b) hB wx s rfl)
 obtain ⟨k0,nm,st,vk,vn,vs,ac,ev,co,gg,inn,th⟩:=n
 simp only at hc hg ht
 subst hc hg ht
 unfold q1v at hx
 obtain ⟨x1,hx1⟩:∃ x,ifL ts a = x:=⟨_,rfl⟩
 rw [hx1] at hx
 have hS0:=hiT h
 replace hx:=hiT hx
 clear hB h
 obtain ⟨bi,hbi⟩:∃ b,z2t ts a [105,102] = b:=⟨_,rfl⟩
 go_enter Tryz.func144,Tryz.ntmps144
 go_wp2_with fail
 refine (T.out ⟨#[105,102]⟩ _ a bi w hS0.out hbi).mono ?_
 intro e w1 hr
 obtain ⟨rfl,hS1⟩:=hr
 clear hS0
 go_upto_if 7 with (fail)
 go_cut [5] (fun v5 wx=>q5b w0 rb nb ao cap ts (y1k (fun cs=>⟨k0,nm,st,vk,vn,vs,ac,ev,cs,[],inn,[]⟩) x1) v5 wx)
 case first =>
  unfold ifL at hx1
  rw [hbi] at hx1
  cases bi
  ·rw [if_neg deT] at hx1
   subst hx1
   replace hS1:LnSt w0 rb nb ao cap ts ⟨k0,nm,st,vk,vn,vs,ac,ev,[],[],inn,[]⟩ a w1:=hS1
   replace hS1:=hiT hS1
   clear hbi T X Gs A
   go_wp2_with fail
   go_meet
   exact z5p (show q5b w0 rb nb ao cap ts (.ok (⟨k0,nm,st,vk,vn,vs,ac,ev,[],[],inn,[]⟩,a)) (.int .i64 0) w1 from ⟨rfl,hS1.out⟩) gzT
  ·rw [if_pos rfl] at hx1
   replace hS1:LnSt w0 rb nb ao cap ts ⟨k0,nm,st,vk,vn,vs,ac,ev,[],[],inn,[]⟩ (a + 1) w1:=hS1
   have X1:=X.out _ _ _ hS1
   rw [hx1] at X1
   clear hbi T X Gs A hx1
   replace X1:=hiT X1
   go_wp2_with fail
   refine X1.out.mono ?_
   intro e w2 hr
   obtain ⟨v,rfl,hs⟩:=z6i hr
   replace hs:=hiT hs
   clear X1 hr
   go_wp2_with fail
   go_meet
   exact z5p hs.out gzT
 case rest =>
  clear hx1 hbi hS1 X
  rcases x1 with x1 | ⟨cs,a1⟩
  ·obtain ⟨rfl,hne,m,b,hS⟩:=hcut
   rename World=>wc
   have hx':=hx.out
   subst hx'
   have hne2:(x1 != 0) = true:=by rw [bne,hne];rfl
   replace hS:=hiT hS
   clear T Gs A
   go_wp2
   go_returns
   exact ⟨rfl,hne,_,_,z0y hS.out gzT⟩
  ·obtain ⟨rfl,hS⟩:=hcut
   rename World=>wc
   simp only at hx
   obtain ⟨x2,hx2⟩:∃ x,goL ts a1 = x:=⟨_,rfl⟩
   rw [hx2] at hx
   obtain ⟨bg,hbg⟩:∃ b,z2t ts a1 [103,111] = b:=⟨_,rfl⟩
   go_wp2_with fail
   refine (T.out ⟨#[103,111]⟩ _ a1 bg _ (z0y hS gzT) hbg).mono ?_
   intro e w1 hr
   obtain ⟨rfl,hS1⟩:=hr
   clear hS
   go_upto_if 19 with (fail)
   go_cut [5] (fun v5 wx=>q5b w0 rb nb ao cap ts (y1k (fun gs=>⟨k0,nm,st,vk,vn,vs,ac,ev,cs,gs,inn,[]⟩) x2) v5 wx)
   case first =>
    unfold goL at hx2
    rw [hbg] at hx2
    cases bg
    ·rw [if_neg deT] at hx2
     subst hx2
     replace hS1:LnSt w0 rb nb ao cap ts ⟨k0,nm,st,vk,vn,vs,ac,ev,cs,[],inn,[]⟩ a1 w1:=hS1
     replace hS1:=hiT hS1
     clear hbg T Gs A
     go_wp2_with fail
     go_meet
     exact z5p (show q5b w0 rb nb ao cap ts (.ok (⟨k0,nm,st,vk,vn,vs,ac,ev,cs,[],inn,[]⟩,a1)) (.int .i64 0) w1 from ⟨rfl,hS1.out⟩) gzT
    ·rw [if_pos rfl] at hx2
     replace hS1:LnSt w0 rb nb ao cap ts ⟨k0,nm,st,vk,vn,vs,ac,ev,cs,[],inn,[]⟩ (a1 + 1) w1:=hS1
     have X1:=Gs.out _ _ _ hS1 rfl
     rw [hx2] at X1
     clear hbg T Gs A hx2
     replace X1:=hiT X1
     go_wp2_with fail
     refine X1.out.mono ?_
     intro e w2 hr
     obtain ⟨v,rfl,hs⟩:=z6i hr
     replace hs:=hiT hs
     clear X1 hr
     go_wp2_with fail
     go_meet
     exact z5p hs.out gzT
   case rest =>
    clear hx2 hbg hS1 Gs
    rcases x2 with x2 | ⟨gs,a2⟩
    ·obtain ⟨rfl,hne,m,b,hS⟩:=hcut
     rename World=>wd
     have hx':=hx.out
     subst hx'
     have hne2:(x2 != 0) = true:=by rw [bne,hne];rfl
     replace hS:=hiT hS
     clear T A
     go_wp2
     go_returns
     exact ⟨rfl,hne,_,_,z0y hS.out gzT⟩
    ·obtain ⟨rfl,hS⟩:=hcut
     rename World=>wd
     simp only at hx
     obtain ⟨bn,hbn⟩:∃ b,k0t ts a2 = b:=⟨_,rfl⟩
     rw [hbn] at hx
     go_wp2_with fail
     refine (T.out ⟨#[105,110,110,101,114]⟩ _ a2 bn _ (z0y hS gzT) hbn).mono ?_
     intro e w3 hr
     obtain ⟨rfl,hS3⟩:=hr
     clear hS hbn
     obtain ⟨a3,ha3⟩:∃ b,(if bn = true then a2 + 1 else a2) = b:=⟨_,rfl⟩
     rw [ha3] at hx hS3
     obtain ⟨xo,xc,io,ic,go,gc,to',tc,hblk,hV,hnb,hfr,hcl⟩:=z3a hS3
     have c10:=hcl 10
     have f10:=hfr 10
     have i1:InW nb w3:=⟨hnb⟩
     have hS4:=hiT (show LnSt w0 rb nb ao cap ts ⟨k0,nm,st,vk,vn,vs,ac,ev,cs,gs,bn,[]⟩ a3 (w3.setCell ⟨nb,10,none⟩ (.bool bn)) from k7u bn hS3)
     clear hblk hV hfr hcl hS3 ha3
     obtain ⟨x3,hx3⟩:∃ x,doL ts a3 = x:=⟨_,rfl⟩
     rw [hx3] at hx
     obtain ⟨bd,hbd⟩:∃ b,z2t ts a3 [100,111] = b:=⟨_,rfl⟩
     go_wp2_with fail
     refine (T.out ⟨#[100,111]⟩ _ a3 bd _ (z0y hS4.out gzT) hbd).mono ?_
     intro e w5 hr
     obtain ⟨rfl,hS5⟩:=hr
     clear hS4 T c10 f10 i1
     unfold doL at hx3
     rw [hbd] at hx3
     cases bd
     ·rw [if_neg deT] at hx3
      subst hx3
      have hx':=hx.out
      simp only at hx'
      subst hx'
      replace hS5:LnSt w0 rb nb ao cap ts ⟨k0,nm,st,vk,vn,vs,ac,ev,cs,gs,bn,[]⟩ a3 w5:=hS5
      replace hS5:=hiT hS5
      clear A hbd hx
      go_wp2
      go_returns
      exact ⟨rfl,z0y hS5.out gzT⟩
     ·rw [if_pos rfl] at hx3
      replace hS5:LnSt w0 rb nb ao cap ts ⟨k0,nm,st,vk,vn,vs,ac,ev,cs,gs,bn,[]⟩ (a3 + 1) w5:=hS5
      have X1:=A.out _ _ _ hS5
      rw [hx3] at X1
      replace X1:=hiT X1
      have hx':=hx.out
      clear A hbd hx3 hS5
      go_wp2_with fail
      refine X1.out.mono ?_
      intro e w6 hr
      obtain ⟨v,rfl,hs⟩:=z6i hr
      replace hs:=hiT hs
      clear X1 hr
      go_wp2
      go_returns
      rw [← hx']
      have h6:=q0x (z5p hs.out (show Below w6.heap.size w6 _ from gzT))
      rcases x3 with x3 | ⟨th,b3⟩
      ·exact h6
      ·exact h6
end
end Go.Proofs.YtacnlghljmgdiaaGreatDoor
