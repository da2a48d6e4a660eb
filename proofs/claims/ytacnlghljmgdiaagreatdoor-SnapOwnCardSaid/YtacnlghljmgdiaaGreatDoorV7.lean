/- Several texts of this proof, joined: VD, VE. -/
import Derived.Test.YtacnlghljmgdiaaGreatDoorO1
import Derived.Test.YtacnlghljmgdiaaGreatDoorV5
import Derived.WalkKit
import Derived.ProofKit
import Derived.OpenShut
import Derived.Handy
import Derived.BigQuiet
import Derived.OwnWalk
import Derived.Deep.RegionHeld3
import Derived.Deep.AppendLies
import Derived.Laws.OwnMore
import Derived.Lib.Hide
import Derived.WalkSmall
import Derived.WalkLawsBesides
import Derived.Test.YtacnlghljmgdiaaGreatDoorQ4
namespace Go.Proofs.YtacnlghljmgdiaaGreatDoor
open Go.RowKit
section
variable {l:Lk} {lb:Nat}
theorem q2j {a b:Int} (h:a ≠ 0):z6y a b = a:=by unfold z6y;rw [if_neg h]
theorem q2i {a b:Int} (h:a = 0):z6y a b = b:=by unfold z6y;rw [if_pos h]
theorem q8b {a:Int} (h:a ≠ 0):(a == 0) = false ∧ (a != 0) = true:=⟨beq_eq_false_iff_ne.2 h,by rw [bne,beq_eq_false_iff_ne.2 h];rfl⟩
theorem q7n {a:Int} (h:a = 0):(a == 0) = true ∧ (a != 0) = false:=by subst h;exact ⟨rfl,rfl⟩
set_option maxRecDepth 100000 in
set_option maxHeartbeats 4000000 in
theorem v2u (P:LkP l) (a:Ac) (io xo:Option Addr) (ic xc:Nat) (hc:k5k a.cond) (hf:k5k a.x) (w:World) (h1:q1i w io a.cond) (h2:q1i w xo a.x) (H:q9y w lb l) :
  Calls Tryz.prog 184 #[.pointer (some ⟨lb,0,none⟩),acV a io xo ic xc] w (Ret (.int .i64 (k5d l a)) w):=by
 have T:=hiT (fun wx (hb:Below w.heap.size w wx)=>j2n P io ic a.cond hc wx (z1t h1 hb) (z5r H hb))
 have S:=hiT (fun wx (hb:Below w.heap.size w wx)=>v6d P a io xo ic xc hf wx (z1t h2 hb) (z5r H hb))
 obtain ⟨B,rv,va,sa,oa,pa,vc,sc,oc,pc,H⟩:=H
 have K:=hiT (fun wx (hb:Below w.heap.size w wx)=>j9q oa pa oc pc l.vs l.ss xo xc a.x hf P.vn P.sn wx (z1t h2 hb) (z3m H.vs hb) (z5i H.ss hb) (z1v H.lb hb))
 obtain ⟨hl,c0,c1,c2,c3,c4⟩:=z3r H
 have i1:InW lb w:=⟨hl⟩
 unfold k5d
 generalize v6r l a.cond = t at *
 generalize v6a l a = se at *
 rw [show kdL l a.x = kdE l.vs l.ss a.x from rfl]
 generalize kdE l.vs l.ss a.x = k at *
 obtain ⟨kd,cond,nm,x,n⟩:=a
 unfold acV at *
 simp only at *
 clear H h1 h2 hc hf
 by_cases h0:t = 0
 ·rw [q2i h0]
  obtain ⟨z0,z1⟩:=q7n h0
  replace h0:=hiT h0
  by_cases hk1:kd = 1
  ·rw [if_pos hk1]
   have e1:(kd == 1) = true:=by simpa using hk1
   replace hk1:=hiT hk1
   go_enter Tryz.func184,Tryz.ntmps184
   go_wp2_with (first | ((with_reducible refine (T.out _ gzT).mono ?_);intro e w1 hr;obtain ⟨rfl,p,rfl⟩:=hr.out;clear hr) | ((with_reducible refine (S.out _ gzT).mono ?_);intro e w1 hr;obtain ⟨rfl,p,rfl⟩:=hr.out;clear hr))
   go_returns
   exact ⟨rfl,gzT⟩
  ·rw [if_neg hk1]
   have e1:(kd == 1) = false:=beq_eq_false_iff_ne.2 hk1
   replace hk1:=hiT hk1
   by_cases hk5:kd = 5
   ·rw [if_pos hk5]
    have e5:(kd == 5) = true:=by simpa using hk5
    replace hk5:=hiT hk5
    go_enter Tryz.func184,Tryz.ntmps184
    go_wp2_with ((with_reducible refine (T.out _ gzT).mono ?_);intro e w1 hr;obtain ⟨rfl,p,rfl⟩:=hr.out;clear hr)
    (refine z0d krT krT ?_;(repeat (go_big_quiet_step ((first | exact z1i (K.out _ gzT) | exact k2q (K.out _ gzT) | exact k2r (K.out _ gzT)))));refine wpQuiet_nil ?_;intro _ hw';obtain ⟨pg,hw''⟩:=hw';subst hw'')
    go_wp2
    go_returns
    exact ⟨rfl,gzT⟩
   ·rw [if_neg hk5]
    have e5:(kd == 5) = false:=beq_eq_false_iff_ne.2 hk5
    replace hk5:=hiT hk5
    go_enter Tryz.func184,Tryz.ntmps184
    go_wp2_with ((with_reducible refine (T.out _ gzT).mono ?_);intro e w1 hr;obtain ⟨rfl,p,rfl⟩:=hr.out;clear hr)
    go_returns
    exact ⟨rfl,gzT⟩
 ·rw [q2j h0]
  obtain ⟨z0,z1⟩:=q8b h0
  replace h0:=hiT h0
  go_enter Tryz.func184,Tryz.ntmps184
  go_wp2_with ((with_reducible refine (T.out _ gzT).mono ?_);intro e w1 hr;obtain ⟨rfl,p,rfl⟩:=hr.out;clear hr)
  go_returns
  exact ⟨rfl,gzT⟩
theorem q0t {α:Type} {f:α → Int} {b:List α} {i:Nat} (h:i < b.length):z3e f (b.drop i) = z6y (f b[i]) (z3e f (b.drop (i + 1))):=by
 rw [List.drop_eq_getElem_cons h,z3e]
theorem q7o {α:Type} {f:α → Int} {b:List α} {i:Nat} (h:b.length ≤ i):z3e f (b.drop i) = 0:=by
 rw [List.drop_of_length_le h,z3e]
set_option maxRecDepth 100000 in
set_option maxHeartbeats 4000000 in
theorem y1y (P:LkP l) (ao:Option Addr) (cap:Nat) (b:List Ac) (hf:v7b b) (w:World) (h:j0j w ao b) (H:q9y w lb l) :
  Calls Tryz.prog 155 #[.pointer (some ⟨lb,0,none⟩),.slice ao b.length cap] w (Ret (.int .i64 (q4f l b)) w):=by
 have A:=hiT (fun wx (hb:Below w.heap.size w wx)=>z6f h hb)
 have L:=hiT (fun wx (hb:Below w.heap.size w wx)=>z5r H hb)
 obtain ⟨B,rv,va,sa,oa,pa,vc,sc,oc,pc,H⟩:=H
 have hl:=lt_of_block H.blk
 have i1:InW lb w:=⟨hl⟩
 unfold q4f
 have hF':Hid (z3e (k5d l) (b.drop 0) = z3e (k5d l) b):=hiT (by rw [List.drop_zero])
 generalize z3e (k5d l) b = F at *
 obtain ⟨hn,hf⟩:=hf
 replace hf:=hiT hf
 clear h H
 go_enter Tryz.func155,Tryz.ntmps155
 go_wp2
 go_loopw [10] (fun x wr=>∃ (i:Nat),x = .int .i64 (i:Int) ∧ i ≤ b.length ∧ Hid (z3e (k5d l) (b.drop i) = F) ∧ Below w.heap.size w wr) (fun x _=>b.length - (intOf x).toNat)
 case atStart=>exact ⟨0,rfl,Nat.zero_le _,hF',gzT⟩
 case round =>
  obtain ⟨i,rfl,hi,hF,hb⟩:=hrel
  rename World=>wr
  have hwz:=hb.size
  have i0:InW lb wr:=⟨by omega⟩
  by_cases hlt:i < b.length
  ·have hI:(i:Int) < (b.length:Int):=by omega
   obtain ⟨g,rfl,hg,hc⟩:=A.out wr hb omT
   obtain ⟨io,ic,xo,xc,n1,n2,n3,n4,n5,n6,n7⟩:=hc i hlt
   obtain ⟨f1,f2⟩:=hf.out b[i] (List.getElem_mem hlt)
   have hm:=q0t (f:=k5d l) hlt
   have C:=hiT (fun wx (hx:Below wr.heap.size wr wx)=>v2u P b[i] io xo ic xc f1 f2 wx (z1t n6 hx) (z1t n7 hx) (L.out wx (hb.trans (hx.mono hwz))))
   have i2:InW g wr:=⟨hg⟩
   clear hc n6 n7 f1 f2
   unfold acV at C
   generalize b[i] = a at *
   rw [hF.out] at hm
   generalize k5d l a = e at *
   by_cases h0:e = 0
   ·rw [q2i h0] at hm
    obtain ⟨z0,z1⟩:=q7n h0
    replace h0:=hiT h0
    have hm':=hiT hm.symm
    clear hm hF
    go_wp2_with ((with_reducible refine (C.out _ gzT).mono ?_);intro e w1 hr;obtain ⟨rfl,p,rfl⟩:=hr.out;clear hr)
    go_roundw
    case rel=>exact ⟨i + 1,by go_num,by omega,hm',gzT⟩
    case measure=>simp [intOf];omega
   ·rw [q2j h0] at hm
    obtain ⟨z0,z1⟩:=q8b h0
    replace h0:=hiT h0
    subst hm
    clear hF
    go_wp2_with ((with_reducible refine (C.out _ gzT).mono ?_);intro e w1 hr;obtain ⟨rfl,p,rfl⟩:=hr.out;clear hr)
    go_returns
    exact ⟨rfl,gzT⟩
  ·have hI:¬ (i:Int) < (b.length:Int):=by omega
   have hm:=q7o (f:=k5d l) (show b.length ≤ i by omega)
   rw [hF.out] at hm
   subst hm
   clear hF
   go_wp2
   go_returns
   exact ⟨rfl,gzT⟩
end
theorem k4w {α:Type} {R:α → List Value → Prop} {cs ds:List α} {vs us:List Value} (h:Vs R cs vs) (k:Vs R ds us):Vs R (cs ++ ds) (vs ++ us):=by
 induction h with
 | nil=>exact k
 | cons h1 _ ih =>
  rw [List.append_assoc]
  exact .cons h1 ih
theorem y9g {τ:CT} {B:Nat} {w:World} {bs:List (List Ac)} {vs:List Value} (h:Vs (v7a τ B w) bs vs):∀ u ∈ vs,u.oneCell' = true:=by
 induction h with
 | nil=>exact fun u hu=>by cases hu
 | cons h1 _ ih =>
  obtain ⟨x,rfl,hx⟩:=h1
  obtain ⟨ao,cap,rfl⟩:=z6d hx
  intro u hu
  rcases List.mem_append.1 hu with hu | hu
  ·obtain rfl:=List.mem_singleton.1 hu
   rfl
  ·exact ih u hu
def v7s (w:World) (e:Ending) (w':World):Prop:=∃ ao cap,e = .returned (.slice ao 0 cap) ∧ w'.ownsRow w.heap.size 158 1 (.slice ao 0 cap) 0 [] ∧ Below w.heap.size w w'
set_option maxRecDepth 100000 in
set_option maxHeartbeats 4000000 in
theorem k7c (n:Nat) (hn:n ≤ 16) (w:World):Calls Tryz.prog 183 #[.slice none 0 0,.int .i64 (n:Int)] w (v7s w):=by
 have hw:IntKind.i64.wrap (n:Int) = (n:Int):=by rw [IntKind.wrap_i64];omega
 have h1:¬ (n:Int) < 0:=by omega
 rcases Nat.eq_zero_or_pos n with rfl | h0
 ·go_enter Tryz.func183,Tryz.ntmps183
  go_wp2
  go_returns
  exact ⟨none,0,rfl,World.ownsRow_nil _ _ _ _,gzT⟩
 ·have h2:(0:Int) < (n:Int):=by omega
  have hby:Tryz.t158.bytes = 24:=rfl
  have h48:¬ (281474976710656 < Builtin.nextslicecap n 0 * Tryz.t158.bytes):=by rw [nextslicecap_zero h0,hby];omega
  have h4:(n:Int) * (Tryz.t158.bytes:Int) ≤ 281474976710656:=by rw [hby];omega
  have h5:(0:Int) ≤ (n:Int):=by omega
  have hge:=grownCap_ge w n 0 158
  have hle:=grownCap_le_maxLen w n 0 158 (by unfold maxLen;omega)
  replace hge:=hiT hge
  replace hle:=hiT hle
  clear hby
  go_enter Tryz.func183,Tryz.ntmps183
  go_wp2
  go_returns
  refine ⟨_,grownCap w n 0 158,rfl,World.ownsRow_made _ _ _ (Nat.le_refl _) hle.out ?_,gzT⟩
  have:=hge.out
  unfold grownCap at this ⊢
  simp [Builtin.zeroCells]
  omega
def x1e (bs:List (List Ac)) (w:World) (e:Ending) (w':World):Prop:=∃ ao cap,e = .returned (.slice ao bs.length cap) ∧ z2i ct0 0 w' (.slice ao bs.length cap) bs ∧ Below w.heap.size w w'
set_option maxRecDepth 100000 in
set_option maxHeartbeats 4000000 in
theorem y4j {B:Nat} (g c:Nat) (o1 o2:Option Addr) (c1 c2:Nat) (b1 b2:List (List Ac)) (n1:b1.length ≤ 8) (n2:b2.length ≤ 8) (w:World) (hg:g < w.heap.size) (k0:w.cell? ⟨g,0,none⟩ = some (.slice o1 b1.length c1)) (k1:w.cell? ⟨g,1,none⟩ = some (.slice o2 b2.length c2))
  (h1:z2i ct0 B w (.slice o1 b1.length c1) b1) (h2:z2i ct0 B w (.slice o2 b2.length c2) b2):Calls Tryz.prog 154 #[.slice (some ⟨g,0,none⟩) 2 c] w (x1e (b1 ++ b2) w):=by
 obtain ⟨v1,hv1,r1⟩:=h1
 obtain ⟨v2,hv2,r2⟩:=h2
 have hv:=hiT (k4w hv1 hv2)
 have q1:=y9g hv1
 have q2:=y9g hv2
 have R1:=hiT (fun wx (hb:Below w.heap.size w wx)=>z0a r1 hb)
 have R2:=hiT (fun wx (hb:Below w.heap.size w wx)=>z0a r2 hb)
 have Gr:=hiT (fun wx=>k7c (b1.length + b2.length) omT wx)
 have C:=hiT (fun wx (hb:Below w.heap.size w wx)=>And.intro ((hb.cell (p:=⟨g,0,none⟩) hg).trans k0) ((hb.cell (p:=⟨g,1,none⟩) hg).trans k1))
 obtain ⟨j0,hj,hy1,hy2,hy3⟩:=info_parts Tryz.infoBlk
 have hle:(b1 ++ b2).length = b1.length + b2.length:=List.length_append
 generalize (b1 ++ b2) = bs at *
 generalize hN1:b1.length = N1 at *
 generalize hN2:b2.length = N2 at *
 have hz1:v1.length = N1:=by have:=r1.1;omega
 have hz2:v2.length = N2:=by have:=r2.1;omega
 clear hv1 hv2 r1 r2 k0 k1
 go_enter Tryz.func154,Tryz.ntmps154
 go_wp2
 go_loopw [3,11] (fun x y wr=>∃ (i k:Nat),y = .int .i64 (i:Int) ∧ x = .int .i64 (k:Int) ∧ (i = 0 ∧ k = 0 ∨ i = 1 ∧ k = N1 ∨ i = 2 ∧ k = N1 + N2) ∧ Below w.heap.size w wr) (fun _ y _=>2 - (intOf y).toNat)
 case atStart=>exact ⟨0,0,rfl,rfl,.inl ⟨rfl,rfl⟩,gzT⟩
 case round =>
  obtain ⟨i,k,rfl,rfl,hik,hb⟩:=hrel
  rename World=>wr
  have hwz:=hb.size
  have i1:InW g wr:=⟨by omega⟩
  obtain ⟨k0,k1⟩:=C.out wr hb
  rcases hik with ⟨rfl,rfl⟩ | ⟨rfl,rfl⟩ | ⟨rfl,rfl⟩
  ·have hI:(0:Int) < (2:Int):=by decide
   have hw:IntKind.i64.wrap (N1:Int) = (N1:Int):=by rw [IntKind.wrap_i64];omega
   go_wp2
   go_roundw
   case rel=>exact ⟨1,N1,by go_num,by go_num,.inr (.inl ⟨rfl,rfl⟩),gzT⟩
   case measure=>simp [intOf]
  ·go_wp2
   go_roundw
   case rel=>exact ⟨2,k + N2,by go_num,by go_num,.inr (.inr ⟨rfl,rfl⟩),gzT⟩
   case measure=>simp [intOf]
  ·go_wp2_with fail
   refine (Gr.out _).mono ?_
   rintro e w1 ⟨oa,oc,rfl,hown,hb1⟩
   have hbW:Below w.heap.size w w1:=hb.trans (hb1.mono hwz)
   have hO:=hiT (z0m hown hwz)
   clear Gr hown hb1 k0 k1 i1
   dsimp only
   go_wp2
   go_loopw [6,27] (fun x y wq=>∃ (i k:Nat) (oa:Option Addr) (oc:Nat) (vs:List Value),y = .int .i64 (i:Int) ∧ x = .slice oa k oc ∧ (i = 0 ∧ k = 0 ∧ vs = [] ∨ i = 1 ∧ k = N1 ∧ vs = v1 ∨ i = 2 ∧ k = N1 + N2 ∧ vs = v1 ++ v2) ∧ wq.ownsRow w.heap.size 158 1 (.slice oa k oc) k vs ∧ Below w.heap.size w wq) (fun _ y _=>2 - (intOf y).toNat)
   case atStart=>exact ⟨0,0,oa,oc,[],rfl,rfl,.inl ⟨rfl,rfl,rfl⟩,hO.out,hbW⟩
   case round =>
    obtain ⟨i,k,oa,oc,vs,rfl,rfl,hik,hown,hb⟩:=hrel
    rename World=>wq
    have hwz:=hb.size
    have i1:InW g wq:=⟨by omega⟩
    obtain ⟨k0,k1⟩:=C.out wq hb
    have hK:=hiT hown
    clear hO hbW hown
    rcases hik with ⟨rfl,rfl,rfl⟩ | ⟨rfl,rfl,rfl⟩ | ⟨rfl,rfl,rfl⟩
    ·go_wp2_with (at_builtin;refine z8o rfl _ _ 82 rfl w.heap.size 158 j0 _ 1 24 Tryz.underlying82 hj hy1 hy2 hy3 rfl deT (.slice oa 0 oc) 0 [] rfl (z0a hK.out gzT) B (.slice o1 N1 c1) N1 v1 rfl (R1.out _ gzT) q1 (by unfold maxLen;omega) omT hwz ?_)
     intro v' w2 hown2 hgrow
     have hb2:=Below.grown hb hgrow hwz (fun k hk=>(hK.out.lt k hk).1)
     obtain ⟨oa2,oc2,rfl⟩:=z0g hown2
     replace hown2:=hiT hown2
     clear hgrow hK k0 k1 i1
     go_wp2
     go_roundw
     case rel =>
      exact ⟨_,_,_,_,_,_,_,_,_,_,⟨1,N1,oa2,oc2,v1,rfl,rfl,.inr (.inl ⟨rfl,rfl,rfl⟩),by simpa using hown2.out,hb2⟩,rfl⟩
     case measure=>simp [intOf]
    ·go_wp2_with (at_builtin;refine z8o rfl _ _ 82 rfl w.heap.size 158 j0 _ 1 24 Tryz.underlying82 hj hy1 hy2 hy3 rfl deT (.slice oa k oc) k vs rfl (z0a hK.out gzT) B (.slice o2 N2 c2) N2 v2 rfl (R2.out _ gzT) q2 (by unfold maxLen;omega) omT hwz ?_)
     intro v' w2 hown2 hgrow
     have hb2:=Below.grown hb hgrow hwz (fun k hk=>(hK.out.lt k hk).1)
     obtain ⟨oa2,oc2,rfl⟩:=z0g hown2
     replace hown2:=hiT hown2
     clear hgrow hK k0 k1 i1
     go_wp2
     go_roundw
     case rel=>exact ⟨_,_,_,_,_,_,_,_,_,_,⟨2,_,oa2,oc2,_,rfl,rfl,.inr (.inr ⟨rfl,rfl,rfl⟩),hown2.out,hb2⟩,rfl⟩
     case measure=>simp [intOf]
    ·go_wp2
     go_returns
     refine ⟨oa,oc,by rw [hle];rfl,⟨v1 ++ v2,?_,?_⟩,hb⟩
     ·exact z3h hv.out fun _ _ h=>q4e (z9q (Nat.zero_le B)) (q4e (z1q (Below.mono hb (Nat.le_refl _))) h)
     ·rw [hle]
      exact z0m hK.out (Nat.zero_le _)
end Go.Proofs.YtacnlghljmgdiaaGreatDoor
