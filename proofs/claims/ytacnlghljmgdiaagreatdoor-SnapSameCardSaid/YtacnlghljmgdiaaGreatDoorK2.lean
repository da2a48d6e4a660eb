/- Several texts of this proof, joined: SYc, SYd, SYz, SY2. -/
import Derived.Test.YtacnlghljmgdiaaGreatDoorK1
import Derived.Test.YtacnlghljmgdiaaGreatDoorQ7
import Derived.BigRegion
import Derived.WalkKit
import Derived.ProofKit
import Derived.OpenShut
import Derived.Handy
import Derived.BigQuiet
import Derived.OwnWalk
import Derived.Lib.Hide
import Derived.WalkSmall
import Derived.WalkLawsBesides
namespace Go.Proofs.YtacnlghljmgdiaaGreatDoor
open Go.RowKit
set_option maxRecDepth 100000 in
set_option maxHeartbeats 40000000 in
theorem y9l (s:Sn) (pa:Option Addr) (pc:Nat) (da:Option Addr) (dc:Nat) (ia:Option Addr) (ic:Nat) (oa:Option Addr) (oc:Nat) (ta:Option Addr) (tc:Nat) (ka:Option Addr) (kc:Nat) (ua:Option Addr) (uc:Nat) (k n:Int) (hkd:k = 8 ∨ k = 9 ∨ k = 10 ∨ k = 11) (hk:I64 k) (hn6:I64 n) (I:SnIn s) (Z:SnZ s) (w:World) (hn:s.past.length ≤ 200 ∧ s.data.length ≤ 200 ∧ s.inner.length ≤ 200 ∧ s.outer.length ≤ 200 ∧ s.timers.length ≤ 200 ∧ s.taken.length ≤ 200 ∧ s.out.length ≤ 200) (h:SnRd w s pa pc da dc ia ic oa oc ta tc ka kc ua uc) :
  Calls Tryz.prog 17 #[snV s pa pc da dc ia ic oa oc ta tc ka kc ua uc,.agg #[.int .i64 k,.int .i64 n]] w (v7l s w):=by
 obtain ⟨n0,n1,n2,n3,n4,n5,n6⟩:=hn
 have _:=hn6
 have C:=hiT (fun wx (hx:Below w.heap.size w wx)=>z6j s pa pc da dc ia ic oa oc ta tc ka kc ua uc wx ⟨by omega,by omega,by omega,by omega,by omega,by omega,by omega⟩ (z2v h hx))
 have nn:=hiT (And.intro n0 (And.intro n1 (And.intro n2 (And.intro n3 (And.intro n4 (And.intro n5 n6))))))
 have I':=hiT I
 have Z':=hiT Z
 clear h n0 n1 n2 n3 n4 n5 n6 I Z
 go_enter Tryz.func17,Tryz.ntmps17
 go_wp2_with fail
 refine (C.out _ gzT).mono ?_
 rintro e w1 ⟨pa',pc',da',dc',ia',ic',oa',oc',ta',tc',ka',kc',ua',uc',rfl,hO,hb1⟩
 have hb1':Below w.heap.size w w1:=Below.trans gzT (hb1.mono gzT)
 have kx:=z0c (z0j (o := .cells #[.int .i64 0,.int .i64 0,.int .i64 0,.int .i64 0,.int .u64 0,.slice none 0 0,.slice none 0 0,.slice none 0 0,.slice none 0 0,.slice none 0 0,.string ⟨#[]⟩,.slice none 0 0,.int .u64 0,.slice none 0 0] 44) (z0s (b:=w.heap.size + 1) (w:=w.alloc (.cells #[.int .i64 s.status,.int .i64 s.moves,.int .i64 s.clock,.int .i64 s.seq,.int .u64 s.inn,.slice pa s.past.length pc,.slice da s.data.length dc,.slice ia s.inner.length ic,.slice oa s.outer.length oc,.slice ta s.timers.length tc,.string s.event,.slice ka s.taken.length kc,.int .u64 s.ent,.slice ua s.out.length uc] 44)) (o := .cells #[.int .i64 k,.int .i64 n] 61) (by simp))) hb1
 have ry:w1.heap[w.heap.size + 1 + 1]? = some (.cells #[.int .i64 0,.int .i64 0,.int .i64 0,.int .i64 0,.int .u64 0,.slice none 0 0,.slice none 0 0,.slice none 0 0,.slice none 0 0,.slice none 0 0,.string ⟨#[]⟩,.slice none 0 0,.int .u64 0,.slice none 0 0] 44 (0,0)):=z0c (z0s (by simp)) hb1
 replace hO:=q3s hO (show w.heap.size ≤ _ by simp;omega)
 have hO':=hiT hO
 clear hO hb1 C
 have x0:=heap_alloc_new w1 (.cells #[.int .i64 s.status,.int .i64 s.moves,.int .i64 s.clock,.int .i64 s.seq,.int .u64 s.inn,.slice pa' s.past.length pc',.slice da' s.data.length dc',.slice ia' s.inner.length ic',.slice oa' s.outer.length oc',.slice ta' s.timers.length tc',.string s.event,.slice ka' s.taken.length kc',.int .u64 s.ent,.slice ua' s.out.length uc'] 44 (0,0))
 obtain ⟨X0,hX0⟩:∃ X,w1.alloc (.cells #[.int .i64 s.status,.int .i64 s.moves,.int .i64 s.clock,.int .i64 s.seq,.int .u64 s.inn,.slice pa' s.past.length pc',.slice da' s.data.length dc',.slice ia' s.inner.length ic',.slice oa' s.outer.length oc',.slice ta' s.timers.length tc',.string s.event,.slice ka' s.taken.length kc',.int .u64 s.ent,.slice ua' s.out.length uc'] 44 (0,0)) = X:=⟨_,rfl⟩
 rw [hX0] at x0
 have bX:Below w1.heap.size w1 X0:=by rw [← hX0];exact gzT
 have hO1:=hiT (q0z hO'.out bX)
 have kx1:=z0c kx bX
 have ry1:=z0c ry bX
 have hbX:=hiT (hb1'.trans (bX.mono hb1'.size))
 have hlt:w.heap.size + 1 + 1 < w1.heap.size:=lt_of_block ry
 obtain ⟨i1⟩:Nonempty (InW (w.heap.size + 1) w1):=⟨⟨lt_of_block kx⟩⟩
 have kc0:X0.cell? ⟨w.heap.size + 1,0,none⟩ = some (.int .i64 k):=by rw [cell_of_row _ _ _ _ _ _ kx1];rfl
 have kc1:X0.cell? ⟨w.heap.size + 1,1,none⟩ = some (.int .i64 n):=by rw [cell_of_row _ _ _ _ _ _ kx1];rfl
 have i2:InW (w.heap.size + 1) X0:=⟨lt_of_block kx1⟩
 clear kx ry bX hb1' hO'
 dsimp only
 go_upto_region 2 with (fail)
 (try dsimp only [snV])
 (try rw [hX0])
 clear hX0 i1
 generalize w1.heap.size = ob at *
 generalize hrb:w.heap.size + 1 + 1 = rb at *
 generalize hkb:w.heap.size + 1 = kb at *
 have hre:rb ≠ ob:=by omega
 have hle:w.heap.size ≤ rb:=by omega
 have hlo:w.heap.size ≤ ob:=by omega
 obtain ⟨c0,c1,c2,c3,c4,c5,c6,c7,c8,c9,c10,c11,c12,c13,cl,cf⟩:=z1p x0
 obtain ⟨z0,z1,z2,z3,z4,z5,z6,z7,z8,z9,z10,z11,z12,z13,zl,zf⟩:=z1p ry1
 have j1:InW ob X0:=⟨cl⟩
 have j2:InW rb X0:=⟨zl⟩
 have g0:=z0b z0
 have q0:=zf 0
 have g1:=z0b z1
 have q1:=zf 1
 have g2:=z0b z2
 have q2:=zf 2
 have g3:=z0b z3
 have q3:=zf 3
 have g4:=z0b z4
 have q4:=zf 4
 have g5:=z0b z5
 have q5:=zf 5
 have g6:=z0b z6
 have q6:=zf 6
 have g7:=z0b z7
 have q7:=zf 7
 have g8:=z0b z8
 have q8:=zf 8
 have g9:=z0b z9
 have q9:=zf 9
 have g10:=z0b z10
 have q10:=zf 10
 have g11:=z0b z11
 have q11:=zf 11
 have g12:=z0b z12
 have q12:=zf 12
 have g13:=z0b z13
 have q13:=zf 13
 have x0':=hiT x0
 have ry1':=hiT ry1
 have kx1':=hiT kx1
 have cf':=hiT cf
 clear x0 ry1 kx1 cf zf
 rcases hkd with rfl | rfl | rfl | rfl
 ·have hz0:=hbX.out.size
  obtain ⟨j0,hj,hy1,hy2',hy3⟩:=info_parts Tryz.infoQs
  have hl:s.inner.length ≤ 200:=nn.out.2.2.1
  go_wp2_with (at_builtin;refine z0u rfl _ _ 38 rfl w.heap.size 9 j0 _ 1 16 Tryz.underlying38 hj hy1 hy2' hy3 rfl deT (.slice ia' s.inner.length ic') s.inner.length _ rfl (z0a hO1.out.inner gzT) (some ⟨_,0,none⟩) 1 1 [.string q1l] rfl (q2g (q2a (by simp)) rfl) rfl (by intro u hu;simp at hu;subst hu;rfl) (by unfold maxLen;omega) omT gzT ?_)
  intro v' w2 hown hgrow
  have hb2:Below w.heap.size w w2:=Below.grown (show Below w.heap.size w _ from hbX.out.trans (Below.mono (B:=X0.heap.size) gzT hz0)) hgrow gzT (fun k hk=>(hO1.out.inner.lt k hk).1)
  obtain ⟨na,nc,rfl⟩:=z0g hown
  have hx2:=z0h (z0a hO1.out.inner gzT) (z0c x0'.out gzT) deT hgrow
  have hr2:=z0h (z0a hO1.out.inner gzT) (z0c ry1'.out gzT) deT hgrow
  have o0:=z0o (z0a hO1.out.past gzT) (z0a hO1.out.inner gzT) (z1a hO1.out.past hO1.out.inner deT) hgrow
  have o1:=z0o (z0a hO1.out.data gzT) (z0a hO1.out.inner gzT) (z1a hO1.out.data hO1.out.inner deT) hgrow
  have o3:=z0o (z0a hO1.out.outer gzT) (z0a hO1.out.inner gzT) (q0q (q7c hO1.out.io)) hgrow
  have o4:=z0o (z0a hO1.out.timers gzT) (z0a hO1.out.inner gzT) (z1a hO1.out.timers hO1.out.inner deT) hgrow
  have o5:=z0o (z0a hO1.out.taken gzT) (z0a hO1.out.inner gzT) (z1a hO1.out.taken hO1.out.inner deT) hgrow
  have o6:=z0o (z0a hO1.out.out gzT) (z0a hO1.out.inner gzT) (q0q (q7c hO1.out.iu)) hgrow
  have eC:(s.inner ++ [q1l]).flatMap z3j = s.inner.flatMap z3j ++ [.string q1l]:=by rw [List.flatMap_append];rfl
  have eN:(s.inner ++ [q1l]).length = s.inner.length + 1:=by simp
  have hS:SnOs w2 w.heap.size { s with inner:=s.inner ++ [q1l] } pa' pc' da' dc' na nc oa' oc' ta' tc' ka' kc' ua' uc':=⟨o0,o1,by show w2.ownsRow _ _ _ (.slice na (s.inner ++ [q1l]).length nc) (s.inner ++ [q1l]).length ((s.inner ++ [q1l]).flatMap z3j);rw [eC,eN];exact hown,o3,o4,o5,o6⟩
  have hbX2:=hb2.setCell (p:=⟨ob,7,none⟩) hlo (.slice na (s.inner.length + 1) nc)
  have hS2:=z4u (j:=7) (u := .slice na (s.inner.length + 1) nc) hS hx2
  have hy2:=z0i (i:=7) (v := .slice na (s.inner.length + 1) nc) hr2 hre
  have hfin:=hiT (z2p (s':={ s with inner:=s.inner ++ [q1l] }) (b:=rb) (v0 := .int .i64 s.status) (v1 := .int .i64 s.moves) (v2 := .int .i64 s.clock) (v3 := .int .i64 s.seq) (v4 := .int .u64 s.inn) (v5 := .slice pa' s.past.length pc') (v6 := .slice da' s.data.length dc') (v7 := .slice na (s.inner.length + 1) nc) (v8 := .slice oa' s.outer.length oc') (v9 := .slice ta' s.timers.length tc') (v10 := .string s.event) (v11 := .slice ka' s.taken.length kc') (v12 := .int .u64 s.ent) (v13 := .slice ua' s.out.length uc') hS2 hy2 hbX2 hle)
  clear hbX2 hS2 hy2
  replace eN:=hiT eN
  clear hown hgrow hb2 o0 o1 o3 o4 o5 o6 eC hS
  clear c0 c1 c2 c3 c4 c5 c6 c7 c8 c9 c10 c11 c12 c13 z0 z1 z2 z3 z4 z5 z6 z7 z8 z9 z10 z11 z12 z13 g0 q0 g1 q1 g2 q2 g3 q3 g4 q4 g5 q5 g6 q6 g7 q7 g8 q8 g9 q9 g10 q10 g11 q11 g12 q12 g13 q13 j1 j2
  obtain ⟨c0,c1,c2,c3,c4,c5,c6,c7,c8,c9,c10,c11,c12,c13,cl2,cf2⟩:=z1p hx2
  obtain ⟨z0,z1,z2,z3,z4,z5,z6,z7,z8,z9,z10,z11,z12,z13,zl2,zf2⟩:=z1p hr2
  have j1:InW ob w2:=⟨cl2⟩
  have j2:InW rb w2:=⟨zl2⟩
  have g0:=z0b z0
  have q0:=zf2 0
  have g1:=z0b z1
  have q1:=zf2 1
  have g2:=z0b z2
  have q2:=zf2 2
  have g3:=z0b z3
  have q3:=zf2 3
  have g4:=z0b z4
  have q4:=zf2 4
  have g5:=z0b z5
  have q5:=zf2 5
  have g6:=z0b z6
  have q6:=zf2 6
  have g7:=z0b z7
  have q7:=zf2 7
  have g8:=z0b z8
  have q8:=zf2 8
  have g9:=z0b z9
  have q9:=zf2 9
  have g10:=z0b z10
  have q10:=zf2 10
  have g11:=z0b z11
  have q11:=zf2 11
  have g12:=z0b z12
  have q12:=zf2 12
  have g13:=z0b z13
  have q13:=zf2 13
  have f0:=cf2 7
  have h0:=z0b c7
  clear hx2 hr2 cf2 zf2 hj hy1 hy2' hy3
  go_wp2
  go_returns
  obtain ⟨n0,n1,n2,n3,n4,n5,n6⟩:=nn.out
  exact ⟨{ s with inner:=s.inner ++ [q1l] },pa',pc',da',dc',na,nc,oa',oc',ta',tc',ka',kc',ua',uc',true,by unfold snV;dsimp only;rw [eN.out],hfin.out.1,⟨by show s.past.length ≤ _;omega,by show s.data.length ≤ _;omega,by show (s.inner ++ [q1l]).length ≤ _;rw [eN.out];omega,by show s.outer.length ≤ _;omega,by show s.timers.length ≤ _;omega,by show s.taken.length ≤ _;omega,by show s.out.length ≤ _;omega⟩,z3s (fun e=>by have:=congrArg (fun t:Sn=>t.inner.length) e;simp at this),hfin.out.2⟩
 ·have hz0:=hbX.out.size
  obtain ⟨j0,hj,hy1,hy2',hy3⟩:=info_parts Tryz.infoQs
  have hl:s.outer.length ≤ 200:=nn.out.2.2.2.1
  go_wp2_with (at_builtin;refine z0u rfl _ _ 38 rfl w.heap.size 9 j0 _ 1 16 Tryz.underlying38 hj hy1 hy2' hy3 rfl deT (.slice oa' s.outer.length oc') s.outer.length _ rfl (z0a hO1.out.outer gzT) (some ⟨_,0,none⟩) 1 1 [.string q1l] rfl (q2g (q2a (by simp)) rfl) rfl (by intro u hu;simp at hu;subst hu;rfl) (by unfold maxLen;omega) omT gzT ?_)
  intro v' w2 hown hgrow
  have hb2:Below w.heap.size w w2:=Below.grown (show Below w.heap.size w _ from hbX.out.trans (Below.mono (B:=X0.heap.size) gzT hz0)) hgrow gzT (fun k hk=>(hO1.out.outer.lt k hk).1)
  obtain ⟨na,nc,rfl⟩:=z0g hown
  have hx2:=z0h (z0a hO1.out.outer gzT) (z0c x0'.out gzT) deT hgrow
  have hr2:=z0h (z0a hO1.out.outer gzT) (z0c ry1'.out gzT) deT hgrow
  have o0:=z0o (z0a hO1.out.past gzT) (z0a hO1.out.outer gzT) (z1a hO1.out.past hO1.out.outer deT) hgrow
  have o1:=z0o (z0a hO1.out.data gzT) (z0a hO1.out.outer gzT) (z1a hO1.out.data hO1.out.outer deT) hgrow
  have o2:=z0o (z0a hO1.out.inner gzT) (z0a hO1.out.outer gzT) (q0q hO1.out.io) hgrow
  have o4:=z0o (z0a hO1.out.timers gzT) (z0a hO1.out.outer gzT) (z1a hO1.out.timers hO1.out.outer deT) hgrow
  have o5:=z0o (z0a hO1.out.taken gzT) (z0a hO1.out.outer gzT) (z1a hO1.out.taken hO1.out.outer deT) hgrow
  have o6:=z0o (z0a hO1.out.out gzT) (z0a hO1.out.outer gzT) (q0q (q7c hO1.out.ou)) hgrow
  have eC:(s.outer ++ [q1l]).flatMap z3j = s.outer.flatMap z3j ++ [.string q1l]:=by rw [List.flatMap_append];rfl
  have eN:(s.outer ++ [q1l]).length = s.outer.length + 1:=by simp
  have hS:SnOs w2 w.heap.size { s with outer:=s.outer ++ [q1l] } pa' pc' da' dc' ia' ic' na nc ta' tc' ka' kc' ua' uc':=⟨o0,o1,o2,by show w2.ownsRow _ _ _ (.slice na (s.outer ++ [q1l]).length nc) (s.outer ++ [q1l]).length ((s.outer ++ [q1l]).flatMap z3j);rw [eC,eN];exact hown,o4,o5,o6⟩
  have hbX2:=hb2.setCell (p:=⟨ob,8,none⟩) hlo (.slice na (s.outer.length + 1) nc)
  have hS2:=z4u (j:=8) (u := .slice na (s.outer.length + 1) nc) hS hx2
  have hy2:=z0i (i:=8) (v := .slice na (s.outer.length + 1) nc) hr2 hre
  have hfin:=hiT (z2p (s':={ s with outer:=s.outer ++ [q1l] }) (b:=rb) (v0 := .int .i64 s.status) (v1 := .int .i64 s.moves) (v2 := .int .i64 s.clock) (v3 := .int .i64 s.seq) (v4 := .int .u64 s.inn) (v5 := .slice pa' s.past.length pc') (v6 := .slice da' s.data.length dc') (v7 := .slice ia' s.inner.length ic') (v8 := .slice na (s.outer.length + 1) nc) (v9 := .slice ta' s.timers.length tc') (v10 := .string s.event) (v11 := .slice ka' s.taken.length kc') (v12 := .int .u64 s.ent) (v13 := .slice ua' s.out.length uc') hS2 hy2 hbX2 hle)
  clear hbX2 hS2 hy2
  replace eN:=hiT eN
  clear hown hgrow hb2 o0 o1 o2 o4 o5 o6 eC hS
  clear c0 c1 c2 c3 c4 c5 c6 c7 c8 c9 c10 c11 c12 c13 z0 z1 z2 z3 z4 z5 z6 z7 z8 z9 z10 z11 z12 z13 g0 q0 g1 q1 g2 q2 g3 q3 g4 q4 g5 q5 g6 q6 g7 q7 g8 q8 g9 q9 g10 q10 g11 q11 g12 q12 g13 q13 j1 j2
  obtain ⟨c0,c1,c2,c3,c4,c5,c6,c7,c8,c9,c10,c11,c12,c13,cl2,cf2⟩:=z1p hx2
  obtain ⟨z0,z1,z2,z3,z4,z5,z6,z7,z8,z9,z10,z11,z12,z13,zl2,zf2⟩:=z1p hr2
  have j1:InW ob w2:=⟨cl2⟩
  have j2:InW rb w2:=⟨zl2⟩
  have g0:=z0b z0
  have q0:=zf2 0
  have g1:=z0b z1
  have q1:=zf2 1
  have g2:=z0b z2
  have q2:=zf2 2
  have g3:=z0b z3
  have q3:=zf2 3
  have g4:=z0b z4
  have q4:=zf2 4
  have g5:=z0b z5
  have q5:=zf2 5
  have g6:=z0b z6
  have q6:=zf2 6
  have g7:=z0b z7
  have q7:=zf2 7
  have g8:=z0b z8
  have q8:=zf2 8
  have g9:=z0b z9
  have q9:=zf2 9
  have g10:=z0b z10
  have q10:=zf2 10
  have g11:=z0b z11
  have q11:=zf2 11
  have g12:=z0b z12
  have q12:=zf2 12
  have g13:=z0b z13
  have q13:=zf2 13
  have f0:=cf2 8
  have h0:=z0b c8
  clear hx2 hr2 cf2 zf2 hj hy1 hy2' hy3
  go_wp2
  go_returns
  obtain ⟨n0,n1,n2,n3,n4,n5,n6⟩:=nn.out
  exact ⟨{ s with outer:=s.outer ++ [q1l] },pa',pc',da',dc',ia',ic',na,nc,ta',tc',ka',kc',ua',uc',true,by unfold snV;dsimp only;rw [eN.out],hfin.out.1,⟨by show s.past.length ≤ _;omega,by show s.data.length ≤ _;omega,by show s.inner.length ≤ _;omega,by show (s.outer ++ [q1l]).length ≤ _;rw [eN.out];omega,by show s.timers.length ≤ _;omega,by show s.taken.length ≤ _;omega,by show s.out.length ≤ _;omega⟩,z3s (fun e=>by have:=congrArg (fun t:Sn=>t.outer.length) e;simp at this),hfin.out.2⟩
 ·have hz0:=hbX.out.size
  obtain ⟨j0,hj,hy1,hy2',hy3⟩:=info_parts Tryz.infoQi
  have hl:s.taken.length ≤ 200:=nn.out.2.2.2.2.2.1
  go_wp2_with (at_builtin;refine z0u rfl _ _ 40 rfl w.heap.size 3 j0 _ 1 8 Tryz.underlying40 hj hy1 hy2' hy3 rfl deT (.slice ka' s.taken.length kc') s.taken.length _ rfl (z0a hO1.out.taken gzT) (some ⟨_,0,none⟩) 1 1 [.int .i64 n] rfl (q2g (q2a (by simp)) rfl) rfl (by intro u hu;simp at hu;subst hu;rfl) (by unfold maxLen;omega) omT gzT ?_)
  intro v' w2 hown hgrow
  have hb2:Below w.heap.size w w2:=Below.grown (show Below w.heap.size w _ from hbX.out.trans (Below.mono (B:=X0.heap.size) gzT hz0)) hgrow gzT (fun k hk=>(hO1.out.taken.lt k hk).1)
  obtain ⟨na,nc,rfl⟩:=z0g hown
  have hx2:=z0h (z0a hO1.out.taken gzT) (z0c x0'.out gzT) deT hgrow
  have hr2:=z0h (z0a hO1.out.taken gzT) (z0c ry1'.out gzT) deT hgrow
  have o0:=z0o (z0a hO1.out.past gzT) (z0a hO1.out.taken gzT) (z1a hO1.out.past hO1.out.taken deT) hgrow
  have o1:=z0o (z0a hO1.out.data gzT) (z0a hO1.out.taken gzT) (z1a hO1.out.data hO1.out.taken deT) hgrow
  have o2:=z0o (z0a hO1.out.inner gzT) (z0a hO1.out.taken gzT) (z1a hO1.out.inner hO1.out.taken deT) hgrow
  have o3:=z0o (z0a hO1.out.outer gzT) (z0a hO1.out.taken gzT) (z1a hO1.out.outer hO1.out.taken deT) hgrow
  have o4:=z0o (z0a hO1.out.timers gzT) (z0a hO1.out.taken gzT) (z1a hO1.out.timers hO1.out.taken deT) hgrow
  have o6:=z0o (z0a hO1.out.out gzT) (z0a hO1.out.taken gzT) (z1a hO1.out.out hO1.out.taken deT) hgrow
  have eC:(s.taken ++ [n]).flatMap inC = s.taken.flatMap inC ++ [.int .i64 n]:=by rw [List.flatMap_append];rfl
  have eN:(s.taken ++ [n]).length = s.taken.length + 1:=by simp
  have hS:SnOs w2 w.heap.size { s with taken:=s.taken ++ [n] } pa' pc' da' dc' ia' ic' oa' oc' ta' tc' na nc ua' uc':=⟨o0,o1,o2,o3,o4,by show w2.ownsRow _ _ _ (.slice na (s.taken ++ [n]).length nc) (s.taken ++ [n]).length ((s.taken ++ [n]).flatMap inC);rw [eC,eN];exact hown,o6⟩
  have hbX2:=hb2.setCell (p:=⟨ob,11,none⟩) hlo (.slice na (s.taken.length + 1) nc)
  have hS2:=z4u (j:=11) (u := .slice na (s.taken.length + 1) nc) hS hx2
  have hy2:=z0i (i:=11) (v := .slice na (s.taken.length + 1) nc) hr2 hre
  have hfin:=hiT (z2p (s':={ s with taken:=s.taken ++ [n] }) (b:=rb) (v0 := .int .i64 s.status) (v1 := .int .i64 s.moves) (v2 := .int .i64 s.clock) (v3 := .int .i64 s.seq) (v4 := .int .u64 s.inn) (v5 := .slice pa' s.past.length pc') (v6 := .slice da' s.data.length dc') (v7 := .slice ia' s.inner.length ic') (v8 := .slice oa' s.outer.length oc') (v9 := .slice ta' s.timers.length tc') (v10 := .string s.event) (v11 := .slice na (s.taken.length + 1) nc) (v12 := .int .u64 s.ent) (v13 := .slice ua' s.out.length uc') hS2 hy2 hbX2 hle)
  clear hbX2 hS2 hy2
  replace eN:=hiT eN
  clear hown hgrow hb2 o0 o1 o2 o3 o4 o6 eC hS
  clear c0 c1 c2 c3 c4 c5 c6 c7 c8 c9 c10 c11 c12 c13 z0 z1 z2 z3 z4 z5 z6 z7 z8 z9 z10 z11 z12 z13 g0 q0 g1 q1 g2 q2 g3 q3 g4 q4 g5 q5 g6 q6 g7 q7 g8 q8 g9 q9 g10 q10 g11 q11 g12 q12 g13 q13 j1 j2
  obtain ⟨c0,c1,c2,c3,c4,c5,c6,c7,c8,c9,c10,c11,c12,c13,cl2,cf2⟩:=z1p hx2
  obtain ⟨z0,z1,z2,z3,z4,z5,z6,z7,z8,z9,z10,z11,z12,z13,zl2,zf2⟩:=z1p hr2
  have j1:InW ob w2:=⟨cl2⟩
  have j2:InW rb w2:=⟨zl2⟩
  have g0:=z0b z0
  have q0:=zf2 0
  have g1:=z0b z1
  have q1:=zf2 1
  have g2:=z0b z2
  have q2:=zf2 2
  have g3:=z0b z3
  have q3:=zf2 3
  have g4:=z0b z4
  have q4:=zf2 4
  have g5:=z0b z5
  have q5:=zf2 5
  have g6:=z0b z6
  have q6:=zf2 6
  have g7:=z0b z7
  have q7:=zf2 7
  have g8:=z0b z8
  have q8:=zf2 8
  have g9:=z0b z9
  have q9:=zf2 9
  have g10:=z0b z10
  have q10:=zf2 10
  have g11:=z0b z11
  have q11:=zf2 11
  have g12:=z0b z12
  have q12:=zf2 12
  have g13:=z0b z13
  have q13:=zf2 13
  have f0:=cf2 11
  have h0:=z0b c11
  clear hx2 hr2 cf2 zf2 hj hy1 hy2' hy3
  go_wp2
  go_returns
  obtain ⟨n0,n1,n2,n3,n4,n5,n6⟩:=nn.out
  exact ⟨{ s with taken:=s.taken ++ [n] },pa',pc',da',dc',ia',ic',oa',oc',ta',tc',na,nc,ua',uc',true,by unfold snV;dsimp only;rw [eN.out],hfin.out.1,⟨by show s.past.length ≤ _;omega,by show s.data.length ≤ _;omega,by show s.inner.length ≤ _;omega,by show s.outer.length ≤ _;omega,by show s.timers.length ≤ _;omega,by show (s.taken ++ [n]).length ≤ _;rw [eN.out];omega,by show s.out.length ≤ _;omega⟩,z3s (fun e=>by have:=congrArg (fun t:Sn=>t.taken.length) e;simp at this),hfin.out.2⟩
 ·have hz0:=hbX.out.size
  obtain ⟨j0,hj,hy1,hy2',hy3⟩:=info_parts Tryz.infoQs
  have hl:s.out.length ≤ 200:=nn.out.2.2.2.2.2.2
  go_wp2_with (at_builtin;refine z0u rfl _ _ 38 rfl w.heap.size 9 j0 _ 1 16 Tryz.underlying38 hj hy1 hy2' hy3 rfl deT (.slice ua' s.out.length uc') s.out.length _ rfl (z0a hO1.out.out gzT) (some ⟨_,0,none⟩) 1 1 [.string q1l] rfl (q2g (q2a (by simp)) rfl) rfl (by intro u hu;simp at hu;subst hu;rfl) (by unfold maxLen;omega) omT gzT ?_)
  intro v' w2 hown hgrow
  have hb2:Below w.heap.size w w2:=Below.grown (show Below w.heap.size w _ from hbX.out.trans (Below.mono (B:=X0.heap.size) gzT hz0)) hgrow gzT (fun k hk=>(hO1.out.out.lt k hk).1)
  obtain ⟨na,nc,rfl⟩:=z0g hown
  have hx2:=z0h (z0a hO1.out.out gzT) (z0c x0'.out gzT) deT hgrow
  have hr2:=z0h (z0a hO1.out.out gzT) (z0c ry1'.out gzT) deT hgrow
  have o0:=z0o (z0a hO1.out.past gzT) (z0a hO1.out.out gzT) (z1a hO1.out.past hO1.out.out deT) hgrow
  have o1:=z0o (z0a hO1.out.data gzT) (z0a hO1.out.out gzT) (z1a hO1.out.data hO1.out.out deT) hgrow
  have o2:=z0o (z0a hO1.out.inner gzT) (z0a hO1.out.out gzT) (q0q hO1.out.iu) hgrow
  have o3:=z0o (z0a hO1.out.outer gzT) (z0a hO1.out.out gzT) (q0q hO1.out.ou) hgrow
  have o4:=z0o (z0a hO1.out.timers gzT) (z0a hO1.out.out gzT) (z1a hO1.out.timers hO1.out.out deT) hgrow
  have o5:=z0o (z0a hO1.out.taken gzT) (z0a hO1.out.out gzT) (z1a hO1.out.taken hO1.out.out deT) hgrow
  have eC:(s.out ++ [q1l]).flatMap z3j = s.out.flatMap z3j ++ [.string q1l]:=by rw [List.flatMap_append];rfl
  have eN:(s.out ++ [q1l]).length = s.out.length + 1:=by simp
  have hS:SnOs w2 w.heap.size { s with out:=s.out ++ [q1l] } pa' pc' da' dc' ia' ic' oa' oc' ta' tc' ka' kc' na nc:=⟨o0,o1,o2,o3,o4,o5,by show w2.ownsRow _ _ _ (.slice na (s.out ++ [q1l]).length nc) (s.out ++ [q1l]).length ((s.out ++ [q1l]).flatMap z3j);rw [eC,eN];exact hown⟩
  have hbX2:=hb2.setCell (p:=⟨ob,13,none⟩) hlo (.slice na (s.out.length + 1) nc)
  have hS2:=z4u (j:=13) (u := .slice na (s.out.length + 1) nc) hS hx2
  have hy2:=z0i (i:=13) (v := .slice na (s.out.length + 1) nc) hr2 hre
  have hfin:=hiT (z2p (s':={ s with out:=s.out ++ [q1l] }) (b:=rb) (v0 := .int .i64 s.status) (v1 := .int .i64 s.moves) (v2 := .int .i64 s.clock) (v3 := .int .i64 s.seq) (v4 := .int .u64 s.inn) (v5 := .slice pa' s.past.length pc') (v6 := .slice da' s.data.length dc') (v7 := .slice ia' s.inner.length ic') (v8 := .slice oa' s.outer.length oc') (v9 := .slice ta' s.timers.length tc') (v10 := .string s.event) (v11 := .slice ka' s.taken.length kc') (v12 := .int .u64 s.ent) (v13 := .slice na (s.out.length + 1) nc) hS2 hy2 hbX2 hle)
  clear hbX2 hS2 hy2
  replace eN:=hiT eN
  clear hown hgrow hb2 o0 o1 o2 o3 o4 o5 eC hS
  clear c0 c1 c2 c3 c4 c5 c6 c7 c8 c9 c10 c11 c12 c13 z0 z1 z2 z3 z4 z5 z6 z7 z8 z9 z10 z11 z12 z13 g0 q0 g1 q1 g2 q2 g3 q3 g4 q4 g5 q5 g6 q6 g7 q7 g8 q8 g9 q9 g10 q10 g11 q11 g12 q12 g13 q13 j1 j2
  obtain ⟨c0,c1,c2,c3,c4,c5,c6,c7,c8,c9,c10,c11,c12,c13,cl2,cf2⟩:=z1p hx2
  obtain ⟨z0,z1,z2,z3,z4,z5,z6,z7,z8,z9,z10,z11,z12,z13,zl2,zf2⟩:=z1p hr2
  have j1:InW ob w2:=⟨cl2⟩
  have j2:InW rb w2:=⟨zl2⟩
  have g0:=z0b z0
  have q0:=zf2 0
  have g1:=z0b z1
  have q1:=zf2 1
  have g2:=z0b z2
  have q2:=zf2 2
  have g3:=z0b z3
  have q3:=zf2 3
  have g4:=z0b z4
  have q4:=zf2 4
  have g5:=z0b z5
  have q5:=zf2 5
  have g6:=z0b z6
  have q6:=zf2 6
  have g7:=z0b z7
  have q7:=zf2 7
  have g8:=z0b z8
  have q8:=zf2 8
  have g9:=z0b z9
  have q9:=zf2 9
  have g10:=z0b z10
  have q10:=zf2 10
  have g11:=z0b z11
  have q11:=zf2 11
  have g12:=z0b z12
  have q12:=zf2 12
  have g13:=z0b z13
  have q13:=zf2 13
  have f0:=cf2 13
  have h0:=z0b c13
  clear hx2 hr2 cf2 zf2 hj hy1 hy2' hy3
  go_wp2
  go_returns
  obtain ⟨n0,n1,n2,n3,n4,n5,n6⟩:=nn.out
  exact ⟨{ s with out:=s.out ++ [q1l] },pa',pc',da',dc',ia',ic',oa',oc',ta',tc',ka',kc',na,nc,true,by unfold snV;dsimp only;rw [eN.out],hfin.out.1,⟨by show s.past.length ≤ _;omega,by show s.data.length ≤ _;omega,by show s.inner.length ≤ _;omega,by show s.outer.length ≤ _;omega,by show s.timers.length ≤ _;omega,by show s.taken.length ≤ _;omega,by show (s.out ++ [q1l]).length ≤ _;rw [eN.out];omega⟩,z3s (fun e=>by have:=congrArg (fun t:Sn=>t.out.length) e;simp at this),hfin.out.2⟩
set_option maxRecDepth 100000 in
set_option maxHeartbeats 40000000 in
theorem y9m (s:Sn) (pa:Option Addr) (pc:Nat) (da:Option Addr) (dc:Nat) (ia:Option Addr) (ic:Nat) (oa:Option Addr) (oc:Nat) (ta:Option Addr) (tc:Nat) (ka:Option Addr) (kc:Nat) (ua:Option Addr) (uc:Nat) (k n:Int) (hkd:k = 12 ∨ k = 13 ∨ k = 14) (hk:I64 k) (hn6:I64 n) (I:SnIn s) (Z:SnZ s) (w:World) (hn:s.past.length ≤ 200 ∧ s.data.length ≤ 200 ∧ s.inner.length ≤ 200 ∧ s.outer.length ≤ 200 ∧ s.timers.length ≤ 200 ∧ s.taken.length ≤ 200 ∧ s.out.length ≤ 200) (h:SnRd w s pa pc da dc ia ic oa oc ta tc ka kc ua uc) :
  Calls Tryz.prog 17 #[snV s pa pc da dc ia ic oa oc ta tc ka kc ua uc,.agg #[.int .i64 k,.int .i64 n]] w (v7l s w):=by
 obtain ⟨n0,n1,n2,n3,n4,n5,n6⟩:=hn
 have _:=hn6
 have C:=hiT (fun wx (hx:Below w.heap.size w wx)=>z6j s pa pc da dc ia ic oa oc ta tc ka kc ua uc wx ⟨by omega,by omega,by omega,by omega,by omega,by omega,by omega⟩ (z2v h hx))
 have nn:=hiT (And.intro n0 (And.intro n1 (And.intro n2 (And.intro n3 (And.intro n4 (And.intro n5 n6))))))
 have I':=hiT I
 have Z':=hiT Z
 clear h n0 n1 n2 n3 n4 n5 n6 I Z
 go_enter Tryz.func17,Tryz.ntmps17
 go_wp2_with fail
 refine (C.out _ gzT).mono ?_
 rintro e w1 ⟨pa',pc',da',dc',ia',ic',oa',oc',ta',tc',ka',kc',ua',uc',rfl,hO,hb1⟩
 have hb1':Below w.heap.size w w1:=Below.trans gzT (hb1.mono gzT)
 have kx:=z0c (z0j (o := .cells #[.int .i64 0,.int .i64 0,.int .i64 0,.int .i64 0,.int .u64 0,.slice none 0 0,.slice none 0 0,.slice none 0 0,.slice none 0 0,.slice none 0 0,.string ⟨#[]⟩,.slice none 0 0,.int .u64 0,.slice none 0 0] 44) (z0s (b:=w.heap.size + 1) (w:=w.alloc (.cells #[.int .i64 s.status,.int .i64 s.moves,.int .i64 s.clock,.int .i64 s.seq,.int .u64 s.inn,.slice pa s.past.length pc,.slice da s.data.length dc,.slice ia s.inner.length ic,.slice oa s.outer.length oc,.slice ta s.timers.length tc,.string s.event,.slice ka s.taken.length kc,.int .u64 s.ent,.slice ua s.out.length uc] 44)) (o := .cells #[.int .i64 k,.int .i64 n] 61) (by simp))) hb1
 have ry:w1.heap[w.heap.size + 1 + 1]? = some (.cells #[.int .i64 0,.int .i64 0,.int .i64 0,.int .i64 0,.int .u64 0,.slice none 0 0,.slice none 0 0,.slice none 0 0,.slice none 0 0,.slice none 0 0,.string ⟨#[]⟩,.slice none 0 0,.int .u64 0,.slice none 0 0] 44 (0,0)):=z0c (z0s (by simp)) hb1
 replace hO:=q3s hO (show w.heap.size ≤ _ by simp;omega)
 have hO':=hiT hO
 clear hO hb1 C
 have x0:=heap_alloc_new w1 (.cells #[.int .i64 s.status,.int .i64 s.moves,.int .i64 s.clock,.int .i64 s.seq,.int .u64 s.inn,.slice pa' s.past.length pc',.slice da' s.data.length dc',.slice ia' s.inner.length ic',.slice oa' s.outer.length oc',.slice ta' s.timers.length tc',.string s.event,.slice ka' s.taken.length kc',.int .u64 s.ent,.slice ua' s.out.length uc'] 44 (0,0))
 obtain ⟨X0,hX0⟩:∃ X,w1.alloc (.cells #[.int .i64 s.status,.int .i64 s.moves,.int .i64 s.clock,.int .i64 s.seq,.int .u64 s.inn,.slice pa' s.past.length pc',.slice da' s.data.length dc',.slice ia' s.inner.length ic',.slice oa' s.outer.length oc',.slice ta' s.timers.length tc',.string s.event,.slice ka' s.taken.length kc',.int .u64 s.ent,.slice ua' s.out.length uc'] 44 (0,0)) = X:=⟨_,rfl⟩
 rw [hX0] at x0
 have bX:Below w1.heap.size w1 X0:=by rw [← hX0];exact gzT
 have hO1:=hiT (q0z hO'.out bX)
 have kx1:=z0c kx bX
 have ry1:=z0c ry bX
 have hbX:=hiT (hb1'.trans (bX.mono hb1'.size))
 have hlt:w.heap.size + 1 + 1 < w1.heap.size:=lt_of_block ry
 obtain ⟨i1⟩:Nonempty (InW (w.heap.size + 1) w1):=⟨⟨lt_of_block kx⟩⟩
 have kc0:X0.cell? ⟨w.heap.size + 1,0,none⟩ = some (.int .i64 k):=by rw [cell_of_row _ _ _ _ _ _ kx1];rfl
 have kc1:X0.cell? ⟨w.heap.size + 1,1,none⟩ = some (.int .i64 n):=by rw [cell_of_row _ _ _ _ _ _ kx1];rfl
 have i2:InW (w.heap.size + 1) X0:=⟨lt_of_block kx1⟩
 clear kx ry bX hb1' hO'
 dsimp only
 go_upto_region 2 with (fail)
 (try dsimp only [snV])
 (try rw [hX0])
 clear hX0 i1
 generalize w1.heap.size = ob at *
 generalize hrb:w.heap.size + 1 + 1 = rb at *
 generalize hkb:w.heap.size + 1 = kb at *
 have hre:rb ≠ ob:=by omega
 have hle:w.heap.size ≤ rb:=by omega
 have hlo:w.heap.size ≤ ob:=by omega
 obtain ⟨c0,c1,c2,c3,c4,c5,c6,c7,c8,c9,c10,c11,c12,c13,cl,cf⟩:=z1p x0
 obtain ⟨z0,z1,z2,z3,z4,z5,z6,z7,z8,z9,z10,z11,z12,z13,zl,zf⟩:=z1p ry1
 have j1:InW ob X0:=⟨cl⟩
 have j2:InW rb X0:=⟨zl⟩
 have g0:=z0b z0
 have q0:=zf 0
 have g1:=z0b z1
 have q1:=zf 1
 have g2:=z0b z2
 have q2:=zf 2
 have g3:=z0b z3
 have q3:=zf 3
 have g4:=z0b z4
 have q4:=zf 4
 have g5:=z0b z5
 have q5:=zf 5
 have g6:=z0b z6
 have q6:=zf 6
 have g7:=z0b z7
 have q7:=zf 7
 have g8:=z0b z8
 have q8:=zf 8
 have g9:=z0b z9
 have q9:=zf 9
 have g10:=z0b z10
 have q10:=zf 10
 have g11:=z0b z11
 have q11:=zf 11
 have g12:=z0b z12
 have q12:=zf 12
 have g13:=z0b z13
 have q13:=zf 13
 have x0':=hiT x0
 have ry1':=hiT ry1
 have kx1':=hiT kx1
 have cf':=hiT cf
 clear x0 ry1 kx1 cf zf
 rcases hkd with rfl | rfl | rfl
 ·cases hl:s.past with
  | nil =>
   have e0:s.past.length = 0:=by rw [hl];rfl
   rw [e0] at c5
   have hbX2:=hbX.out
   have hS:=z5s hO1.out
   have hy2:=ry1'.out
   have hfin:=hiT (z2p (s':=s) (b:=rb) (v0 := .int .i64 s.status) (v1 := .int .i64 s.moves) (v2 := .int .i64 s.clock) (v3 := .int .i64 s.seq) (v4 := .int .u64 s.inn) (v5 := .slice pa' 0 pc') (v6 := .slice da' s.data.length dc') (v7 := .slice ia' s.inner.length ic') (v8 := .slice oa' s.outer.length oc') (v9 := .slice ta' s.timers.length tc') (v10 := .string s.event) (v11 := .slice ka' s.taken.length kc') (v12 := .int .u64 s.ent) (v13 := .slice ua' s.out.length uc') hS hy2 hbX2 hle)
   clear hbX2 hS hy2
   replace e0:=hiT e0
   clear hl
   go_wp2
   go_returns
   obtain ⟨n0,n1,n2,n3,n4,n5,n6⟩:=nn.out
   exact ⟨s,pa',pc',da',dc',ia',ic',oa',oc',ta',tc',ka',kc',ua',uc',false,by unfold snV;rw [e0.out],hfin.out.1,⟨by omega,by omega,by omega,by omega,by omega,by omega,by omega⟩,q3q rfl,hfin.out.2⟩
  | cons x r =>
   have hlen:0 < s.past.length:=by rw [hl];simp
   have hO2:=hO1.out.past
   obtain ⟨gg,cap,e,hg,hcap,_,hcell⟩:=z1g hO2 hlen
   obtain ⟨rfl,-,rfl⟩:=Value.slice.inj e
   clear e
   have hfl:=fun j u hj hu=>hcell (0 * 1 + j) u ((z9o sbC 1 q8r s.past 0 hlen j hj).trans hu)
   have hx0:s.past[0] = x:=by simp [hl]
   rw [hx0] at hfl
   have y0:=hfl 0 _ deT rfl
   rw [Nat.zero_mul,Nat.zero_add] at y0
   have hgo:gg ≠ ob:=fun e=>z0n hO2 x0'.out deT (by rw [e];rfl)
   have hgr:gg ≠ rb:=fun e=>z0n hO2 ry1'.out deT (by rw [e];rfl)
   have hgB:=(hO2.lt gg rfl).1
   have i9:InW gg X0:=⟨hg⟩
   have fy:X0.frozen? ⟨gg,0,none⟩ = false:=q4p hO2 0
   have hy9:=z0b y0
   have hX2:=z0i (i:=0) (v:=(.int .u64 (bits .xor .u64 x (shC n)))) x0'.out (Ne.symm hgo)
   have hR2:=z0i (i:=0) (v:=(.int .u64 (bits .xor .u64 x (shC n)))) ry1'.out (Ne.symm hgr)
   have hb2:=hbX.out.setCell (p:=⟨gg,0,none⟩) hgB (.int .u64 (bits .xor .u64 x (shC n)))
   have eC:(s.past.flatMap sbC).set 0 (.int .u64 (bits .xor .u64 x (shC n))) = (s.past.set 0 (bits .xor .u64 x (shC n))).flatMap sbC:=by
    have:=q6b sbC 1 q8r s.past 0 0 (.int .u64 (bits .xor .u64 x (shC n))) (bits .xor .u64 x (shC n)) hlen deT (by rw [hx0];rfl)
    rw [Nat.zero_mul,Nat.zero_add] at this
    exact this
   have eN:(s.past.set 0 (bits .xor .u64 x (shC n))).length = s.past.length:=List.length_set ..
   have hS:SnOs (X0.setCell ⟨gg,0,none⟩ (.int .u64 (bits .xor .u64 x (shC n)))) w.heap.size { s with past:=s.past.set 0 (bits .xor .u64 x (shC n)) } (some ⟨gg,0,none⟩) pc' da' dc' ia' ic' oa' oc' ta' tc' ka' kc' ua' uc':=⟨by show (X0.setCell _ _).ownsRow _ _ _ (.slice _ (s.past.set 0 (bits .xor .u64 x (shC n))).length _) (s.past.set 0 (bits .xor .u64 x (shC n))).length ((s.past.set 0 (bits .xor .u64 x (shC n))).flatMap sbC);rw [← eC,eN];exact j4d hO2,ownsRow_setCell_other (a:=⟨gg,0,none⟩) hO1.out.data (z3i hO1.out.data hO2 deT rfl) _,ownsRow_setCell_other (a:=⟨gg,0,none⟩) hO1.out.inner (z3i hO1.out.inner hO2 deT rfl) _,ownsRow_setCell_other (a:=⟨gg,0,none⟩) hO1.out.outer (z3i hO1.out.outer hO2 deT rfl) _,ownsRow_setCell_other (a:=⟨gg,0,none⟩) hO1.out.timers (z3i hO1.out.timers hO2 deT rfl) _,ownsRow_setCell_other (a:=⟨gg,0,none⟩) hO1.out.taken (z3i hO1.out.taken hO2 deT rfl) _,ownsRow_setCell_other (a:=⟨gg,0,none⟩) hO1.out.out (z3i hO1.out.out hO2 deT rfl) _⟩
   have hne:¬ bits .xor .u64 x (shC n) = x:=z6b (.inr rfl) _ _ (v6f n)
   have hne2:¬ s.past.set 0 (bits .xor .u64 x (shC n)) = s.past:=fun e=>by
    have h1:(s.past.set 0 (bits .xor .u64 x (shC n)))[0]? = s.past[0]?:=by rw [e]
    rw [List.getElem?_set_self hlen,List.getElem?_eq_getElem hlen,hx0] at h1
    exact hne (Option.some.inj h1)
   have eN':=hiT eN
   have hne2':=hiT hne2
   have hl0:((s.past.length:Int) == 0) = false:=by rw [beq_eq_false_iff_ne];omega
   have hl1:(0:Int) < (s.past.length:Int):=by omega
   have hS':=hiT hS
   have hX2':=hiT hX2
   have hR2':=hiT hR2
   have hb2':=hiT hb2
   clear hS eC eN hne hne2 hb2 hfl hcell hl hx0 hX2 hR2
   go_wp2_with fail
   refine z1n (S:=fun w'=>w'.cell? ⟨ob,5,none⟩ = some (.slice (some ⟨gg,0,none⟩) s.past.length pc') ∧ w'.cell? ⟨kb,1,none⟩ = some (.int .i64 n) ∧ w'.cell? ⟨gg,0,none⟩ = some (.int .u64 x)) 11 krT (by exact ⟨c5,kc1,y0⟩) (fun hS=>?_)
   have hT:=hS
   (try dsimp only at hT)
   obtain ⟨q0',q1',q2'⟩:=hT
   (refine mT 0 rfl rfl (v:=?_) (Or.inl ⟨by rfl,?_⟩) ?_;rotate_left;(focus (intro w hSw;(try dsimp only at hSw);go_simp;all_goals (with_reducible rfl)));simp only [List.setIfInBounds_toArray,List.set_cons_zero,List.set_cons_succ])
   (refine mT 1 rfl rfl (v:=?_) (Or.inl ⟨by rfl,?_⟩) ?_;rotate_left;(focus (intro w hSw;(try dsimp only at hSw);go_simp;all_goals (with_reducible rfl)));simp only [List.setIfInBounds_toArray,List.set_cons_zero,List.set_cons_succ])
   (refine mT 2 rfl rfl (v:=?_) (Or.inl ⟨by rfl,?_⟩) ?_;rotate_left;(focus (intro w hSw;(try dsimp only at hSw);go_simp;all_goals (with_reducible rfl)));simp only [List.setIfInBounds_toArray,List.set_cons_zero,List.set_cons_succ])
   (refine mT 3 rfl rfl (v:=?_) (Or.inl ⟨by rfl,?_⟩) ?_;rotate_left;(focus (intro w hSw;(try dsimp only at hSw);go_simp;all_goals (with_reducible rfl)));simp only [List.setIfInBounds_toArray,List.set_cons_zero,List.set_cons_succ])
   (refine mT 4 rfl rfl (v:=?_) (Or.inl ⟨by rfl,?_⟩) ?_;rotate_left;(focus (intro w hSw;(try dsimp only at hSw);go_simp;all_goals (with_reducible rfl)));simp only [List.setIfInBounds_toArray,List.set_cons_zero,List.set_cons_succ])
   (refine mT 5 rfl rfl (v:=?_) (Or.inl ⟨by rfl,?_⟩) ?_;rotate_left;(focus (intro w hSw;(try dsimp only at hSw);go_simp;all_goals (with_reducible rfl)));simp only [List.setIfInBounds_toArray,List.set_cons_zero,List.set_cons_succ])
   (refine mT 6 rfl rfl (v:=?_) (Or.inl ⟨by rfl,?_⟩) ?_;rotate_left;(focus (intro w hSw;(try dsimp only at hSw);go_simp;all_goals (with_reducible rfl)));simp only [List.setIfInBounds_toArray,List.set_cons_zero,List.set_cons_succ])
   (refine mT 7 rfl rfl (v:=?_) (Or.inl ⟨by rfl,?_⟩) ?_;rotate_left;(focus (intro w hSw;(try dsimp only at hSw);go_simp;all_goals (with_reducible rfl)));simp only [List.setIfInBounds_toArray,List.set_cons_zero,List.set_cons_succ])
   (refine mT 8 rfl rfl (v:=?_) (Or.inl ⟨by rfl,?_⟩) ?_;rotate_left;(focus (intro w hSw;(try dsimp only at hSw);go_simp;all_goals (with_reducible rfl)));simp only [List.setIfInBounds_toArray,List.set_cons_zero,List.set_cons_succ])
   (refine mT 9 rfl rfl (v:=?_) (Or.inl ⟨by rfl,?_⟩) ?_;rotate_left;(focus (intro w hSw;(try dsimp only at hSw);go_simp;all_goals (with_reducible rfl)));simp only [List.setIfInBounds_toArray,List.set_cons_zero,List.set_cons_succ])
   (refine mT 10 rfl rfl (v:=?_) (Or.inl ⟨by rfl,?_⟩) ?_;rotate_left;(focus (intro w hSw;(try dsimp only at hSw);go_simp;all_goals (with_reducible rfl)));simp only [List.setIfInBounds_toArray,List.set_cons_zero,List.set_cons_succ])
   refine z0f (t:=11) krT rfl rfl (fun K' hK=>?_)
   go_simp
   refine hK.out _ _ (fun h=>absurd rfl h) (fun _=>z1j krT ?_)
   clear hS q0' q1' q2' hK K'
   obtain ⟨X1,hX1⟩:∃ Y,(X0.setCell ⟨gg,0,none⟩ (.int .u64 (bits .xor .u64 x (shC n)))).drew = Y:=⟨_,rfl⟩
   rw [hX1]
   have hX4:=hX2'.out
   have hR4:=hR2'.out
   have hS4:=hS'.out
   have hX5:X1.heap[ob]? = some (.cells #[.int .i64 s.status,.int .i64 s.moves,.int .i64 s.clock,.int .i64 s.seq,.int .u64 s.inn,.slice (some ⟨gg,0,none⟩) s.past.length pc',.slice da' s.data.length dc',.slice ia' s.inner.length ic',.slice oa' s.outer.length oc',.slice ta' s.timers.length tc',.string s.event,.slice ka' s.taken.length kc',.int .u64 s.ent,.slice ua' s.out.length uc'] 44 (0,0)):=by rw [← hX1];exact hX4
   have hR5:X1.heap[rb]? = some (.cells #[.int .i64 0,.int .i64 0,.int .i64 0,.int .i64 0,.int .u64 0,.slice none 0 0,.slice none 0 0,.slice none 0 0,.slice none 0 0,.slice none 0 0,.string ⟨#[]⟩,.slice none 0 0,.int .u64 0,.slice none 0 0] 44 (0,0)):=by rw [← hX1];exact hR4
   have hS5:SnOs X1 w.heap.size { s with past:=s.past.set 0 (bits .xor .u64 x (shC n)) } (some ⟨gg,0,none⟩) pc' da' dc' ia' ic' oa' oc' ta' tc' ka' kc' ua' uc':=by rw [← hX1];exact ⟨hS4.past,hS4.data,hS4.inner,hS4.outer,hS4.timers,hS4.taken,hS4.out⟩
   have hbX2:Below w.heap.size w X1:=by rw [← hX1];exact hb2'.out.drew
   have hy2:=hR5
   have hfin:=hiT (z2p (s':={ s with past:=s.past.set 0 (bits .xor .u64 x (shC n)) }) (b:=rb) (v0 := .int .i64 s.status) (v1 := .int .i64 s.moves) (v2 := .int .i64 s.clock) (v3 := .int .i64 s.seq) (v4 := .int .u64 s.inn) (v5 := .slice (some ⟨gg,0,none⟩) s.past.length pc') (v6 := .slice da' s.data.length dc') (v7 := .slice ia' s.inner.length ic') (v8 := .slice oa' s.outer.length oc') (v9 := .slice ta' s.timers.length tc') (v10 := .string s.event) (v11 := .slice ka' s.taken.length kc') (v12 := .int .u64 s.ent) (v13 := .slice ua' s.out.length uc') hS5 hy2 hbX2 hle)
   clear hbX2 hS5 hy2
   clear hX4 hR4 hS4 hX1 c0 z0 g0 q0 c1 z1 g1 q1 c2 z2 g2 q2 c3 z3 g3 q3 c4 z4 g4 q4 c5 z5 g5 q5 c6 z6 g6 q6 c7 z7 g7 q7 c8 z8 g8 q8 c9 z9 g9 q9 c10 z10 g10 q10 c11 z11 g11 q11 c12 z12 g12 q12 c13 z13 g13 q13 j1 j2 y0 fy hy9 i9 kc0 kc1 i2
   obtain ⟨c0,c1,c2,c3,c4,c5,c6,c7,c8,c9,c10,c11,c12,c13,cl2,-⟩:=z1p hX5
   obtain ⟨z0,z1,z2,z3,z4,z5,z6,z7,z8,z9,z10,z11,z12,z13,zl2,zf2⟩:=z1p hR5
   have j1:InW ob X1:=⟨cl2⟩
   have j2:InW rb X1:=⟨zl2⟩
   have g0:=z0b z0
   have q0:=zf2 0
   have g1:=z0b z1
   have q1:=zf2 1
   have g2:=z0b z2
   have q2:=zf2 2
   have g3:=z0b z3
   have q3:=zf2 3
   have g4:=z0b z4
   have q4:=zf2 4
   have g5:=z0b z5
   have q5:=zf2 5
   have g6:=z0b z6
   have q6:=zf2 6
   have g7:=z0b z7
   have q7:=zf2 7
   have g8:=z0b z8
   have q8:=zf2 8
   have g9:=z0b z9
   have q9:=zf2 9
   have g10:=z0b z10
   have q10:=zf2 10
   have g11:=z0b z11
   have q11:=zf2 11
   have g12:=z0b z12
   have q12:=zf2 12
   have g13:=z0b z13
   have q13:=zf2 13
   clear hX5 hR5 zf2
   go_wp2
   go_returns
   obtain ⟨n0,n1,n2,n3,n4,n5,n6⟩:=nn.out
   exact ⟨{ s with past:=s.past.set 0 (bits .xor .u64 x (shC n)) },some ⟨gg,0,none⟩,pc',da',dc',ia',ic',oa',oc',ta',tc',ka',kc',ua',uc',true,by unfold snV;dsimp only;rw [eN'.out],hfin.out.1,⟨by show (s.past.set 0 _).length ≤ _;rw [eN'.out];omega,by show s.data.length ≤ _;omega,by show s.inner.length ≤ _;omega,by show s.outer.length ≤ _;omega,by show s.timers.length ≤ _;omega,by show s.taken.length ≤ _;omega,by show s.out.length ≤ _;omega⟩,z3s (fun e=>hne2'.out (congrArg Sn.past e)),hfin.out.2⟩
 ·cases hl:s.data with
  | nil =>
   have e0:s.data.length = 0:=by rw [hl];rfl
   rw [e0] at c6
   have hbX2:=hbX.out
   have hS:=z5s hO1.out
   have hy2:=ry1'.out
   have hfin:=hiT (z2p (s':=s) (b:=rb) (v0 := .int .i64 s.status) (v1 := .int .i64 s.moves) (v2 := .int .i64 s.clock) (v3 := .int .i64 s.seq) (v4 := .int .u64 s.inn) (v5 := .slice pa' s.past.length pc') (v6 := .slice da' 0 dc') (v7 := .slice ia' s.inner.length ic') (v8 := .slice oa' s.outer.length oc') (v9 := .slice ta' s.timers.length tc') (v10 := .string s.event) (v11 := .slice ka' s.taken.length kc') (v12 := .int .u64 s.ent) (v13 := .slice ua' s.out.length uc') hS hy2 hbX2 hle)
   clear hbX2 hS hy2
   replace e0:=hiT e0
   clear hl
   go_wp2
   go_returns
   obtain ⟨n0,n1,n2,n3,n4,n5,n6⟩:=nn.out
   exact ⟨s,pa',pc',da',dc',ia',ic',oa',oc',ta',tc',ka',kc',ua',uc',false,by unfold snV;rw [e0.out],hfin.out.1,⟨by omega,by omega,by omega,by omega,by omega,by omega,by omega⟩,q3q rfl,hfin.out.2⟩
  | cons x r =>
   have hlen:0 < s.data.length:=by rw [hl];simp
   have hO2:=hO1.out.data
   obtain ⟨gg,cap,e,hg,hcap,_,hcell⟩:=z1g hO2 hlen
   obtain ⟨rfl,-,rfl⟩:=Value.slice.inj e
   clear e
   have hfl:=fun j u hj hu=>hcell (0 * 3 + j) u ((z9o vlC 3 q5s s.data 0 hlen j hj).trans hu)
   have hx0:s.data[0] = x:=by simp [hl]
   rw [hx0] at hfl
   have y1:=hfl 1 _ deT rfl
   rw [Nat.zero_mul,Nat.zero_add] at y1
   have hgo:gg ≠ ob:=fun e=>z0n hO2 x0'.out deT (by rw [e];rfl)
   have hgr:gg ≠ rb:=fun e=>z0n hO2 ry1'.out deT (by rw [e];rfl)
   have hgB:=(hO2.lt gg rfl).1
   have i9:InW gg X0:=⟨hg⟩
   have fy:X0.frozen? ⟨gg,1,none⟩ = false:=q4p hO2 1
   have hy9:=z0b y1
   have hX2:=z0i (i:=1) (v:=(.int .i64 (bits .xor .i64 x.n 1))) x0'.out (Ne.symm hgo)
   have hR2:=z0i (i:=1) (v:=(.int .i64 (bits .xor .i64 x.n 1))) ry1'.out (Ne.symm hgr)
   have hb2:=hbX.out.setCell (p:=⟨gg,1,none⟩) hgB (.int .i64 (bits .xor .i64 x.n 1))
   have eC:(s.data.flatMap vlC).set 1 (.int .i64 (bits .xor .i64 x.n 1)) = (s.data.set 0 (⟨x.k,bits .xor .i64 x.n 1,x.s⟩)).flatMap vlC:=by
    have:=q6b vlC 3 q5s s.data 0 1 (.int .i64 (bits .xor .i64 x.n 1)) (⟨x.k,bits .xor .i64 x.n 1,x.s⟩) hlen deT (by rw [hx0];rfl)
    rw [Nat.zero_mul,Nat.zero_add] at this
    exact this
   have eN:(s.data.set 0 (⟨x.k,bits .xor .i64 x.n 1,x.s⟩)).length = s.data.length:=List.length_set ..
   have hS:SnOs (X0.setCell ⟨gg,1,none⟩ (.int .i64 (bits .xor .i64 x.n 1))) w.heap.size { s with data:=s.data.set 0 (⟨x.k,bits .xor .i64 x.n 1,x.s⟩) } pa' pc' (some ⟨gg,0,none⟩) dc' ia' ic' oa' oc' ta' tc' ka' kc' ua' uc':=⟨ownsRow_setCell_other (a:=⟨gg,1,none⟩) hO1.out.past (z3i hO1.out.past hO2 deT rfl) _,by show (X0.setCell _ _).ownsRow _ _ _ (.slice _ (s.data.set 0 (⟨x.k,bits .xor .i64 x.n 1,x.s⟩)).length _) (s.data.set 0 (⟨x.k,bits .xor .i64 x.n 1,x.s⟩)).length ((s.data.set 0 (⟨x.k,bits .xor .i64 x.n 1,x.s⟩)).flatMap vlC);rw [← eC,eN];exact j4d hO2,ownsRow_setCell_other (a:=⟨gg,1,none⟩) hO1.out.inner (z3i hO1.out.inner hO2 deT rfl) _,ownsRow_setCell_other (a:=⟨gg,1,none⟩) hO1.out.outer (z3i hO1.out.outer hO2 deT rfl) _,ownsRow_setCell_other (a:=⟨gg,1,none⟩) hO1.out.timers (z3i hO1.out.timers hO2 deT rfl) _,ownsRow_setCell_other (a:=⟨gg,1,none⟩) hO1.out.taken (z3i hO1.out.taken hO2 deT rfl) _,ownsRow_setCell_other (a:=⟨gg,1,none⟩) hO1.out.out (z3i hO1.out.out hO2 deT rfl) _⟩
   have hbX2:=hb2
   have hy2:=hR2
   have hfin:=hiT (z2p (s':={ s with data:=s.data.set 0 (⟨x.k,bits .xor .i64 x.n 1,x.s⟩) }) (b:=rb) (v0 := .int .i64 s.status) (v1 := .int .i64 s.moves) (v2 := .int .i64 s.clock) (v3 := .int .i64 s.seq) (v4 := .int .u64 s.inn) (v5 := .slice pa' s.past.length pc') (v6 := .slice (some ⟨gg,0,none⟩) s.data.length dc') (v7 := .slice ia' s.inner.length ic') (v8 := .slice oa' s.outer.length oc') (v9 := .slice ta' s.timers.length tc') (v10 := .string s.event) (v11 := .slice ka' s.taken.length kc') (v12 := .int .u64 s.ent) (v13 := .slice ua' s.out.length uc') hS hy2 hbX2 hle)
   clear hbX2 hS hy2
   have hne:¬ bits .xor .i64 x.n 1 = x.n:=z6b (.inl rfl) _ _ deT
   have hne2:¬ s.data.set 0 (⟨x.k,bits .xor .i64 x.n 1,x.s⟩) = s.data:=fun e=>by
    have h1:(s.data.set 0 (⟨x.k,bits .xor .i64 x.n 1,x.s⟩))[0]? = s.data[0]?:=by rw [e]
    rw [List.getElem?_set_self hlen,List.getElem?_eq_getElem hlen,hx0] at h1
    exact hne (by cases x;simp only [Option.some.injEq,Vl.mk.injEq] at h1;simp_all)
   have eN':=hiT eN
   have hne2':=hiT hne2
   have hl0:((s.data.length:Int) == 0) = false:=by rw [beq_eq_false_iff_ne];omega
   have hl1:(0:Int) < (s.data.length:Int):=by omega
   clear eC eN hne hne2 hb2 hfl hcell hl hx0
   clear hX2 hR2
   go_wp2
   go_returns
   obtain ⟨n0,n1,n2,n3,n4,n5,n6⟩:=nn.out
   exact ⟨{ s with data:=s.data.set 0 (⟨x.k,bits .xor .i64 x.n 1,x.s⟩) },pa',pc',some ⟨gg,0,none⟩,dc',ia',ic',oa',oc',ta',tc',ka',kc',ua',uc',true,by unfold snV;dsimp only;rw [eN'.out],hfin.out.1,⟨by show s.past.length ≤ _;omega,by show (s.data.set 0 _).length ≤ _;rw [eN'.out];omega,by show s.inner.length ≤ _;omega,by show s.outer.length ≤ _;omega,by show s.timers.length ≤ _;omega,by show s.taken.length ≤ _;omega,by show s.out.length ≤ _;omega⟩,z3s (fun e=>hne2'.out (congrArg Sn.data e)),hfin.out.2⟩
 ·cases hl:s.timers with
  | nil =>
   have e0:s.timers.length = 0:=by rw [hl];rfl
   rw [e0] at c9
   have hbX2:=hbX.out
   have hS:=z5s hO1.out
   have hy2:=ry1'.out
   have hfin:=hiT (z2p (s':=s) (b:=rb) (v0 := .int .i64 s.status) (v1 := .int .i64 s.moves) (v2 := .int .i64 s.clock) (v3 := .int .i64 s.seq) (v4 := .int .u64 s.inn) (v5 := .slice pa' s.past.length pc') (v6 := .slice da' s.data.length dc') (v7 := .slice ia' s.inner.length ic') (v8 := .slice oa' s.outer.length oc') (v9 := .slice ta' 0 tc') (v10 := .string s.event) (v11 := .slice ka' s.taken.length kc') (v12 := .int .u64 s.ent) (v13 := .slice ua' s.out.length uc') hS hy2 hbX2 hle)
   clear hbX2 hS hy2
   replace e0:=hiT e0
   clear hl
   go_wp2
   go_returns
   obtain ⟨n0,n1,n2,n3,n4,n5,n6⟩:=nn.out
   exact ⟨s,pa',pc',da',dc',ia',ic',oa',oc',ta',tc',ka',kc',ua',uc',false,by unfold snV;rw [e0.out],hfin.out.1,⟨by omega,by omega,by omega,by omega,by omega,by omega,by omega⟩,q3q rfl,hfin.out.2⟩
  | cons x r =>
   have hlen:0 < s.timers.length:=by rw [hl];simp
   have hO2:=hO1.out.timers
   obtain ⟨gg,cap,e,hg,hcap,_,hcell⟩:=z1g hO2 hlen
   obtain ⟨rfl,-,rfl⟩:=Value.slice.inj e
   clear e
   have hfl:=fun j u hj hu=>hcell (0 * 3 + j) u ((z9o tmC 3 j8b s.timers 0 hlen j hj).trans hu)
   have hx0:s.timers[0] = x:=by simp [hl]
   rw [hx0] at hfl
   have y1:=hfl 1 _ deT rfl
   rw [Nat.zero_mul,Nat.zero_add] at y1
   have hgo:gg ≠ ob:=fun e=>z0n hO2 x0'.out deT (by rw [e];rfl)
   have hgr:gg ≠ rb:=fun e=>z0n hO2 ry1'.out deT (by rw [e];rfl)
   have hgB:=(hO2.lt gg rfl).1
   have i9:InW gg X0:=⟨hg⟩
   have fy:X0.frozen? ⟨gg,1,none⟩ = false:=q4p hO2 1
   have hy9:=z0b y1
   have hX2:=z0i (i:=1) (v:=(.int .i64 (bits .xor .i64 x.seq 1))) x0'.out (Ne.symm hgo)
   have hR2:=z0i (i:=1) (v:=(.int .i64 (bits .xor .i64 x.seq 1))) ry1'.out (Ne.symm hgr)
   have hb2:=hbX.out.setCell (p:=⟨gg,1,none⟩) hgB (.int .i64 (bits .xor .i64 x.seq 1))
   have eC:(s.timers.flatMap tmC).set 1 (.int .i64 (bits .xor .i64 x.seq 1)) = (s.timers.set 0 (⟨x.due,bits .xor .i64 x.seq 1,x.name⟩)).flatMap tmC:=by
    have:=q6b tmC 3 j8b s.timers 0 1 (.int .i64 (bits .xor .i64 x.seq 1)) (⟨x.due,bits .xor .i64 x.seq 1,x.name⟩) hlen deT (by rw [hx0];rfl)
    rw [Nat.zero_mul,Nat.zero_add] at this
    exact this
   have eN:(s.timers.set 0 (⟨x.due,bits .xor .i64 x.seq 1,x.name⟩)).length = s.timers.length:=List.length_set ..
   have hS:SnOs (X0.setCell ⟨gg,1,none⟩ (.int .i64 (bits .xor .i64 x.seq 1))) w.heap.size { s with timers:=s.timers.set 0 (⟨x.due,bits .xor .i64 x.seq 1,x.name⟩) } pa' pc' da' dc' ia' ic' oa' oc' (some ⟨gg,0,none⟩) tc' ka' kc' ua' uc':=⟨ownsRow_setCell_other (a:=⟨gg,1,none⟩) hO1.out.past (z3i hO1.out.past hO2 deT rfl) _,ownsRow_setCell_other (a:=⟨gg,1,none⟩) hO1.out.data (z3i hO1.out.data hO2 deT rfl) _,ownsRow_setCell_other (a:=⟨gg,1,none⟩) hO1.out.inner (z3i hO1.out.inner hO2 deT rfl) _,ownsRow_setCell_other (a:=⟨gg,1,none⟩) hO1.out.outer (z3i hO1.out.outer hO2 deT rfl) _,by show (X0.setCell _ _).ownsRow _ _ _ (.slice _ (s.timers.set 0 (⟨x.due,bits .xor .i64 x.seq 1,x.name⟩)).length _) (s.timers.set 0 (⟨x.due,bits .xor .i64 x.seq 1,x.name⟩)).length ((s.timers.set 0 (⟨x.due,bits .xor .i64 x.seq 1,x.name⟩)).flatMap tmC);rw [← eC,eN];exact j4d hO2,ownsRow_setCell_other (a:=⟨gg,1,none⟩) hO1.out.taken (z3i hO1.out.taken hO2 deT rfl) _,ownsRow_setCell_other (a:=⟨gg,1,none⟩) hO1.out.out (z3i hO1.out.out hO2 deT rfl) _⟩
   have hbX2:=hb2
   have hy2:=hR2
   have hfin:=hiT (z2p (s':={ s with timers:=s.timers.set 0 (⟨x.due,bits .xor .i64 x.seq 1,x.name⟩) }) (b:=rb) (v0 := .int .i64 s.status) (v1 := .int .i64 s.moves) (v2 := .int .i64 s.clock) (v3 := .int .i64 s.seq) (v4 := .int .u64 s.inn) (v5 := .slice pa' s.past.length pc') (v6 := .slice da' s.data.length dc') (v7 := .slice ia' s.inner.length ic') (v8 := .slice oa' s.outer.length oc') (v9 := .slice (some ⟨gg,0,none⟩) s.timers.length tc') (v10 := .string s.event) (v11 := .slice ka' s.taken.length kc') (v12 := .int .u64 s.ent) (v13 := .slice ua' s.out.length uc') hS hy2 hbX2 hle)
   clear hbX2 hS hy2
   have hne:¬ bits .xor .i64 x.seq 1 = x.seq:=z6b (.inl rfl) _ _ deT
   have hne2:¬ s.timers.set 0 (⟨x.due,bits .xor .i64 x.seq 1,x.name⟩) = s.timers:=fun e=>by
    have h1:(s.timers.set 0 (⟨x.due,bits .xor .i64 x.seq 1,x.name⟩))[0]? = s.timers[0]?:=by rw [e]
    rw [List.getElem?_set_self hlen,List.getElem?_eq_getElem hlen,hx0] at h1
    exact hne (by cases x;simp only [Option.some.injEq,Tm.mk.injEq] at h1;simp_all)
   have eN':=hiT eN
   have hne2':=hiT hne2
   have hl0:((s.timers.length:Int) == 0) = false:=by rw [beq_eq_false_iff_ne];omega
   have hl1:(0:Int) < (s.timers.length:Int):=by omega
   clear eC eN hne hne2 hb2 hfl hcell hl hx0
   clear hX2 hR2
   go_wp2
   go_returns
   obtain ⟨n0,n1,n2,n3,n4,n5,n6⟩:=nn.out
   exact ⟨{ s with timers:=s.timers.set 0 (⟨x.due,bits .xor .i64 x.seq 1,x.name⟩) },pa',pc',da',dc',ia',ic',oa',oc',some ⟨gg,0,none⟩,tc',ka',kc',ua',uc',true,by unfold snV;dsimp only;rw [eN'.out],hfin.out.1,⟨by show s.past.length ≤ _;omega,by show s.data.length ≤ _;omega,by show s.inner.length ≤ _;omega,by show s.outer.length ≤ _;omega,by show (s.timers.set 0 _).length ≤ _;rw [eN'.out];omega,by show s.taken.length ≤ _;omega,by show s.out.length ≤ _;omega⟩,z3s (fun e=>hne2'.out (congrArg Sn.timers e)),hfin.out.2⟩
theorem j8w (s:Sn) (pa:Option Addr) (pc:Nat) (da:Option Addr) (dc:Nat) (ia:Option Addr) (ic:Nat) (oa:Option Addr) (oc:Nat) (ta:Option Addr) (tc:Nat) (ka:Option Addr) (kc:Nat) (ua:Option Addr) (uc:Nat) (k n:Int) (hk:I64 k) (hn6:I64 n) (I:SnIn s) (Z:SnZ s) (w:World) (hn:s.past.length ≤ 200 ∧ s.data.length ≤ 200 ∧ s.inner.length ≤ 200 ∧ s.outer.length ≤ 200 ∧ s.timers.length ≤ 200 ∧ s.taken.length ≤ 200 ∧ s.out.length ≤ 200) (h:SnRd w s pa pc da dc ia ic oa oc ta tc ka kc ua uc) :
  Calls Tryz.prog 17 #[snV s pa pc da dc ia ic oa oc ta tc ka kc ua uc,.agg #[.int .i64 k,.int .i64 n]] w (v7l s w):=by
 rcases (by omega:(k = 1 ∨ k = 2 ∨ k = 3 ∨ k = 4 ∨ k = 5) ∨ (k = 6 ∨ k = 7 ∨ k < 1 ∨ 14 < k) ∨ (k = 8 ∨ k = 9 ∨ k = 10 ∨ k = 11) ∨ (k = 12 ∨ k = 13 ∨ k = 14)) with h0 | h0 | h0 | h0
 ·exact y9j s pa pc da dc ia ic oa oc ta tc ka kc ua uc k n h0 hk hn6 I Z w hn h
 ·exact y9k s pa pc da dc ia ic oa oc ta tc ka kc ua uc k n h0 hk hn6 I Z w hn h
 ·exact y9l s pa pc da dc ia ic oa oc ta tc ka kc ua uc k n h0 hk hn6 I Z w hn h
 ·exact y9m s pa pc da dc ia ic oa oc ta tc ka kc ua uc k n h0 hk hn6 I Z w hn h
theorem z9e {P:Program} {md:Region.Mode} {ops:Array Oper} {Q:Exit → Act → World → Prop} {S:World → Prop} {n t:Nat} {o:Oper} {fuel:Nat} {listed:Array Bool} {a:Act} {w:World} (hr:Region.ready md ops listed = [t]) (ho:ops[t]? = some o) (hw:Region.wanted o (yielded ops a.tmps) = true)
  (h:∀ K':Act → World → Prop,RowKit.Hid (∀ a' w',(t ≠ n → S w') → ((t ≠ n → S w') → z5a P md ops Q S n fuel (listed.setIfInBounds t true) a' w') → K' a' w') → Oper.wp P o a w K' Q):z5a P md ops Q S n (fuel + 1) listed a w:=by
 refine ⟨fun h0=>(by rw [hr] at h0;cases h0),fun j hj=>?_⟩
 rw [hr,List.mem_singleton] at hj
 subst hj
 refine wpOp_step ho fun K' hK=>?_
 rw [if_pos hw]
 exact h K' fun a' w' h1 h2=>hK a' w' ⟨h1,h2 h1⟩
theorem y7f (a b:Sn):q5w a b = q5w b a:=by
 rw [Bool.eq_iff_iff,q3r,q3r]
 exact eq_comm
set_option maxRecDepth 100000 in
set_option maxHeartbeats 8000000 in
theorem y0u (s:Sn) (pa:Option Addr) (pc:Nat) (da:Option Addr) (dc:Nat) (ia:Option Addr) (ic:Nat) (oa:Option Addr) (oc:Nat) (ta:Option Addr) (tc:Nat) (ka:Option Addr) (kc:Nat) (ua:Option Addr) (uc:Nat) (k n:Int) (hk:I64 k) (hn6:I64 n) (w:World) (h:SnRd w s pa pc da dc ia ic oa oc ta tc ka kc ua uc) (I:SnIn s) (Z:SnZ s) (hA:Ap w) :
  Calls Tryz.prog 4 #[snV s pa pc da dc ia ic oa oc ta tc ka kc ua uc,.agg #[.int .i64 k,.int .i64 n]] w (Ret (.bool true) w):=by
 have A:=hiT (fun wx (hb:Below w.heap.size w wx)=>q5c wx (j2v hA hb))
 have H:=hiT (fun wx (hb:Below w.heap.size w wx)=>z2v h hb)
 obtain ⟨m0,m1,m2,m3,m4,m5,m6,-,-,-,-⟩:=id Z
 by_cases hs:200 < s.past.length + s.data.length + s.inner.length + s.outer.length + s.timers.length + s.taken.length + s.out.length
 ·have hI:(200:Int) < (s.past.length:Int) + (s.data.length:Int) + (s.inner.length:Int) + (s.outer.length:Int) + (s.timers.length:Int) + (s.taken.length:Int) + (s.out.length:Int):=by omega
  clear h hA H Z I hs
  go_enter Tryz.func4,Tryz.ntmps4
  go_wp2_with (((with_reducible refine (A.out _ gzT).mono ?_);intro e w1 hr;obtain ⟨rfl,p,rfl⟩:=hr.out;clear hr))
  go_returns
  exact ⟨rfl,gzT⟩
 ·have n0:s.past.length ≤ 200 ∧ s.data.length ≤ 200 ∧ s.inner.length ≤ 200 ∧ s.outer.length ≤ 200 ∧ s.timers.length ≤ 200 ∧ s.taken.length ≤ 200 ∧ s.out.length ≤ 200:=by omega
  have n4:s.past.length ≤ 400 ∧ s.data.length ≤ 400 ∧ s.inner.length ≤ 400 ∧ s.outer.length ≤ 400 ∧ s.timers.length ≤ 400 ∧ s.taken.length ≤ 400 ∧ s.out.length ≤ 400:=by omega
  have hI:¬ (200:Int) < (s.past.length:Int) + (s.data.length:Int) + (s.inner.length:Int) + (s.outer.length:Int) + (s.timers.length:Int) + (s.taken.length:Int) + (s.out.length:Int):=by omega
  have Ch:=hiT (fun wx (hb:Below w.heap.size w wx)=>j8w s pa pc da dc ia ic oa oc ta tc ka kc ua uc k n hk hn6 I Z wx n0 (H.out wx hb))
  have Cp:=hiT (fun wx (hb:Below w.heap.size w wx)=>z6j s pa pc da dc ia ic oa oc ta tc ka kc ua uc wx n4 (H.out wx hb))
  clear h hA Z I hs n0
  replace n4:=hiT n4
  go_enter Tryz.func4,Tryz.ntmps4
  go_wp2_with (first | ((with_reducible refine (A.out _ gzT).mono ?_);intro e w1 hr;obtain ⟨rfl,p,rfl⟩:=hr.out;clear hr))
  refine (Ch.out _ gzT).mono ?_
  rintro e w1 ⟨s',pa',pc',da',dc',ia',ic',oa',oc',ta',tc',ka',kc',ua',uc',b,rfl,hR,hL,hq,hb1⟩
  have hbw:Below w.heap.size w w1:=Below.trans gzT (hb1.mono gzT)
  have bx:=z0c (z0c (z0j (o := .cells #[.int .i64 k,.int .i64 n] 61) (heap_alloc_new w (.cells #[.int .i64 s.status,.int .i64 s.moves,.int .i64 s.clock,.int .i64 s.seq,.int .u64 s.inn,.slice pa s.past.length pc,.slice da s.data.length dc,.slice ia s.inner.length ic,.slice oa s.outer.length oc,.slice ta s.timers.length tc,.string s.event,.slice ka s.taken.length kc,.int .u64 s.ent,.slice ua s.out.length uc] 44))) (z1e _ _)) hb1
  obtain ⟨X0,hX0⟩:∃ X,w1.alloc (.cells #[.int .i64 s'.status,.int .i64 s'.moves,.int .i64 s'.clock,.int .i64 s'.seq,.int .u64 s'.inn,.slice pa' s'.past.length pc',.slice da' s'.data.length dc',.slice ia' s'.inner.length ic',.slice oa' s'.outer.length oc',.slice ta' s'.timers.length tc',.string s'.event,.slice ka' s'.taken.length kc',.int .u64 s'.ent,.slice ua' s'.out.length uc'] 44 (0,0)) = X:=⟨_,rfl⟩
  have bX:Below w1.heap.size w1 X0:=by rw [← hX0];exact gzT
  have ox:X0.heap[w1.heap.size]? = some (.cells #[.int .i64 s'.status,.int .i64 s'.moves,.int .i64 s'.clock,.int .i64 s'.seq,.int .u64 s'.inn,.slice pa' s'.past.length pc',.slice da' s'.data.length dc',.slice ia' s'.inner.length ic',.slice oa' s'.outer.length oc',.slice ta' s'.timers.length tc',.string s'.event,.slice ka' s'.taken.length kc',.int .u64 s'.ent,.slice ua' s'.out.length uc'] 44 (0,0)):=by rw [← hX0];exact heap_alloc_new w1 _
  replace bx:=z0c bx bX
  have hR1:=hiT (z2v hR bX)
  have hbX:=hiT (hbw.trans (bX.mono hbw.size))
  have hL1:=hiT hL
  have hq1:=hiT hq
  have hq2:=hiT ((y7f s s').trans hq)
  clear hb1 hbw hR hL hq bX A Ch
  dsimp only
  go_wp2_with fail
  (try dsimp only [snV])
  (try rw [hX0])
  clear hX0
  generalize w1.heap.size = ob at *
  obtain ⟨c0,c1,c2,c3,c4,c5,c6,c7,c8,c9,c10,c11,c12,c13,cl,-⟩:=z1p bx
  obtain ⟨z0,z1,z2,z3,z4,z5,z6,z7,z8,z9,z10,z11,z12,z13,zl,-⟩:=z1p ox
  clear bx ox
  have KS:Hid (∀ X,Below X0.heap.size X0 X → (X.cell? ⟨w.heap.size,0,none⟩ = some (.int .i64 s.status) ∧ X.cell? ⟨w.heap.size,1,none⟩ = some (.int .i64 s.moves) ∧ X.cell? ⟨w.heap.size,2,none⟩ = some (.int .i64 s.clock) ∧ X.cell? ⟨w.heap.size,3,none⟩ = some (.int .i64 s.seq) ∧ X.cell? ⟨w.heap.size,4,none⟩ = some (.int .u64 s.inn) ∧ X.cell? ⟨w.heap.size,5,none⟩ = some (.slice pa s.past.length pc) ∧ X.cell? ⟨w.heap.size,6,none⟩ = some (.slice da s.data.length dc) ∧ X.cell? ⟨w.heap.size,7,none⟩ = some (.slice ia s.inner.length ic) ∧ X.cell? ⟨w.heap.size,8,none⟩ = some (.slice oa s.outer.length oc) ∧ X.cell? ⟨w.heap.size,9,none⟩ = some (.slice ta s.timers.length tc) ∧ X.cell? ⟨w.heap.size,10,none⟩ = some (.string s.event) ∧ X.cell? ⟨w.heap.size,11,none⟩ = some (.slice ka s.taken.length kc) ∧ X.cell? ⟨w.heap.size,12,none⟩ = some (.int .u64 s.ent) ∧ X.cell? ⟨w.heap.size,13,none⟩ = some (.slice ua s.out.length uc)) ∧ (X.cell? ⟨ob,0,none⟩ = some (.int .i64 s'.status) ∧ X.cell? ⟨ob,1,none⟩ = some (.int .i64 s'.moves) ∧ X.cell? ⟨ob,2,none⟩ = some (.int .i64 s'.clock) ∧ X.cell? ⟨ob,3,none⟩ = some (.int .i64 s'.seq) ∧ X.cell? ⟨ob,4,none⟩ = some (.int .u64 s'.inn) ∧ X.cell? ⟨ob,5,none⟩ = some (.slice pa' s'.past.length pc') ∧ X.cell? ⟨ob,6,none⟩ = some (.slice da' s'.data.length dc') ∧ X.cell? ⟨ob,7,none⟩ = some (.slice ia' s'.inner.length ic') ∧ X.cell? ⟨ob,8,none⟩ = some (.slice oa' s'.outer.length oc') ∧ X.cell? ⟨ob,9,none⟩ = some (.slice ta' s'.timers.length tc') ∧ X.cell? ⟨ob,10,none⟩ = some (.string s'.event) ∧ X.cell? ⟨ob,11,none⟩ = some (.slice ka' s'.taken.length kc') ∧ X.cell? ⟨ob,12,none⟩ = some (.int .u64 s'.ent) ∧ X.cell? ⟨ob,13,none⟩ = some (.slice ua' s'.out.length uc'))):=hiT fun X hx=>⟨⟨(hx.cell (p:=⟨_,0,none⟩) cl).trans c0,(hx.cell (p:=⟨_,1,none⟩) cl).trans c1,(hx.cell (p:=⟨_,2,none⟩) cl).trans c2,(hx.cell (p:=⟨_,3,none⟩) cl).trans c3,(hx.cell (p:=⟨_,4,none⟩) cl).trans c4,(hx.cell (p:=⟨_,5,none⟩) cl).trans c5,(hx.cell (p:=⟨_,6,none⟩) cl).trans c6,(hx.cell (p:=⟨_,7,none⟩) cl).trans c7,(hx.cell (p:=⟨_,8,none⟩) cl).trans c8,(hx.cell (p:=⟨_,9,none⟩) cl).trans c9,(hx.cell (p:=⟨_,10,none⟩) cl).trans c10,(hx.cell (p:=⟨_,11,none⟩) cl).trans c11,(hx.cell (p:=⟨_,12,none⟩) cl).trans c12,(hx.cell (p:=⟨_,13,none⟩) cl).trans c13⟩,(hx.cell (p:=⟨_,0,none⟩) zl).trans z0,(hx.cell (p:=⟨_,1,none⟩) zl).trans z1,(hx.cell (p:=⟨_,2,none⟩) zl).trans z2,(hx.cell (p:=⟨_,3,none⟩) zl).trans z3,(hx.cell (p:=⟨_,4,none⟩) zl).trans z4,(hx.cell (p:=⟨_,5,none⟩) zl).trans z5,(hx.cell (p:=⟨_,6,none⟩) zl).trans z6,(hx.cell (p:=⟨_,7,none⟩) zl).trans z7,(hx.cell (p:=⟨_,8,none⟩) zl).trans z8,(hx.cell (p:=⟨_,9,none⟩) zl).trans z9,(hx.cell (p:=⟨_,10,none⟩) zl).trans z10,(hx.cell (p:=⟨_,11,none⟩) zl).trans z11,(hx.cell (p:=⟨_,12,none⟩) zl).trans z12,(hx.cell (p:=⟨_,13,none⟩) zl).trans z13⟩
  have hGX:Hid (∀ X,Below X0.heap.size X0 X → Below w.heap.size w X):=hiT fun X hx=>hbX.out.trans (hx.mono hbX.out.size)
  obtain ⟨nb,hnb⟩:∃ x,(!b) = x:=⟨_,rfl⟩
  rw [hnb] at hq1 hq2
  have x1:(nb != b) = true:=by rw [← hnb];cases b <;> rfl
  have x2:(nb == b) = false:=by rw [← hnb];cases b <;> rfl
  have x3:¬ nb = b:=by rw [← hnb];cases b <;> decide
  clear hnb
  refine z1n (S:=fun w'=>(w'.cell? ⟨w.heap.size,0,none⟩ = some (.int .i64 s.status) ∧ w'.cell? ⟨w.heap.size,1,none⟩ = some (.int .i64 s.moves) ∧ w'.cell? ⟨w.heap.size,2,none⟩ = some (.int .i64 s.clock) ∧ w'.cell? ⟨w.heap.size,3,none⟩ = some (.int .i64 s.seq) ∧ w'.cell? ⟨w.heap.size,4,none⟩ = some (.int .u64 s.inn) ∧ w'.cell? ⟨w.heap.size,5,none⟩ = some (.slice pa s.past.length pc) ∧ w'.cell? ⟨w.heap.size,6,none⟩ = some (.slice da s.data.length dc) ∧ w'.cell? ⟨w.heap.size,7,none⟩ = some (.slice ia s.inner.length ic) ∧ w'.cell? ⟨w.heap.size,8,none⟩ = some (.slice oa s.outer.length oc) ∧ w'.cell? ⟨w.heap.size,9,none⟩ = some (.slice ta s.timers.length tc) ∧ w'.cell? ⟨w.heap.size,10,none⟩ = some (.string s.event) ∧ w'.cell? ⟨w.heap.size,11,none⟩ = some (.slice ka s.taken.length kc) ∧ w'.cell? ⟨w.heap.size,12,none⟩ = some (.int .u64 s.ent) ∧ w'.cell? ⟨w.heap.size,13,none⟩ = some (.slice ua s.out.length uc)) ∧ (w'.cell? ⟨ob,0,none⟩ = some (.int .i64 s'.status) ∧ w'.cell? ⟨ob,1,none⟩ = some (.int .i64 s'.moves) ∧ w'.cell? ⟨ob,2,none⟩ = some (.int .i64 s'.clock) ∧ w'.cell? ⟨ob,3,none⟩ = some (.int .i64 s'.seq) ∧ w'.cell? ⟨ob,4,none⟩ = some (.int .u64 s'.inn) ∧ w'.cell? ⟨ob,5,none⟩ = some (.slice pa' s'.past.length pc') ∧ w'.cell? ⟨ob,6,none⟩ = some (.slice da' s'.data.length dc') ∧ w'.cell? ⟨ob,7,none⟩ = some (.slice ia' s'.inner.length ic') ∧ w'.cell? ⟨ob,8,none⟩ = some (.slice oa' s'.outer.length oc') ∧ w'.cell? ⟨ob,9,none⟩ = some (.slice ta' s'.timers.length tc') ∧ w'.cell? ⟨ob,10,none⟩ = some (.string s'.event) ∧ w'.cell? ⟨ob,11,none⟩ = some (.slice ka' s'.taken.length kc') ∧ w'.cell? ⟨ob,12,none⟩ = some (.int .u64 s'.ent) ∧ w'.cell? ⟨ob,13,none⟩ = some (.slice ua' s'.out.length uc'))) 24 krT (by exact ⟨⟨c0,c1,c2,c3,c4,c5,c6,c7,c8,c9,c10,c11,c12,c13⟩,z0,z1,z2,z3,z4,z5,z6,z7,z8,z9,z10,z11,z12,z13⟩) (fun hS=>?_)
  clear c0 c1 c2 c3 c4 c5 c6 c7 c8 c9 c10 c11 c12 c13 z0 z1 z2 z3 z4 z5 z6 z7 z8 z9 z10 z11 z12 z13
  (refine mT 0 rfl rfl (v:=?_) (Or.inl ⟨by rfl,?_⟩) ?_;rotate_left;(focus (intro w hSw;(try dsimp only at hSw);go_simp;all_goals (with_reducible rfl)));simp only [List.setIfInBounds_toArray,List.set_cons_zero,List.set_cons_succ])
  (refine mT 1 rfl rfl (v:=?_) (Or.inl ⟨by rfl,?_⟩) ?_;rotate_left;(focus (intro w hSw;(try dsimp only at hSw);go_simp;all_goals (with_reducible rfl)));simp only [List.setIfInBounds_toArray,List.set_cons_zero,List.set_cons_succ])
  refine z0f (t:=2) krT rfl rfl (fun K' hK=>?_)
  go_simp
  refine (Cp.out _ (hGX.out _ gzT)).mono ?_
  rintro e w2 ⟨pa_2,pc_2,da_2,dc_2,ia_2,ic_2,oa_2,oc_2,ta_2,tc_2,ka_2,kc_2,ua_2,uc_2,rfl,hO2,hb2⟩
  replace hO2:=hiT (y3i hO2)
  replace hb2:Below X0.heap.size X0 w2:=Below.trans gzT (hb2.mono gzT)
  have hz2:=hb2.size
  refine hK.out _ _ (fun _=>KS.out _ gzT) (fun hS=>?_)
  clear hK K'
  replace hS:=hS deT
  refine z0f (t:=3) krT rfl rfl (fun K' hK=>?_)
  go_simp
  refine (q1a s s _ _ _ _ _ _ _ _ _ _ _ _ _ _ _ _ _ _ _ _ _ _ _ _ _ _ _ _ _ n4.out (H.out _ (hGX.out _ gzT)) (z2v hO2.out gzT)).mono ?_
  intro e wz hr
  obtain ⟨rfl,p3,rfl⟩:=hr.out
  clear hr
  rw [q8q]
  refine hK.out _ _ (fun _=>KS.out _ gzT) (fun hS=>?_)
  clear hK K'
  replace hS:=hS deT
  (refine mT 4 rfl rfl (v:=?_) (Or.inl ⟨by rfl,?_⟩) ?_;rotate_left;(focus (intro w hSw;(try dsimp only at hSw);go_simp;all_goals (with_reducible rfl)));simp only [List.setIfInBounds_toArray,List.set_cons_zero,List.set_cons_succ])
  (refine mT 5 rfl rfl (v:=?_) (Or.inl ⟨by rfl,?_⟩) ?_;rotate_left;(focus (intro w hSw;(try dsimp only at hSw);go_simp;all_goals (with_reducible rfl)));simp only [List.setIfInBounds_toArray,List.set_cons_zero,List.set_cons_succ])
  (refine mT 7 rfl rfl (v:=?_) (Or.inl ⟨by rfl,?_⟩) ?_;rotate_left;(focus (intro w hSw;(try dsimp only at hSw);go_simp;all_goals (with_reducible rfl)));simp only [List.setIfInBounds_toArray,List.set_cons_zero,List.set_cons_succ])
  refine z9e (t:=6) krT rfl (by rfl) (fun K' hK=>?_)
  go_simp
  refine (Cp.out _ (hGX.out _ gzT)).mono ?_
  rintro e w6 ⟨pa_6,pc_6,da_6,dc_6,ia_6,ic_6,oa_6,oc_6,ta_6,tc_6,ka_6,kc_6,ua_6,uc_6,rfl,hO6,hb6⟩
  replace hO6:=hiT (y3i hO6)
  replace hb6:Below X0.heap.size X0 w6:=Below.trans gzT (hb6.mono gzT)
  have hz6:=hb6.size
  refine hK.out _ _ (fun _=>KS.out _ gzT) (fun hS=>?_)
  clear hK K'
  replace hS:=hS deT
  refine z9e (t:=8) krT rfl (by rfl) (fun K' hK=>?_)
  go_simp
  refine (q1a s s _ _ _ _ _ _ _ _ _ _ _ _ _ _ _ _ _ _ _ _ _ _ _ _ _ _ _ _ _ n4.out (z2v hO6.out gzT) (H.out _ (hGX.out _ gzT))).mono ?_
  intro e wz hr
  obtain ⟨rfl,p8,rfl⟩:=hr.out
  clear hr
  rw [q8q]
  refine hK.out _ _ (fun _=>KS.out _ gzT) (fun hS=>?_)
  clear hK K'
  replace hS:=hS deT
  (refine mT 9 rfl rfl (v:=?_) (Or.inl ⟨by rfl,?_⟩) ?_;rotate_left;(focus (intro w hSw;(try dsimp only at hSw);go_simp;all_goals (with_reducible rfl)));simp only [List.setIfInBounds_toArray,List.set_cons_zero,List.set_cons_succ])
  (refine mT 10 rfl rfl (v:=?_) (Or.inl ⟨by rfl,?_⟩) ?_;rotate_left;(focus (intro w hSw;(try dsimp only at hSw);go_simp;all_goals (with_reducible rfl)));simp only [List.setIfInBounds_toArray,List.set_cons_zero,List.set_cons_succ])
  (refine mT 11 rfl rfl (v:=?_) (Or.inl ⟨by rfl,?_⟩) ?_;rotate_left;(focus (intro w hSw;(try dsimp only at hSw);go_simp;all_goals (with_reducible rfl)));simp only [List.setIfInBounds_toArray,List.set_cons_zero,List.set_cons_succ])
  (refine mT 12 rfl rfl (v:=?_) (Or.inl ⟨by rfl,?_⟩) ?_;rotate_left;(focus (intro w hSw;(try dsimp only at hSw);go_simp;all_goals (with_reducible rfl)));simp only [List.setIfInBounds_toArray,List.set_cons_zero,List.set_cons_succ])
  (refine mT 14 rfl rfl (v:=?_) (Or.inl ⟨by rfl,?_⟩) ?_;rotate_left;(focus (intro w hSw;(try dsimp only at hSw);go_simp;all_goals (with_reducible rfl)));simp only [List.setIfInBounds_toArray,List.set_cons_zero,List.set_cons_succ])
  refine z9e (t:=13) krT rfl (by rfl) (fun K' hK=>?_)
  go_simp
  refine (q1a s' s _ _ _ _ _ _ _ _ _ _ _ _ _ _ _ _ _ _ _ _ _ _ _ _ _ _ _ _ _ hL1.out (z2v hR1.out gzT) (H.out _ (hGX.out _ gzT))).mono ?_
  intro e wz hr
  obtain ⟨rfl,p13,rfl⟩:=hr.out
  clear hr
  rw [hq1.out]
  refine hK.out _ _ (fun _=>KS.out _ gzT) (fun hS=>?_)
  clear hK K'
  replace hS:=hS deT
  (refine mT 15 rfl rfl (v:=?_) (Or.inl ⟨by rfl,?_⟩) ?_;rotate_left;(focus (intro w hSw;(try dsimp only at hSw);go_simp;all_goals (with_reducible rfl)));simp only [List.setIfInBounds_toArray,List.set_cons_zero,List.set_cons_succ])
  (refine mT 16 rfl rfl (v:=?_) (Or.inl ⟨by rfl,?_⟩) ?_;rotate_left;(focus (intro w hSw;(try dsimp only at hSw);go_simp;all_goals (with_reducible rfl)));simp only [List.setIfInBounds_toArray,List.set_cons_zero,List.set_cons_succ])
  (refine mT 17 rfl rfl (v:=?_) (Or.inl ⟨by rfl,?_⟩) ?_;rotate_left;(focus (intro w hSw;(try dsimp only at hSw);go_simp;all_goals (with_reducible rfl)));simp only [List.setIfInBounds_toArray,List.set_cons_zero,List.set_cons_succ])
  (refine mT 18 rfl rfl (v:=?_) (Or.inl ⟨by rfl,?_⟩) ?_;rotate_left;(focus (intro w hSw;(try dsimp only at hSw);go_simp;all_goals (with_reducible rfl)));simp only [List.setIfInBounds_toArray,List.set_cons_zero,List.set_cons_succ])
  (refine mT 19 rfl rfl (v:=?_) (Or.inl ⟨by rfl,?_⟩) ?_;rotate_left;(focus (intro w hSw;(try dsimp only at hSw);go_simp;all_goals (with_reducible rfl)));simp only [List.setIfInBounds_toArray,List.set_cons_zero,List.set_cons_succ])
  (refine mT 21 rfl rfl (v:=?_) (Or.inl ⟨by rfl,?_⟩) ?_;rotate_left;(focus (intro w hSw;(try dsimp only at hSw);go_simp;all_goals (with_reducible rfl)));simp only [List.setIfInBounds_toArray,List.set_cons_zero,List.set_cons_succ])
  refine z9e (t:=20) krT rfl (by rfl) (fun K' hK=>?_)
  go_simp
  refine (q1a s s' _ _ _ _ _ _ _ _ _ _ _ _ _ _ _ _ _ _ _ _ _ _ _ _ _ _ _ _ _ n4.out (H.out _ (hGX.out _ gzT)) (z2v hR1.out gzT)).mono ?_
  intro e wz hr
  obtain ⟨rfl,p20,rfl⟩:=hr.out
  clear hr
  rw [hq2.out]
  refine hK.out _ _ (fun _=>KS.out _ gzT) (fun hS=>?_)
  clear hK K'
  replace hS:=hS deT
  (refine mT 22 rfl rfl (v:=?_) (Or.inl ⟨by rfl,?_⟩) ?_;rotate_left;(focus (intro w hSw;(try dsimp only at hSw);go_simp;all_goals (with_reducible rfl)));simp only [List.setIfInBounds_toArray,List.set_cons_zero,List.set_cons_succ])
  (refine mT 23 rfl rfl (v:=?_) (Or.inl ⟨by rfl,?_⟩) ?_;rotate_left;(focus (intro w hSw;(try dsimp only at hSw);go_simp;all_goals (with_reducible rfl)));simp only [List.setIfInBounds_toArray,List.set_cons_zero,List.set_cons_succ])
  refine z0f (t:=24) krT rfl rfl (fun K' hK=>?_)
  go_simp
  refine hK.out _ _ (fun h=>absurd rfl h) (fun _=>z1j krT ?_)
  clear hS KS hK K'
  go_wp2
  go_returns
  exact ⟨rfl,hGX.out _ gzT⟩
end Go.Proofs.YtacnlghljmgdiaaGreatDoor
