/- Several texts of this proof, joined: SYx, SY, SYa, SYb. -/
import Derived.Test.YtacnlghljmgdiaaGreatDoorJ2
import Derived.Laws.Bits64
import Derived.Test.YtacnlghljmgdiaaGreatDoorL6
import Derived.Test.YtacnlghljmgdiaaGreatDoorO5
import Derived.Test.YtacnlghljmgdiaaGreatDoorO7
import Derived.Test.YtacnlghljmgdiaaGreatDoorQ7
import Derived.BigRegion
import Derived.WalkKit
import Derived.ProofKit
import Derived.OpenShut
import Derived.Handy
import Derived.BigQuiet
import Derived.OwnWalk
import Derived.Lib.Hide
import Derived.WalkSmall
import Derived.WalkLawsBesides
namespace Go.Proofs.YtacnlghljmgdiaaGreatDoor
open Go.RowKit
theorem z6b {k:IntKind} (hk:k = .i64 ∨ k = .u64) (a b:Int) (hb:BitVec.ofInt 64 b ≠ 0):¬ bits .xor k a b = a:=by
 intro h
 have e:BitVec.ofInt 64 (bits .xor k a b) = BitVec.ofInt 64 a ^^^ BitVec.ofInt 64 b:=by
  generalize hX:BitVec.ofInt 64 a ^^^ BitVec.ofInt 64 b = X
  apply BitVec.eq_of_toNat_eq
  have hlt:=X.isLt
  rcases hk with rfl | rfl
  ·have h1:bits .xor .i64 a b = IntKind.i64.wrap ((BitVec.ofInt 64 a ^^^ BitVec.ofInt 64 b).toNat:Int):=rfl
   rw [h1,hX,BitVec.toNat_ofInt,IntKind.wrap_i64]
   omega
  ·have h1:bits .xor .u64 a b = IntKind.u64.wrap ((BitVec.ofInt 64 a ^^^ BitVec.ofInt 64 b).toNat:Int):=rfl
   rw [h1,hX,BitVec.toNat_ofInt,IntKind.wrap_u64]
   omega
 rw [h] at e
 apply hb
 have e2:=congrArg (BitVec.ofInt 64 a ^^^ ·) e
 simp only [BitVec.xor_self,← BitVec.xor_assoc,BitVec.zero_xor] at e2
 exact e2.symm
theorem x1x (n:Int):0 ≤ bits .and .i64 n 63 ∧ bits .and .i64 n 63 ≤ 63:=by
 have h1:bits .and .i64 n 63 = IntKind.i64.wrap ((BitVec.ofInt 64 n &&& BitVec.ofInt 64 63).toNat:Int):=rfl
 have h2:(BitVec.ofInt 64 n &&& BitVec.ofInt 64 63).toNat ≤ 63:=by
  rw [BitVec.toNat_and]
  exact Nat.le_trans Nat.and_le_right deT
 rw [h1,IntKind.wrap_i64]
 omega
abbrev shC (n:Int):Int:=IntKind.u64.wrap (2 ^ min (IntKind.u64.wrap (bits .and .i64 n 63)).toNat 64)
theorem k2p:∀ m:Fin 64,¬ BitVec.ofInt 64 (IntKind.u64.wrap ((2:Int) ^ m.val)) = 0:=by decide +kernel
theorem v6f (n:Int):¬ BitVec.ofInt 64 (shC n) = 0:=by
 obtain ⟨h1,h2⟩:=x1x n
 have h3:(IntKind.u64.wrap (bits .and .i64 n 63)).toNat < 64:=by
  rw [IntKind.wrap_u64]
  omega
 show ¬ BitVec.ofInt 64 (IntKind.u64.wrap (2 ^ min (IntKind.u64.wrap (bits .and .i64 n 63)).toNat 64)) = 0
 rw [Nat.min_eq_left omT]
 exact k2p ⟨_,h3⟩
theorem j3s (a:ByteArray):¬ a ++ ⟨#[120]⟩ = a:=by
 intro e
 have:=congrArg ByteArray.size e
 rw [ByteArray.size_append] at this
 have h:(⟨#[120]⟩:ByteArray).size = 1:=rfl
 omega
structure SnOs (w:World) (B:Nat) (s:Sn) (pa:Option Addr) (pc:Nat) (da:Option Addr) (dc:Nat) (ia:Option Addr) (ic:Nat) (oa:Option Addr) (oc:Nat) (ta:Option Addr) (tc:Nat) (ka:Option Addr) (kc:Nat) (ua:Option Addr) (uc:Nat):Prop where
 past:w.ownsRow B 35 1 (.slice pa s.past.length pc) s.past.length (s.past.flatMap sbC)
 data:w.ownsRow B 66 3 (.slice da s.data.length dc) s.data.length (s.data.flatMap vlC)
 inner:w.ownsRow B 9 1 (.slice ia s.inner.length ic) s.inner.length (s.inner.flatMap z3j)
 outer:w.ownsRow B 9 1 (.slice oa s.outer.length oc) s.outer.length (s.outer.flatMap z3j)
 timers:w.ownsRow B 68 3 (.slice ta s.timers.length tc) s.timers.length (s.timers.flatMap tmC)
 taken:w.ownsRow B 3 1 (.slice ka s.taken.length kc) s.taken.length (s.taken.flatMap inC)
 out:w.ownsRow B 9 1 (.slice ua s.out.length uc) s.out.length (s.out.flatMap z3j)
theorem z5s {w:World} {B:Nat} {s:Sn} {pa:Option Addr} {pc:Nat} {da:Option Addr} {dc:Nat} {ia:Option Addr} {ic:Nat} {oa:Option Addr} {oc:Nat} {ta:Option Addr} {tc:Nat} {ka:Option Addr} {kc:Nat} {ua:Option Addr} {uc:Nat} (h:SnOw w B s pa pc da dc ia ic oa oc ta tc ka kc ua uc):SnOs w B s pa pc da dc ia ic oa oc ta tc ka kc ua uc :=
 ⟨h.past,h.data,h.inner,h.outer,h.timers,h.taken,h.out⟩
theorem v7i {w w':World} {B:Nat} {s:Sn} {pa:Option Addr} {pc:Nat} {da:Option Addr} {dc:Nat} {ia:Option Addr} {ic:Nat} {oa:Option Addr} {oc:Nat} {ta:Option Addr} {tc:Nat} {ka:Option Addr} {kc:Nat} {ua:Option Addr} {uc:Nat} (h:SnOs w B s pa pc da dc ia ic oa oc ta tc ka kc ua uc) (hb:Below w.heap.size w w'):SnOs w' B s pa pc da dc ia ic oa oc ta tc ka kc ua uc :=
 ⟨z0a h.past hb,z0a h.data hb,z0a h.inner hb,z0a h.outer hb,z0a h.timers hb,z0a h.taken hb,z0a h.out hb⟩
theorem z4u {w:World} {B b j:Nat} {u:Value} {cs:Array Value} {fr:Nat × Nat} {s:Sn} {pa:Option Addr} {pc:Nat} {da:Option Addr} {dc:Nat} {ia:Option Addr} {ic:Nat} {oa:Option Addr} {oc:Nat} {ta:Option Addr} {tc:Nat} {ka:Option Addr} {kc:Nat} {ua:Option Addr} {uc:Nat} (h:SnOs w B s pa pc da dc ia ic oa oc ta tc ka kc ua uc) (hb:w.heap[b]? = some (.cells cs 44 fr)):SnOs (w.setCell ⟨b,j,none⟩ u) B s pa pc da dc ia ic oa oc ta tc ka kc ua uc :=
 ⟨ownsRow_setCell_other h.past (z0n h.past hb deT) _,ownsRow_setCell_other h.data (z0n h.data hb deT) _,ownsRow_setCell_other h.inner (z0n h.inner hb deT) _,ownsRow_setCell_other h.outer (z0n h.outer hb deT) _,ownsRow_setCell_other h.timers (z0n h.timers hb deT) _,ownsRow_setCell_other h.taken (z0n h.taken hb deT) _,ownsRow_setCell_other h.out (z0n h.out hb deT) _⟩
theorem k9p {w:World} {B b:Nat} {v0 v1 v2 v3 v4 v5 v6 v7 v8 v9 v10 v11 v12 v13:Value} {cs:Array Value} {fr:Nat × Nat} {s:Sn} {pa:Option Addr} {pc:Nat} {da:Option Addr} {dc:Nat} {ia:Option Addr} {ic:Nat} {oa:Option Addr} {oc:Nat} {ta:Option Addr} {tc:Nat} {ka:Option Addr} {kc:Nat} {ua:Option Addr} {uc:Nat} (h:SnOs w B s pa pc da dc ia ic oa oc ta tc ka kc ua uc) (hb:w.heap[b]? = some (.cells cs 44 fr)):SnRd (y6l w b v0 v1 v2 v3 v4 v5 v6 v7 v8 v9 v10 v11 v12 v13) s pa pc da dc ia ic oa oc ta tc ka kc ua uc :=
 ⟨z2s (z2g h.past hb deT),z2s (z2g h.data hb deT),z2s (z2g h.inner hb deT),z2s (z2g h.outer hb deT),z2s (z2g h.timers hb deT),z2s (z2g h.taken hb deT),z2s (z2g h.out hb deT)⟩
theorem q3s {w:World} {B B':Nat} {s:Sn} {pa:Option Addr} {pc:Nat} {da:Option Addr} {dc:Nat} {ia:Option Addr} {ic:Nat} {oa:Option Addr} {oc:Nat} {ta:Option Addr} {tc:Nat} {ka:Option Addr} {kc:Nat} {ua:Option Addr} {uc:Nat} (h:SnOw w B s pa pc da dc ia ic oa oc ta tc ka kc ua uc) (hB:B' ≤ B):SnOw w B' s pa pc da dc ia ic oa oc ta tc ka kc ua uc :=
 ⟨z0m h.past hB,z0m h.data hB,z0m h.inner hB,z0m h.outer hB,z0m h.timers hB,z0m h.taken hB,z0m h.out hB,h.io,h.iu,h.ou⟩
theorem z2p {w a:World} {B B0 b:Nat} {v0 v1 v2 v3 v4 v5 v6 v7 v8 v9 v10 v11 v12 v13:Value} {cs:Array Value} {fr:Nat × Nat} {s s':Sn} {pa:Option Addr} {pc:Nat} {da:Option Addr} {dc:Nat} {ia:Option Addr} {ic:Nat} {oa:Option Addr} {oc:Nat} {ta:Option Addr} {tc:Nat} {ka:Option Addr} {kc:Nat} {ua:Option Addr} {uc:Nat} (h:SnOs w B s pa pc da dc ia ic oa oc ta tc ka kc ua uc) (hb:w.heap[b]? = some (.cells cs 44 fr)) (hB:Below B0 a w) (hle:B0 ≤ b) (e0:s'.past = s.past:=by rfl) (e1:s'.data = s.data:=by rfl) (e2:s'.inner = s.inner:=by rfl) (e3:s'.outer = s.outer:=by rfl) (e4:s'.timers = s.timers:=by rfl) (e5:s'.taken = s.taken:=by rfl) (e6:s'.out = s.out:=by rfl):SnRd (y6l w b v0 v1 v2 v3 v4 v5 v6 v7 v8 v9 v10 v11 v12 v13) s' pa pc da dc ia ic oa oc ta tc ka kc ua uc ∧ Below B0 a (y6l w b v0 v1 v2 v3 v4 v5 v6 v7 v8 v9 v10 v11 v12 v13):=by
 have k:SnRd (y6l w b v0 v1 v2 v3 v4 v5 v6 v7 v8 v9 v10 v11 v12 v13) s pa pc da dc ia ic oa oc ta tc ka kc ua uc:=k9p h hb
 exact ⟨⟨e0 ▸ k.past,e1 ▸ k.data,e2 ▸ k.inner,e3 ▸ k.outer,e4 ▸ k.timers,e5 ▸ k.taken,e6 ▸ k.out⟩,z8s hB hle⟩
theorem q0q {u v:Value} (h:q2n u v):u.ownBlock = none ∨ u.ownBlock ≠ v.ownBlock:=by
 cases e:u.ownBlock with
 | none=>exact .inl rfl
 | some g=>exact .inr fun k=>h g e k.symm
theorem q7c {u v:Value} (h:q2n u v):q2n v u:=fun g h1 h2=>h g h2 h1
theorem q4p {w:World} {B e s n m cap g:Nat} {xs:List Value} (h:w.ownsRow B e s (.slice (some ⟨g,0,none⟩) m cap) n xs) (i:Nat):w.frozen? ⟨g,i,none⟩ = false:=by
 rcases h.2 with ⟨h0,_⟩ | ⟨g',cap',cur,hv,_,hh,_⟩
 ·cases h0
 ·cases hv
  exact frozen_of_row w g i _ _ hh
theorem z3i {w:World} {B B' e e' s s' n n' g:Nat} {v u:Value} {xs ys:List Value} (h:w.ownsRow B e s v n xs) (k:w.ownsRow B' e' s' u n' ys) (hne:e ≠ e') (hg:u.ownBlock = some g):v.ownBlock ≠ some g:=fun k2=>by
 rcases z1a h k hne with h1 | h1
 ·rw [h1] at k2;cases k2
 ·exact h1 (k2.trans hg.symm)
abbrev q1l:ByteArray:=⟨#[120]⟩
def v7l (s:Sn) (w:World) (e:Ending) (w':World):Prop:=∃ (s':Sn) (pa:Option Addr) (pc:Nat) (da:Option Addr) (dc:Nat) (ia:Option Addr) (ic:Nat) (oa:Option Addr) (oc:Nat) (ta:Option Addr) (tc:Nat) (ka:Option Addr) (kc:Nat) (ua:Option Addr) (uc:Nat) (b:Bool),e = .returned (.tuple #[snV s' pa pc da dc ia ic oa oc ta tc ka kc ua uc,.bool b]) ∧ SnRd w' s' pa pc da dc ia ic oa oc ta tc ka kc ua uc ∧ (s'.past.length ≤ 400 ∧ s'.data.length ≤ 400 ∧ s'.inner.length ≤ 400 ∧ s'.outer.length ≤ 400 ∧ s'.timers.length ≤ 400 ∧ s'.taken.length ≤ 400 ∧ s'.out.length ≤ 400) ∧ q5w s' s = !b ∧ Below w.heap.size w w'
theorem z3s {a b:Sn} (h:¬ a = b):q5w a b = !true:=by
 cases e:q5w a b
 ·rfl
 ·exact absurd ((q3r a b).1 e) h
theorem q3q {a b:Sn} (h:a = b):q5w a b = !false:=by rw [h,q8q];rfl
set_option maxRecDepth 100000 in
set_option maxHeartbeats 40000000 in
theorem y9j (s:Sn) (pa:Option Addr) (pc:Nat) (da:Option Addr) (dc:Nat) (ia:Option Addr) (ic:Nat) (oa:Option Addr) (oc:Nat) (ta:Option Addr) (tc:Nat) (ka:Option Addr) (kc:Nat) (ua:Option Addr) (uc:Nat) (k n:Int) (hkd:k = 1 ∨ k = 2 ∨ k = 3 ∨ k = 4 ∨ k = 5) (hk:I64 k) (hn6:I64 n) (I:SnIn s) (Z:SnZ s) (w:World) (hn:s.past.length ≤ 200 ∧ s.data.length ≤ 200 ∧ s.inner.length ≤ 200 ∧ s.outer.length ≤ 200 ∧ s.timers.length ≤ 200 ∧ s.taken.length ≤ 200 ∧ s.out.length ≤ 200) (h:SnRd w s pa pc da dc ia ic oa oc ta tc ka kc ua uc) :
  Calls Tryz.prog 17 #[snV s pa pc da dc ia ic oa oc ta tc ka kc ua uc,.agg #[.int .i64 k,.int .i64 n]] w (v7l s w):=by
 obtain ⟨n0,n1,n2,n3,n4,n5,n6⟩:=hn
 have _:=hn6
 have C:=hiT (fun wx (hx:Below w.heap.size w wx)=>z6j s pa pc da dc ia ic oa oc ta tc ka kc ua uc wx ⟨by omega,by omega,by omega,by omega,by omega,by omega,by omega⟩ (z2v h hx))
 have nn:=hiT (And.intro n0 (And.intro n1 (And.intro n2 (And.intro n3 (And.intro n4 (And.intro n5 n6))))))
 have I':=hiT I
 have Z':=hiT Z
 clear h n0 n1 n2 n3 n4 n5 n6 I Z
 go_enter Tryz.func17,Tryz.ntmps17
 go_wp2_with fail
 refine (C.out _ gzT).mono ?_
 rintro e w1 ⟨pa',pc',da',dc',ia',ic',oa',oc',ta',tc',ka',kc',ua',uc',rfl,hO,hb1⟩
 have hb1':Below w.heap.size w w1:=Below.trans gzT (hb1.mono gzT)
 have kx:=z0c (z0j (o := .cells #[.int .i64 0,.int .i64 0,.int .i64 0,.int .i64 0,.int .u64 0,.slice none 0 0,.slice none 0 0,.slice none 0 0,.slice none 0 0,.slice none 0 0,.string ⟨#[]⟩,.slice none 0 0,.int .u64 0,.slice none 0 0] 44) (z0s (b:=w.heap.size + 1) (w:=w.alloc (.cells #[.int .i64 s.status,.int .i64 s.moves,.int .i64 s.clock,.int .i64 s.seq,.int .u64 s.inn,.slice pa s.past.length pc,.slice da s.data.length dc,.slice ia s.inner.length ic,.slice oa s.outer.length oc,.slice ta s.timers.length tc,.string s.event,.slice ka s.taken.length kc,.int .u64 s.ent,.slice ua s.out.length uc] 44)) (o := .cells #[.int .i64 k,.int .i64 n] 61) (by simp))) hb1
 have ry:w1.heap[w.heap.size + 1 + 1]? = some (.cells #[.int .i64 0,.int .i64 0,.int .i64 0,.int .i64 0,.int .u64 0,.slice none 0 0,.slice none 0 0,.slice none 0 0,.slice none 0 0,.slice none 0 0,.string ⟨#[]⟩,.slice none 0 0,.int .u64 0,.slice none 0 0] 44 (0,0)):=z0c (z0s (by simp)) hb1
 replace hO:=q3s hO (show w.heap.size ≤ _ by simp;omega)
 have hO':=hiT hO
 clear hO hb1 C
 have x0:=heap_alloc_new w1 (.cells #[.int .i64 s.status,.int .i64 s.moves,.int .i64 s.clock,.int .i64 s.seq,.int .u64 s.inn,.slice pa' s.past.length pc',.slice da' s.data.length dc',.slice ia' s.inner.length ic',.slice oa' s.outer.length oc',.slice ta' s.timers.length tc',.string s.event,.slice ka' s.taken.length kc',.int .u64 s.ent,.slice ua' s.out.length uc'] 44 (0,0))
 obtain ⟨X0,hX0⟩:∃ X,w1.alloc (.cells #[.int .i64 s.status,.int .i64 s.moves,.int .i64 s.clock,.int .i64 s.seq,.int .u64 s.inn,.slice pa' s.past.length pc',.slice da' s.data.length dc',.slice ia' s.inner.length ic',.slice oa' s.outer.length oc',.slice ta' s.timers.length tc',.string s.event,.slice ka' s.taken.length kc',.int .u64 s.ent,.slice ua' s.out.length uc'] 44 (0,0)) = X:=⟨_,rfl⟩
 rw [hX0] at x0
 have bX:Below w1.heap.size w1 X0:=by rw [← hX0];exact gzT
 have hO1:=hiT (q0z hO'.out bX)
 have kx1:=z0c kx bX
 have ry1:=z0c ry bX
 have hbX:=hiT (hb1'.trans (bX.mono hb1'.size))
 have hlt:w.heap.size + 1 + 1 < w1.heap.size:=lt_of_block ry
 obtain ⟨i1⟩:Nonempty (InW (w.heap.size + 1) w1):=⟨⟨lt_of_block kx⟩⟩
 have kc0:X0.cell? ⟨w.heap.size + 1,0,none⟩ = some (.int .i64 k):=by rw [cell_of_row _ _ _ _ _ _ kx1];rfl
 have kc1:X0.cell? ⟨w.heap.size + 1,1,none⟩ = some (.int .i64 n):=by rw [cell_of_row _ _ _ _ _ _ kx1];rfl
 have i2:InW (w.heap.size + 1) X0:=⟨lt_of_block kx1⟩
 clear kx ry bX hb1' hO'
 dsimp only
 go_upto_region 2 with (fail)
 (try dsimp only [snV])
 (try rw [hX0])
 clear hX0 i1
 generalize w1.heap.size = ob at *
 generalize hrb:w.heap.size + 1 + 1 = rb at *
 generalize hkb:w.heap.size + 1 = kb at *
 have hre:rb ≠ ob:=by omega
 have hle:w.heap.size ≤ rb:=by omega
 have hlo:w.heap.size ≤ ob:=by omega
 obtain ⟨c0,c1,c2,c3,c4,c5,c6,c7,c8,c9,c10,c11,c12,c13,cl,cf⟩:=z1p x0
 obtain ⟨z0,z1,z2,z3,z4,z5,z6,z7,z8,z9,z10,z11,z12,z13,zl,zf⟩:=z1p ry1
 have j1:InW ob X0:=⟨cl⟩
 have j2:InW rb X0:=⟨zl⟩
 have g0:=z0b z0
 have q0:=zf 0
 have g1:=z0b z1
 have q1:=zf 1
 have g2:=z0b z2
 have q2:=zf 2
 have g3:=z0b z3
 have q3:=zf 3
 have g4:=z0b z4
 have q4:=zf 4
 have g5:=z0b z5
 have q5:=zf 5
 have g6:=z0b z6
 have q6:=zf 6
 have g7:=z0b z7
 have q7:=zf 7
 have g8:=z0b z8
 have q8:=zf 8
 have g9:=z0b z9
 have q9:=zf 9
 have g10:=z0b z10
 have q10:=zf 10
 have g11:=z0b z11
 have q11:=zf 11
 have g12:=z0b z12
 have q12:=zf 12
 have g13:=z0b z13
 have q13:=zf 13
 have x0':=hiT x0
 have ry1':=hiT ry1
 have kx1':=hiT kx1
 have cf':=hiT cf
 clear x0 ry1 kx1 cf zf
 rcases hkd with rfl | rfl | rfl | rfl | rfl
 ·have f0:=cf'.out 0
  have h0:=z0b c0
  have hbX2:=hbX.out.setCell (p:=⟨ob,0,none⟩) hlo (.int .i64 (bits .xor .i64 s.status 8))
  have hS:=z4u (j:=0) (u := .int .i64 (bits .xor .i64 s.status 8)) (z5s hO1.out) x0'.out
  have hy2:=z0i (i:=0) (v := .int .i64 (bits .xor .i64 s.status 8)) ry1'.out hre
  have hfin:=hiT (z2p (s':={ s with status:=bits .xor .i64 s.status 8 }) (b:=rb) (v0 := .int .i64 (bits .xor .i64 s.status 8)) (v1 := .int .i64 s.moves) (v2 := .int .i64 s.clock) (v3 := .int .i64 s.seq) (v4 := .int .u64 s.inn) (v5 := .slice pa' s.past.length pc') (v6 := .slice da' s.data.length dc') (v7 := .slice ia' s.inner.length ic') (v8 := .slice oa' s.outer.length oc') (v9 := .slice ta' s.timers.length tc') (v10 := .string s.event) (v11 := .slice ka' s.taken.length kc') (v12 := .int .u64 s.ent) (v13 := .slice ua' s.out.length uc') hS hy2 hbX2 hle)
  clear hbX2 hS hy2
  have hne:¬ bits .xor .i64 s.status 8 = s.status:=z6b (.inl rfl) _ _ deT
  replace hne:=hiT hne
  go_wp2
  go_returns
  obtain ⟨n0,n1,n2,n3,n4,n5,n6⟩:=nn.out
  exact ⟨{ s with status:=bits .xor .i64 s.status 8 },pa',pc',da',dc',ia',ic',oa',oc',ta',tc',ka',kc',ua',uc',true,rfl,hfin.out.1,⟨by show s.past.length ≤ _;omega,by show s.data.length ≤ _;omega,by show s.inner.length ≤ _;omega,by show s.outer.length ≤ _;omega,by show s.timers.length ≤ _;omega,by show s.taken.length ≤ _;omega,by show s.out.length ≤ _;omega⟩,z3s (fun e=>hne.out (congrArg Sn.status e)),hfin.out.2⟩
 ·have f0:=cf'.out 1
  have h0:=z0b c1
  have hbX2:=hbX.out.setCell (p:=⟨ob,1,none⟩) hlo (.int .i64 (bits .xor .i64 s.moves 1))
  have hS:=z4u (j:=1) (u := .int .i64 (bits .xor .i64 s.moves 1)) (z5s hO1.out) x0'.out
  have hy2:=z0i (i:=1) (v := .int .i64 (bits .xor .i64 s.moves 1)) ry1'.out hre
  have hfin:=hiT (z2p (s':={ s with moves:=bits .xor .i64 s.moves 1 }) (b:=rb) (v0 := .int .i64 s.status) (v1 := .int .i64 (bits .xor .i64 s.moves 1)) (v2 := .int .i64 s.clock) (v3 := .int .i64 s.seq) (v4 := .int .u64 s.inn) (v5 := .slice pa' s.past.length pc') (v6 := .slice da' s.data.length dc') (v7 := .slice ia' s.inner.length ic') (v8 := .slice oa' s.outer.length oc') (v9 := .slice ta' s.timers.length tc') (v10 := .string s.event) (v11 := .slice ka' s.taken.length kc') (v12 := .int .u64 s.ent) (v13 := .slice ua' s.out.length uc') hS hy2 hbX2 hle)
  clear hbX2 hS hy2
  have hne:¬ bits .xor .i64 s.moves 1 = s.moves:=z6b (.inl rfl) _ _ deT
  replace hne:=hiT hne
  go_wp2
  go_returns
  obtain ⟨n0,n1,n2,n3,n4,n5,n6⟩:=nn.out
  exact ⟨{ s with moves:=bits .xor .i64 s.moves 1 },pa',pc',da',dc',ia',ic',oa',oc',ta',tc',ka',kc',ua',uc',true,rfl,hfin.out.1,⟨by show s.past.length ≤ _;omega,by show s.data.length ≤ _;omega,by show s.inner.length ≤ _;omega,by show s.outer.length ≤ _;omega,by show s.timers.length ≤ _;omega,by show s.taken.length ≤ _;omega,by show s.out.length ≤ _;omega⟩,z3s (fun e=>hne.out (congrArg Sn.moves e)),hfin.out.2⟩
 ·have f0:=cf'.out 2
  have h0:=z0b c2
  have hbX2:=hbX.out.setCell (p:=⟨ob,2,none⟩) hlo (.int .i64 (bits .xor .i64 s.clock 1))
  have hS:=z4u (j:=2) (u := .int .i64 (bits .xor .i64 s.clock 1)) (z5s hO1.out) x0'.out
  have hy2:=z0i (i:=2) (v := .int .i64 (bits .xor .i64 s.clock 1)) ry1'.out hre
  have hfin:=hiT (z2p (s':={ s with clock:=bits .xor .i64 s.clock 1 }) (b:=rb) (v0 := .int .i64 s.status) (v1 := .int .i64 s.moves) (v2 := .int .i64 (bits .xor .i64 s.clock 1)) (v3 := .int .i64 s.seq) (v4 := .int .u64 s.inn) (v5 := .slice pa' s.past.length pc') (v6 := .slice da' s.data.length dc') (v7 := .slice ia' s.inner.length ic') (v8 := .slice oa' s.outer.length oc') (v9 := .slice ta' s.timers.length tc') (v10 := .string s.event) (v11 := .slice ka' s.taken.length kc') (v12 := .int .u64 s.ent) (v13 := .slice ua' s.out.length uc') hS hy2 hbX2 hle)
  clear hbX2 hS hy2
  have hne:¬ bits .xor .i64 s.clock 1 = s.clock:=z6b (.inl rfl) _ _ deT
  replace hne:=hiT hne
  go_wp2
  go_returns
  obtain ⟨n0,n1,n2,n3,n4,n5,n6⟩:=nn.out
  exact ⟨{ s with clock:=bits .xor .i64 s.clock 1 },pa',pc',da',dc',ia',ic',oa',oc',ta',tc',ka',kc',ua',uc',true,rfl,hfin.out.1,⟨by show s.past.length ≤ _;omega,by show s.data.length ≤ _;omega,by show s.inner.length ≤ _;omega,by show s.outer.length ≤ _;omega,by show s.timers.length ≤ _;omega,by show s.taken.length ≤ _;omega,by show s.out.length ≤ _;omega⟩,z3s (fun e=>hne.out (congrArg Sn.clock e)),hfin.out.2⟩
 ·have f0:=cf'.out 3
  have h0:=z0b c3
  have hbX2:=hbX.out.setCell (p:=⟨ob,3,none⟩) hlo (.int .i64 (bits .xor .i64 s.seq 1))
  have hS:=z4u (j:=3) (u := .int .i64 (bits .xor .i64 s.seq 1)) (z5s hO1.out) x0'.out
  have hy2:=z0i (i:=3) (v := .int .i64 (bits .xor .i64 s.seq 1)) ry1'.out hre
  have hfin:=hiT (z2p (s':={ s with seq:=bits .xor .i64 s.seq 1 }) (b:=rb) (v0 := .int .i64 s.status) (v1 := .int .i64 s.moves) (v2 := .int .i64 s.clock) (v3 := .int .i64 (bits .xor .i64 s.seq 1)) (v4 := .int .u64 s.inn) (v5 := .slice pa' s.past.length pc') (v6 := .slice da' s.data.length dc') (v7 := .slice ia' s.inner.length ic') (v8 := .slice oa' s.outer.length oc') (v9 := .slice ta' s.timers.length tc') (v10 := .string s.event) (v11 := .slice ka' s.taken.length kc') (v12 := .int .u64 s.ent) (v13 := .slice ua' s.out.length uc') hS hy2 hbX2 hle)
  clear hbX2 hS hy2
  have hne:¬ bits .xor .i64 s.seq 1 = s.seq:=z6b (.inl rfl) _ _ deT
  replace hne:=hiT hne
  go_wp2
  go_returns
  obtain ⟨n0,n1,n2,n3,n4,n5,n6⟩:=nn.out
  exact ⟨{ s with seq:=bits .xor .i64 s.seq 1 },pa',pc',da',dc',ia',ic',oa',oc',ta',tc',ka',kc',ua',uc',true,rfl,hfin.out.1,⟨by show s.past.length ≤ _;omega,by show s.data.length ≤ _;omega,by show s.inner.length ≤ _;omega,by show s.outer.length ≤ _;omega,by show s.timers.length ≤ _;omega,by show s.taken.length ≤ _;omega,by show s.out.length ≤ _;omega⟩,z3s (fun e=>hne.out (congrArg Sn.seq e)),hfin.out.2⟩
 ·have f0:=cf'.out 4
  have h0:=z0b c4
  have hbX2:=hbX.out.setCell (p:=⟨ob,4,none⟩) hlo (.int .u64 (bits .xor .u64 s.inn (shC n)))
  have hS:=z4u (j:=4) (u := .int .u64 (bits .xor .u64 s.inn (shC n))) (z5s hO1.out) x0'.out
  have hy2:=z0i (i:=4) (v := .int .u64 (bits .xor .u64 s.inn (shC n))) ry1'.out hre
  have hfin:=hiT (z2p (s':={ s with inn:=bits .xor .u64 s.inn (shC n) }) (b:=rb) (v0 := .int .i64 s.status) (v1 := .int .i64 s.moves) (v2 := .int .i64 s.clock) (v3 := .int .i64 s.seq) (v4 := .int .u64 (bits .xor .u64 s.inn (shC n))) (v5 := .slice pa' s.past.length pc') (v6 := .slice da' s.data.length dc') (v7 := .slice ia' s.inner.length ic') (v8 := .slice oa' s.outer.length oc') (v9 := .slice ta' s.timers.length tc') (v10 := .string s.event) (v11 := .slice ka' s.taken.length kc') (v12 := .int .u64 s.ent) (v13 := .slice ua' s.out.length uc') hS hy2 hbX2 hle)
  clear hbX2 hS hy2
  have hne:¬ bits .xor .u64 s.inn (shC n) = s.inn:=z6b (.inr rfl) _ _ (v6f n)
  replace hne:=hiT hne
  go_wp2
  go_returns
  obtain ⟨n0,n1,n2,n3,n4,n5,n6⟩:=nn.out
  exact ⟨{ s with inn:=bits .xor .u64 s.inn (shC n) },pa',pc',da',dc',ia',ic',oa',oc',ta',tc',ka',kc',ua',uc',true,rfl,hfin.out.1,⟨by show s.past.length ≤ _;omega,by show s.data.length ≤ _;omega,by show s.inner.length ≤ _;omega,by show s.outer.length ≤ _;omega,by show s.timers.length ≤ _;omega,by show s.taken.length ≤ _;omega,by show s.out.length ≤ _;omega⟩,z3s (fun e=>hne.out (congrArg Sn.inn e)),hfin.out.2⟩
set_option maxRecDepth 100000 in
set_option maxHeartbeats 40000000 in
theorem y9k (s:Sn) (pa:Option Addr) (pc:Nat) (da:Option Addr) (dc:Nat) (ia:Option Addr) (ic:Nat) (oa:Option Addr) (oc:Nat) (ta:Option Addr) (tc:Nat) (ka:Option Addr) (kc:Nat) (ua:Option Addr) (uc:Nat) (k n:Int) (hkd:k = 6 ∨ k = 7 ∨ k < 1 ∨ 14 < k) (hk:I64 k) (hn6:I64 n) (I:SnIn s) (Z:SnZ s) (w:World) (hn:s.past.length ≤ 200 ∧ s.data.length ≤ 200 ∧ s.inner.length ≤ 200 ∧ s.outer.length ≤ 200 ∧ s.timers.length ≤ 200 ∧ s.taken.length ≤ 200 ∧ s.out.length ≤ 200) (h:SnRd w s pa pc da dc ia ic oa oc ta tc ka kc ua uc) :
  Calls Tryz.prog 17 #[snV s pa pc da dc ia ic oa oc ta tc ka kc ua uc,.agg #[.int .i64 k,.int .i64 n]] w (v7l s w):=by
 obtain ⟨n0,n1,n2,n3,n4,n5,n6⟩:=hn
 have _:=hn6
 have C:=hiT (fun wx (hx:Below w.heap.size w wx)=>z6j s pa pc da dc ia ic oa oc ta tc ka kc ua uc wx ⟨by omega,by omega,by omega,by omega,by omega,by omega,by omega⟩ (z2v h hx))
 have nn:=hiT (And.intro n0 (And.intro n1 (And.intro n2 (And.intro n3 (And.intro n4 (And.intro n5 n6))))))
 have I':=hiT I
 have Z':=hiT Z
 clear h n0 n1 n2 n3 n4 n5 n6 I Z
 go_enter Tryz.func17,Tryz.ntmps17
 go_wp2_with fail
 refine (C.out _ gzT).mono ?_
 rintro e w1 ⟨pa',pc',da',dc',ia',ic',oa',oc',ta',tc',ka',kc',ua',uc',rfl,hO,hb1⟩
 have hb1':Below w.heap.size w w1:=Below.trans gzT (hb1.mono gzT)
 have kx:=z0c (z0j (o := .cells #[.int .i64 0,.int .i64 0,.int .i64 0,.int .i64 0,.int .u64 0,.slice none 0 0,.slice none 0 0,.slice none 0 0,.slice none 0 0,.slice none 0 0,.string ⟨#[]⟩,.slice none 0 0,.int .u64 0,.slice none 0 0] 44) (z0s (b:=w.heap.size + 1) (w:=w.alloc (.cells #[.int .i64 s.status,.int .i64 s.moves,.int .i64 s.clock,.int .i64 s.seq,.int .u64 s.inn,.slice pa s.past.length pc,.slice da s.data.length dc,.slice ia s.inner.length ic,.slice oa s.outer.length oc,.slice ta s.timers.length tc,.string s.event,.slice ka s.taken.length kc,.int .u64 s.ent,.slice ua s.out.length uc] 44)) (o := .cells #[.int .i64 k,.int .i64 n] 61) (by simp))) hb1
 have ry:w1.heap[w.heap.size + 1 + 1]? = some (.cells #[.int .i64 0,.int .i64 0,.int .i64 0,.int .i64 0,.int .u64 0,.slice none 0 0,.slice none 0 0,.slice none 0 0,.slice none 0 0,.slice none 0 0,.string ⟨#[]⟩,.slice none 0 0,.int .u64 0,.slice none 0 0] 44 (0,0)):=z0c (z0s (by simp)) hb1
 replace hO:=q3s hO (show w.heap.size ≤ _ by simp;omega)
 have hO':=hiT hO
 clear hO hb1 C
 have x0:=heap_alloc_new w1 (.cells #[.int .i64 s.status,.int .i64 s.moves,.int .i64 s.clock,.int .i64 s.seq,.int .u64 s.inn,.slice pa' s.past.length pc',.slice da' s.data.length dc',.slice ia' s.inner.length ic',.slice oa' s.outer.length oc',.slice ta' s.timers.length tc',.string s.event,.slice ka' s.taken.length kc',.int .u64 s.ent,.slice ua' s.out.length uc'] 44 (0,0))
 obtain ⟨X0,hX0⟩:∃ X,w1.alloc (.cells #[.int .i64 s.status,.int .i64 s.moves,.int .i64 s.clock,.int .i64 s.seq,.int .u64 s.inn,.slice pa' s.past.length pc',.slice da' s.data.length dc',.slice ia' s.inner.length ic',.slice oa' s.outer.length oc',.slice ta' s.timers.length tc',.string s.event,.slice ka' s.taken.length kc',.int .u64 s.ent,.slice ua' s.out.length uc'] 44 (0,0)) = X:=⟨_,rfl⟩
 rw [hX0] at x0
 have bX:Below w1.heap.size w1 X0:=by rw [← hX0];exact gzT
 have hO1:=hiT (q0z hO'.out bX)
 have kx1:=z0c kx bX
 have ry1:=z0c ry bX
 have hbX:=hiT (hb1'.trans (bX.mono hb1'.size))
 have hlt:w.heap.size + 1 + 1 < w1.heap.size:=lt_of_block ry
 obtain ⟨i1⟩:Nonempty (InW (w.heap.size + 1) w1):=⟨⟨lt_of_block kx⟩⟩
 have kc0:X0.cell? ⟨w.heap.size + 1,0,none⟩ = some (.int .i64 k):=by rw [cell_of_row _ _ _ _ _ _ kx1];rfl
 have kc1:X0.cell? ⟨w.heap.size + 1,1,none⟩ = some (.int .i64 n):=by rw [cell_of_row _ _ _ _ _ _ kx1];rfl
 have i2:InW (w.heap.size + 1) X0:=⟨lt_of_block kx1⟩
 clear kx ry bX hb1' hO'
 dsimp only
 go_upto_region 2 with (fail)
 (try dsimp only [snV])
 (try rw [hX0])
 clear hX0 i1
 generalize w1.heap.size = ob at *
 generalize hrb:w.heap.size + 1 + 1 = rb at *
 generalize hkb:w.heap.size + 1 = kb at *
 have hre:rb ≠ ob:=by omega
 have hle:w.heap.size ≤ rb:=by omega
 have hlo:w.heap.size ≤ ob:=by omega
 obtain ⟨c0,c1,c2,c3,c4,c5,c6,c7,c8,c9,c10,c11,c12,c13,cl,cf⟩:=z1p x0
 obtain ⟨z0,z1,z2,z3,z4,z5,z6,z7,z8,z9,z10,z11,z12,z13,zl,zf⟩:=z1p ry1
 have j1:InW ob X0:=⟨cl⟩
 have j2:InW rb X0:=⟨zl⟩
 have g0:=z0b z0
 have q0:=zf 0
 have g1:=z0b z1
 have q1:=zf 1
 have g2:=z0b z2
 have q2:=zf 2
 have g3:=z0b z3
 have q3:=zf 3
 have g4:=z0b z4
 have q4:=zf 4
 have g5:=z0b z5
 have q5:=zf 5
 have g6:=z0b z6
 have q6:=zf 6
 have g7:=z0b z7
 have q7:=zf 7
 have g8:=z0b z8
 have q8:=zf 8
 have g9:=z0b z9
 have q9:=zf 9
 have g10:=z0b z10
 have q10:=zf 10
 have g11:=z0b z11
 have q11:=zf 11
 have g12:=z0b z12
 have q12:=zf 12
 have g13:=z0b z13
 have q13:=zf 13
 have x0':=hiT x0
 have ry1':=hiT ry1
 have kx1':=hiT kx1
 have cf':=hiT cf
 clear x0 ry1 kx1 cf zf
 rcases hkd with rfl | rfl | hk' | hk'
 ·have f0:=cf'.out 12
  have h0:=z0b c12
  have hbX2:=hbX.out.setCell (p:=⟨ob,12,none⟩) hlo (.int .u64 (bits .xor .u64 s.ent (shC n)))
  have hS:=z4u (j:=12) (u := .int .u64 (bits .xor .u64 s.ent (shC n))) (z5s hO1.out) x0'.out
  have hy2:=z0i (i:=12) (v := .int .u64 (bits .xor .u64 s.ent (shC n))) ry1'.out hre
  have hfin:=hiT (z2p (s':={ s with ent:=bits .xor .u64 s.ent (shC n) }) (b:=rb) (v0 := .int .i64 s.status) (v1 := .int .i64 s.moves) (v2 := .int .i64 s.clock) (v3 := .int .i64 s.seq) (v4 := .int .u64 s.inn) (v5 := .slice pa' s.past.length pc') (v6 := .slice da' s.data.length dc') (v7 := .slice ia' s.inner.length ic') (v8 := .slice oa' s.outer.length oc') (v9 := .slice ta' s.timers.length tc') (v10 := .string s.event) (v11 := .slice ka' s.taken.length kc') (v12 := .int .u64 (bits .xor .u64 s.ent (shC n))) (v13 := .slice ua' s.out.length uc') hS hy2 hbX2 hle)
  clear hbX2 hS hy2
  have hne:¬ bits .xor .u64 s.ent (shC n) = s.ent:=z6b (.inr rfl) _ _ (v6f n)
  replace hne:=hiT hne
  go_wp2
  go_returns
  obtain ⟨n0,n1,n2,n3,n4,n5,n6⟩:=nn.out
  exact ⟨{ s with ent:=bits .xor .u64 s.ent (shC n) },pa',pc',da',dc',ia',ic',oa',oc',ta',tc',ka',kc',ua',uc',true,rfl,hfin.out.1,⟨by show s.past.length ≤ _;omega,by show s.data.length ≤ _;omega,by show s.inner.length ≤ _;omega,by show s.outer.length ≤ _;omega,by show s.timers.length ≤ _;omega,by show s.taken.length ≤ _;omega,by show s.out.length ≤ _;omega⟩,z3s (fun e=>hne.out (congrArg Sn.ent e)),hfin.out.2⟩
 ·have f0:=cf'.out 10
  have h0:=z0b c10
  have hbX2:=hbX.out.setCell (p:=⟨ob,10,none⟩) hlo (.string (s.event ++ ⟨#[120]⟩))
  have hS:=z4u (j:=10) (u := .string (s.event ++ ⟨#[120]⟩)) (z5s hO1.out) x0'.out
  have hy2:=z0i (i:=10) (v := .string (s.event ++ ⟨#[120]⟩)) ry1'.out hre
  have hfin:=hiT (z2p (s':={ s with event:=s.event ++ ⟨#[120]⟩ }) (b:=rb) (v0 := .int .i64 s.status) (v1 := .int .i64 s.moves) (v2 := .int .i64 s.clock) (v3 := .int .i64 s.seq) (v4 := .int .u64 s.inn) (v5 := .slice pa' s.past.length pc') (v6 := .slice da' s.data.length dc') (v7 := .slice ia' s.inner.length ic') (v8 := .slice oa' s.outer.length oc') (v9 := .slice ta' s.timers.length tc') (v10 := .string (s.event ++ ⟨#[120]⟩)) (v11 := .slice ka' s.taken.length kc') (v12 := .int .u64 s.ent) (v13 := .slice ua' s.out.length uc') hS hy2 hbX2 hle)
  clear hbX2 hS hy2
  have hne:¬ s.event ++ ⟨#[120]⟩ = s.event:=j3s _
  replace hne:=hiT hne
  have hsz:=Z'.out.event
  have hsz2:s.event.size + 1 ≤ maxLen:=by unfold maxLen;omega
  go_wp2
  go_returns
  obtain ⟨n0,n1,n2,n3,n4,n5,n6⟩:=nn.out
  exact ⟨{ s with event:=s.event ++ ⟨#[120]⟩ },pa',pc',da',dc',ia',ic',oa',oc',ta',tc',ka',kc',ua',uc',true,rfl,hfin.out.1,⟨by show s.past.length ≤ _;omega,by show s.data.length ≤ _;omega,by show s.inner.length ≤ _;omega,by show s.outer.length ≤ _;omega,by show s.timers.length ≤ _;omega,by show s.taken.length ≤ _;omega,by show s.out.length ≤ _;omega⟩,z3s (fun e=>hne.out (congrArg Sn.event e)),hfin.out.2⟩
 ·have hbX2:=hbX.out
  have hS:=z5s hO1.out
  have hy2:=ry1'.out
  have e1:(k == 1) = false:=by rw [beq_eq_false_iff_ne];omega
  have e2:(k == 2) = false:=by rw [beq_eq_false_iff_ne];omega
  have e3:(k == 3) = false:=by rw [beq_eq_false_iff_ne];omega
  have e4:(k == 4) = false:=by rw [beq_eq_false_iff_ne];omega
  have e5:(k == 5) = false:=by rw [beq_eq_false_iff_ne];omega
  have e6:(k == 6) = false:=by rw [beq_eq_false_iff_ne];omega
  have e7:(k == 7) = false:=by rw [beq_eq_false_iff_ne];omega
  have e8:(k == 8) = false:=by rw [beq_eq_false_iff_ne];omega
  have e9:(k == 9) = false:=by rw [beq_eq_false_iff_ne];omega
  have e10:(k == 10) = false:=by rw [beq_eq_false_iff_ne];omega
  have e11:(k == 11) = false:=by rw [beq_eq_false_iff_ne];omega
  have e12:(k == 12) = false:=by rw [beq_eq_false_iff_ne];omega
  have e13:(k == 13) = false:=by rw [beq_eq_false_iff_ne];omega
  have e14:(k == 14) = false:=by rw [beq_eq_false_iff_ne];omega
  have hfin:=hiT (z2p (s':=s) (b:=rb) (v0 := .int .i64 s.status) (v1 := .int .i64 s.moves) (v2 := .int .i64 s.clock) (v3 := .int .i64 s.seq) (v4 := .int .u64 s.inn) (v5 := .slice pa' s.past.length pc') (v6 := .slice da' s.data.length dc') (v7 := .slice ia' s.inner.length ic') (v8 := .slice oa' s.outer.length oc') (v9 := .slice ta' s.timers.length tc') (v10 := .string s.event) (v11 := .slice ka' s.taken.length kc') (v12 := .int .u64 s.ent) (v13 := .slice ua' s.out.length uc') hS hy2 hbX2 hle)
  clear hbX2 hS hy2
  go_wp2
  go_returns
  obtain ⟨n0,n1,n2,n3,n4,n5,n6⟩:=nn.out
  exact ⟨s,pa',pc',da',dc',ia',ic',oa',oc',ta',tc',ka',kc',ua',uc',false,rfl,hfin.out.1,⟨by omega,by omega,by omega,by omega,by omega,by omega,by omega⟩,q3q rfl,hfin.out.2⟩
 ·have hbX2:=hbX.out
  have hS:=z5s hO1.out
  have hy2:=ry1'.out
  have e1:(k == 1) = false:=by rw [beq_eq_false_iff_ne];omega
  have e2:(k == 2) = false:=by rw [beq_eq_false_iff_ne];omega
  have e3:(k == 3) = false:=by rw [beq_eq_false_iff_ne];omega
  have e4:(k == 4) = false:=by rw [beq_eq_false_iff_ne];omega
  have e5:(k == 5) = false:=by rw [beq_eq_false_iff_ne];omega
  have e6:(k == 6) = false:=by rw [beq_eq_false_iff_ne];omega
  have e7:(k == 7) = false:=by rw [beq_eq_false_iff_ne];omega
  have e8:(k == 8) = false:=by rw [beq_eq_false_iff_ne];omega
  have e9:(k == 9) = false:=by rw [beq_eq_false_iff_ne];omega
  have e10:(k == 10) = false:=by rw [beq_eq_false_iff_ne];omega
  have e11:(k == 11) = false:=by rw [beq_eq_false_iff_ne];omega
  have e12:(k == 12) = false:=by rw [beq_eq_false_iff_ne];omega
  have e13:(k == 13) = false:=by rw [beq_eq_false_iff_ne];omega
  have e14:(k == 14) = false:=by rw [beq_eq_false_iff_ne];omega
  have hfin:=hiT (z2p (s':=s) (b:=rb) (v0 := .int .i64 s.status) (v1 := .int .i64 s.moves) (v2 := .int .i64 s.clock) (v3 := .int .i64 s.seq) (v4 := .int .u64 s.inn) (v5 := .slice pa' s.past.length pc') (v6 := .slice da' s.data.length dc') (v7 := .slice ia' s.inner.length ic') (v8 := .slice oa' s.outer.length oc') (v9 := .slice ta' s.timers.length tc') (v10 := .string s.event) (v11 := .slice ka' s.taken.length kc') (v12 := .int .u64 s.ent) (v13 := .slice ua' s.out.length uc') hS hy2 hbX2 hle)
  clear hbX2 hS hy2
  go_wp2
  go_returns
  obtain ⟨n0,n1,n2,n3,n4,n5,n6⟩:=nn.out
  exact ⟨s,pa',pc',da',dc',ia',ic',oa',oc',ta',tc',ka',kc',ua',uc',false,rfl,hfin.out.1,⟨by omega,by omega,by omega,by omega,by omega,by omega,by omega⟩,q3q rfl,hfin.out.2⟩
end Go.Proofs.YtacnlghljmgdiaaGreatDoor
