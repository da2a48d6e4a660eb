/- Several texts of this proof, joined: DC, DD, DE. -/
import Derived.Test.YtacnlghljmgdiaaGreatDoorL1
import Derived.Test.YtacnlghljmgdiaaGreatDoorQ8
import Derived.Test.YtacnlghljmgdiaaGreatDoorV5
import Derived.Test.YtacnlghljmgdiaaGreatDoorJ2
import Derived.Test.YtacnlghljmgdiaaGreatDoorJ3
import Derived.WalkKit
import Derived.ProofKit
import Derived.OpenShut
import Derived.Handy
import Derived.BigQuiet
import Derived.OwnWalk
import Derived.Deep.AppendLies
import Derived.Lib.Hide
import Derived.WalkSmall
import Derived.WalkLawsBesides
import Derived.Test.YtacnlghljmgdiaaGreatDoorQ7
import Derived.Deep.RegionHeld3
namespace Go.Proofs.YtacnlghljmgdiaaGreatDoor
open Go.RowKit
abbrev mkC (va:Option Addr) (vn vc:Nat) (tv gv:Value) (nm:List UInt8) (sv:Value):Array Value:=#[.slice va vn vc,tv,gv,str nm,.slice va vn vc,sv]
structure MkAt (B:Nat) (c:Ch) (rv:Nat → Value) (mb:Nat) (va:Option Addr) (vc:Nat) (tv gv:Value) (sa:Option Addr) (sc:Nat) (w:World):Prop where
 blk:w.heap[mb]? = some (.cells (mkC va c.vars.length vc tv gv c.name (.slice sa c.states.length sc)) 137 (0,0))
 ch:ChV ct0 B w c rv (.slice va c.vars.length vc) (.slice sa c.states.length sc)
theorem k9d {w:World} {b:Nat} {T:TypeId} {xs:List Int} (h:w.heap[b]? = some (.cells (xs.map fun x=>Value.int .i64 x).toArray T (0,0))):v0z w (some ⟨b,0,none⟩) xs:=fun i hi=>by
 refine ⟨b,0,rfl,lt_of_block h,?_⟩
 rw [Nat.zero_add,cell_of_row w b i _ _ _ h]
 simp [hi]
theorem q6s (s k b:Nat) (hs:s < 2 ^ 64) (w:World) (h:w.heap[b]? = some (.cells #[.int .i64 (k:Int)] 3 (0,0))):Calls Tryz.prog 124 #[.int .u64 (s:Int),.slice (some ⟨b,0,none⟩) 1 1] w (z6k (.int .u64 ((s ||| q6g (k:Int):Nat):Int)) w) :=
 v0u (some ⟨b,0,none⟩) 1 [(k:Int)] (by simp) s hs w (k9d h)
section
variable {B:Nat} {c:Ch} {rv:Nat → Value} {mb:Nat} {va sa:Option Addr} {vc sc:Nat} {tv gv:Value} {w w':World}
theorem q3h (h:MkAt B c rv mb va vc tv gv sa sc w) (hb:Below w.heap.size w w'):MkAt B c rv mb va vc tv gv sa sc w':=⟨z0c h.blk hb,z1u h.ch hb⟩
theorem z7h (h:MkAt B c rv mb va vc tv gv sa sc w):w.cell? ⟨mb,0,none⟩ = some (.slice va c.vars.length vc) ∧ w.cell? ⟨mb,1,none⟩ = some tv ∧ w.cell? ⟨mb,2,none⟩ = some gv ∧ w.cell? ⟨mb,3,none⟩ = some (str c.name) ∧ w.cell? ⟨mb,4,none⟩ = some (.slice va c.vars.length vc) ∧
  w.cell? ⟨mb,5,none⟩ = some (.slice sa c.states.length sc) ∧ mb < w.heap.size ∧ ∀ i,w.frozen? ⟨mb,i,none⟩ = false:=by
 refine ⟨?_,?_,?_,?_,?_,?_,lt_of_block h.blk,fun i=>frozen_of_row w mb i _ _ h.blk⟩
 all_goals
  rw [cell_of_row w mb _ _ _ _ h.blk]
  rfl
set_option maxRecDepth 100000 in
set_option maxHeartbeats 4000000 in
theorem j2i (q:ByteArray) (hn:c.states.length ≤ 49) (h:MkAt B c rv mb va vc tv gv sa sc w):Calls Tryz.prog 126 #[.pointer (some ⟨mb,0,none⟩),.string q] w (Ret (.int .i64 (y8l c.states q.data.toList:Int)) w):=by
 have F:=hiT (fun wx (hb:Below w.heap.size w wx)=>j5t sa sc q omT wx (z1u h.ch hb))
 obtain ⟨c0,c1,c2,c3,c4,c5,hl,hf⟩:=z7h h
 have i0:InW mb w:=⟨hl⟩
 unfold y8l
 generalize z7b q.data.toList c.states 0 = X at *
 clear h hf
 go_enter Tryz.func126,Tryz.ntmps126
 go_wp2_with (((with_reducible refine (F.out _ gzT).mono ?_);intro e w1 hr;obtain ⟨rfl,p,rfl⟩:=hr.out;clear hr))
 go_returns
 exact ⟨rfl,gzT⟩
set_option maxRecDepth 100000 in
set_option maxHeartbeats 4000000 in
theorem y1g {B2:Nat} (ao:Option Addr) (cap:Nat) (ls:List (List UInt8)) (hl:ls.length ≤ 1000) (hn:c.states.length ≤ 49) (h:MkAt B c rv mb va vc tv gv sa sc w) (hs:w.ownsRow B2 9 1 (.slice ao ls.length cap) ls.length (z6a ls)) :
  Calls Tryz.prog 83 #[.pointer (some ⟨mb,0,none⟩),.slice ao ls.length cap] w (v1b (ls.map (y8l c.states)) w):=by
 have H:=hiT (fun wx (hb:Below w.heap.size w wx) q=>j2i (w:=wx) q hn (q3h h hb))
 have S:=hiT (fun wx (hb:Below w.heap.size w wx)=>z0a hs hb)
 clear h hs
 obtain ⟨ps,hps⟩:∃ ps,ls.map (y8l c.states) = ps:=⟨_,rfl⟩
 rw [hps]
 have hpl:ps.length = ls.length:=by rw [← hps,List.length_map]
 have hpe:∀ i (h:i < ls.length),ps[i]? = some (y8l c.states ls[i]):=fun i h=>by rw [← hps,List.getElem?_map,List.getElem?_eq_getElem h];rfl
 replace hps:=hiT hps
 replace hpe:=hiT hpe
 obtain ⟨j0,hj,hy1,hy2,hy3⟩:=info_parts Tryz.infoInt
 go_enter Tryz.func83,Tryz.ntmps83
 go_wp2
 go_loopw [5,10] (fun v x wr=>∃ (i:Nat) (oa:Option Addr) (oc:Nat),x = .int .i64 (i:Int) ∧ i ≤ ls.length ∧ v = .slice oa i oc ∧ wr.ownsRow w.heap.size 3 1 (.slice oa i oc) i (z1h (ps.take i)) ∧ Below w.heap.size w wr) (fun _ x _=>ls.length - (intOf x).toNat)
 case atStart=>exact ⟨0,none,0,rfl,Nat.zero_le _,rfl,World.ownsRow_nil _ _ _ _,gzT⟩
 case round =>
  obtain ⟨i,oa,oc,rfl,hi,rfl,hown,hb⟩:=hrel
  rename World=>wr
  have hwz:=hb.size
  have hownK:=hiT hown
  clear hown
  by_cases hlt:i < ls.length
  ·obtain ⟨g,rfl,hg,n1⟩:=x0d (S.out wr hb) i hlt
   have P:=hiT (fun wx (hx:Below wr.heap.size wr wx)=>H.out wx (hb.trans (hx.mono hwz)) ⟨ls[i].toArray⟩)
   have htk:z1h (ps.take (i + 1)) = z1h (ps.take i) ++ [.int .i64 (y8l c.states ls[i]:Int)]:=by
    rw [List.take_add_one,hpe.out i hlt];unfold z1h;rw [List.map_append];rfl
   replace htk:=hiT htk
   generalize ls[i] = q at *
   dsimp only at P
   generalize hp:y8l c.states q = pq at *
   replace hp:=hiT hp
   have i1:InW g wr:=⟨hg⟩
   have hI:(i:Int) < (ls.length:Int):=by omega
   go_wp2_with fail
   refine (P.out _ gzT).mono ?_
   intro e w1 hr
   obtain ⟨rfl,p,rfl⟩:=hr.out
   clear hr
   go_wp2_with (at_builtin;refine wpList_append_lies _ rfl _ _ 40 rfl w.heap.size 3 j0 _ 1 8 Tryz.underlying40 hj hy1 hy2 hy3 rfl deT (.slice oa i oc) i (z1h (ps.take i)) rfl (z0a hownK.out gzT) ⟨_,0,none⟩ 1 1 [.int .i64 (pq:Int)] rfl rfl (World.news_of_block (z0s (by simp))) (by intro u hu;simp at hu;subst hu;rfl) deT (by unfold maxLen;omega) omT (Nat.le_trans hwz (Below.size (B:=wr.heap.size) (w:=wr) gzT)) _ rfl ?_)
   intro g' cap' w1 hown1 hgrow hat1 hg1
   have hb1:Below w.heap.size w w1:=Below.grown (hb.trans (Below.mono (B:=wr.heap.size) gzT hwz)) hgrow (Nat.le_trans hwz (Below.size (B:=wr.heap.size) (w:=wr) gzT)) (fun k hk=>(hownK.out.lt k hk).1)
   have hown2:=hiT hown1
   clear hown1 hgrow hat1 hg1 hownK
   go_wp2
   go_roundw
   case rel=>exact ⟨i + 1,_,cap',by go_num,by omega,rfl,by rw [htk.out];exact hown2.out,hb1⟩
   case measure=>simp [intOf];omega
  ·have hI:¬ (i:Int) < (ls.length:Int):=by omega
   obtain rfl:i = ls.length:=by omega
   have hfin:wr.ownsRow w.heap.size 3 1 (.slice oa ls.length oc) ls.length (z1h ps):=by
    have:=hownK.out
    rw [show ps.take ls.length = ps by rw [← hpl,List.take_length]] at this
    exact this
   replace hfin:=hiT hfin
   clear hownK
   go_wp2
   go_returns
   refine ⟨_,rfl,?_,gzT⟩
   rw [hpl]
   exact z0a hfin.out gzT
theorem v4l {s:Nat} (h0:s ≠ 0) (hs:s < 2 ^ 64):v7f s = (Lib.ctz 64 s:Int):=by
 unfold v7f
 rw [q4n s h0 hs]
theorem k7a:v7f 0 = -1:=by decide +kernel
theorem k0b (s:Nat) (hs:s < 2 ^ 64) (w:World) (hT:Db w):Calls Tryz.prog 69 #[.int .u64 (s:Int)] w (z6k (.int .i64 (v7f s)) w):=by
 by_cases h0:s = 0
 ·subst h0
  rw [k7a]
  exact y4p w
 ·rw [v4l h0 hs]
  exact j6a s h0 hs w hT
set_option maxRecDepth 100000 in
set_option maxHeartbeats 4000000 in
theorem y8a (i:Nat) (e x t:Value) (hn:c.states.length ≤ 49) (hT:Db w) (h:MkAt B c rv mb va vc tv gv sa sc w) :
  Calls Tryz.prog 82 #[.pointer (some ⟨mb,0,none⟩),.agg #[str (c.states.getD i st0).name,.int .i64 (c.states.getD i st0).kind,.int .i64 (c.states.getD i st0).parent,str (c.states.getD i st0).start,e,x,t],.int .u64 (j1e c.states i:Int)] w (Ret (.int .i64 (j8s c.states i)) w):=by
 have P:=hiT (fun wx (hb:Below w.heap.size w wx)=>j2i (w:=wx) ⟨(c.states.getD i st0).start.toArray⟩ hn (q3h h hb))
 have F:=hiT (fun wx (hb:Below w.heap.size w wx)=>k0b (j1e c.states i) (v4p _ _) wx (z4f hT hb))
 unfold j8s
 dsimp only at P
 generalize c.states.getD i st0 = s at *
 generalize j1e c.states i = ks at *
 generalize v7f ks = f at *
 generalize y8l c.states s.start = pl at *
 clear h hT
 by_cases h1:s.start ≠ []
 ·rw [if_pos h1]
  have e1:(!s.start.isEmpty) = true:=by
   cases hs:s.start with
   | nil=>exact absurd hs h1
   | cons a r=>rfl
  generalize s.start = st at *
  replace h1:=hiT h1
  go_enter Tryz.func82,Tryz.ntmps82
  go_wp2_with (((with_reducible refine (P.out _ gzT).mono ?_);intro e w1 hr;obtain ⟨rfl,p,rfl⟩:=hr.out;clear hr))
  go_returns
  exact ⟨rfl,gzT⟩
 ·rw [if_neg h1]
  have h2:s.start = []:=by
   rcases Classical.em (s.start = []) with h | h
   ·exact h
   ·exact absurd h h1
  rw [h2]
  clear h1 h2 P
  by_cases h3:s.kind = 1 ∨ s.kind = 3
  ·rw [if_pos h3]
   have e1:(s.kind == 1 || s.kind == 3) = true:=by simpa using h3
   rcases h3 with h3 | h3
   ·rw [h3] at *
    go_enter Tryz.func82,Tryz.ntmps82
    go_wp2_with (((with_reducible refine (F.out _ gzT).mono ?_);rintro e w1 ⟨rfl,rfl⟩))
    go_returns
    exact ⟨rfl,gzT⟩
   ·rw [h3] at *
    go_enter Tryz.func82,Tryz.ntmps82
    go_wp2_with (((with_reducible refine (F.out _ gzT).mono ?_);rintro e w1 ⟨rfl,rfl⟩))
    go_returns
    exact ⟨rfl,gzT⟩
  ·rw [if_neg h3]
   have e1:(s.kind == 1) = false:=by rw [beq_eq_false_iff_ne];exact fun e=>h3 (.inl e)
   have e2:(s.kind == 3) = false:=by rw [beq_eq_false_iff_ne];exact fun e=>h3 (.inr e)
   replace h3:=hiT h3
   go_enter Tryz.func82,Tryz.ntmps82
   go_wp2
   go_returns
   exact ⟨rfl,gzT⟩
set_option maxRecDepth 100000 in
set_option maxHeartbeats 4000000 in
theorem j4u (i:Nat) (hn:c.states.length ≤ 49) (h:MkAt B c rv mb va vc tv gv sa sc w) :
  Calls Tryz.prog 81 #[.pointer (some ⟨mb,0,none⟩),.int .i64 (i:Int)] w (Ret (.tuple #[.int .u64 (j1e c.states i:Int),.int .u64 (y0j c.states i:Int)]) w):=by
 have K:=hiT (fun wx (hb:Below w.heap.size w wx)=>j5u sa sc (i:Int) omT wx (z1u h.ch hb))
 have H:=hiT (fun wx (hb:Below w.heap.size w wx)=>q3h h hb)
 obtain ⟨c0,c1,c2,c3,c4,c5,hl,hf⟩:=z7h h
 have i0:InW mb w:=⟨hl⟩
 have hk1:=q3b (i:Int) c.states 0
 have hk2:=hiT (fun j (hj:j ∈ z3c (i:Int) c.states 0)=>show j < c.states.length by
  have h1:(z3c (i:Int) c.states 0).contains j = true:=by simpa using hj
  rw [v4q,Bool.and_eq_true,decide_eq_true_eq] at h1
  exact h1.1)
 have hA:Hid (j7b (fun k => !z3o (c.states.getD k st0)) 0 ((z3c (i:Int) c.states 0).drop 0) = j1e c.states i):=hiT (by rw [List.drop_zero];rfl)
 have hP:Hid (j7b (fun k=>z3o (c.states.getD k st0)) 0 ((z3c (i:Int) c.states 0).drop 0) = y0j c.states i):=hiT (by rw [List.drop_zero];rfl)
 generalize z3c (i:Int) c.states 0 = ks at *
 generalize j1e c.states i = FA at *
 generalize y0j c.states i = FP at *
 clear h hf
 go_enter Tryz.func81,Tryz.ntmps81
 go_wp2_with fail
 refine (K.out _ gzT).mono ?_
 rintro e w1 ⟨v,rfl,hown,hb1⟩
 obtain ⟨ko,kc,rfl⟩:=z0g hown
 have hO:=hiT (fun wx (hx:Below w1.heap.size w1 wx)=>z0a hown hx)
 have hz:=hb1.size
 clear hown K c0 c1 c2 c3 c4 c5
 dsimp only
 go_wp2
 go_loopw [4,5,15] (fun u v x wr=>∃ (j s t:Nat),u = .int .u64 (s:Int) ∧ v = .int .u64 (t:Int) ∧ x = .int .i64 (j:Int) ∧ j ≤ ks.length ∧ s < 2 ^ 64 ∧ t < 2 ^ 64 ∧ Hid (j7b (fun k => !z3o (c.states.getD k st0)) s (ks.drop j) = FA) ∧ Hid (j7b (fun k=>z3o (c.states.getD k st0)) t (ks.drop j) = FP) ∧ Below w1.heap.size w1 wr) (fun _ _ x _=>ks.length - (intOf x).toNat)
 case atStart=>exact ⟨0,0,0,rfl,rfl,rfl,Nat.zero_le _,by decide,by decide,hA,hP,gzT⟩
 case round =>
  obtain ⟨j,s,t,rfl,rfl,rfl,hj,hs,ht,hA,hP,hb⟩:=hrel
  rename World=>wr
  have hwz:=hb.size
  by_cases hlt:j < ks.length
  ·obtain ⟨g,rfl,hg,n1⟩:=v9e (hO.out wr hb) j hlt
   have hk:=hk2.out ks[j] (List.getElem_mem hlt)
   have hM:=H.out wr (hb1.trans (hb.mono hz))
   obtain ⟨c0,c1,c2,c3,c4,c5,hl,hf⟩:=z7h hM
   obtain ⟨g2,eo,ec,xo,xc,to',tc,rfl,hg2,m1,m2,m3,m4,m5,m6,m7,_,_,_⟩:=z8h hM.ch ks[j] hk
   have gd:c.states.getD ks[j] st0 = c.states[ks[j]]:=z9r hk
   have hA1:=fun h=>j7d (p:=fun k => !z3o (c.states.getD k st0)) (s:=s) hlt h
   have hA0:=fun h=>j7c (p:=fun k => !z3o (c.states.getD k st0)) (s:=s) hlt h
   have hP1:=fun h=>j7d (p:=fun k=>z3o (c.states.getD k st0)) (s:=t) hlt h
   have hP0:=fun h=>j7c (p:=fun k=>z3o (c.states.getD k st0)) (s:=t) hlt h
   rw [hA.out] at hA1 hA0
   rw [hP.out] at hP1 hP0
   (try dsimp only at hA1 hA0 hP1 hP0)
   rw [gd] at hA1 hA0 hP1 hP0
   have hps:z3o c.states[ks[j]] = (c.states[ks[j]].kind == 6 || c.states[ks[j]].kind == 7):=rfl
   generalize c.states[ks[j]] = st at *
   generalize hkk:ks[j] = k at *
   have iM:InW mb wr:=⟨hl⟩
   have i1:InW g wr:=⟨hg⟩
   have i2:InW g2 wr:=⟨hg2⟩
   have S6:=hiT (fun wx=>j7r (str st.name) (.int .i64 st.kind) (.int .i64 st.parent) (str st.start) (.slice eo st.enter.length ec) (.slice xo st.exit.length xc) (.slice to' st.trans.length tc) st.kind rfl wx)
   rw [← hps] at S6
   have hI:(j:Int) < (ks.length:Int):=by omega
   have hKI:(k:Int) < (c.states.length:Int):=by omega
   have W1:=hiT (fun b wx=>q6s s k b hs wx)
   have W2:=hiT (fun b wx=>q6s t k b ht wx)
   have o1:s ||| q6g (k:Int) < 2 ^ 64:=Nat.or_lt_two_pow hs (q2d _)
   have o2:t ||| q6g (k:Int) < 2 ^ 64:=Nat.or_lt_two_pow ht (q2d _)
   replace hkk:=hiT hkk
   cases hq:z3o st with
   | true =>
    rw [hq] at S6
    have hA0':=hiT (hA0 (by rw [hq];rfl)).symm
    have hP1':=hiT (hP1 hq).symm
    clear hA1 hA0 hP1 hP0 hA hP hps hq hM hf gd
    go_wp2_with (first | ((with_reducible refine (S6.out _).mono ?_);intro e w1 hr;obtain ⟨rfl,p,rfl⟩:=hr.out;clear hr) | ((with_reducible refine (W2.out _ _ (z0s (by simp))).mono ?_);rintro e w1 ⟨rfl,rfl⟩))
    go_roundw
    case rel=>exact ⟨j + 1,s,_,rfl,rfl,by go_num,by omega,hs,o2,hA0',hP1',gzT⟩
    case measure=>simp [intOf];omega
   | false =>
    rw [hq] at S6
    have hA1':=hiT (hA1 (by rw [hq];rfl)).symm
    have hP0':=hiT (hP0 hq).symm
    clear hA1 hA0 hP1 hP0 hA hP hps hq hM hf gd
    go_wp2_with (first | ((with_reducible refine (S6.out _).mono ?_);intro e w1 hr;obtain ⟨rfl,p,rfl⟩:=hr.out;clear hr) | ((with_reducible refine (W1.out _ _ (z0s (by simp))).mono ?_);rintro e w1 ⟨rfl,rfl⟩))
    go_roundw
    case rel=>exact ⟨j + 1,_,t,rfl,rfl,by go_num,by omega,o1,ht,hA1',hP0',gzT⟩
    case measure=>simp [intOf];omega
  ·have hI:¬ (j:Int) < (ks.length:Int):=by omega
   have e1:=y2y (p:=fun k => !z3o (c.states.getD k st0)) (s:=s) (show ks.length ≤ j by omega)
   have e2:=y2y (p:=fun k=>z3o (c.states.getD k st0)) (s:=t) (show ks.length ≤ j by omega)
   rw [hA.out] at e1
   rw [hP.out] at e2
   subst e1
   subst e2
   clear hA hP
   go_wp2
   go_returns
   exact ⟨rfl,hb1.trans (Below.mono (show Below w1.heap.size w1 _ from gzT) hz)⟩
set_option maxRecDepth 100000 in
set_option maxHeartbeats 4000000 in
theorem y0z (i:Nat) (hp:Par c.states) (hn:c.states.length ≤ 49) (h:MkAt B c rv mb va vc tv gv sa sc w) :
  Calls Tryz.prog 80 #[.pointer (some ⟨mb,0,none⟩),.int .i64 (i:Int)] w (Ret (.tuple #[.int .u64 (upS c.states i:Int),.int .u64 (j8k c.states i:Int)]) w):=by
 have X:=hiT (fun wx (hb:Below w.heap.size w wx) (a o:Int)=>j9d sa sc a o omT hp wx (z1u h.ch hb))
 have H:=hiT (fun wx (hb:Below w.heap.size w wx)=>q3h h hb)
 obtain ⟨c0,c1,c2,c3,c4,c5,hl,hf⟩:=z7h h
 have i0:InW mb w:=⟨hl⟩
 have hA:Hid (j1q (fun k=>q4b c.states (i:Int) (k:Int)) c.states.length = upS c.states i):=hiT rfl
 have hP:Hid (j1q (fun k=>q4b c.states (k:Int) (i:Int)) c.states.length = j8k c.states i):=hiT rfl
 generalize upS c.states i = FA at *
 generalize j8k c.states i = FP at *
 clear h hf
 go_enter Tryz.func80,Tryz.ntmps80
 go_wp2
 go_loopw [4,5,13] (fun u v x wr=>∃ (j:Nat),u = .int .u64 (j1q (fun k=>q4b c.states (i:Int) (k:Int)) j:Int) ∧ v = .int .u64 (j1q (fun k=>q4b c.states (k:Int) (i:Int)) j:Int) ∧ x = .int .i64 (j:Int) ∧ j ≤ c.states.length ∧ Below w.heap.size w wr) (fun _ _ x _=>c.states.length - (intOf x).toNat)
 case atStart=>exact ⟨0,rfl,rfl,rfl,Nat.zero_le _,gzT⟩
 case round =>
  obtain ⟨j,rfl,rfl,rfl,hj,hb⟩:=hrel
  rename World=>wr
  have hwz:=hb.size
  by_cases hlt:j < c.states.length
  ·have hM:=H.out wr hb
   obtain ⟨c0,c1,c2,c3,c4,c5,hl,hf⟩:=z7h hM
   have iM:InW mb wr:=⟨hl⟩
   have hA1:=fun h=>j7a (p:=fun k=>q4b c.states (i:Int) (k:Int)) (k:=j) h
   have hA0:=fun h=>j6z (p:=fun k=>q4b c.states (i:Int) (k:Int)) (k:=j) h
   have hP1:=fun h=>j7a (p:=fun k=>q4b c.states (k:Int) (i:Int)) (k:=j) h
   have hP0:=fun h=>j6z (p:=fun k=>q4b c.states (k:Int) (i:Int)) (k:=j) h
   have hs:=j4e (fun k=>q4b c.states (i:Int) (k:Int)) j
   have ht:=j4e (fun k=>q4b c.states (k:Int) (i:Int)) j
   obtain ⟨s',hs'⟩:∃ s',j1q (fun k=>q4b c.states (i:Int) (k:Int)) (j + 1) = s':=⟨_,rfl⟩
   obtain ⟨t',ht'⟩:∃ t',j1q (fun k=>q4b c.states (k:Int) (i:Int)) (j + 1) = t':=⟨_,rfl⟩
   rw [hs'] at hA1 hA0
   rw [ht'] at hP1 hP0
   replace hs':=hiT hs'
   replace ht':=hiT ht'
   generalize j1q (fun k=>q4b c.states (i:Int) (k:Int)) j = s at *
   generalize j1q (fun k=>q4b c.states (k:Int) (i:Int)) j = t at *
   have X1:=hiT (fun wx (hx:Below wr.heap.size wr wx)=>X.out wx (hb.trans (hx.mono hwz)) (i:Int) (j:Int))
   have X2:=hiT (fun wx (hx:Below wr.heap.size wr wx)=>X.out wx (hb.trans (hx.mono hwz)) (j:Int) (i:Int))
   (try dsimp only at hA1 hA0 hP1 hP0)
   generalize q4b c.states (i:Int) (j:Int) = q1 at *
   generalize q4b c.states (j:Int) (i:Int) = q2 at *
   have W1:=hiT (fun b wx=>q6s s j b hs wx)
   have W2:=hiT (fun b wx=>q6s t j b ht wx)
   have hI:(j:Int) < (c.states.length:Int):=by omega
   clear hM hf X H hA hP hp
   cases q1 with
   | true =>
    obtain rfl:=hA1 rfl
    cases q2 with
    | true =>
     obtain rfl:=hP1 rfl
     clear hA1 hA0 hP1 hP0
     go_wp2_with (first | ((with_reducible refine (X1.out _ gzT).mono ?_);intro e w1 hr;obtain ⟨rfl,p,rfl⟩:=hr.out;clear hr) | ((with_reducible refine (X2.out _ gzT).mono ?_);intro e w1 hr;obtain ⟨rfl,p,rfl⟩:=hr.out;clear hr) | ((with_reducible refine (W1.out _ _ (z0s (by simp))).mono ?_);rintro e w1 ⟨rfl,rfl⟩) | ((with_reducible refine (W2.out _ _ (z0s (by simp))).mono ?_);rintro e w1 ⟨rfl,rfl⟩))
     go_roundw
     case rel=>exact ⟨j + 1,by rw [hs'.out];rfl,by rw [ht'.out];rfl,by go_num,by omega,gzT⟩
     case measure=>simp [intOf];omega
    | false =>
     obtain rfl:=hP0 rfl
     clear hA1 hA0 hP1 hP0
     go_wp2_with (first | ((with_reducible refine (X1.out _ gzT).mono ?_);intro e w1 hr;obtain ⟨rfl,p,rfl⟩:=hr.out;clear hr) | ((with_reducible refine (X2.out _ gzT).mono ?_);intro e w1 hr;obtain ⟨rfl,p,rfl⟩:=hr.out;clear hr) | ((with_reducible refine (W1.out _ _ (z0s (by simp))).mono ?_);rintro e w1 ⟨rfl,rfl⟩))
     go_roundw
     case rel=>exact ⟨j + 1,by rw [hs'.out];rfl,by rw [ht'.out],by go_num,by omega,gzT⟩
     case measure=>simp [intOf];omega
   | false =>
    obtain rfl:=hA0 rfl
    cases q2 with
    | true =>
     obtain rfl:=hP1 rfl
     clear hA1 hA0 hP1 hP0
     go_wp2_with (first | ((with_reducible refine (X1.out _ gzT).mono ?_);intro e w1 hr;obtain ⟨rfl,p,rfl⟩:=hr.out;clear hr) | ((with_reducible refine (X2.out _ gzT).mono ?_);intro e w1 hr;obtain ⟨rfl,p,rfl⟩:=hr.out;clear hr) | ((with_reducible refine (W2.out _ _ (z0s (by simp))).mono ?_);rintro e w1 ⟨rfl,rfl⟩))
     go_roundw
     case rel=>exact ⟨j + 1,by rw [hs'.out],by rw [ht'.out];rfl,by go_num,by omega,gzT⟩
     case measure=>simp [intOf];omega
    | false =>
     obtain rfl:=hP0 rfl
     clear hA1 hA0 hP1 hP0
     go_wp2_with (first | ((with_reducible refine (X1.out _ gzT).mono ?_);intro e w1 hr;obtain ⟨rfl,p,rfl⟩:=hr.out;clear hr) | ((with_reducible refine (X2.out _ gzT).mono ?_);intro e w1 hr;obtain ⟨rfl,p,rfl⟩:=hr.out;clear hr))
     go_roundw
     case rel=>exact ⟨j + 1,by rw [hs'.out],by rw [ht'.out],by go_num,by omega,gzT⟩
     case measure=>simp [intOf];omega
  ·have hI:¬ (j:Int) < (c.states.length:Int):=by omega
   obtain rfl:j = c.states.length:=by omega
   rw [hA.out,hP.out]
   clear hA hP
   go_wp2
   go_returns
   exact ⟨rfl,gzT⟩
end
theorem Tryz.infoTR:(Tryz.prog.info? 84).map (fun i=>(i.zero,i.size,i.bytes)) = some (some (.agg #[.string ⟨#[]⟩,.int .i64 0,.int .i64 0,.int .i64 0,.int .u64 0,.int .u64 0,.int .u64 0,.int .u64 0,.slice none 0 0,.slice none 0 0,.slice none 0 0]),11,144):=by kernel_rfl
theorem Tryz.infoTG:(Tryz.prog.info? 186).map (fun i=>(i.zero,i.size,i.bytes)) = some (some (.agg #[.int .i64 0,.string ⟨#[]⟩,.slice none 0 0,.slice none 0 0,.bool false,.slice none 0 0]),6,104):=by kernel_rfl
def k5e (m k:Nat):List Nat:=(List.range k).map (m + ·)
theorem k0o (m k:Nat):k5e m (k + 1) = k5e m k ++ [m + k]:=by unfold k5e;rw [List.range_succ,List.map_append];rfl
def x0x (ss:List St) (i:Nat) (g e x:Value):List Value :=
 [str (ss.getD i st0).name,.int .i64 (ss.getD i st0).kind,.int .i64 (ss.getD i st0).parent,.int .i64 (j8s ss i),.int .u64 (upS ss i:Int),.int .u64 (j8k ss i:Int),.int .u64 (j1e ss i:Int),.int .u64 (y0j ss i:Int),g,e,x]
def j5d (v:Value) (cb:Option Nat):Prop:=v.ownBlock = none ∨ v.ownBlock ≠ cb
theorem j7o (v:Value):j5d v none:=Classical.em _
def RwR (A:Nat) (ss:List St) (rv:Nat → Value) (w:World) (cb:Option Nat) (i:Nat) (v:List Value):Prop :=
 ∃ g,v = x0x ss i g (rv (3 * i)) (rv (3 * i + 1)) ∧ w.ownsRow A 3 1 g (ss.getD i st0).trans.length (z1h (k5e (q0u ss i).length (ss.getD i st0).trans.length)) ∧ j5d g cb
def GoR (B:Nat) (w0:World) (ss:List St) (w:World) (cb:Option Nat) (p:Nat × Tr) (v:List Value):Prop :=
 ∃ iv tv dv,v = [.int .i64 (p.1:Int),str p.2.event,iv,tv,.bool p.2.inner,dv] ∧ w0.ownsRow B ct0.nd 7 iv p.2.cond.length (z9j p.2.cond) ∧ z4d ct0.nd ct0.act B w0 dv p.2.thn ∧ w.ownsRow w0.heap.size 3 1 tv p.2.goes.length (z1h (p.2.goes.map (y8l ss))) ∧ j5d tv cb
def KpM (w w':World):Prop:=∀ (b:Nat) (cs:Array Value) (t:TypeId) (fr:Nat × Nat),w.heap[b]? = some (.cells cs t fr) → t ≠ 3 → t ≠ 84 → t ≠ 186 → t ≠ 137 → w'.heap[b]? = some (.cells cs t fr)
theorem k7i (w:World):KpM w w:=fun _ _ _ _ h _ _ _ _=>h
theorem k1a {w w1 w2:World} (k:KpM w w1) (h:Below w1.heap.size w1 w2):KpM w w2:=fun _ _ _ _ hb h1 h2 h3 h4=>z0c (k _ _ _ _ hb h1 h2 h3 h4) h
theorem q7w {w w1 w2:World} {B s n:Nat} {e:TypeId} {v:Value} {xs:List Value} (k:KpM w w1) (h:w1.ownsRow B e s v n xs) (he:e = 3 ∨ e = 84 ∨ e = 186) (hg:w1.grownBy w2 v.ownBlock):KpM w w2:=fun _ _ _ _ hb h1 h2 h3 h4 =>
 z0h h (k _ _ _ _ hb h1 h2 h3 h4) (by rcases he with rfl | rfl | rfl <;> assumption) hg
theorem j9r {w w1:World} {b i:Nat} {u:Value} {cs:Array Value} {t:TypeId} {fr:Nat × Nat} (k:KpM w w1) (h:w1.heap[b]? = some (.cells cs t fr)) (ht:t = 84 ∨ t = 137):KpM w (w1.setCell ⟨b,i,none⟩ u):=fun c _ _ _ hb h1 h2 h3 h4=>by
 have hk:=k _ _ _ _ hb h1 h2 h3 h4
 refine z0i hk fun e=>?_
 subst e
 rw [h] at hk
 cases hk
 rcases ht with ht | ht
 ·exact h2 ht
 ·exact h4 ht
structure TbAt (w0 wk:World) (B:Nat) (c:Ch) (rv:Nat → Value) (mb:Nat) (va:Option Addr) (vc:Nat) (sa:Option Addr) (sc:Nat) (i:Nat) (gs:List (Nat × Tr)) (cb:Option Nat) (tv gv:Value) (w:World):Prop where
 blk:w.heap[mb]? = some (.cells (mkC va c.vars.length vc tv gv c.name (.slice sa c.states.length sc)) 137 (0,0))
 env:Below w0.heap.size w0 w
 low:w0.heap.size ≤ mb
 kp:KpM wk w
 rows:∃ xs,Vs (RwR w0.heap.size c.states rv w cb) (List.range i) xs ∧ w.ownsRow w0.heap.size 84 11 tv i xs
 gos:∃ xs,Vs (GoR B w0 c.states w cb) gs xs ∧ w.ownsRow w0.heap.size 186 6 gv gs.length xs
section
variable {w0 wk:World} {B A:Nat} {c:Ch} {ss:List St} {rv:Nat → Value} {mb:Nat} {va sa:Option Addr} {vc sc i:Nat} {gs:List (Nat × Tr)} {cb cb':Option Nat} {tv gv:Value} {w w':World}
theorem q5o {j:Nat} {v:List Value} (h:RwR A ss rv w cb j v) (k:∀ g n xs,w.ownsRow A 3 1 g n xs → j5d g cb → w'.ownsRow A 3 1 g n xs ∧ j5d g cb'):RwR A ss rv w' cb' j v:=by
 obtain ⟨g,h1,h2,h3⟩:=h
 obtain ⟨k1,k2⟩:=k _ _ _ h2 h3
 exact ⟨g,h1,k1,k2⟩
theorem q5i {p:Nat × Tr} {v:List Value} (h:GoR B w0 ss w cb p v) (k:∀ g n xs,w.ownsRow w0.heap.size 3 1 g n xs → j5d g cb → w'.ownsRow w0.heap.size 3 1 g n xs ∧ j5d g cb'):GoR B w0 ss w' cb' p v:=by
 obtain ⟨iv,tv,dv,h1,h2,h3,h4,h5⟩:=h
 obtain ⟨k1,k2⟩:=k _ _ _ h4 h5
 exact ⟨iv,tv,dv,h1,h2,h3,k1,k2⟩
theorem y1b (hC:ChV ct0 B w0 c rv (.slice va c.vars.length vc) (.slice sa c.states.length sc)) (h:TbAt w0 wk B c rv mb va vc sa sc i gs cb tv gv w):MkAt B c rv mb va vc tv gv sa sc w:=⟨h.blk,z1u hC h.env⟩
theorem q0i (h:TbAt w0 wk B c rv mb va vc sa sc i gs cb tv gv w) (hb:Below w.heap.size w w'):TbAt w0 wk B c rv mb va vc sa sc i gs cb tv gv w':=by
 obtain ⟨xs,h1,h2⟩:=h.rows
 obtain ⟨ys,h3,h4⟩:=h.gos
 exact ⟨z0c h.blk hb,h.env.trans (hb.mono h.env.size),h.low,k1a h.kp hb,⟨xs,z3h h1 fun _ _ k=>q5o k fun _ _ _ k1 k2=>⟨z0a k1 hb,k2⟩,z0a h2 hb⟩,⟨ys,z3h h3 fun _ _ k=>q5i k fun _ _ _ k1 k2=>⟨z0a k1 hb,k2⟩,z0a h4 hb⟩⟩
theorem v9z {cur:Value} {n g:Nat} {xs:List Value} (h:TbAt w0 wk B c rv mb va vc sa sc i gs cur.ownBlock tv gv w) (hO:w.ownsRow w0.heap.size 3 1 cur n xs) (hg:w.grownBy w' cur.ownBlock) (hn:cur.ownBlock = some g ∨ g = w.heap.size):TbAt w0 wk B c rv mb va vc sa sc i gs (some g) tv gv w':=by
 obtain ⟨xs,h1,h2⟩:=h.rows
 obtain ⟨ys,h3,h4⟩:=h.gos
 have key:∀ v m zs,w.ownsRow w0.heap.size 3 1 v m zs → j5d v cur.ownBlock → w'.ownsRow w0.heap.size 3 1 v m zs ∧ j5d v (some g):=fun v m zs k1 k2=>by
  refine ⟨k1.kept hg k2,?_⟩
  rcases k2 with k2 | k2
  ·exact .inl k2
  ·rcases hn with hn | hn
   ·exact .inr (by rw [← hn];exact k2)
   ·refine .inr fun e=>?_
    have:=(k1.lt g e).2
    omega
 exact ⟨z0h hO h.blk deT hg,Below.grown h.env hg h.env.size (fun k hk=>(hO.lt k hk).1),h.low,q7w h.kp hO (.inl rfl) hg,⟨xs,z3h h1 fun _ _ k=>q5o k key,z1l (B:=w0.heap.size) hO deT hg _ _ _ _ h2⟩,⟨ys,z3h h3 fun _ _ k=>q5i k key,z1l (B:=w0.heap.size) hO deT hg _ _ _ _ h4⟩⟩
theorem j2g {rb j:Nat} {u:Value} {cs:Array Value} (h:TbAt w0 wk B c rv mb va vc sa sc i gs cb tv gv w) (hr:w.heap[rb]? = some (.cells cs 84 (0,0))) (hne:tv.ownBlock ≠ some rb) (hl:w0.heap.size ≤ rb):TbAt w0 wk B c rv mb va vc sa sc i gs cb tv gv (w.setCell ⟨rb,j,none⟩ u):=by
 obtain ⟨xs,h1,h2⟩:=h.rows
 obtain ⟨ys,h3,h4⟩:=h.gos
 have hm:mb ≠ rb:=fun e=>by
  have:=h.blk
  rw [e,hr] at this
  cases this
 have key:∀ v m zs,w.ownsRow w0.heap.size 3 1 v m zs → j5d v cb → (w.setCell ⟨rb,j,none⟩ u).ownsRow w0.heap.size 3 1 v m zs ∧ j5d v cb:=fun v m zs k1 k2=>⟨z1m hr deT _ _ _ _ k1,k2⟩
 exact ⟨z0i h.blk hm,h.env.setCell (p:=⟨rb,j,none⟩) hl _,h.low,j9r h.kp hr (.inl rfl),⟨xs,z3h h1 fun _ _ k=>q5o k key,ownsRow_setCell_other h2 hne _⟩,⟨ys,z3h h3 fun _ _ k=>q5i k key,z1m hr deT _ _ _ _ h4⟩⟩
theorem x2p {p:Nat × Tr} {v ys:List Value} {gv':Value} (h:TbAt w0 wk B c rv mb va vc sa sc i gs cb tv gv w) (hys:Vs (GoR B w0 c.states w cb) gs ys) (hO:w.ownsRow w0.heap.size 186 6 gv gs.length ys) (hp:GoR B w0 c.states w cb p v)
  (hO':w'.ownsRow w0.heap.size 186 6 gv' (gs.length + 1) (ys ++ v)) (hg:w.grownBy w' gv.ownBlock):TbAt w0 wk B c rv mb va vc sa sc i (gs ++ [p]) cb tv gv' (w'.setCell ⟨mb,2,none⟩ gv'):=by
 obtain ⟨xs,h1,h2⟩:=h.rows
 have hb':=z0h hO h.blk deT hg
 have key:∀ v m zs,w.ownsRow w0.heap.size 3 1 v m zs → j5d v cb → (w'.setCell ⟨mb,2,none⟩ gv').ownsRow w0.heap.size 3 1 v m zs ∧ j5d v cb:=fun v m zs k1 k2=>⟨z1m hb' deT _ _ _ _ (z1l (B:=w0.heap.size) hO deT hg _ _ _ _ k1),k2⟩
 refine ⟨z0l hb',(Below.grown h.env hg h.env.size (fun k hk=>(hO.lt k hk).1)).setCell (p:=⟨mb,2,none⟩) h.low _,h.low,j9r (q7w h.kp hO (.inr (.inr rfl)) hg) hb' (.inr rfl),⟨xs,z3h h1 fun _ _ k=>q5o k key,z1m hb' deT _ _ _ _ (z1l (B:=w0.heap.size) hO deT hg _ _ _ _ h2)⟩,⟨ys ++ v,q9s (z3h hys fun _ _ k=>q5i k key) (q5i hp key),?_⟩⟩
 rw [List.length_append]
 exact z1m hb' deT _ _ _ _ hO'
theorem x2q {v xs:List Value} {tv':Value} (h:TbAt w0 wk B c rv mb va vc sa sc i gs cb tv gv w) (hxs:Vs (RwR w0.heap.size c.states rv w cb) (List.range i) xs) (hO:w.ownsRow w0.heap.size 84 11 tv i xs) (hv:RwR w0.heap.size c.states rv w none i v)
  (hO':w'.ownsRow w0.heap.size 84 11 tv' (i + 1) (xs ++ v)) (hg:w.grownBy w' tv.ownBlock):TbAt w0 wk B c rv mb va vc sa sc (i + 1) gs none tv' gv (w'.setCell ⟨mb,1,none⟩ tv'):=by
 obtain ⟨ys,h3,h4⟩:=h.gos
 have hb':=z0h hO h.blk deT hg
 have key:∀ {d},∀ v m zs,w.ownsRow w0.heap.size 3 1 v m zs → j5d v d → (w'.setCell ⟨mb,1,none⟩ tv').ownsRow w0.heap.size 3 1 v m zs ∧ j5d v none:=fun v m zs k1 _=>⟨z1m hb' deT _ _ _ _ (z1l (B:=w0.heap.size) hO deT hg _ _ _ _ k1),j7o _⟩
 refine ⟨z0l hb',(Below.grown h.env hg h.env.size (fun k hk=>(hO.lt k hk).1)).setCell (p:=⟨mb,1,none⟩) h.low _,h.low,j9r (q7w h.kp hO (.inr (.inl rfl)) hg) hb' (.inr rfl),⟨xs ++ v,?_,z1m hb' deT _ _ _ _ hO'⟩,⟨ys,z3h h3 fun _ _ k=>q5i k key,z1m hb' deT _ _ _ _ (z1l (B:=w0.heap.size) hO deT hg _ _ _ _ h4)⟩⟩
 rw [List.range_succ]
 exact q9s (z3h hxs fun _ _ k=>q5o k key) (q5o hv key)
structure StC (B:Nat) (s:St) (i g:Nat) (ev xv tv:Value) (w:World):Prop where
 lt:g < w.heap.size
 c0:w.cell? ⟨g,i * 7,none⟩ = some (str s.name)
 c1:w.cell? ⟨g,i * 7 + 1,none⟩ = some (.int .i64 s.kind)
 c2:w.cell? ⟨g,i * 7 + 2,none⟩ = some (.int .i64 s.parent)
 c3:w.cell? ⟨g,i * 7 + 3,none⟩ = some (str s.start)
 c4:w.cell? ⟨g,i * 7 + 4,none⟩ = some ev
 c5:w.cell? ⟨g,i * 7 + 5,none⟩ = some xv
 c6:w.cell? ⟨g,i * 7 + 6,none⟩ = some tv
 r1:z2i ct0 B w ev s.enter
 r2:z2i ct0 B w xv s.exit
 r3:z9m ct0 B w tv s.trans
theorem v6i {n:Nat} {vv:Value} (h:ChV ct0 B w c rv vv (.slice sa n sc)) (i:Nat) (hi:i < c.states.length):∃ g,sa = some ⟨g,0,none⟩ ∧ StC B (c.states.getD i st0) i g (rv (3 * i)) (rv (3 * i + 1)) (rv (3 * i + 2)) w:=by
 obtain ⟨g,cap',e,hg,_,_,hc⟩:=z1g h.sts omT
 cases e
 have hat:∀ j,j < 7 → ∀ u,(stC c.states[i] (rv (3 * i)) (rv (3 * i + 1)) (rv (3 * i + 2)))[j]? = some u → w.cell? ⟨g,i * 7 + j,none⟩ = some u:=fun j hj u hu=>hc _ _ (by rw [q2h _ _ _ i hi j hj,Nat.zero_add];exact hu)
 rw [← z9r hi] at hat
 exact ⟨g,rfl,hg,hat 0 deT _ rfl,hat 1 deT _ rfl,hat 2 deT _ rfl,hat 3 deT _ rfl,hat 4 deT _ rfl,hat 5 deT _ rfl,hat 6 deT _ rfl,h.ent i,h.exi i,h.trs i⟩
theorem k3v {s:St} {g:Nat} {ev xv tv:Value} (h:StC B s i g ev xv tv w) (hb:Below w.heap.size w w'):StC B s i g ev xv tv w' :=
 ⟨Nat.lt_of_lt_of_le h.lt hb.size,(hb.cell (p:=⟨g,_,none⟩) h.lt).trans h.c0,(hb.cell (p:=⟨g,_,none⟩) h.lt).trans h.c1,(hb.cell (p:=⟨g,_,none⟩) h.lt).trans h.c2,(hb.cell (p:=⟨g,_,none⟩) h.lt).trans h.c3,(hb.cell (p:=⟨g,_,none⟩) h.lt).trans h.c4,(hb.cell (p:=⟨g,_,none⟩) h.lt).trans h.c5,(hb.cell (p:=⟨g,_,none⟩) h.lt).trans h.c6,
  z1c (z1q hb) h.r1 fun _ _ k=>z0a k hb,z1c (z1q hb) h.r2 fun _ _ k=>z0a k hb,z4x (z1q hb) h.r3 fun _ _ k=>z0a k hb⟩
end
abbrev v9r (s:St) (b u d k p:Value) (g e x:Value):Array Value :=
 #[str s.name,.int .i64 s.kind,.int .i64 s.parent,b,u,d,k,p,g,e,x]
theorem z6w {w:World} {rb:Nat} {v0 v1 v2 v3 v4 v5 v6 v7 v8 v9 v10:Value} {t:TypeId} (h:w.heap[rb]? = some (.cells #[v0,v1,v2,v3,v4,v5,v6,v7,v8,v9,v10] t (0,0))) :
  w.cell? ⟨rb,0,none⟩ = some v0 ∧ w.cell? ⟨rb,1,none⟩ = some v1 ∧ w.cell? ⟨rb,2,none⟩ = some v2 ∧ w.cell? ⟨rb,3,none⟩ = some v3 ∧ w.cell? ⟨rb,4,none⟩ = some v4 ∧ w.cell? ⟨rb,5,none⟩ = some v5 ∧ w.cell? ⟨rb,6,none⟩ = some v6 ∧ w.cell? ⟨rb,7,none⟩ = some v7 ∧ w.cell? ⟨rb,8,none⟩ = some v8 ∧ w.cell? ⟨rb,9,none⟩ = some v9 ∧ w.cell? ⟨rb,10,none⟩ = some v10 ∧
  rb < w.heap.size ∧ ∀ i,w.frozen? ⟨rb,i,none⟩ = false:=by
 refine ⟨?_,?_,?_,?_,?_,?_,?_,?_,?_,?_,?_,lt_of_block h,fun i=>frozen_of_row w rb i _ _ h⟩
 all_goals
  rw [cell_of_row w rb _ _ _ _ h]
  rfl
theorem q8t {w:World} {rb:Nat} {v0 v1 v2 v3 v4 v5 v6:Value} {t:TypeId} (h:w.heap[rb]? = some (.cells #[v0,v1,v2,v3,v4,v5,v6] t (0,0))) :
  w.cell? ⟨rb,0,none⟩ = some v0 ∧ w.cell? ⟨rb,1,none⟩ = some v1 ∧ w.cell? ⟨rb,2,none⟩ = some v2 ∧ w.cell? ⟨rb,3,none⟩ = some v3 ∧ w.cell? ⟨rb,4,none⟩ = some v4 ∧ w.cell? ⟨rb,5,none⟩ = some v5 ∧ w.cell? ⟨rb,6,none⟩ = some v6 ∧ rb < w.heap.size:=by
 refine ⟨?_,?_,?_,?_,?_,?_,?_,lt_of_block h⟩
 all_goals
  rw [cell_of_row w rb _ _ _ _ h]
  rfl
theorem j1b {w:World} {rb:Nat} {v0 v1 v2 v3 v4:Value} {t:TypeId} (h:w.heap[rb]? = some (.cells #[v0,v1,v2,v3,v4] t (0,0))) :
  w.cell? ⟨rb,0,none⟩ = some v0 ∧ w.cell? ⟨rb,1,none⟩ = some v1 ∧ w.cell? ⟨rb,2,none⟩ = some v2 ∧ w.cell? ⟨rb,3,none⟩ = some v3 ∧ w.cell? ⟨rb,4,none⟩ = some v4 ∧ rb < w.heap.size:=by
 refine ⟨?_,?_,?_,?_,?_,lt_of_block h⟩
 all_goals
  rw [cell_of_row w rb _ _ _ _ h]
  rfl
def x1d (w0 wk:World) (B:Nat) (c:Ch) (rv:Nat → Value) (mb:Nat) (va:Option Addr) (vc:Nat) (sa:Option Addr) (sc:Nat) (i:Nat) (gs:List (Nat × Tr)) (e:Ending) (w':World):Prop :=
 e = .returned (.tuple #[]) ∧ ∃ tv gv,TbAt w0 wk B c rv mb va vc sa sc i gs none tv gv w'
structure RowAt (w0 wk:World) (B:Nat) (c:Ch) (rv:Nat → Value) (mb:Nat) (va:Option Addr) (vc:Nat) (sa:Option Addr) (sc:Nat) (i k rb:Nat) (oa:Option Addr) (oc:Nat) (tv:Value) (ga:Option Addr) (gc:Nat) (w:World):Prop where
 tb:TbAt w0 wk B c rv mb va vc sa sc i (q0u c.states i ++ ((c.states.getD i st0).trans.take k).map fun t=>(i,t)) (Value.slice oa k oc).ownBlock tv (.slice ga ((q0u c.states i).length + k) gc) w
 blk:w.heap[rb]? = some (.cells (v9r (c.states.getD i st0) (.int .i64 (j8s c.states i)) (.int .u64 (upS c.states i:Int)) (.int .u64 (j8k c.states i:Int)) (.int .u64 (j1e c.states i:Int)) (.int .u64 (y0j c.states i:Int)) (.slice oa k oc) (rv (3 * i)) (rv (3 * i + 1))) 84 (0,0))
 own:w.ownsRow w0.heap.size 3 1 (.slice oa k oc) k (z1h (k5e (q0u c.states i).length k))
section
variable {w0 wk:World} {B:Nat} {c:Ch} {rv:Nat → Value} {mb:Nat} {va sa:Option Addr} {vc sc i k rb oc gc:Nat} {oa ga:Option Addr} {tv:Value} {w w':World}
theorem j1u (h:RowAt w0 wk B c rv mb va vc sa sc i k rb oa oc tv ga gc w) (hb:Below w.heap.size w w'):RowAt w0 wk B c rv mb va vc sa sc i k rb oa oc tv ga gc w':=⟨q0i h.tb hb,z0c h.blk hb,z0a h.own hb⟩
theorem k3c {g cap:Nat} (h:RowAt w0 wk B c rv mb va vc sa sc i k rb oa oc tv ga gc w) (hne:tv.ownBlock ≠ some rb) (hl:w0.heap.size ≤ rb) (hO:w'.ownsRow w0.heap.size 3 1 (.slice (some ⟨g,0,none⟩) (k + 1) cap) (k + 1) (z1h (k5e (q0u c.states i).length k) ++ [.int .i64 (((q0u c.states i).length + k:Nat):Int)])) (hg:w.grownBy w' (Value.slice oa k oc).ownBlock) (hn:(Value.slice oa k oc).ownBlock = some g ∨ g = w.heap.size) :
  TbAt w0 wk B c rv mb va vc sa sc i (q0u c.states i ++ ((c.states.getD i st0).trans.take k).map fun t=>(i,t)) (some g) tv (.slice ga ((q0u c.states i).length + k) gc) (w'.setCell ⟨rb,8,none⟩ (.slice (some ⟨g,0,none⟩) (k + 1) cap)) ∧
  (w'.setCell ⟨rb,8,none⟩ (.slice (some ⟨g,0,none⟩) (k + 1) cap)).heap[rb]? = some (.cells (v9r (c.states.getD i st0) (.int .i64 (j8s c.states i)) (.int .u64 (upS c.states i:Int)) (.int .u64 (j8k c.states i:Int)) (.int .u64 (j1e c.states i:Int)) (.int .u64 (y0j c.states i:Int)) (.slice (some ⟨g,0,none⟩) (k + 1) cap) (rv (3 * i)) (rv (3 * i + 1))) 84 (0,0)) ∧
  (w'.setCell ⟨rb,8,none⟩ (.slice (some ⟨g,0,none⟩) (k + 1) cap)).ownsRow w0.heap.size 3 1 (.slice (some ⟨g,0,none⟩) (k + 1) cap) (k + 1) (z1h (k5e (q0u c.states i).length (k + 1))):=by
 have hb':=z0h h.own h.blk deT hg
 refine ⟨j2g (v9z h.tb h.own hg hn) hb' hne hl,z0l hb',?_⟩
 have e:z1h (k5e (q0u c.states i).length (k + 1)) = z1h (k5e (q0u c.states i).length k) ++ [.int .i64 (((q0u c.states i).length + k:Nat):Int)]:=by rw [k0o];simp [z1h]
 rw [e]
 exact z1m hb' deT _ _ _ _ hO
theorem v9y {gs:List (Nat × Tr)} {cb:Option Nat} {gv gv':Value} {X:World} {p:Nat × Tr} {v ys xs:List Value} {rb n:Nat} {cur:Value} {cs:Array Value} (h:TbAt w0 wk B c rv mb va vc sa sc i gs cb tv gv X) (hq:X.heap[rb]? = some (.cells cs 84 (0,0))) (ho:X.ownsRow w0.heap.size 3 1 cur n xs)
  (hys:Vs (GoR B w0 c.states X cb) gs ys) (hO:X.ownsRow w0.heap.size 186 6 gv gs.length ys) (hp:GoR B w0 c.states X cb p v)
  (hO':w'.ownsRow w0.heap.size 186 6 gv' (gs.length + 1) (ys ++ v)) (hg:X.grownBy w' gv.ownBlock) :
  TbAt w0 wk B c rv mb va vc sa sc i (gs ++ [p]) cb tv gv' (w'.setCell ⟨mb,2,none⟩ gv') ∧ (w'.setCell ⟨mb,2,none⟩ gv').heap[rb]? = some (.cells cs 84 (0,0)) ∧ (w'.setCell ⟨mb,2,none⟩ gv').ownsRow w0.heap.size 3 1 cur n xs:=by
 have hb':=z0h hO h.blk deT hg
 have hm:rb ≠ mb:=fun e=>by
  have:=h.blk
  rw [← e,hq] at this
  cases this
 exact ⟨x2p h hys hO hp hO' hg,z0i (z0h hO hq deT hg) hm,z1m hb' deT _ _ _ _ (z1l (B:=w0.heap.size) hO deT hg _ _ _ _ ho)⟩
end
end Go.Proofs.YtacnlghljmgdiaaGreatDoor
