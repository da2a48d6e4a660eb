/- Several texts of this proof, joined: DF, DH, DI. -/
import Derived.Test.YtacnlghljmgdiaaGreatDoorL2
import Derived.Test.YtacnlghljmgdiaaGreatDoorI2
import Derived.WalkKit
import Derived.ProofKit
import Derived.OpenShut
import Derived.Handy
import Derived.BigQuiet
import Derived.OwnWalk
import Derived.Deep.AppendLies
import Derived.Deep.RegionHeld3
import Derived.Lib.Hide
import Derived.WalkSmall
import Derived.WalkLawsBesides
import Derived.Test.YtacnlghljmgdiaaGreatDoorI3
import Derived.Test.YtacnlghljmgdiaaGreatDoorL1
import Derived.Test.YtacnlghljmgdiaaGreatDoorJ3
import Derived.Deep.Light
namespace Go.Proofs.YtacnlghljmgdiaaGreatDoor
open Go.RowKit
theorem mT {P:Program} {ops:Array Oper} {Q:Exit → Act → World → Prop} {md:Region.Mode} {S:World → Prop} {n:Nat} (i:Nat) {d:Nat} {oi:Oper} {v:Value} {fuel:Nat} {listed:Array Bool} {tmps:Array Value} {defs:_} {w:World} (hi:ops[i]? = some oi) (hd:oi.dst = some d) (hy:YieldsIf P ops S oi v ⟨tmps,defs⟩)
  (h:z5a P md ops Q S n fuel (listed.setIfInBounds i true) ⟨tmps.setIfInBounds d v,defs⟩ w) (hS:S w:=by assumption) (hs:Region.noSelect ops = true:=by kernel_rfl) (hf:Region.free md ops listed i = true:=by kernel_rfl) (hr:(Region.ready md ops listed).contains i = true:=by kernel_rfl)
  (hl:(k1b md ops n listed && decide (i < n)) = true:=by kernel_rfl) (hQ:∀ c a w,Q (.panic c) (a.put oi.dst v) w → Q (.panic c) a w:=by exact fun _ _ _ h=>h):z5a P md ops Q S n (fuel + 1) listed ⟨tmps,defs⟩ w :=
 z0t hi hd hs hf hr hl hQ hy hS h
theorem y2d (ss:List St) (h:∀ i,i < ss.length → (ss.getD i st0).trans.length ≤ 96):∀ i,i ≤ ss.length → (q0u ss i).length ≤ 96 * i
 | 0,_=>Nat.le_refl _
 | i + 1,hi=>by
  have:=y2d ss h i omT
  have:=h i omT
  rw [q0u,List.length_append,List.length_map]
  omega
section
variable {w0 wk:World} {B:Nat} {c:Ch} {rv:Nat → Value} {mb:Nat} {va sa:Option Addr} {vc sc i:Nat} {tv gv:Value} {w:World}
set_option maxRecDepth 100000 in
set_option maxHeartbeats 8000000 in
theorem k9x (hi:i < c.states.length) (O:OkC c) (hT:Db w0) (hC:ChV ct0 B w0 c rv (.slice va c.vars.length vc) (.slice sa c.states.length sc)) (h:TbAt w0 wk B c rv mb va vc sa sc i (q0u c.states i) none tv gv w) :
  Calls Tryz.prog 53 #[.pointer (some ⟨mb,0,none⟩),.int .i64 (i:Int)] w (x1d w0 wk B c rv mb va vc sa sc (i + 1) (q0u c.states (i + 1))):=by
 have hn:=O.few
 have hw0:=h.env.size
 obtain ⟨g,rfl,hG⟩:=v6i hC i hi
 obtain ⟨s,hs⟩:∃ s,c.states.getD i st0 = s:=⟨_,rfl⟩
 rw [hs] at hG
 have hlens:=O.lens i hi
 have hfit:=O.fit i hi
 rw [hs] at hlens hfit
 have hG1:=k3v hG h.env
 obtain ⟨to',tc,hto⟩:=j2j hG.r3
 obtain ⟨eo,ec,heo⟩:=z3t hG.r1
 obtain ⟨xo,xc,hxo⟩:=z3t hG.r2
 have hT3:=hG.r3
 rw [hto] at hG1 hT3
 have hne:tv.ownBlock ≠ some (w.heap.size + 1):=by
  intro e
  obtain ⟨xs,_,hO⟩:=h.rows
  have:=(hO.lt _ e).2
  omega
 have A:=hiT (fun wx (hb:Below w.heap.size w wx)=>y0z i O.par hn (y1b hC (q0i h hb)))
 obtain ⟨c0,c1,c2,c3,c4,c5,hl,hf⟩:=z7h (y1b hC h)
 obtain ⟨hgl,n0,n1,n2,n3,n4,n5,n6,-,-,-⟩:=hG1
 have i0:InW mb w:=⟨hl⟩
 have i1:InW g w:=⟨hgl⟩
 have hI:(i:Int) < (c.states.length:Int):=by omega
 have hsb:w0.heap.size ≤ w.heap.size:=hw0
 rw [heo] at n4
 rw [hxo] at n5
 have hh:=hiT h
 replace hne:=hiT hne
 have heo':=hiT heo
 have hxo':=hiT hxo
 have hto':=hiT hto
 have hT3':=hiT hT3
 replace hC:=hiT hC
 replace hT:=hiT hT
 have hgl2:=y2d c.states (fun k hk=>(O.lens k hk).2.2) i omT
 replace hlens:=hiT hlens.2.2
 replace hfit:=hiT hfit
 replace hgl2:=hiT hgl2
 replace hs:=hiT hs
 replace O:=hiT O
 clear h hG hf hl heo hxo hto hT3
 go_enter Tryz.func53,Tryz.ntmps53
 go_wp2_with fail
 refine (A.out _ gzT).mono ?_
 rintro e w1 ⟨rfl,hb1⟩
 have hX:Below w.heap.size w w1:=Below.trans gzT (hb1.mono (by simp;omega))
 have q1:=z0c (z0s (b:=w.heap.size + 1) (by simp)) hb1
 have q0:=z0c (z0j (heap_alloc_new w _)) hb1
 have t1:=q0i hh.out hX
 clear A hb1 c0 c1 c2 c3 c4 c5 n0 n1 n2 n3 n4 n5 n6 i0 i1
 generalize hrb:w.heap.size + 1 = rb at *
 generalize hsbe:w.heap.size = sb at *
 have hlr:w0.heap.size ≤ rb:=by omega
 have hsr:sb ≠ rb:=by omega
 have hsw:sb < w1.heap.size:=lt_of_block q0
 have q1':=z6w q1
 obtain ⟨r0,r1,r2,r3,r4,r5,r6,r7,r8,r9,r10,rl,rf⟩:=q1'
 have f4:=rf 4
 have f5:=rf 5
 have ib:InW rb w1:=⟨rl⟩
 have t1':=j2g (j:=5) (u := .int .u64 (j8k c.states i:Int)) (j2g (j:=4) (u := .int .u64 (upS c.states i:Int)) t1 q1 hne.out hlr) (z0l q1) hne.out hlr
 have q1b:=z0l (i:=5) (u := .int .u64 (j8k c.states i:Int)) (z0l (i:=4) (u := .int .u64 (upS c.states i:Int)) q1)
 have q0b:=z0i (i:=5) (v := .int .u64 (j8k c.states i:Int)) (z0i (i:=4) (v := .int .u64 (upS c.states i:Int)) q0 hsr) hsr
 have C:=hiT (j4u i hn (y1b hC.out t1'))
 replace t1':=hiT t1'
 replace q1b:=hiT q1b
 replace q0b:=hiT q0b
 clear t1 q1 q0 r0 r1 r2 r3 r6 r7 r8 r9 r10 rf hX
 go_wp2_with fail
 refine C.out.mono ?_
 rintro e w2 ⟨rfl,hb2⟩
 have t2:=q0i t1'.out hb2
 have q2:w2.heap[rb]? = some (.cells (v9r s (.int .i64 0) (.int .u64 (upS c.states i:Int)) (.int .u64 (j8k c.states i:Int)) (.int .u64 0) (.int .u64 0) (.slice none 0 0) (rv (3 * i)) (rv (3 * i + 1))) 84 (0,0)):=by
  have:=z0c q1b.out hb2
  rw [heo'.out,hxo'.out]
  exact this
 have q0c:=z0c q0b.out hb2
 clear C hb2 t1' q1b q0b ib f4 f5 r4 r5 rl hsw
 obtain ⟨r0,r1,r2,r3,r4,r5,r6,r7,r8,r9,r10,rl,rf⟩:=z6w q2
 have f6:=rf 6
 have f7:=rf 7
 have ib:InW rb w2:=⟨rl⟩
 have is:InW sb w2:=⟨lt_of_block q0c⟩
 have t2':=j2g (j:=7) (u := .int .u64 (y0j c.states i:Int)) (j2g (j:=6) (u := .int .u64 (j1e c.states i:Int)) t2 q2 hne.out hlr) (z0l q2) hne.out hlr
 have q2b:=z0l (i:=7) (u := .int .u64 (y0j c.states i:Int)) (z0l (i:=6) (u := .int .u64 (j1e c.states i:Int)) q2)
 have q0d:=z0i (i:=7) (v := .int .u64 (y0j c.states i:Int)) (z0i (i:=6) (v := .int .u64 (j1e c.states i:Int)) q0c hsr) hsr
 have S:=hiT (y8a i (.slice eo s.enter.length ec) (.slice xo s.exit.length xc) (.slice to' s.trans.length tc) hn (z4f hT.out t2'.env) (y1b hC.out t2'))
 rw [hs.out] at S
 replace t2':=hiT t2'
 replace q2b:=hiT q2b
 have q0dd:=q0d
 replace q0d:=hiT q0d
 obtain ⟨s0,s1,s2,s3,s4,s5,s6,sl⟩:=q8t q0c
 clear t2 q2 q0c q0dd r0 r1 r2 r3 r4 r5 r8 r9 r10 rf
 go_wp2_with fail
 refine S.out.mono ?_
 rintro e w3 ⟨rfl,hb3⟩
 have t3:=q0i t2'.out hb3
 have q3:w3.heap[rb]? = some (.cells (v9r s (.int .i64 0) (.int .u64 (upS c.states i:Int)) (.int .u64 (j8k c.states i:Int)) (.int .u64 (j1e c.states i:Int)) (.int .u64 (y0j c.states i:Int)) (.slice none 0 0) (rv (3 * i)) (rv (3 * i + 1))) 84 (0,0)):=z0c q2b.out hb3
 have q03:=z0i (i:=3) (v := .int .i64 (j8s c.states i)) (z0c q0d.out hb3) hsr
 have t3':=j2g (j:=3) (u := .int .i64 (j8s c.states i)) t3 q3 hne.out hlr
 have q3':(w3.setCell ⟨rb,3,none⟩ (.int .i64 (j8s c.states i))).heap[rb]? = some (.cells (v9r s (.int .i64 (j8s c.states i)) (.int .u64 (upS c.states i:Int)) (.int .u64 (j8k c.states i:Int)) (.int .u64 (j1e c.states i:Int)) (.int .u64 (y0j c.states i:Int)) (.slice none 0 0) (rv (3 * i)) (rv (3 * i + 1))) 84 (0,0)):=z0l q3
 obtain ⟨ga,gc,hgv⟩:∃ ga gc,gv = .slice ga ((q0u c.states i).length + 0) gc:=by
  obtain ⟨ys,_,hy⟩:=t3.gos
  obtain ⟨ga,gc,e⟩:=z0g hy
  exact ⟨ga,gc,e⟩
 have R0:RowAt w0 wk B c rv mb va vc (some ⟨g,0,none⟩) sc i 0 rb none 0 tv ga gc (w3.setCell ⟨rb,3,none⟩ (.int .i64 (j8s c.states i))):=⟨by rw [← hgv,List.take_zero,List.map_nil,List.append_nil];exact t3',by rw [hs.out];exact q3',World.ownsRow_nil _ _ _ _⟩
 obtain ⟨-,-,-,r3,-,-,-,-,-,-,-,rl,rf⟩:=z6w q3
 have f3:=rf 3
 clear S hb3 t2' q2b q0d ib is f6 f7 r6 r7 s0 s1 s2 s3 s4 s5 s6 sl t3 rf hgv t3' q3'
 have ib:InW rb w3:=⟨rl⟩
 go_upto_region 5 with (fail)
 generalize w3.setCell ⟨rb,3,none⟩ (.int .i64 (j8s c.states i)) = w4 at R0 q03 ⊢
 obtain ⟨-,-,-,-,-,-,s6,sl⟩:=q8t q03
 have is:InW sb w4:=⟨sl⟩
 replace R0:=hiT R0
 clear q3 q03 r3 f3 rl ib
 obtain ⟨i0n,hi0,hy1,hy2,hy3⟩:=info_parts Tryz.infoInt
 obtain ⟨i1n,hi1,hz1,hz2,hz3⟩:=info_parts Tryz.infoTG
 obtain ⟨i2n,hi2,hx1,hx2,hx3⟩:=info_parts Tryz.infoTR
 go_wp2
 go_loopw [52] (fun x wr=>∃ (k:Nat) (oa:Option Addr) (oc:Nat) (ga:Option Addr) (gc:Nat),x = .int .i64 (k:Int) ∧ k ≤ s.trans.length ∧ Hid (RowAt w0 wk B c rv mb va vc (some ⟨g,0,none⟩) sc i k rb oa oc tv ga gc wr)) (fun x _=>s.trans.length - (intOf x).toNat)
 case atStart=>exact ⟨0,none,0,ga,gc,rfl,Nat.zero_le _,R0⟩
 case round =>
  clear R0 is s6 sl
  obtain ⟨k,oa,oc,ga,gc,rfl,hk,hR⟩:=hrel
  rename World=>wr
  have hm:=hgl2.out
  have h96:=hlens.out
  obtain ⟨m,hme⟩:∃ m,(q0u c.states i).length = m:=⟨_,rfl⟩
  by_cases hlt:k < s.trans.length
  ·have hkI:(k:Int) < (s.trans.length:Int):=by omega
   obtain ⟨gt,io,ic,go,gc',uo,uc,rfl,hgt,q0,q1,q2,q3,q4,hN,hG,hA⟩:=v6q hT3'.out k hlt
   have he:=hR.out.tb.env
   replace q0:=(he.cell (p:=⟨gt,k * 5,none⟩) hgt).trans q0
   replace q1:=(he.cell (p:=⟨gt,k * 5 + 1,none⟩) hgt).trans q1
   replace q2:=(he.cell (p:=⟨gt,k * 5 + 2,none⟩) hgt).trans q2
   replace q3:=(he.cell (p:=⟨gt,k * 5 + 3,none⟩) hgt).trans q3
   replace q4:=(he.cell (p:=⟨gt,k * 5 + 4,none⟩) hgt).trans q4
   have hfg:=(hfit.out.trans _ (List.getElem_mem hlt)).goes
   have htk:q0u c.states i ++ (s.trans.take (k + 1)).map (fun t=>(i,t)) = (q0u c.states i ++ (s.trans.take k).map (fun t=>(i,t))) ++ [(i,s.trans[k])]:=by
    rw [List.take_add_one,List.getElem?_eq_getElem hlt,List.map_append,List.append_assoc];rfl
   have hgl:(q0u c.states i ++ (s.trans.take k).map (fun t=>(i,t))).length = m + k:=by
    rw [List.length_append,List.length_map,List.length_take,hme];omega
   replace htk:=hiT htk
   replace hgl:=hiT hgl
   have hnt:s.trans.length ≤ 96:=h96
   generalize htr:s.trans[k] = tr at *
   replace htr:=hiT htr
   have igt:InW gt wr:=⟨Nat.lt_of_lt_of_le hgt he.size⟩
   obtain ⟨c0,c1,c2,c3,c4,c5,hl,hf⟩:=z7h (y1b hC.out hR.out.tb)
   have hblk:=hR.out.blk
   rw [hs.out] at hblk
   obtain ⟨r0,r1,r2,r3,r4,r5,r6,r7,r8,r9,r10,rl,rf⟩:=z6w hblk
   replace hblk:=hiT hblk
   have im:InW mb wr:=⟨hl⟩
   have ib:InW rb wr:=⟨rl⟩
   have f8:=rf 8
   have hbig:m + k ≤ 10000:=by omega
   rw [hme] at c2
   have hwr:w0.heap.size ≤ wr.heap.size:=he.size
   replace hme:=hiT hme
   have hrbw:rb < wr.heap.size:=rl
   replace hm:=hiT hm
   clear h96 hl he hgt c0 c1 c3 c4 c5 hf r0 r1 r2 r3 r4 r5 r6 r7 r9 r10 rf
   go_upto_region 8 with (fail)
   have tq:=heap_alloc_new wr (.cells #[str tr.event,.slice io tr.cond.length ic,.slice go tr.goes.length gc',.bool tr.inner,.slice uo tr.thn.length uc] 162 (0,0))
   replace tq:=hiT tq
   refine wp_region_noPanic ?_
   refine z1n (S:=fun w'=>w'.cell? ⟨rb,8,none⟩ = some (.slice oa k oc) ∧ w'.cell? ⟨mb,2,none⟩ = some (.slice ga (m + k) gc)) 11 krT (by (refine ⟨?_,?_⟩ <;> first | assumption | (rw [z1f];assumption) | (rw [z0p];assumption) | (simp [go_sem, *];done))) (fun hS=>?_)
   have hT:=hS
   (try dsimp only at hT)
   obtain ⟨s0,s1⟩:=hT
   (refine mT 0 rfl rfl (v:=?_) (Or.inl ⟨by rfl,?_⟩) ?_;rotate_left;(focus (intro w hSw;(try dsimp only at hSw);go_simp;all_goals (with_reducible rfl)));simp only [List.setIfInBounds_toArray,List.set_cons_zero,List.set_cons_succ])
   (refine mT 1 rfl rfl (v:=?_) (Or.inl ⟨by rfl,?_⟩) ?_;rotate_left;(focus (intro w hSw;(try dsimp only at hSw);go_simp;all_goals (with_reducible rfl)));simp only [List.setIfInBounds_toArray,List.set_cons_zero,List.set_cons_succ])
   (refine mT 2 rfl rfl (v:=?_) (Or.inl ⟨by rfl,?_⟩) ?_;rotate_left;(focus (intro w hSw;(try dsimp only at hSw);go_simp;all_goals (with_reducible rfl)));simp only [List.setIfInBounds_toArray,List.set_cons_zero,List.set_cons_succ])
   (refine mT 3 rfl rfl (v:=?_) (Or.inl ⟨by rfl,?_⟩) ?_;rotate_left;(focus (intro w hSw;(try dsimp only at hSw);go_simp;all_goals (with_reducible rfl)));simp only [List.setIfInBounds_toArray,List.set_cons_zero,List.set_cons_succ])
   (refine mT 4 rfl rfl (v:=?_) (Or.inl ⟨by rfl,?_⟩) ?_;rotate_left;(focus (intro w hSw;(try dsimp only at hSw);go_simp;all_goals (with_reducible rfl)));simp only [List.setIfInBounds_toArray,List.set_cons_zero,List.set_cons_succ])
   (refine mT 5 rfl rfl (v:=?_) (Or.inl ⟨by rfl,?_⟩) ?_;rotate_left;(focus (intro w hSw;(try dsimp only at hSw);go_simp;all_goals (with_reducible rfl)));simp only [List.setIfInBounds_toArray,List.set_cons_zero,List.set_cons_succ])
   (refine mT 6 rfl rfl (v:=?_) (Or.inl ⟨by rfl,?_⟩) ?_;rotate_left;(focus (intro w hSw;(try dsimp only at hSw);go_simp;all_goals (with_reducible rfl)));simp only [List.setIfInBounds_toArray,List.set_cons_zero,List.set_cons_succ])
   (refine mT 7 rfl rfl (v:=?_) (Or.inl ⟨by rfl,?_⟩) ?_;rotate_left;(focus (intro w hSw;(try dsimp only at hSw);go_simp;all_goals (with_reducible rfl)));simp only [List.setIfInBounds_toArray,List.set_cons_zero,List.set_cons_succ])
   refine z0f (t:=8) krT rfl rfl (fun K' hK=>?_)
   go_simp
   refine hK.out _ _ (fun _=>?_) (fun hS=>?_)
   ·(try dsimp only)
    exact ⟨(z0p _ _ _ _).trans s0,(z0p _ _ _ _).trans s1⟩
   clear s0 s1 hK K'
   replace hS:=hS deT
   have hT:=hS
   (try dsimp only at hT)
   obtain ⟨s0,s1⟩:=hT
   refine z2w (t:=9) krT rfl rfl rfl (fun K' hK=>?_)
   refine wp_append_lies _ (.tmp 57) (.tmp 64) 40 rfl w0.heap.size 3 i0n _ 1 8 Tryz.underlying40 hi0 hy1 hy2 hy3 rfl deT (.slice oa k oc) k (z1h (k5e (q0u c.states i).length k)) (by simp [Act.eval]) (z0a hR.out.own gzT) ⟨_,0,none⟩ 1 1 [.int .i64 ((m:Int) + (k:Int))] rfl rfl (World.news_of_block (z0s (by simp))) (by intro u hu;simp at hu;subst hu;rfl) deT (by unfold maxLen;omega) omT (Nat.le_trans hwr (Below.size (B:=wr.heap.size) (w:=wr) gzT)) _ rfl ?_
   intro g' cap' w5 hown1 hgrow hat1 hg1
   have hbx:=z0h (z0a hR.out.own gzT) (z0c hblk.out gzT) deT hgrow
   have hbm:=z0h (z0a hR.out.own gzT) (z0c hR.out.tb.blk gzT) deT hgrow
   have htb:=z0h (z0a hR.out.own gzT) (z0c tq.out gzT) deT hgrow
   obtain ⟨-,-,-,-,-,-,-,-,z8,-,-,zl,zf⟩:=z6w hbx
   have zm:w5.cell? ⟨mb,2,none⟩ = some (.slice ga (m + k) gc):=by
    rw [cell_of_row w5 mb _ _ _ _ hbm,hme.out]
    rfl
   have fz:=zf 8
   refine hK.out _ _ (fun _=>?_) (fun hS=>?_)
   ·exact ⟨z8,zm⟩
   clear s0 s1 hK K'
   replace hS:=hS deT
   have izb:InW rb w5:=⟨zl⟩
   (refine mT 10 rfl rfl (v:=?_) (Or.inl ⟨by rfl,?_⟩) ?_;rotate_left;(focus (intro w hSw;(try dsimp only at hSw);go_simp;all_goals (with_reducible rfl)));simp only [List.setIfInBounds_toArray,List.set_cons_zero,List.set_cons_succ])
   refine z0f (t:=11) krT rfl rfl (fun K' hK=>?_)
   go_simp
   refine hK.out _ _ (fun h=>absurd rfl h) (fun _=>z1j krT ?_)
   refine NoPanic.normal ?_
   have R1:∀ X:World,Below wr.heap.size wr X → X.grownBy w5 (Value.slice oa k oc).ownBlock → ((Value.slice oa k oc).ownBlock = some g' ∨ g' = X.heap.size) → _:=fun X hX hg hn=>k3c (g:=g') (cap:=cap') (w:=X) (w':=w5) (j1u hR.out hX) hne.out hlr (by have h:=hown1;rw [hme.out] at h;rw [hme.out,Int.natCast_add];exact h) hg hn
   obtain ⟨T8,Q8,O8⟩:=R1 _ gzT hgrow hat1
   have tq6:=z0i (i:=8) (v := .slice (some ⟨g',0,none⟩) (k + 1) cap') htb (show wr.heap.size ≠ rb by omega)
   have hg6:g' < (w5.setCell ⟨rb,8,none⟩ (.slice (some ⟨g',0,none⟩) (k + 1) cap')).heap.size:=by rw [World.size_setCell];exact hg1
   rw [hs.out,hme.out] at T8
   rw [hs.out] at Q8
   rw [hme.out] at O8
   have hwb:wr.heap.size < (w5.setCell ⟨rb,8,none⟩ (.slice (some ⟨g',0,none⟩) (k + 1) cap')).heap.size:=lt_of_block tq6
   have hrb8:rb < (w5.setCell ⟨rb,8,none⟩ (.slice (some ⟨g',0,none⟩) (k + 1) cap')).heap.size:=lt_of_block Q8
   generalize w5.setCell ⟨rb,8,none⟩ (.slice (some ⟨g',0,none⟩) (k + 1) cap') = w6 at T8 Q8 O8 tq6 hg6 hwb hrb8 ⊢
   clear hown1 hgrow hat1 hg1 hbx hbm htb z8 zm zf fz hS hK K' R1 hR izb im ib c2 r8 f8 igt q0 q1 q2 q3 q4 hblk tq hkI
   obtain ⟨ys,hys,hyO⟩:=T8.gos
   rw [hgl.out] at hyO
   have P:=hiT (fun wx (hx:Below w6.heap.size w6 wx)=>y1g (w:=wx) go gc' tr.goes hfg hn (y1b hC.out (q0i T8 hx)) (z0a hG ((q0i T8 hx).env)))
   obtain ⟨t0,t1,t2,t3,t4,tl⟩:=j1b tq6
   have zm:w6.cell? ⟨mb,2,none⟩ = some (.slice ga (m + k) gc):=by
    rw [cell_of_row w6 mb _ _ _ _ T8.blk]
    rfl
   have zf:∀ X:World,(∃ cs,X.heap[mb]? = some (.cells cs 137 (0,0))) → X.frozen? ⟨mb,2,none⟩ = false:=fun X ⟨_,h⟩=>frozen_of_row X mb 2 _ _ h
   have im:InW mb w6:=⟨lt_of_block T8.blk⟩
   have it:InW wr.heap.size w6:=⟨tl⟩
   have htop:=T8.env.size
   have hyO':=hiT hyO
   have T8':=hiT T8
   have Q8':=hiT Q8
   have O8':=hiT O8
   have hys':=hiT hys
   have tq6':=hiT tq6
   clear T8 Q8 O8 hys hyO tq6
   generalize wr.heap.size = tb at *
   go_upto_region 9 with (fail)
   refine wp_region_noPanic ?_
   refine z1n (S:=fun w'=>w'.cell? ⟨mb,2,none⟩ = some (.slice ga (m + k) gc) ∧ w'.cell? ⟨tb,0,none⟩ = some (str tr.event) ∧ w'.cell? ⟨tb,1,none⟩ = some (.slice io tr.cond.length ic) ∧ w'.cell? ⟨tb,2,none⟩ = some (.slice go tr.goes.length gc') ∧ w'.cell? ⟨tb,3,none⟩ = some (.bool tr.inner) ∧ w'.cell? ⟨tb,4,none⟩ = some (.slice uo tr.thn.length uc)) 25 krT (by exact ⟨zm,t0,t1,t2,t3,t4⟩) (fun hS=>?_)
   have hT:=hS
   (try dsimp only at hT)
   obtain ⟨s0,s1,s2,s3,s4,s5⟩:=hT
   (refine mT 0 rfl rfl (v:=?_) (Or.inl ⟨by rfl,?_⟩) ?_;rotate_left;(focus (intro w hSw;(try dsimp only at hSw);go_simp;all_goals (with_reducible rfl)));simp only [List.setIfInBounds_toArray,List.set_cons_zero,List.set_cons_succ])
   (refine mT 1 rfl rfl (v:=?_) (Or.inl ⟨by rfl,?_⟩) ?_;rotate_left;(focus (intro w hSw;(try dsimp only at hSw);go_simp;all_goals (with_reducible rfl)));simp only [List.setIfInBounds_toArray,List.set_cons_zero,List.set_cons_succ])
   (refine mT 2 rfl rfl (v:=?_) (Or.inl ⟨by rfl,?_⟩) ?_;rotate_left;(focus (intro w hSw;(try dsimp only at hSw);go_simp;all_goals (with_reducible rfl)));simp only [List.setIfInBounds_toArray,List.set_cons_zero,List.set_cons_succ])
   (refine mT 3 rfl rfl (v:=?_) (Or.inl ⟨by rfl,?_⟩) ?_;rotate_left;(focus (intro w hSw;(try dsimp only at hSw);go_simp;all_goals (with_reducible rfl)));simp only [List.setIfInBounds_toArray,List.set_cons_zero,List.set_cons_succ])
   (refine mT 4 rfl rfl (v:=?_) (Or.inl ⟨by rfl,?_⟩) ?_;rotate_left;(focus (intro w hSw;(try dsimp only at hSw);go_simp;all_goals (with_reducible rfl)));simp only [List.setIfInBounds_toArray,List.set_cons_zero,List.set_cons_succ])
   (refine mT 5 rfl rfl (v:=?_) (Or.inl ⟨by rfl,?_⟩) ?_;rotate_left;(focus (intro w hSw;(try dsimp only at hSw);go_simp;all_goals (with_reducible rfl)));simp only [List.setIfInBounds_toArray,List.set_cons_zero,List.set_cons_succ])
   (refine mT 6 rfl rfl (v:=?_) (Or.inl ⟨by rfl,?_⟩) ?_;rotate_left;(focus (intro w hSw;(try dsimp only at hSw);go_simp;all_goals (with_reducible rfl)));simp only [List.setIfInBounds_toArray,List.set_cons_zero,List.set_cons_succ])
   (refine mT 7 rfl rfl (v:=?_) (Or.inl ⟨by rfl,?_⟩) ?_;rotate_left;(focus (intro w hSw;(try dsimp only at hSw);go_simp;all_goals (with_reducible rfl)));simp only [List.setIfInBounds_toArray,List.set_cons_zero,List.set_cons_succ])
   (refine mT 8 rfl rfl (v:=?_) (Or.inl ⟨by rfl,?_⟩) ?_;rotate_left;(focus (intro w hSw;(try dsimp only at hSw);go_simp;all_goals (with_reducible rfl)));simp only [List.setIfInBounds_toArray,List.set_cons_zero,List.set_cons_succ])
   (refine mT 9 rfl rfl (v:=?_) (Or.inl ⟨by rfl,?_⟩) ?_;rotate_left;(focus (intro w hSw;(try dsimp only at hSw);go_simp;all_goals (with_reducible rfl)));simp only [List.setIfInBounds_toArray,List.set_cons_zero,List.set_cons_succ])
   (refine mT 10 rfl rfl (v:=?_) (Or.inl ⟨by rfl,?_⟩) ?_;rotate_left;(focus (intro w hSw;(try dsimp only at hSw);go_simp;all_goals (with_reducible rfl)));simp only [List.setIfInBounds_toArray,List.set_cons_zero,List.set_cons_succ])
   (refine mT 11 rfl rfl (v:=?_) (Or.inl ⟨by rfl,?_⟩) ?_;rotate_left;(focus (intro w hSw;(try dsimp only at hSw);go_simp;all_goals (with_reducible rfl)));simp only [List.setIfInBounds_toArray,List.set_cons_zero,List.set_cons_succ])
   (refine mT 12 rfl rfl (v:=?_) (Or.inl ⟨by rfl,?_⟩) ?_;rotate_left;(focus (intro w hSw;(try dsimp only at hSw);go_simp;all_goals (with_reducible rfl)));simp only [List.setIfInBounds_toArray,List.set_cons_zero,List.set_cons_succ])
   (refine mT 13 rfl rfl (v:=?_) (Or.inl ⟨by rfl,?_⟩) ?_;rotate_left;(focus (intro w hSw;(try dsimp only at hSw);go_simp;all_goals (with_reducible rfl)));simp only [List.setIfInBounds_toArray,List.set_cons_zero,List.set_cons_succ])
   (refine mT 15 rfl rfl (v:=?_) (Or.inl ⟨by rfl,?_⟩) ?_;rotate_left;(focus (intro w hSw;(try dsimp only at hSw);go_simp;all_goals (with_reducible rfl)));simp only [List.setIfInBounds_toArray,List.set_cons_zero,List.set_cons_succ])
   (refine mT 16 rfl rfl (v:=?_) (Or.inl ⟨by rfl,?_⟩) ?_;rotate_left;(focus (intro w hSw;(try dsimp only at hSw);go_simp;all_goals (with_reducible rfl)));simp only [List.setIfInBounds_toArray,List.set_cons_zero,List.set_cons_succ])
   (refine mT 17 rfl rfl (v:=?_) (Or.inl ⟨by rfl,?_⟩) ?_;rotate_left;(focus (intro w hSw;(try dsimp only at hSw);go_simp;all_goals (with_reducible rfl)));simp only [List.setIfInBounds_toArray,List.set_cons_zero,List.set_cons_succ])
   (refine mT 18 rfl rfl (v:=?_) (Or.inl ⟨by rfl,?_⟩) ?_;rotate_left;(focus (intro w hSw;(try dsimp only at hSw);go_simp;all_goals (with_reducible rfl)));simp only [List.setIfInBounds_toArray,List.set_cons_zero,List.set_cons_succ])
   refine z0f (t:=14) krT rfl rfl (fun K' hK=>?_)
   go_simp
   refine (P.out _ gzT).mono ?_
   intro e w7 hr
   obtain ⟨v7,rfl,ho7,hb7⟩:=hr
   obtain ⟨po,pc,rfl⟩:=z0g ho7
   rw [List.length_map] at ho7
   obtain ⟨p7,rfl⟩:=toG hb7
   clear hb7
   (try simp only [z5j,World.size_drew] at ho7)
   rw [List.length_map]
   refine hK.out _ _ (fun _=>?_) (fun hS=>?_)
   ·(try dsimp only)
    exact ⟨(z1f _ _ _ _).trans s0,(z1f _ _ _ _).trans s1,(z1f _ _ _ _).trans s2,(z1f _ _ _ _).trans s3,(z1f _ _ _ _).trans s4,(z1f _ _ _ _).trans s5⟩
   clear s0 s1 s2 s3 s4 s5 hK K'
   replace hS:=hS deT
   have hT:=hS
   (try dsimp only at hT)
   obtain ⟨s0,s1,s2,s3,s4,s5⟩:=hT
   (refine mT 19 rfl rfl (v:=?_) (Or.inl ⟨by rfl,?_⟩) ?_;rotate_left;(focus (intro w hSw;(try dsimp only at hSw);go_simp;all_goals (with_reducible rfl)));simp only [List.setIfInBounds_toArray,List.set_cons_zero,List.set_cons_succ])
   refine z0f (t:=20) krT rfl rfl (fun K' hK=>?_)
   go_simp
   refine hK.out _ _ (fun _=>?_) (fun hS=>?_)
   ·(try dsimp only)
    exact ⟨(z0p _ _ _ _).trans s0,(z0p _ _ _ _).trans s1,(z0p _ _ _ _).trans s2,(z0p _ _ _ _).trans s3,(z0p _ _ _ _).trans s4,(z0p _ _ _ _).trans s5⟩
   clear s0 s1 s2 s3 s4 s5 hK K'
   replace hS:=hS deT
   have hT:=hS
   (try dsimp only at hT)
   obtain ⟨s0,s1,s2,s3,s4,s5⟩:=hT
   refine z2w (t:=21) krT rfl rfl rfl (fun K' hK=>?_)
   refine wp_append_lies _ (.tmp 72) (.tmp 87) 25 rfl w0.heap.size 186 i1n _ 6 104 Tryz.underlying25 hi1 hz1 hz2 hz3 rfl deT (.slice ga (m + k) gc) (m + k) ys (by simp [Act.eval]) (z0a hyO'.out gzT) ⟨_,0,none⟩ 1 1 [.int .i64 (i:Int),str tr.event,.slice io tr.cond.length ic,.slice po tr.goes.length pc,.bool tr.inner,.slice uo tr.thn.length uc] rfl rfl (World.news_of_block (z0s (by simp))) (by intro u hu;simp at hu;rcases hu with rfl | rfl | rfl | rfl | rfl | rfl <;> rfl) deT (by unfold maxLen;omega) omT (Nat.le_trans htop (Below.size (B:=w6.heap.size) (w:=w6) gzT)) _ rfl ?_
   intro g9 cap9 w9 hown1 hgrow hat1 hg1
   have hbm:=z0h (z0a hyO'.out gzT) (z0c T8'.out.blk gzT) deT hgrow
   have z9:w9.cell? ⟨mb,2,none⟩ = some (.slice ga (m + k) gc):=by
    rw [cell_of_row w9 mb _ _ _ _ hbm]
    rfl
   have f9:=zf w9 ⟨_,hbm⟩
   have im9:InW mb w9:=⟨lt_of_block hbm⟩
   have htb9:=z0h (z0a hyO'.out gzT) (z0c tq6'.out gzT) deT hgrow
   obtain ⟨y0,y1,y2,y3,y4,-⟩:=j1b htb9
   refine hK.out _ _ (fun _=>?_) (fun hS=>?_)
   ·exact ⟨z9,y0,y1,y2,y3,y4⟩
   clear s0 s1 s2 s3 s4 s5 hK K'
   replace hS:=hS deT
   (refine mT 22 rfl rfl (v:=?_) (Or.inl ⟨by rfl,?_⟩) ?_;rotate_left;(focus (intro w hSw;(try dsimp only at hSw);go_simp;all_goals (with_reducible rfl)));simp only [List.setIfInBounds_toArray,List.set_cons_zero,List.set_cons_succ])
   (refine mT 23 rfl rfl (v:=?_) (Or.inl ⟨by rfl,?_⟩) ?_;rotate_left;(focus (intro w hSw;(try dsimp only at hSw);go_simp;all_goals (with_reducible rfl)));simp only [List.setIfInBounds_toArray,List.set_cons_zero,List.set_cons_succ])
   (refine mT 24 rfl rfl (v:=?_) (Or.inl ⟨by rfl,?_⟩) ?_;rotate_left;(focus (intro w hSw;(try dsimp only at hSw);go_simp;all_goals (with_reducible rfl)));simp only [List.setIfInBounds_toArray,List.set_cons_zero,List.set_cons_succ])
   refine z0f (t:=25) krT rfl rfl (fun K' hK=>?_)
   go_simp
   refine hK.out _ _ (fun h=>absurd rfl h) (fun _=>z1j krT ?_)
   refine NoPanic.normal ?_
   have hlt7:∀ X:World,X.ownsRow w6.heap.size 3 1 (.slice po tr.goes.length pc) tr.goes.length (z1h (tr.goes.map (y8l c.states))) → j5d (.slice po tr.goes.length pc) (some g'):=fun X hX => .inr fun e=>by
    have:=(hX.lt g' e).1
    omega
   have R2:∀ X:World,Below w6.heap.size w6 X → X.ownsRow w6.heap.size 3 1 (.slice po tr.goes.length pc) tr.goes.length (z1h (tr.goes.map (y8l c.states))) → X.grownBy w9 (Value.slice ga (m + k) gc).ownBlock → RowAt w0 wk B c rv mb va vc (some ⟨g,0,none⟩) sc i (k + 1) rb (some ⟨g',0,none⟩) cap' tv (some ⟨g9,0,none⟩) cap9 (w9.setCell ⟨mb,2,none⟩ (.slice (some ⟨g9,0,none⟩) (m + k + 1) cap9)):=fun X hX hv hg=>by
    obtain ⟨k1,k2,k3⟩:=v9y (p:=(i,tr)) (q0i T8'.out hX) (z0c Q8'.out hX) (z0a O8'.out hX) (z3h hys'.out fun _ _ k=>q5i k fun _ _ _ k1 k2=>⟨z0a k1 hX,k2⟩) (by rw [hgl.out];exact z0a hyO'.out hX) ⟨_,_,_,rfl,hN,hA,z0m hv htop,hlt7 X hv⟩ (by rw [hgl.out];exact hown1) hg
    refine ⟨?_,by rw [hs.out];exact k2,by rw [hme.out];exact k3⟩
    rw [hs.out,htk.out,hme.out]
    exact k1
   have hRR:=hiT (R2 _ gzT (z0a ho7 gzT) hgrow)
   clear hown1 hgrow hat1 hg1 hbm z9 f9 im9 htb9 y0 y1 y2 y3 y4 hS hK K' R2 hlt7 ho7 P T8' Q8' O8' hys' hyO' tq6' hN hG hA zf zm t0 t1 t2 t3 t4 tl
   go_wp2
   go_roundw
   case rel=>exact ⟨k + 1,some ⟨g',0,none⟩,cap',some ⟨g9,0,none⟩,cap9,by go_num,by omega,hRR⟩
   case measure=>simp [intOf];omega
  ·have hkI:¬ (k:Int) < (s.trans.length:Int):=by omega
   obtain rfl:k = s.trans.length:=by omega
   obtain ⟨xs,hxs,hxO⟩:=hR.out.tb.rows
   obtain ⟨ta,tcc,rfl⟩:=z0g hxO
   obtain ⟨-,c1,-,-,-,-,hl,hf⟩:=z7h (y1b hC.out hR.out.tb)
   have hblk:=hR.out.blk
   rw [hs.out,heo'.out,hxo'.out] at hblk
   obtain ⟨r0,r1,r2,r3,r4,r5,r6,r7,r8,r9,r10,rl,-⟩:=z6w hblk
   have im:InW mb wr:=⟨hl⟩
   have ib:InW rb wr:=⟨rl⟩
   have htop:=hR.out.tb.env.size
   have hi49:i ≤ 49:=by omega
   have hxO':=hiT hxO
   have hxs':=hiT hxs
   have hblk':=hiT hblk
   clear hxO hxs hblk hf hl rl hm h96 hgl2 hlens hfit hT hT3' hh
   go_upto_region 11 with (fail)
   refine wp_region_noPanic ?_
   refine z1n (S:=fun w'=>w'.cell? ⟨mb,1,none⟩ = some (.slice ta i tcc) ∧ w'.cell? ⟨rb,0,none⟩ = some (str s.name) ∧ w'.cell? ⟨rb,1,none⟩ = some (.int .i64 s.kind) ∧ w'.cell? ⟨rb,2,none⟩ = some (.int .i64 s.parent) ∧ w'.cell? ⟨rb,3,none⟩ = some (.int .i64 (j8s c.states i)) ∧ w'.cell? ⟨rb,4,none⟩ = some (.int .u64 (upS c.states i:Int)) ∧ w'.cell? ⟨rb,5,none⟩ = some (.int .u64 (j8k c.states i:Int)) ∧ w'.cell? ⟨rb,6,none⟩ = some (.int .u64 (j1e c.states i:Int)) ∧ w'.cell? ⟨rb,7,none⟩ = some (.int .u64 (y0j c.states i:Int)) ∧ w'.cell? ⟨rb,8,none⟩ = some (.slice oa s.trans.length oc) ∧ w'.cell? ⟨rb,9,none⟩ = some (.slice eo s.enter.length ec) ∧ w'.cell? ⟨rb,10,none⟩ = some (.slice xo s.exit.length xc)) 12 krT (by exact ⟨c1,r0,r1,r2,r3,r4,r5,r6,r7,r8,r9,r10⟩) (fun hS=>?_)
   have hT:=hS
   (try dsimp only at hT)
   obtain ⟨s0,s1,s2,s3,s4,s5,s6,s7,s8,s9,s10,s11⟩:=hT
   (refine mT 0 rfl rfl (v:=?_) (Or.inl ⟨by rfl,?_⟩) ?_;rotate_left;(focus (intro w hSw;(try dsimp only at hSw);go_simp;all_goals (with_reducible rfl)));simp only [List.setIfInBounds_toArray,List.set_cons_zero,List.set_cons_succ])
   (refine mT 1 rfl rfl (v:=?_) (Or.inl ⟨by rfl,?_⟩) ?_;rotate_left;(focus (intro w hSw;(try dsimp only at hSw);go_simp;all_goals (with_reducible rfl)));simp only [List.setIfInBounds_toArray,List.set_cons_zero,List.set_cons_succ])
   (refine mT 2 rfl rfl (v:=?_) (Or.inl ⟨by rfl,?_⟩) ?_;rotate_left;(focus (intro w hSw;(try dsimp only at hSw);go_simp;all_goals (with_reducible rfl)));simp only [List.setIfInBounds_toArray,List.set_cons_zero,List.set_cons_succ])
   (refine mT 3 rfl rfl (v:=?_) (Or.inl ⟨by rfl,?_⟩) ?_;rotate_left;(focus (intro w hSw;(try dsimp only at hSw);go_simp;all_goals (with_reducible rfl)));simp only [List.setIfInBounds_toArray,List.set_cons_zero,List.set_cons_succ])
   (refine mT 4 rfl rfl (v:=?_) (Or.inl ⟨by rfl,?_⟩) ?_;rotate_left;(focus (intro w hSw;(try dsimp only at hSw);go_simp;all_goals (with_reducible rfl)));simp only [List.setIfInBounds_toArray,List.set_cons_zero,List.set_cons_succ])
   (refine mT 5 rfl rfl (v:=?_) (Or.inl ⟨by rfl,?_⟩) ?_;rotate_left;(focus (intro w hSw;(try dsimp only at hSw);go_simp;all_goals (with_reducible rfl)));simp only [List.setIfInBounds_toArray,List.set_cons_zero,List.set_cons_succ])
   (refine mT 6 rfl rfl (v:=?_) (Or.inl ⟨by rfl,?_⟩) ?_;rotate_left;(focus (intro w hSw;(try dsimp only at hSw);go_simp;all_goals (with_reducible rfl)));simp only [List.setIfInBounds_toArray,List.set_cons_zero,List.set_cons_succ])
   refine z0f (t:=7) krT rfl rfl (fun K' hK=>?_)
   go_simp
   refine hK.out _ _ (fun _=>?_) (fun hS=>?_)
   ·(try dsimp only)
    exact ⟨(z0p _ _ _ _).trans s0,(z0p _ _ _ _).trans s1,(z0p _ _ _ _).trans s2,(z0p _ _ _ _).trans s3,(z0p _ _ _ _).trans s4,(z0p _ _ _ _).trans s5,(z0p _ _ _ _).trans s6,(z0p _ _ _ _).trans s7,(z0p _ _ _ _).trans s8,(z0p _ _ _ _).trans s9,(z0p _ _ _ _).trans s10,(z0p _ _ _ _).trans s11⟩
   clear s0 s1 s2 s3 s4 s5 s6 s7 s8 s9 s10 s11 hK K'
   replace hS:=hS deT
   have hT:=hS
   (try dsimp only at hT)
   obtain ⟨s0,s1,s2,s3,s4,s5,s6,s7,s8,s9,s10,s11⟩:=hT
   refine z2w (t:=8) krT rfl rfl rfl (fun K' hK=>?_)
   refine wp_append_lies _ (.tmp 98) (.tmp 100) 24 rfl w0.heap.size 84 i2n _ 11 144 Tryz.underlying24 hi2 hx1 hx2 hx3 rfl deT (.slice ta i tcc) i xs (by simp [Act.eval]) (z0a hxO'.out gzT) ⟨_,0,none⟩ 1 1 [str s.name,.int .i64 s.kind,.int .i64 s.parent,.int .i64 (j8s c.states i),.int .u64 (upS c.states i:Int),.int .u64 (j8k c.states i:Int),.int .u64 (j1e c.states i:Int),.int .u64 (y0j c.states i:Int),.slice oa s.trans.length oc,.slice eo s.enter.length ec,.slice xo s.exit.length xc] rfl rfl (World.news_of_block (z0s (by simp))) (by intro u hu;simp at hu;rcases hu with rfl | rfl | rfl | rfl | rfl | rfl | rfl | rfl | rfl | rfl | rfl <;> rfl) deT (by unfold maxLen;omega) omT (Nat.le_trans htop (Below.size (B:=wr.heap.size) (w:=wr) gzT)) _ rfl ?_
   intro g9 cap9 w9 hown1 hgrow hat1 hg1
   have hbm:=z0h (z0a hxO'.out gzT) (z0c hR.out.tb.blk gzT) deT hgrow
   have z9:w9.cell? ⟨mb,1,none⟩ = some (.slice ta i tcc):=by
    rw [cell_of_row w9 mb _ _ _ _ hbm]
    rfl
   have f9:w9.frozen? ⟨mb,1,none⟩ = false:=frozen_of_row w9 mb 1 _ _ hbm
   have im9:InW mb w9:=⟨lt_of_block hbm⟩
   have hrne:∀ X:World,X.grownBy w9 (Value.slice ta i tcc).ownBlock → Below wr.heap.size wr X → w9.heap[rb]? = wr.heap[rb]?:=fun X hg hX=>(hg.block rb (Nat.lt_of_lt_of_le (lt_of_block hblk'.out) hX.size) (fun e=>hne.out e.symm)).trans (hX.block rb (lt_of_block hblk'.out))
   have hrb9:=(hrne _ hgrow gzT).trans hblk'.out
   obtain ⟨y0,y1,y2,y3,y4,y5,y6,y7,y8,y9,y10,-,-⟩:=z6w hrb9
   refine hK.out _ _ (fun _=>?_) (fun hS=>?_)
   ·exact ⟨z9,y0,y1,y2,y3,y4,y5,y6,y7,y8,y9,y10⟩
   clear s0 s1 s2 s3 s4 s5 s6 s7 s8 s9 s10 s11 hK K'
   replace hS:=hS deT
   (refine mT 9 rfl rfl (v:=?_) (Or.inl ⟨by rfl,?_⟩) ?_;rotate_left;(focus (intro w hSw;(try dsimp only at hSw);go_simp;all_goals (with_reducible rfl)));simp only [List.setIfInBounds_toArray,List.set_cons_zero,List.set_cons_succ])
   (refine mT 10 rfl rfl (v:=?_) (Or.inl ⟨by rfl,?_⟩) ?_;rotate_left;(focus (intro w hSw;(try dsimp only at hSw);go_simp;all_goals (with_reducible rfl)));simp only [List.setIfInBounds_toArray,List.set_cons_zero,List.set_cons_succ])
   (refine mT 11 rfl rfl (v:=?_) (Or.inl ⟨by rfl,?_⟩) ?_;rotate_left;(focus (intro w hSw;(try dsimp only at hSw);go_simp;all_goals (with_reducible rfl)));simp only [List.setIfInBounds_toArray,List.set_cons_zero,List.set_cons_succ])
   refine z0f (t:=12) krT rfl rfl (fun K' hK=>?_)
   go_simp
   refine hK.out _ _ (fun h=>absurd rfl h) (fun _=>z1j krT ?_)
   refine NoPanic.normal ?_
   have R2:∀ X:World,Below wr.heap.size wr X → X.grownBy w9 (Value.slice ta i tcc).ownBlock → TbAt w0 wk B c rv mb va vc (some ⟨g,0,none⟩) sc (i + 1) (q0u c.states (i + 1)) none (.slice (some ⟨g9,0,none⟩) (i + 1) cap9) (.slice ga ((q0u c.states i).length + s.trans.length) gc) (w9.setCell ⟨mb,1,none⟩ (.slice (some ⟨g9,0,none⟩) (i + 1) cap9)):=fun X hX hg=>by
    have hr:=j1u hR.out hX
    have hgs:q0u c.states (i + 1) = q0u c.states i ++ ((c.states.getD i st0).trans.take s.trans.length).map fun t=>(i,t):=by
     rw [hs.out,List.take_length,q0u,hs.out]
    rw [hgs]
    refine x2q hr.tb (z3h hxs'.out fun _ _ k=>q5o k fun _ _ _ k1 k2=>⟨z0a k1 hX,k2⟩) (z0a hxO'.out hX) ⟨.slice oa s.trans.length oc,?_,?_,j7o _⟩ hown1 hg
    ·unfold x0x
     rw [hs.out,heo'.out,hxo'.out]
    ·rw [hs.out]
     exact hr.own
   have hRR:=hiT (R2 _ gzT hgrow)
   clear hown1 hgrow hat1 hg1 hbm z9 f9 im9 y0 y1 y2 y3 y4 y5 y6 y7 y8 y9 y10 hS hK K' R2 hrne hrb9 hblk' hxO' hxs' hR
   go_wp2
   go_end0
   exact ⟨rfl,_,_,hRR.out⟩
end
structure TabV (w0:World) (B:Nat) (c:Ch) (rv:Nat → Value) (tv gv:Value) (w:World):Prop where
 env:Below w0.heap.size w0 w
 rows:∃ xs,Vs (RwR w0.heap.size c.states rv w none) (List.range c.states.length) xs ∧ w.ownsRow w0.heap.size 84 11 tv c.states.length xs
 gos:∃ xs,Vs (GoR B w0 c.states w none) (y4v c.states) xs ∧ w.ownsRow w0.heap.size 186 6 gv (y4v c.states).length xs
section
variable {w0:World} {B:Nat} {c:Ch} {rv:Nat → Value} {va sa:Option Addr} {vc sc:Nat} {tv gv:Value} {w w':World}
theorem j4s {rb j:Nat} {u:Value} {cs:Array Value} (h:TabV w0 B c rv tv gv w) (hr:w.heap[rb]? = some (.cells cs 27 (0,0))) (hl:w0.heap.size ≤ rb):TabV w0 B c rv tv gv (w.setCell ⟨rb,j,none⟩ u):=by
 obtain ⟨xs,h1,h2⟩:=h.rows
 obtain ⟨ys,h3,h4⟩:=h.gos
 have key:∀ v m zs,w.ownsRow w0.heap.size 3 1 v m zs → j5d v none → (w.setCell ⟨rb,j,none⟩ u).ownsRow w0.heap.size 3 1 v m zs ∧ j5d v none:=fun v m zs k1 k2=>⟨z1m hr deT _ _ _ _ k1,k2⟩
 exact ⟨h.env.setCell (p:=⟨rb,j,none⟩) hl _,⟨xs,z3h h1 fun _ _ k=>q5o k key,z1m hr deT _ _ _ _ h2⟩,⟨ys,z3h h3 fun _ _ k=>q5i k key,z1m hr deT _ _ _ _ h4⟩⟩
def x3s (B:Nat) (c:Ch) (rv:Nat → Value) (va:Option Addr) (vc:Nat) (w:World) (e:Ending) (w':World):Prop :=
 ∃ tv gv,e = .returned (.tuple #[.agg #[.slice va c.vars.length vc,tv,gv],.int .i64 0]) ∧ TabV w B c rv tv gv w'
set_option maxRecDepth 100000 in
set_option maxHeartbeats 8000000 in
theorem k4h (O:OkC c) (hT:Db w) (hL:Lb w) (hC:ChV ct0 B w c rv (.slice va c.vars.length vc) (.slice sa c.states.length sc)) (hk:(z4r c).1 = 0) :
  Calls Tryz.prog 19 #[.agg #[str c.name,.slice va c.vars.length vc,.slice sa c.states.length sc]] w (x3s B c rv va vc w):=by
 have V:=hiT (fun wx (hb:Below w.heap.size w wx)=>j2m O wx (z1u hC hb) (z1v hL hb))
 rw [hk] at V
 have A:=hiT (fun wk mb j (hj:j < c.states.length) tv gv wx (h:TbAt w wk B c rv mb va vc sa sc j (q0u c.states j) none tv gv wx)=>k9x hj O hT hC h)
 generalize (z4r c).2 = nm at *
 have hn49:=O.few
 replace O:=hiT O
 clear hk hT hL hC
 go_enter Tryz.func19,Tryz.ntmps19
 go_wp2_with fail
 refine (V.out _ gzT).mono ?_
 rintro e w1 ⟨rfl,hb1⟩
 have hw1:Below w.heap.size w w1:=Below.trans gzT (hb1.mono (by simp;omega))
 have q0:=z0c (z0j (heap_alloc_new w (.cells #[str c.name,.slice va c.vars.length vc,.slice sa c.states.length sc] 72))) hb1
 have q1:=z0c (z0s (b:=w.heap.size + 1) (by simp)) hb1
 obtain ⟨u0,u1,u2,ul,uf⟩:=z3p q0
 have i0:InW w.heap.size w1:=⟨ul⟩
 have i1:InW (w.heap.size + 1) w1:=⟨lt_of_block q1⟩
 have hz:=hw1.size
 have hrl:w.heap.size ≤ w.heap.size + 1:=by omega
 clear V hb1 q0
 generalize hrb:w.heap.size + 1 = rb at *
 dsimp only
 go_wp2
 obtain ⟨W1,hW1⟩:∃ W1,w1.alloc (.cells #[.slice va c.vars.length vc,.slice none 0 0,.slice none 0 0,.string ⟨c.name.toArray⟩,.slice va c.vars.length vc,.slice sa c.states.length sc] 137) = W1:=⟨_,rfl⟩
 have hT0:Hid (TbAt w W1 B c rv w1.heap.size va vc sa sc 0 (q0u c.states 0) none (.slice none 0 0) (.slice none 0 0) W1):=hiT (by
  refine ⟨by rw [← hW1];exact heap_alloc_new w1 _,by rw [← hW1];exact hw1.alloc hz _,hz,k7i _,⟨[],.nil,World.ownsRow_nil _ _ _ _⟩,⟨[],.nil,World.ownsRow_nil _ _ _ _⟩⟩)
 have r1:W1.heap[rb]? = some (.cells #[.slice none 0 0,.slice none 0 0,.slice none 0 0] 27 (0,0)):=by rw [← hW1];exact z0j q1
 rw [hW1]
 have r1':=hiT r1
 clear hW1 q1 u0 u1 u2 ul uf i0 i1 r1
 go_loopw [26] (fun x wr=>∃ (j:Nat) (tv gv:Value),x = .int .i64 (j:Int) ∧ j ≤ c.states.length ∧ Hid (TbAt w W1 B c rv w1.heap.size va vc sa sc j (q0u c.states j) none tv gv wr)) (fun x _=>c.states.length - (intOf x).toNat)
 case atStart=>exact ⟨0,_,_,rfl,Nat.zero_le _,hT0⟩
 case round =>
  obtain ⟨j,tv,gv,rfl,hj,hT⟩:=hrel
  rename World=>wr
  by_cases hlt:j < c.states.length
  ·have hI:(j:Int) < (c.states.length:Int):=by omega
   have A1:=hiT (A.out W1 w1.heap.size j hlt tv gv wr hT.out)
   clear hT0 hT
   go_wp2_with fail
   refine A1.out.mono ?_
   rintro e w2 ⟨rfl,tv',gv',hT2⟩
   replace hT2:=hiT hT2
   clear A1
   go_wp2
   go_roundw
   case rel=>exact ⟨j + 1,tv',gv',by go_num,by omega,hT2⟩
   case measure=>simp [intOf];omega
  ·have hI:¬ (j:Int) < (c.states.length:Int):=by omega
   obtain rfl:j = c.states.length:=by omega
   obtain ⟨xs,_,hxs⟩:=hT.out.rows
   obtain ⟨ys,_,hys⟩:=hT.out.gos
   obtain ⟨ta,tc,rfl⟩:=z0g hxs
   obtain ⟨ga,gc,rfl⟩:=z0g hys
   clear hxs hys
   have q:=hT.out.kp rb _ _ _ r1'.out deT deT deT deT
   obtain ⟨m0,m1,m2,ml,mf⟩:=z3p q
   have i3:InW rb wr:=⟨ml⟩
   have f0:=mf 0
   have f1:=mf 1
   have f2:=mf 2
   have s0:=z0b m0
   have s1:=z0b m1
   have s2:=z0b m2
   have d0:wr.cell? ⟨w1.heap.size,0,none⟩ = some (.slice va c.vars.length vc):=by
    rw [cell_of_row wr _ _ _ _ _ hT.out.blk]
    rfl
   have d1:wr.cell? ⟨w1.heap.size,1,none⟩ = some (.slice ta c.states.length tc):=by
    rw [cell_of_row wr _ _ _ _ _ hT.out.blk]
    rfl
   have d2:wr.cell? ⟨w1.heap.size,2,none⟩ = some (.slice ga (q0u c.states c.states.length).length gc):=by
    rw [cell_of_row wr _ _ _ _ _ hT.out.blk]
    rfl
   have i4:InW w1.heap.size wr:=⟨lt_of_block hT.out.blk⟩
   have hq:=hiT q
   clear hT0 A q mf
   go_wp2
   go_returns
   refine ⟨_,_,rfl,?_⟩
   have t0:TabV w B c rv (.slice ta c.states.length tc) (.slice ga (q0u c.states c.states.length).length gc) wr:=⟨hT.out.env,hT.out.rows,hT.out.gos⟩
   exact j4s (j4s (j4s t0 hq.out hrl) (z0l hq.out) hrl) (z0l (z0l hq.out)) hrl
set_option maxRecDepth 100000 in
set_option maxHeartbeats 8000000 in
theorem v0c (O:OkC c) (hL:Lb w) (hC:ChV ct0 B w c rv (.slice va c.vars.length vc) (.slice sa c.states.length sc)) (hk:¬ (z4r c).1 = 0) :
  Calls Tryz.prog 19 #[.agg #[str c.name,.slice va c.vars.length vc,.slice sa c.states.length sc]] w (Ret (.tuple #[.agg #[.slice none 0 0,.slice none 0 0,.slice none 0 0],.int .i64 (z4r c).1]) w):=by
 have V:=hiT (fun wx (hb:Below w.heap.size w wx)=>j2m O wx (z1u hC hb) (z1v hL hb))
 have e1:((z4r c).1 != 0) = true:=by simpa using hk
 generalize (z4r c).2 = nm at *
 generalize (z4r c).1 = q at *
 replace O:=hiT O
 replace hk:=hiT hk
 clear hL hC
 go_enter Tryz.func19,Tryz.ntmps19
 go_wp2_with (((with_reducible refine (V.out _ gzT).mono ?_);intro e w1 hr;obtain ⟨rfl,p,rfl⟩:=hr.out;clear hr))
 go_returns
 exact ⟨rfl,gzT⟩
end
def x0o (v:Value):Prop:=∃ a n m,v = .slice a n m
structure TbC (c:Ch) (rv gi:Nat → Value) (b:Nat) (w:World):Prop where
 lt:b < w.heap.size
 at_:∀ k,k < c.states.length → ∀ j u,(x0x c.states k (gi k) (rv (3 * k)) (rv (3 * k + 1)))[j]? = some u → w.cell? ⟨b,k * 11 + j,none⟩ = some u
 sl:∀ k,k < c.states.length → x0o (gi k) ∧ x0o (rv (3 * k)) ∧ x0o (rv (3 * k + 1))
section
variable {w0:World} {B:Nat} {c:Ch} {rv gi:Nat → Value} {b cap:Nat} {tv gv vv:Value} {w w':World}
theorem v5z {A i:Nat} {ss:List St} {cb:Option Nat} {v:List Value} (h:RwR A ss rv w cb i v):v.length = 11:=by
 obtain ⟨g,rfl,_⟩:=h
 rfl
theorem v9x {sv:Value} (hC:ChV ct0 B w0 c rv vv sv) (h:TabV w0 B c rv tv gv w) (h0:0 < c.states.length):∃ b cap gi,tv = .slice (some ⟨b,0,none⟩) c.states.length cap ∧ TbC c rv gi b w:=by
 obtain ⟨xs,hx,hO⟩:=h.rows
 obtain ⟨g,cap,e,hg,_,_,hc⟩:=z1g hO h0
 have H:∀ k,∃ gk,k < c.states.length → x0o gk ∧ ∀ j u,(x0x c.states k gk (rv (3 * k)) (rv (3 * k + 1)))[j]? = some u → w.cell? ⟨g,k * 11 + j,none⟩ = some u:=fun k=>by
  by_cases hk:k < c.states.length
  ·obtain ⟨v,⟨gk,hv,ho,_⟩,hat⟩:=v6x hx (fun _ _=>v5z) k (by simpa using hk)
   rw [List.getElem_range] at hv
   obtain ⟨oa,oc,hoe⟩:=z0g ho
   refine ⟨gk,fun _=>⟨⟨_,_,_,hoe⟩,fun j u hu=>hc _ _ ?_⟩⟩
   have hj:j < 11:=by
    have:=(List.getElem?_eq_some_iff.1 hu).1
    exact this
   rw [hat j hj,hv]
   exact hu
  ·exact ⟨.bool false,fun h=>absurd h hk⟩
 obtain ⟨gi,hgi⟩:=Classical.axiomOfChoice H
 refine ⟨g,cap,gi,e,hg,fun k hk=>(hgi k hk).2,fun k hk=>⟨(hgi k hk).1,?_,?_⟩⟩
 ·obtain ⟨a,m,e⟩:=z3t (hC.ent k)
  exact ⟨_,_,_,e⟩
 ·obtain ⟨a,m,e⟩:=z3t (hC.exi k)
  exact ⟨_,_,_,e⟩
theorem z7n (h:TbC c rv gi b w) (hb:Below w.heap.size w w'):TbC c rv gi b w':=⟨Nat.lt_of_lt_of_le h.lt hb.size,fun k hk j u hu=>(hb.cell (p:=⟨b,_,none⟩) h.lt).trans (h.at_ k hk j u hu),h.sl⟩
theorem y1a (h:TbC c rv gi b w) {k:Nat} (hk:k < c.states.length):w.cell? ⟨b,k * 11,none⟩ = some (str (c.states.getD k st0).name) ∧ w.cell? ⟨b,k * 11 + 1,none⟩ = some (.int .i64 (c.states.getD k st0).kind) ∧ w.cell? ⟨b,k * 11 + 2,none⟩ = some (.int .i64 (c.states.getD k st0).parent) ∧ w.cell? ⟨b,k * 11 + 3,none⟩ = some (.int .i64 (j8s c.states k)) ∧
  w.cell? ⟨b,k * 11 + 4,none⟩ = some (.int .u64 (upS c.states k:Int)) ∧ w.cell? ⟨b,k * 11 + 5,none⟩ = some (.int .u64 (j8k c.states k:Int)) ∧ w.cell? ⟨b,k * 11 + 6,none⟩ = some (.int .u64 (j1e c.states k:Int)) ∧ w.cell? ⟨b,k * 11 + 7,none⟩ = some (.int .u64 (y0j c.states k:Int)) ∧
  w.cell? ⟨b,k * 11 + 8,none⟩ = some (gi k) ∧ w.cell? ⟨b,k * 11 + 9,none⟩ = some (rv (3 * k)) ∧ w.cell? ⟨b,k * 11 + 10,none⟩ = some (rv (3 * k + 1)) :=
 ⟨h.at_ k hk 0 _ rfl,h.at_ k hk 1 _ rfl,h.at_ k hk 2 _ rfl,h.at_ k hk 3 _ rfl,h.at_ k hk 4 _ rfl,h.at_ k hk 5 _ rfl,h.at_ k hk 6 _ rfl,h.at_ k hk 7 _ rfl,h.at_ k hk 8 _ rfl,h.at_ k hk 9 _ rfl,h.at_ k hk 10 _ rfl⟩
end
end Go.Proofs.YtacnlghljmgdiaaGreatDoor
