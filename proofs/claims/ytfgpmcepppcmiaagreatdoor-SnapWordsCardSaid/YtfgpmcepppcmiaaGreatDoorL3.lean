/- Several texts of this proof, joined: DF, DH, DI. -/
import Derived.Test.YtfgpmcepppcmiaaGreatDoorL2
import Derived.Test.YtfgpmcepppcmiaaGreatDoorI2
import Derived.WalkKit
import Derived.ProofKit
import Derived.OpenShut
import Derived.Handy
import Derived.BigQuiet
import Derived.OwnWalk
import Derived.Deep.AppendLies
import Derived.Deep.RegionHeld3
import Derived.Lib.Hide
import Derived.WalkSmall
import Derived.WalkLawsBesides
import Derived.Test.YtfgpmcepppcmiaaGreatDoorI3
import Derived.Test.YtfgpmcepppcmiaaGreatDoorL1
import Derived.Test.YtfgpmcepppcmiaaGreatDoorJ3
import Derived.Deep.Light
namespace Go.Proofs.YtfgpmcepppcmiaaGreatDoor
open Go.RowKit
theorem gosF_len (ss:List St) (h:∀ i,i < ss.length → (ss.getD i st0).trans.length ≤ 96):∀ i,i ≤ ss.length → (gosF ss i).length ≤ 96 * i
 | 0,_=>Nat.le_refl _
 | i + 1,hi=>by
  have:=gosF_len ss h i (by omega)
  have:=h i (by omega)
  rw [gosF,List.length_append,List.length_map]
  omega
section
variable {w0 wk:World} {B:Nat} {c:Ch} {rv:Nat → Value} {mb:Nat} {va sa:Option Addr} {vc sc i:Nat} {tv gv:Value} {w:World}
set_option maxRecDepth 100000 in
set_option maxHeartbeats 8000000 in
theorem tadd_any (hi:i < c.states.length) (O:OkC c) (hT:Db w0) (hC:ChV ct0 B w0 c rv (.slice va c.vars.length vc) (.slice sa c.states.length sc)) (h:TbAt w0 wk B c rv mb va vc sa sc i (gosF c.states i) none tv gv w) :
  Calls Tryz.prog 54 #[.pointer (some ⟨mb,0,none⟩),.int .i64 (i:Int)] w (AddSt w0 wk B c rv mb va vc sa sc (i + 1) (gosF c.states (i + 1))):=by
 have hn:=O.few
 have hw0:=h.env.size
 obtain ⟨g,rfl,hG⟩:=st_cell hC i hi
 obtain ⟨s,hs⟩:∃ s,c.states.getD i st0 = s:=⟨_,rfl⟩
 rw [hs] at hG
 have hlens:=O.lens i hi
 have hfit:=O.fit i hi
 rw [hs] at hlens hfit
 have hG1:=stC_below hG h.env
 obtain ⟨to',tc,hto⟩:=trRow_form hG.r3
 obtain ⟨eo,ec,heo⟩:=blkRow_form hG.r1
 obtain ⟨xo,xc,hxo⟩:=blkRow_form hG.r2
 have hT3:=hG.r3
 rw [hto] at hG1 hT3
 have hne:tv.ownBlock ≠ some (w.heap.size + 1):=by
  intro e
  obtain ⟨xs,_,hO⟩:=h.rows
  have:=(hO.lt _ e).2
  omega
 have A:=Lib.hid (fun wx (hb:Below w.heap.size w wx)=>taround_any i O.par hn (tb_mk hC (tb_keep h hb)))
 obtain ⟨c0,c1,c2,c3,c4,c5,hl,hf⟩:=mk_cells (tb_mk hC h)
 obtain ⟨hgl,n0,n1,n2,n3,n4,n5,n6,-,-,-⟩:=hG1
 have i0:InW mb w:=⟨hl⟩
 have i1:InW g w:=⟨hgl⟩
 have hI:(i:Int) < (c.states.length:Int):=by omega
 have hsb:w0.heap.size ≤ w.heap.size:=hw0
 rw [heo] at n4
 rw [hxo] at n5
 have hh:=Lib.hid h
 replace hne:=Lib.hid hne
 have heo':=Lib.hid heo
 have hxo':=Lib.hid hxo
 have hto':=Lib.hid hto
 have hT3':=Lib.hid hT3
 replace hC:=Lib.hid hC
 replace hT:=Lib.hid hT
 have hgl2:=gosF_len c.states (fun k hk=>(O.lens k hk).2.2) i (by omega)
 replace hlens:=Lib.hid hlens.2.2
 replace hfit:=Lib.hid hfit
 replace hgl2:=Lib.hid hgl2
 replace hs:=Lib.hid hs
 replace O:=Lib.hid O
 clear h hG hf hl heo hxo hto hT3
 go_enter Tryz.func54,Tryz.ntmps54
 go_wp2_with fail
 refine (A.out _ (by (first | exact gwT | exact lzT))).mono ?_
 rintro e w1 ⟨rfl,hb1⟩
 have hX:Below w.heap.size w w1:=Below.trans (by (first | exact gwT | exact lzT)) (hb1.mono (by simp;omega))
 have q1:=blk_keep (new_at (b:=w.heap.size + 1) (by simp)) hb1
 have q0:=blk_keep (blk_old (heap_alloc_new w _)) hb1
 have t1:=tb_keep hh.out hX
 clear A hb1 c0 c1 c2 c3 c4 c5 n0 n1 n2 n3 n4 n5 n6 i0 i1
 generalize hrb:w.heap.size + 1 = rb at *
 generalize hsbe:w.heap.size = sb at *
 have hlr:w0.heap.size ≤ rb:=by omega
 have hsr:sb ≠ rb:=by omega
 have hsw:sb < w1.heap.size:=lt_of_block q0
 have q1':=row_cells q1
 obtain ⟨r0,r1,r2,r3,r4,r5,r6,r7,r8,r9,r10,rl,rf⟩:=q1'
 have f4:=rf 4
 have f5:=rf 5
 have ib:InW rb w1:=⟨rl⟩
 have t1':=tb_row (j:=5) (u := .int .u64 (undS c.states i:Int)) (tb_row (j:=4) (u := .int .u64 (upS c.states i:Int)) t1 q1 hne.out hlr) (blk_set q1) hne.out hlr
 have q1b:=blk_set (i:=5) (u := .int .u64 (undS c.states i:Int)) (blk_set (i:=4) (u := .int .u64 (upS c.states i:Int)) q1)
 have q0b:=blk_far (i:=5) (v := .int .u64 (undS c.states i:Int)) (blk_far (i:=4) (v := .int .u64 (upS c.states i:Int)) q0 hsr) hsr
 have C:=Lib.hid (tchildren_any i hn (tb_mk hC.out t1'))
 replace t1':=Lib.hid t1'
 replace q1b:=Lib.hid q1b
 replace q0b:=Lib.hid q0b
 clear t1 q1 q0 r0 r1 r2 r3 r6 r7 r8 r9 r10 rf hX
 go_wp2_with fail
 refine C.out.mono ?_
 rintro e w2 ⟨rfl,hb2⟩
 have t2:=tb_keep t1'.out hb2
 have q2:w2.heap[rb]? = some (.cells (rowA s (.int .i64 0) (.int .u64 (upS c.states i:Int)) (.int .u64 (undS c.states i:Int)) (.int .u64 0) (.int .u64 0) (.slice none 0 0) (rv (3 * i)) (rv (3 * i + 1))) 87 (0,0)):=by
  have:=blk_keep q1b.out hb2
  rw [heo'.out,hxo'.out]
  exact this
 have q0c:=blk_keep q0b.out hb2
 clear C hb2 t1' q1b q0b ib f4 f5 r4 r5 rl hsw
 obtain ⟨r0,r1,r2,r3,r4,r5,r6,r7,r8,r9,r10,rl,rf⟩:=row_cells q2
 have f6:=rf 6
 have f7:=rf 7
 have ib:InW rb w2:=⟨rl⟩
 have is:InW sb w2:=⟨lt_of_block q0c⟩
 have t2':=tb_row (j:=7) (u := .int .u64 (pasS c.states i:Int)) (tb_row (j:=6) (u := .int .u64 (kidS c.states i:Int)) t2 q2 hne.out hlr) (blk_set q2) hne.out hlr
 have q2b:=blk_set (i:=7) (u := .int .u64 (pasS c.states i:Int)) (blk_set (i:=6) (u := .int .u64 (kidS c.states i:Int)) q2)
 have q0d:=blk_far (i:=7) (v := .int .u64 (pasS c.states i:Int)) (blk_far (i:=6) (v := .int .u64 (kidS c.states i:Int)) q0c hsr) hsr
 have S:=Lib.hid (tstart_any i (.slice eo s.enter.length ec) (.slice xo s.exit.length xc) (.slice to' s.trans.length tc) hn (db_below hT.out t2'.env) (tb_mk hC.out t2'))
 rw [hs.out] at S
 replace t2':=Lib.hid t2'
 replace q2b:=Lib.hid q2b
 have q0dd:=q0d
 replace q0d:=Lib.hid q0d
 obtain ⟨s0,s1,s2,s3,s4,s5,s6,sl⟩:=seven_cells q0c
 clear t2 q2 q0c q0dd r0 r1 r2 r3 r4 r5 r8 r9 r10 rf
 go_wp2_with fail
 refine S.out.mono ?_
 rintro e w3 ⟨rfl,hb3⟩
 have t3:=tb_keep t2'.out hb3
 have q3:w3.heap[rb]? = some (.cells (rowA s (.int .i64 0) (.int .u64 (upS c.states i:Int)) (.int .u64 (undS c.states i:Int)) (.int .u64 (kidS c.states i:Int)) (.int .u64 (pasS c.states i:Int)) (.slice none 0 0) (rv (3 * i)) (rv (3 * i + 1))) 87 (0,0)):=blk_keep q2b.out hb3
 have q03:=blk_far (i:=3) (v := .int .i64 (begS c.states i)) (blk_keep q0d.out hb3) hsr
 have t3':=tb_row (j:=3) (u := .int .i64 (begS c.states i)) t3 q3 hne.out hlr
 have q3':(w3.setCell ⟨rb,3,none⟩ (.int .i64 (begS c.states i))).heap[rb]? = some (.cells (rowA s (.int .i64 (begS c.states i)) (.int .u64 (upS c.states i:Int)) (.int .u64 (undS c.states i:Int)) (.int .u64 (kidS c.states i:Int)) (.int .u64 (pasS c.states i:Int)) (.slice none 0 0) (rv (3 * i)) (rv (3 * i + 1))) 87 (0,0)):=blk_set q3
 obtain ⟨ga,gc,hgv⟩:∃ ga gc,gv = .slice ga ((gosF c.states i).length + 0) gc:=by
  obtain ⟨ys,_,hy⟩:=t3.gos
  obtain ⟨ga,gc,e⟩:=own_form hy
  exact ⟨ga,gc,e⟩
 have R0:RowAt w0 wk B c rv mb va vc (some ⟨g,0,none⟩) sc i 0 rb none 0 tv ga gc (w3.setCell ⟨rb,3,none⟩ (.int .i64 (begS c.states i))):=⟨by rw [← hgv,List.take_zero,List.map_nil,List.append_nil];exact t3',by rw [hs.out];exact q3',World.ownsRow_nil _ _ _ _⟩
 obtain ⟨-,-,-,r3,-,-,-,-,-,-,-,rl,rf⟩:=row_cells q3
 have f3:=rf 3
 clear S hb3 t2' q2b q0d ib is f6 f7 r6 r7 s0 s1 s2 s3 s4 s5 s6 sl t3 rf hgv t3' q3'
 have ib:InW rb w3:=⟨rl⟩
 go_upto_region 5 with (fail)
 generalize w3.setCell ⟨rb,3,none⟩ (.int .i64 (begS c.states i)) = w4 at R0 q03 ⊢
 obtain ⟨-,-,-,-,-,-,s6,sl⟩:=seven_cells q03
 have is:InW sb w4:=⟨sl⟩
 replace R0:=Lib.hid R0
 clear q3 q03 r3 f3 rl ib
 obtain ⟨i0n,hi0,hy1,hy2,hy3⟩:=info_parts Tryz.infoInt
 obtain ⟨i1n,hi1,hz1,hz2,hz3⟩:=info_parts Tryz.infoTG
 obtain ⟨i2n,hi2,hx1,hx2,hx3⟩:=info_parts Tryz.infoTR
 go_wp2
 go_loopw [52] (fun x wr=>∃ (k:Nat) (oa:Option Addr) (oc:Nat) (ga:Option Addr) (gc:Nat),x = .int .i64 (k:Int) ∧ k ≤ s.trans.length ∧ Hid (RowAt w0 wk B c rv mb va vc (some ⟨g,0,none⟩) sc i k rb oa oc tv ga gc wr)) (fun x _=>s.trans.length - (intOf x).toNat)
 case atStart=>exact ⟨0,none,0,ga,gc,rfl,Nat.zero_le _,R0⟩
 case round =>
  clear R0 is s6 sl
  obtain ⟨k,oa,oc,ga,gc,rfl,hk,hR⟩:=hrel
  rename World=>wr
  have hm:=hgl2.out
  have h96:=hlens.out
  obtain ⟨m,hme⟩:∃ m,(gosF c.states i).length = m:=⟨_,rfl⟩
  by_cases hlt:k < s.trans.length
  ·have hkI:(k:Int) < (s.trans.length:Int):=by omega
   obtain ⟨gt,io,ic,go,gc',uo,uc,rfl,hgt,q0,q1,q2,q3,q4,hN,hG,hA⟩:=tr_at hT3'.out k hlt
   have he:=hR.out.tb.env
   replace q0:=(he.cell (p:=⟨gt,k * 5,none⟩) hgt).trans q0
   replace q1:=(he.cell (p:=⟨gt,k * 5 + 1,none⟩) hgt).trans q1
   replace q2:=(he.cell (p:=⟨gt,k * 5 + 2,none⟩) hgt).trans q2
   replace q3:=(he.cell (p:=⟨gt,k * 5 + 3,none⟩) hgt).trans q3
   replace q4:=(he.cell (p:=⟨gt,k * 5 + 4,none⟩) hgt).trans q4
   have hfg:=(hfit.out.trans _ (List.getElem_mem hlt)).goes
   have htk:gosF c.states i ++ (s.trans.take (k + 1)).map (fun t=>(i,t)) = (gosF c.states i ++ (s.trans.take k).map (fun t=>(i,t))) ++ [(i,s.trans[k])]:=by
    rw [List.take_add_one,List.getElem?_eq_getElem hlt,List.map_append,List.append_assoc];rfl
   have hgl:(gosF c.states i ++ (s.trans.take k).map (fun t=>(i,t))).length = m + k:=by
    rw [List.length_append,List.length_map,List.length_take,hme];omega
   replace htk:=Lib.hid htk
   replace hgl:=Lib.hid hgl
   have hnt:s.trans.length ≤ 96:=h96
   generalize htr:s.trans[k] = tr at *
   replace htr:=Lib.hid htr
   have igt:InW gt wr:=⟨Nat.lt_of_lt_of_le hgt he.size⟩
   obtain ⟨c0,c1,c2,c3,c4,c5,hl,hf⟩:=mk_cells (tb_mk hC.out hR.out.tb)
   have hblk:=hR.out.blk
   rw [hs.out] at hblk
   obtain ⟨r0,r1,r2,r3,r4,r5,r6,r7,r8,r9,r10,rl,rf⟩:=row_cells hblk
   replace hblk:=Lib.hid hblk
   have im:InW mb wr:=⟨hl⟩
   have ib:InW rb wr:=⟨rl⟩
   have f8:=rf 8
   have hbig:m + k ≤ 10000:=by omega
   rw [hme] at c2
   have hwr:w0.heap.size ≤ wr.heap.size:=he.size
   replace hme:=Lib.hid hme
   have hrbw:rb < wr.heap.size:=rl
   replace hm:=Lib.hid hm
   clear h96 hl he hgt c0 c1 c3 c4 c5 hf r0 r1 r2 r3 r4 r5 r6 r7 r9 r10 rf
   go_upto_region 8 with (fail)
   have tq:=heap_alloc_new wr (.cells #[str tr.event,.slice io tr.cond.length ic,.slice go tr.goes.length gc',.bool tr.inner,.slice uo tr.thn.length uc] 162 (0,0))
   replace tq:=Lib.hid tq
   refine wp_region_noPanic ?_
   refine wp_region_m (S:=fun w'=>w'.cell? ⟨rb,8,none⟩ = some (.slice oa k oc) ∧ w'.cell? ⟨mb,2,none⟩ = some (.slice ga (m + k) gc)) 11 (by kernel_rfl) (by (refine ⟨?_,?_⟩ <;> first | assumption | (rw [cell_GI];assumption) | (rw [cell_allocI];assumption) | (simp [go_sem, *];done))) (fun hS=>?_)
   have hT:=hS
   (try dsimp only at hT)
   obtain ⟨s0,s1⟩:=hT
   (refine wpAnyM_slot (i:=0) (v:=?_) rfl rfl (by kernel_rfl) (by kernel_rfl) (by kernel_rfl) (by kernel_rfl) (fun _ _ _ h=>h) (Or.inl ⟨by rfl,?_⟩) (by assumption) ?_;rotate_left;(focus (intro w hSw;(try dsimp only at hSw);go_simp;all_goals (with_reducible rfl)));simp only [List.setIfInBounds_toArray,List.set_cons_zero,List.set_cons_succ])
   (refine wpAnyM_slot (i:=1) (v:=?_) rfl rfl (by kernel_rfl) (by kernel_rfl) (by kernel_rfl) (by kernel_rfl) (fun _ _ _ h=>h) (Or.inl ⟨by rfl,?_⟩) (by assumption) ?_;rotate_left;(focus (intro w hSw;(try dsimp only at hSw);go_simp;all_goals (with_reducible rfl)));simp only [List.setIfInBounds_toArray,List.set_cons_zero,List.set_cons_succ])
   (refine wpAnyM_slot (i:=2) (v:=?_) rfl rfl (by kernel_rfl) (by kernel_rfl) (by kernel_rfl) (by kernel_rfl) (fun _ _ _ h=>h) (Or.inl ⟨by rfl,?_⟩) (by assumption) ?_;rotate_left;(focus (intro w hSw;(try dsimp only at hSw);go_simp;all_goals (with_reducible rfl)));simp only [List.setIfInBounds_toArray,List.set_cons_zero,List.set_cons_succ])
   (refine wpAnyM_slot (i:=3) (v:=?_) rfl rfl (by kernel_rfl) (by kernel_rfl) (by kernel_rfl) (by kernel_rfl) (fun _ _ _ h=>h) (Or.inl ⟨by rfl,?_⟩) (by assumption) ?_;rotate_left;(focus (intro w hSw;(try dsimp only at hSw);go_simp;all_goals (with_reducible rfl)));simp only [List.setIfInBounds_toArray,List.set_cons_zero,List.set_cons_succ])
   (refine wpAnyM_slot (i:=4) (v:=?_) rfl rfl (by kernel_rfl) (by kernel_rfl) (by kernel_rfl) (by kernel_rfl) (fun _ _ _ h=>h) (Or.inl ⟨by rfl,?_⟩) (by assumption) ?_;rotate_left;(focus (intro w hSw;(try dsimp only at hSw);go_simp;all_goals (with_reducible rfl)));simp only [List.setIfInBounds_toArray,List.set_cons_zero,List.set_cons_succ])
   (refine wpAnyM_slot (i:=5) (v:=?_) rfl rfl (by kernel_rfl) (by kernel_rfl) (by kernel_rfl) (by kernel_rfl) (fun _ _ _ h=>h) (Or.inl ⟨by rfl,?_⟩) (by assumption) ?_;rotate_left;(focus (intro w hSw;(try dsimp only at hSw);go_simp;all_goals (with_reducible rfl)));simp only [List.setIfInBounds_toArray,List.set_cons_zero,List.set_cons_succ])
   (refine wpAnyM_slot (i:=6) (v:=?_) rfl rfl (by kernel_rfl) (by kernel_rfl) (by kernel_rfl) (by kernel_rfl) (fun _ _ _ h=>h) (Or.inl ⟨by rfl,?_⟩) (by assumption) ?_;rotate_left;(focus (intro w hSw;(try dsimp only at hSw);go_simp;all_goals (with_reducible rfl)));simp only [List.setIfInBounds_toArray,List.set_cons_zero,List.set_cons_succ])
   (refine wpAnyM_slot (i:=7) (v:=?_) rfl rfl (by kernel_rfl) (by kernel_rfl) (by kernel_rfl) (by kernel_rfl) (fun _ _ _ h=>h) (Or.inl ⟨by rfl,?_⟩) (by assumption) ?_;rotate_left;(focus (intro w hSw;(try dsimp only at hSw);go_simp;all_goals (with_reducible rfl)));simp only [List.setIfInBounds_toArray,List.set_cons_zero,List.set_cons_succ])
   refine wpAnyM_one (t:=8) (by kernel_rfl) rfl rfl (fun K' hK=>?_)
   go_simp
   refine hK.out _ _ (fun _=>?_) (fun hS=>?_)
   ·(try dsimp only)
    exact ⟨(cell_allocI _ _ _ _).trans s0,(cell_allocI _ _ _ _).trans s1⟩
   clear s0 s1 hK K'
   replace hS:=hS (by decide)
   have hT:=hS
   (try dsimp only at hT)
   obtain ⟨s0,s1⟩:=hT
   refine wpAnyM_act (t:=9) (by kernel_rfl) rfl rfl rfl (fun K' hK=>?_)
   refine wp_append_lies _ (.tmp 57) (.tmp 64) 40 rfl w0.heap.size 3 i0n _ 1 8 Tryz.underlying40 hi0 hy1 hy2 hy3 rfl (by decide) (.slice oa k oc) k (natsC (idxL (gosF c.states i).length k)) (by simp [Act.eval]) (owns_below hR.out.own (by (first | exact gwT | exact lzT))) ⟨_,0,none⟩ 1 1 [.int .i64 ((m:Int) + (k:Int))] rfl rfl (World.news_of_block (new_at (by simp))) (by intro u hu;simp at hu;subst hu;rfl) (by decide) (by unfold maxLen;omega) (by omega) (Nat.le_trans hwr (Below.size (B:=wr.heap.size) (w:=wr) (by (first | exact gwT | exact lzT)))) _ rfl ?_
   intro g' cap' w5 hown1 hgrow hat1 hg1
   have hbx:=grown_blk (owns_below hR.out.own (by (first | exact gwT | exact lzT))) (blk_keep hblk.out (by (first | exact gwT | exact lzT))) (by decide) hgrow
   have hbm:=grown_blk (owns_below hR.out.own (by (first | exact gwT | exact lzT))) (blk_keep hR.out.tb.blk (by (first | exact gwT | exact lzT))) (by decide) hgrow
   have htb:=grown_blk (owns_below hR.out.own (by (first | exact gwT | exact lzT))) (blk_keep tq.out (by (first | exact gwT | exact lzT))) (by decide) hgrow
   obtain ⟨-,-,-,-,-,-,-,-,z8,-,-,zl,zf⟩:=row_cells hbx
   have zm:w5.cell? ⟨mb,2,none⟩ = some (.slice ga (m + k) gc):=by
    rw [cell_of_row w5 mb _ _ _ _ hbm,hme.out]
    rfl
   have fz:=zf 8
   refine hK.out _ _ (fun _=>?_) (fun hS=>?_)
   ·exact ⟨z8,zm⟩
   clear s0 s1 hK K'
   replace hS:=hS (by decide)
   have izb:InW rb w5:=⟨zl⟩
   (refine wpAnyM_slot (i:=10) (v:=?_) rfl rfl (by kernel_rfl) (by kernel_rfl) (by kernel_rfl) (by kernel_rfl) (fun _ _ _ h=>h) (Or.inl ⟨by rfl,?_⟩) (by assumption) ?_;rotate_left;(focus (intro w hSw;(try dsimp only at hSw);go_simp;all_goals (with_reducible rfl)));simp only [List.setIfInBounds_toArray,List.set_cons_zero,List.set_cons_succ])
   refine wpAnyM_one (t:=11) (by kernel_rfl) rfl rfl (fun K' hK=>?_)
   go_simp
   refine hK.out _ _ (fun h=>absurd rfl h) (fun _=>wpAnyM_done (by kernel_rfl) ?_)
   refine NoPanic.normal ?_
   have R1:∀ X:World,Below wr.heap.size wr X → X.grownBy w5 (Value.slice oa k oc).ownBlock → ((Value.slice oa k oc).ownBlock = some g' ∨ g' = X.heap.size) → _:=fun X hX hg hn=>rowAt_int (g:=g') (cap:=cap') (w:=X) (w':=w5) (rowAt_keep hR.out hX) hne.out hlr (by have h:=hown1;rw [hme.out] at h;rw [hme.out,Int.natCast_add];exact h) hg hn
   obtain ⟨T8,Q8,O8⟩:=R1 _ (by (first | exact gwT | exact lzT)) hgrow hat1
   have tq6:=blk_far (i:=8) (v := .slice (some ⟨g',0,none⟩) (k + 1) cap') htb (show wr.heap.size ≠ rb by omega)
   have hg6:g' < (w5.setCell ⟨rb,8,none⟩ (.slice (some ⟨g',0,none⟩) (k + 1) cap')).heap.size:=by rw [World.size_setCell];exact hg1
   rw [hs.out,hme.out] at T8
   rw [hs.out] at Q8
   rw [hme.out] at O8
   have hwb:wr.heap.size < (w5.setCell ⟨rb,8,none⟩ (.slice (some ⟨g',0,none⟩) (k + 1) cap')).heap.size:=lt_of_block tq6
   have hrb8:rb < (w5.setCell ⟨rb,8,none⟩ (.slice (some ⟨g',0,none⟩) (k + 1) cap')).heap.size:=lt_of_block Q8
   generalize w5.setCell ⟨rb,8,none⟩ (.slice (some ⟨g',0,none⟩) (k + 1) cap') = w6 at T8 Q8 O8 tq6 hg6 hwb hrb8 ⊢
   clear hown1 hgrow hat1 hg1 hbx hbm htb z8 zm zf fz hS hK K' R1 hR izb im ib c2 r8 f8 igt q0 q1 q2 q3 q4 hblk tq hkI
   obtain ⟨ys,hys,hyO⟩:=T8.gos
   rw [hgl.out] at hyO
   have P:=Lib.hid (fun wx (hx:Below w6.heap.size w6 wx)=>tplaces_any (w:=wx) go gc' tr.goes hfg hn (tb_mk hC.out (tb_keep T8 hx)) (owns_below hG ((tb_keep T8 hx).env)))
   obtain ⟨t0,t1,t2,t3,t4,tl⟩:=five_cells tq6
   have zm:w6.cell? ⟨mb,2,none⟩ = some (.slice ga (m + k) gc):=by
    rw [cell_of_row w6 mb _ _ _ _ T8.blk]
    rfl
   have zf:∀ X:World,(∃ cs,X.heap[mb]? = some (.cells cs 138 (0,0))) → X.frozen? ⟨mb,2,none⟩ = false:=fun X ⟨_,h⟩=>frozen_of_row X mb 2 _ _ h
   have im:InW mb w6:=⟨lt_of_block T8.blk⟩
   have it:InW wr.heap.size w6:=⟨tl⟩
   have htop:=T8.env.size
   have hyO':=Lib.hid hyO
   have T8':=Lib.hid T8
   have Q8':=Lib.hid Q8
   have O8':=Lib.hid O8
   have hys':=Lib.hid hys
   have tq6':=Lib.hid tq6
   clear T8 Q8 O8 hys hyO tq6
   generalize wr.heap.size = tb at *
   go_upto_region 9 with (fail)
   refine wp_region_noPanic ?_
   refine wp_region_m (S:=fun w'=>w'.cell? ⟨mb,2,none⟩ = some (.slice ga (m + k) gc) ∧ w'.cell? ⟨tb,0,none⟩ = some (str tr.event) ∧ w'.cell? ⟨tb,1,none⟩ = some (.slice io tr.cond.length ic) ∧ w'.cell? ⟨tb,2,none⟩ = some (.slice go tr.goes.length gc') ∧ w'.cell? ⟨tb,3,none⟩ = some (.bool tr.inner) ∧ w'.cell? ⟨tb,4,none⟩ = some (.slice uo tr.thn.length uc)) 25 (by kernel_rfl) (by exact ⟨zm,t0,t1,t2,t3,t4⟩) (fun hS=>?_)
   have hT:=hS
   (try dsimp only at hT)
   obtain ⟨s0,s1,s2,s3,s4,s5⟩:=hT
   (refine wpAnyM_slot (i:=0) (v:=?_) rfl rfl (by kernel_rfl) (by kernel_rfl) (by kernel_rfl) (by kernel_rfl) (fun _ _ _ h=>h) (Or.inl ⟨by rfl,?_⟩) (by assumption) ?_;rotate_left;(focus (intro w hSw;(try dsimp only at hSw);go_simp;all_goals (with_reducible rfl)));simp only [List.setIfInBounds_toArray,List.set_cons_zero,List.set_cons_succ])
   (refine wpAnyM_slot (i:=1) (v:=?_) rfl rfl (by kernel_rfl) (by kernel_rfl) (by kernel_rfl) (by kernel_rfl) (fun _ _ _ h=>h) (Or.inl ⟨by rfl,?_⟩) (by assumption) ?_;rotate_left;(focus (intro w hSw;(try dsimp only at hSw);go_simp;all_goals (with_reducible rfl)));simp only [List.setIfInBounds_toArray,List.set_cons_zero,List.set_cons_succ])
   (refine wpAnyM_slot (i:=2) (v:=?_) rfl rfl (by kernel_rfl) (by kernel_rfl) (by kernel_rfl) (by kernel_rfl) (fun _ _ _ h=>h) (Or.inl ⟨by rfl,?_⟩) (by assumption) ?_;rotate_left;(focus (intro w hSw;(try dsimp only at hSw);go_simp;all_goals (with_reducible rfl)));simp only [List.setIfInBounds_toArray,List.set_cons_zero,List.set_cons_succ])
   (refine wpAnyM_slot (i:=3) (v:=?_) rfl rfl (by kernel_rfl) (by kernel_rfl) (by kernel_rfl) (by kernel_rfl) (fun _ _ _ h=>h) (Or.inl ⟨by rfl,?_⟩) (by assumption) ?_;rotate_left;(focus (intro w hSw;(try dsimp only at hSw);go_simp;all_goals (with_reducible rfl)));simp only [List.setIfInBounds_toArray,List.set_cons_zero,List.set_cons_succ])
   (refine wpAnyM_slot (i:=4) (v:=?_) rfl rfl (by kernel_rfl) (by kernel_rfl) (by kernel_rfl) (by kernel_rfl) (fun _ _ _ h=>h) (Or.inl ⟨by rfl,?_⟩) (by assumption) ?_;rotate_left;(focus (intro w hSw;(try dsimp only at hSw);go_simp;all_goals (with_reducible rfl)));simp only [List.setIfInBounds_toArray,List.set_cons_zero,List.set_cons_succ])
   (refine wpAnyM_slot (i:=5) (v:=?_) rfl rfl (by kernel_rfl) (by kernel_rfl) (by kernel_rfl) (by kernel_rfl) (fun _ _ _ h=>h) (Or.inl ⟨by rfl,?_⟩) (by assumption) ?_;rotate_left;(focus (intro w hSw;(try dsimp only at hSw);go_simp;all_goals (with_reducible rfl)));simp only [List.setIfInBounds_toArray,List.set_cons_zero,List.set_cons_succ])
   (refine wpAnyM_slot (i:=6) (v:=?_) rfl rfl (by kernel_rfl) (by kernel_rfl) (by kernel_rfl) (by kernel_rfl) (fun _ _ _ h=>h) (Or.inl ⟨by rfl,?_⟩) (by assumption) ?_;rotate_left;(focus (intro w hSw;(try dsimp only at hSw);go_simp;all_goals (with_reducible rfl)));simp only [List.setIfInBounds_toArray,List.set_cons_zero,List.set_cons_succ])
   (refine wpAnyM_slot (i:=7) (v:=?_) rfl rfl (by kernel_rfl) (by kernel_rfl) (by kernel_rfl) (by kernel_rfl) (fun _ _ _ h=>h) (Or.inl ⟨by rfl,?_⟩) (by assumption) ?_;rotate_left;(focus (intro w hSw;(try dsimp only at hSw);go_simp;all_goals (with_reducible rfl)));simp only [List.setIfInBounds_toArray,List.set_cons_zero,List.set_cons_succ])
   (refine wpAnyM_slot (i:=8) (v:=?_) rfl rfl (by kernel_rfl) (by kernel_rfl) (by kernel_rfl) (by kernel_rfl) (fun _ _ _ h=>h) (Or.inl ⟨by rfl,?_⟩) (by assumption) ?_;rotate_left;(focus (intro w hSw;(try dsimp only at hSw);go_simp;all_goals (with_reducible rfl)));simp only [List.setIfInBounds_toArray,List.set_cons_zero,List.set_cons_succ])
   (refine wpAnyM_slot (i:=9) (v:=?_) rfl rfl (by kernel_rfl) (by kernel_rfl) (by kernel_rfl) (by kernel_rfl) (fun _ _ _ h=>h) (Or.inl ⟨by rfl,?_⟩) (by assumption) ?_;rotate_left;(focus (intro w hSw;(try dsimp only at hSw);go_simp;all_goals (with_reducible rfl)));simp only [List.setIfInBounds_toArray,List.set_cons_zero,List.set_cons_succ])
   (refine wpAnyM_slot (i:=10) (v:=?_) rfl rfl (by kernel_rfl) (by kernel_rfl) (by kernel_rfl) (by kernel_rfl) (fun _ _ _ h=>h) (Or.inl ⟨by rfl,?_⟩) (by assumption) ?_;rotate_left;(focus (intro w hSw;(try dsimp only at hSw);go_simp;all_goals (with_reducible rfl)));simp only [List.setIfInBounds_toArray,List.set_cons_zero,List.set_cons_succ])
   (refine wpAnyM_slot (i:=11) (v:=?_) rfl rfl (by kernel_rfl) (by kernel_rfl) (by kernel_rfl) (by kernel_rfl) (fun _ _ _ h=>h) (Or.inl ⟨by rfl,?_⟩) (by assumption) ?_;rotate_left;(focus (intro w hSw;(try dsimp only at hSw);go_simp;all_goals (with_reducible rfl)));simp only [List.setIfInBounds_toArray,List.set_cons_zero,List.set_cons_succ])
   (refine wpAnyM_slot (i:=12) (v:=?_) rfl rfl (by kernel_rfl) (by kernel_rfl) (by kernel_rfl) (by kernel_rfl) (fun _ _ _ h=>h) (Or.inl ⟨by rfl,?_⟩) (by assumption) ?_;rotate_left;(focus (intro w hSw;(try dsimp only at hSw);go_simp;all_goals (with_reducible rfl)));simp only [List.setIfInBounds_toArray,List.set_cons_zero,List.set_cons_succ])
   (refine wpAnyM_slot (i:=13) (v:=?_) rfl rfl (by kernel_rfl) (by kernel_rfl) (by kernel_rfl) (by kernel_rfl) (fun _ _ _ h=>h) (Or.inl ⟨by rfl,?_⟩) (by assumption) ?_;rotate_left;(focus (intro w hSw;(try dsimp only at hSw);go_simp;all_goals (with_reducible rfl)));simp only [List.setIfInBounds_toArray,List.set_cons_zero,List.set_cons_succ])
   (refine wpAnyM_slot (i:=15) (v:=?_) rfl rfl (by kernel_rfl) (by kernel_rfl) (by kernel_rfl) (by kernel_rfl) (fun _ _ _ h=>h) (Or.inl ⟨by rfl,?_⟩) (by assumption) ?_;rotate_left;(focus (intro w hSw;(try dsimp only at hSw);go_simp;all_goals (with_reducible rfl)));simp only [List.setIfInBounds_toArray,List.set_cons_zero,List.set_cons_succ])
   (refine wpAnyM_slot (i:=16) (v:=?_) rfl rfl (by kernel_rfl) (by kernel_rfl) (by kernel_rfl) (by kernel_rfl) (fun _ _ _ h=>h) (Or.inl ⟨by rfl,?_⟩) (by assumption) ?_;rotate_left;(focus (intro w hSw;(try dsimp only at hSw);go_simp;all_goals (with_reducible rfl)));simp only [List.setIfInBounds_toArray,List.set_cons_zero,List.set_cons_succ])
   (refine wpAnyM_slot (i:=17) (v:=?_) rfl rfl (by kernel_rfl) (by kernel_rfl) (by kernel_rfl) (by kernel_rfl) (fun _ _ _ h=>h) (Or.inl ⟨by rfl,?_⟩) (by assumption) ?_;rotate_left;(focus (intro w hSw;(try dsimp only at hSw);go_simp;all_goals (with_reducible rfl)));simp only [List.setIfInBounds_toArray,List.set_cons_zero,List.set_cons_succ])
   (refine wpAnyM_slot (i:=18) (v:=?_) rfl rfl (by kernel_rfl) (by kernel_rfl) (by kernel_rfl) (by kernel_rfl) (fun _ _ _ h=>h) (Or.inl ⟨by rfl,?_⟩) (by assumption) ?_;rotate_left;(focus (intro w hSw;(try dsimp only at hSw);go_simp;all_goals (with_reducible rfl)));simp only [List.setIfInBounds_toArray,List.set_cons_zero,List.set_cons_succ])
   refine wpAnyM_one (t:=14) (by kernel_rfl) rfl rfl (fun K' hK=>?_)
   go_simp
   refine (P.out _ (by (first | exact gwT | exact lzT))).mono ?_
   intro e w7 hr
   obtain ⟨v7,rfl,ho7,hb7⟩:=hr
   obtain ⟨po,pc,rfl⟩:=own_form ho7
   rw [List.length_map] at ho7
   obtain ⟨p7,rfl⟩:=toG hb7
   clear hb7
   (try simp only [G_drew,World.size_drew] at ho7)
   rw [List.length_map]
   refine hK.out _ _ (fun _=>?_) (fun hS=>?_)
   ·(try dsimp only)
    exact ⟨(cell_GI _ _ _ _).trans s0,(cell_GI _ _ _ _).trans s1,(cell_GI _ _ _ _).trans s2,(cell_GI _ _ _ _).trans s3,(cell_GI _ _ _ _).trans s4,(cell_GI _ _ _ _).trans s5⟩
   clear s0 s1 s2 s3 s4 s5 hK K'
   replace hS:=hS (by decide)
   have hT:=hS
   (try dsimp only at hT)
   obtain ⟨s0,s1,s2,s3,s4,s5⟩:=hT
   (refine wpAnyM_slot (i:=19) (v:=?_) rfl rfl (by kernel_rfl) (by kernel_rfl) (by kernel_rfl) (by kernel_rfl) (fun _ _ _ h=>h) (Or.inl ⟨by rfl,?_⟩) (by assumption) ?_;rotate_left;(focus (intro w hSw;(try dsimp only at hSw);go_simp;all_goals (with_reducible rfl)));simp only [List.setIfInBounds_toArray,List.set_cons_zero,List.set_cons_succ])
   refine wpAnyM_one (t:=20) (by kernel_rfl) rfl rfl (fun K' hK=>?_)
   go_simp
   refine hK.out _ _ (fun _=>?_) (fun hS=>?_)
   ·(try dsimp only)
    exact ⟨(cell_allocI _ _ _ _).trans s0,(cell_allocI _ _ _ _).trans s1,(cell_allocI _ _ _ _).trans s2,(cell_allocI _ _ _ _).trans s3,(cell_allocI _ _ _ _).trans s4,(cell_allocI _ _ _ _).trans s5⟩
   clear s0 s1 s2 s3 s4 s5 hK K'
   replace hS:=hS (by decide)
   have hT:=hS
   (try dsimp only at hT)
   obtain ⟨s0,s1,s2,s3,s4,s5⟩:=hT
   refine wpAnyM_act (t:=21) (by kernel_rfl) rfl rfl rfl (fun K' hK=>?_)
   refine wp_append_lies _ (.tmp 72) (.tmp 87) 25 rfl w0.heap.size 186 i1n _ 6 104 Tryz.underlying25 hi1 hz1 hz2 hz3 rfl (by decide) (.slice ga (m + k) gc) (m + k) ys (by simp [Act.eval]) (owns_below hyO'.out (by (first | exact gwT | exact lzT))) ⟨_,0,none⟩ 1 1 [.int .i64 (i:Int),str tr.event,.slice io tr.cond.length ic,.slice po tr.goes.length pc,.bool tr.inner,.slice uo tr.thn.length uc] rfl rfl (World.news_of_block (new_at (by simp))) (by intro u hu;simp at hu;rcases hu with rfl | rfl | rfl | rfl | rfl | rfl <;> rfl) (by decide) (by unfold maxLen;omega) (by omega) (Nat.le_trans htop (Below.size (B:=w6.heap.size) (w:=w6) (by (first | exact gwT | exact lzT)))) _ rfl ?_
   intro g9 cap9 w9 hown1 hgrow hat1 hg1
   have hbm:=grown_blk (owns_below hyO'.out (by (first | exact gwT | exact lzT))) (blk_keep T8'.out.blk (by (first | exact gwT | exact lzT))) (by decide) hgrow
   have z9:w9.cell? ⟨mb,2,none⟩ = some (.slice ga (m + k) gc):=by
    rw [cell_of_row w9 mb _ _ _ _ hbm]
    rfl
   have f9:=zf w9 ⟨_,hbm⟩
   have im9:InW mb w9:=⟨lt_of_block hbm⟩
   have htb9:=grown_blk (owns_below hyO'.out (by (first | exact gwT | exact lzT))) (blk_keep tq6'.out (by (first | exact gwT | exact lzT))) (by decide) hgrow
   obtain ⟨y0,y1,y2,y3,y4,-⟩:=five_cells htb9
   refine hK.out _ _ (fun _=>?_) (fun hS=>?_)
   ·exact ⟨z9,y0,y1,y2,y3,y4⟩
   clear s0 s1 s2 s3 s4 s5 hK K'
   replace hS:=hS (by decide)
   (refine wpAnyM_slot (i:=22) (v:=?_) rfl rfl (by kernel_rfl) (by kernel_rfl) (by kernel_rfl) (by kernel_rfl) (fun _ _ _ h=>h) (Or.inl ⟨by rfl,?_⟩) (by assumption) ?_;rotate_left;(focus (intro w hSw;(try dsimp only at hSw);go_simp;all_goals (with_reducible rfl)));simp only [List.setIfInBounds_toArray,List.set_cons_zero,List.set_cons_succ])
   (refine wpAnyM_slot (i:=23) (v:=?_) rfl rfl (by kernel_rfl) (by kernel_rfl) (by kernel_rfl) (by kernel_rfl) (fun _ _ _ h=>h) (Or.inl ⟨by rfl,?_⟩) (by assumption) ?_;rotate_left;(focus (intro w hSw;(try dsimp only at hSw);go_simp;all_goals (with_reducible rfl)));simp only [List.setIfInBounds_toArray,List.set_cons_zero,List.set_cons_succ])
   (refine wpAnyM_slot (i:=24) (v:=?_) rfl rfl (by kernel_rfl) (by kernel_rfl) (by kernel_rfl) (by kernel_rfl) (fun _ _ _ h=>h) (Or.inl ⟨by rfl,?_⟩) (by assumption) ?_;rotate_left;(focus (intro w hSw;(try dsimp only at hSw);go_simp;all_goals (with_reducible rfl)));simp only [List.setIfInBounds_toArray,List.set_cons_zero,List.set_cons_succ])
   refine wpAnyM_one (t:=25) (by kernel_rfl) rfl rfl (fun K' hK=>?_)
   go_simp
   refine hK.out _ _ (fun h=>absurd rfl h) (fun _=>wpAnyM_done (by kernel_rfl) ?_)
   refine NoPanic.normal ?_
   have hlt7:∀ X:World,X.ownsRow w6.heap.size 3 1 (.slice po tr.goes.length pc) tr.goes.length (natsC (tr.goes.map (plcA c.states))) → sepV (.slice po tr.goes.length pc) (some g'):=fun X hX => .inr fun e=>by
    have:=(hX.lt g' e).1
    omega
   have R2:∀ X:World,Below w6.heap.size w6 X → X.ownsRow w6.heap.size 3 1 (.slice po tr.goes.length pc) tr.goes.length (natsC (tr.goes.map (plcA c.states))) → X.grownBy w9 (Value.slice ga (m + k) gc).ownBlock → RowAt w0 wk B c rv mb va vc (some ⟨g,0,none⟩) sc i (k + 1) rb (some ⟨g',0,none⟩) cap' tv (some ⟨g9,0,none⟩) cap9 (w9.setCell ⟨mb,2,none⟩ (.slice (some ⟨g9,0,none⟩) (m + k + 1) cap9)):=fun X hX hv hg=>by
    obtain ⟨k1,k2,k3⟩:=tb_go3 (p:=(i,tr)) (tb_keep T8'.out hX) (blk_keep Q8'.out hX) (owns_below O8'.out hX) (vs_map hys'.out fun _ _ k=>goR_to k fun _ _ _ k1 k2=>⟨owns_below k1 hX,k2⟩) (by rw [hgl.out];exact owns_below hyO'.out hX) ⟨_,_,_,rfl,hN,hA,owns_base hv htop,hlt7 X hv⟩ (by rw [hgl.out];exact hown1) hg
    refine ⟨?_,by rw [hs.out];exact k2,by rw [hme.out];exact k3⟩
    rw [hs.out,htk.out,hme.out]
    exact k1
   have hRR:=Lib.hid (R2 _ (by (first | exact gwT | exact lzT)) (owns_below ho7 (by (first | exact gwT | exact lzT))) hgrow)
   clear hown1 hgrow hat1 hg1 hbm z9 f9 im9 htb9 y0 y1 y2 y3 y4 hS hK K' R2 hlt7 ho7 P T8' Q8' O8' hys' hyO' tq6' hN hG hA zf zm t0 t1 t2 t3 t4 tl
   go_wp2
   go_roundw
   case rel=>exact ⟨k + 1,some ⟨g',0,none⟩,cap',some ⟨g9,0,none⟩,cap9,by go_num,by omega,hRR⟩
   case measure=>simp [intOf];omega
  ·have hkI:¬ (k:Int) < (s.trans.length:Int):=by omega
   obtain rfl:k = s.trans.length:=by omega
   obtain ⟨xs,hxs,hxO⟩:=hR.out.tb.rows
   obtain ⟨ta,tcc,rfl⟩:=own_form hxO
   obtain ⟨-,c1,-,-,-,-,hl,hf⟩:=mk_cells (tb_mk hC.out hR.out.tb)
   have hblk:=hR.out.blk
   rw [hs.out,heo'.out,hxo'.out] at hblk
   obtain ⟨r0,r1,r2,r3,r4,r5,r6,r7,r8,r9,r10,rl,-⟩:=row_cells hblk
   have im:InW mb wr:=⟨hl⟩
   have ib:InW rb wr:=⟨rl⟩
   have htop:=hR.out.tb.env.size
   have hi49:i ≤ 49:=by omega
   have hxO':=Lib.hid hxO
   have hxs':=Lib.hid hxs
   have hblk':=Lib.hid hblk
   clear hxO hxs hblk hf hl rl hm h96 hgl2 hlens hfit hT hT3' hh
   go_upto_region 11 with (fail)
   refine wp_region_noPanic ?_
   refine wp_region_m (S:=fun w'=>w'.cell? ⟨mb,1,none⟩ = some (.slice ta i tcc) ∧ w'.cell? ⟨rb,0,none⟩ = some (str s.name) ∧ w'.cell? ⟨rb,1,none⟩ = some (.int .i64 s.kind) ∧ w'.cell? ⟨rb,2,none⟩ = some (.int .i64 s.parent) ∧ w'.cell? ⟨rb,3,none⟩ = some (.int .i64 (begS c.states i)) ∧ w'.cell? ⟨rb,4,none⟩ = some (.int .u64 (upS c.states i:Int)) ∧ w'.cell? ⟨rb,5,none⟩ = some (.int .u64 (undS c.states i:Int)) ∧ w'.cell? ⟨rb,6,none⟩ = some (.int .u64 (kidS c.states i:Int)) ∧ w'.cell? ⟨rb,7,none⟩ = some (.int .u64 (pasS c.states i:Int)) ∧ w'.cell? ⟨rb,8,none⟩ = some (.slice oa s.trans.length oc) ∧ w'.cell? ⟨rb,9,none⟩ = some (.slice eo s.enter.length ec) ∧ w'.cell? ⟨rb,10,none⟩ = some (.slice xo s.exit.length xc)) 12 (by kernel_rfl) (by exact ⟨c1,r0,r1,r2,r3,r4,r5,r6,r7,r8,r9,r10⟩) (fun hS=>?_)
   have hT:=hS
   (try dsimp only at hT)
   obtain ⟨s0,s1,s2,s3,s4,s5,s6,s7,s8,s9,s10,s11⟩:=hT
   (refine wpAnyM_slot (i:=0) (v:=?_) rfl rfl (by kernel_rfl) (by kernel_rfl) (by kernel_rfl) (by kernel_rfl) (fun _ _ _ h=>h) (Or.inl ⟨by rfl,?_⟩) (by assumption) ?_;rotate_left;(focus (intro w hSw;(try dsimp only at hSw);go_simp;all_goals (with_reducible rfl)));simp only [List.setIfInBounds_toArray,List.set_cons_zero,List.set_cons_succ])
   (refine wpAnyM_slot (i:=1) (v:=?_) rfl rfl (by kernel_rfl) (by kernel_rfl) (by kernel_rfl) (by kernel_rfl) (fun _ _ _ h=>h) (Or.inl ⟨by rfl,?_⟩) (by assumption) ?_;rotate_left;(focus (intro w hSw;(try dsimp only at hSw);go_simp;all_goals (with_reducible rfl)));simp only [List.setIfInBounds_toArray,List.set_cons_zero,List.set_cons_succ])
   (refine wpAnyM_slot (i:=2) (v:=?_) rfl rfl (by kernel_rfl) (by kernel_rfl) (by kernel_rfl) (by kernel_rfl) (fun _ _ _ h=>h) (Or.inl ⟨by rfl,?_⟩) (by assumption) ?_;rotate_left;(focus (intro w hSw;(try dsimp only at hSw);go_simp;all_goals (with_reducible rfl)));simp only [List.setIfInBounds_toArray,List.set_cons_zero,List.set_cons_succ])
   (refine wpAnyM_slot (i:=3) (v:=?_) rfl rfl (by kernel_rfl) (by kernel_rfl) (by kernel_rfl) (by kernel_rfl) (fun _ _ _ h=>h) (Or.inl ⟨by rfl,?_⟩) (by assumption) ?_;rotate_left;(focus (intro w hSw;(try dsimp only at hSw);go_simp;all_goals (with_reducible rfl)));simp only [List.setIfInBounds_toArray,List.set_cons_zero,List.set_cons_succ])
   (refine wpAnyM_slot (i:=4) (v:=?_) rfl rfl (by kernel_rfl) (by kernel_rfl) (by kernel_rfl) (by kernel_rfl) (fun _ _ _ h=>h) (Or.inl ⟨by rfl,?_⟩) (by assumption) ?_;rotate_left;(focus (intro w hSw;(try dsimp only at hSw);go_simp;all_goals (with_reducible rfl)));simp only [List.setIfInBounds_toArray,List.set_cons_zero,List.set_cons_succ])
   (refine wpAnyM_slot (i:=5) (v:=?_) rfl rfl (by kernel_rfl) (by kernel_rfl) (by kernel_rfl) (by kernel_rfl) (fun _ _ _ h=>h) (Or.inl ⟨by rfl,?_⟩) (by assumption) ?_;rotate_left;(focus (intro w hSw;(try dsimp only at hSw);go_simp;all_goals (with_reducible rfl)));simp only [List.setIfInBounds_toArray,List.set_cons_zero,List.set_cons_succ])
   (refine wpAnyM_slot (i:=6) (v:=?_) rfl rfl (by kernel_rfl) (by kernel_rfl) (by kernel_rfl) (by kernel_rfl) (fun _ _ _ h=>h) (Or.inl ⟨by rfl,?_⟩) (by assumption) ?_;rotate_left;(focus (intro w hSw;(try dsimp only at hSw);go_simp;all_goals (with_reducible rfl)));simp only [List.setIfInBounds_toArray,List.set_cons_zero,List.set_cons_succ])
   refine wpAnyM_one (t:=7) (by kernel_rfl) rfl rfl (fun K' hK=>?_)
   go_simp
   refine hK.out _ _ (fun _=>?_) (fun hS=>?_)
   ·(try dsimp only)
    exact ⟨(cell_allocI _ _ _ _).trans s0,(cell_allocI _ _ _ _).trans s1,(cell_allocI _ _ _ _).trans s2,(cell_allocI _ _ _ _).trans s3,(cell_allocI _ _ _ _).trans s4,(cell_allocI _ _ _ _).trans s5,(cell_allocI _ _ _ _).trans s6,(cell_allocI _ _ _ _).trans s7,(cell_allocI _ _ _ _).trans s8,(cell_allocI _ _ _ _).trans s9,(cell_allocI _ _ _ _).trans s10,(cell_allocI _ _ _ _).trans s11⟩
   clear s0 s1 s2 s3 s4 s5 s6 s7 s8 s9 s10 s11 hK K'
   replace hS:=hS (by decide)
   have hT:=hS
   (try dsimp only at hT)
   obtain ⟨s0,s1,s2,s3,s4,s5,s6,s7,s8,s9,s10,s11⟩:=hT
   refine wpAnyM_act (t:=8) (by kernel_rfl) rfl rfl rfl (fun K' hK=>?_)
   refine wp_append_lies _ (.tmp 98) (.tmp 100) 24 rfl w0.heap.size 87 i2n _ 11 144 Tryz.underlying24 hi2 hx1 hx2 hx3 rfl (by decide) (.slice ta i tcc) i xs (by simp [Act.eval]) (owns_below hxO'.out (by (first | exact gwT | exact lzT))) ⟨_,0,none⟩ 1 1 [str s.name,.int .i64 s.kind,.int .i64 s.parent,.int .i64 (begS c.states i),.int .u64 (upS c.states i:Int),.int .u64 (undS c.states i:Int),.int .u64 (kidS c.states i:Int),.int .u64 (pasS c.states i:Int),.slice oa s.trans.length oc,.slice eo s.enter.length ec,.slice xo s.exit.length xc] rfl rfl (World.news_of_block (new_at (by simp))) (by intro u hu;simp at hu;rcases hu with rfl | rfl | rfl | rfl | rfl | rfl | rfl | rfl | rfl | rfl | rfl <;> rfl) (by decide) (by unfold maxLen;omega) (by omega) (Nat.le_trans htop (Below.size (B:=wr.heap.size) (w:=wr) (by (first | exact gwT | exact lzT)))) _ rfl ?_
   intro g9 cap9 w9 hown1 hgrow hat1 hg1
   have hbm:=grown_blk (owns_below hxO'.out (by (first | exact gwT | exact lzT))) (blk_keep hR.out.tb.blk (by (first | exact gwT | exact lzT))) (by decide) hgrow
   have z9:w9.cell? ⟨mb,1,none⟩ = some (.slice ta i tcc):=by
    rw [cell_of_row w9 mb _ _ _ _ hbm]
    rfl
   have f9:w9.frozen? ⟨mb,1,none⟩ = false:=frozen_of_row w9 mb 1 _ _ hbm
   have im9:InW mb w9:=⟨lt_of_block hbm⟩
   have hrne:∀ X:World,X.grownBy w9 (Value.slice ta i tcc).ownBlock → Below wr.heap.size wr X → w9.heap[rb]? = wr.heap[rb]?:=fun X hg hX=>(hg.block rb (Nat.lt_of_lt_of_le (lt_of_block hblk'.out) hX.size) (fun e=>hne.out e.symm)).trans (hX.block rb (lt_of_block hblk'.out))
   have hrb9:=(hrne _ hgrow (by (first | exact gwT | exact lzT))).trans hblk'.out
   obtain ⟨y0,y1,y2,y3,y4,y5,y6,y7,y8,y9,y10,-,-⟩:=row_cells hrb9
   refine hK.out _ _ (fun _=>?_) (fun hS=>?_)
   ·exact ⟨z9,y0,y1,y2,y3,y4,y5,y6,y7,y8,y9,y10⟩
   clear s0 s1 s2 s3 s4 s5 s6 s7 s8 s9 s10 s11 hK K'
   replace hS:=hS (by decide)
   (refine wpAnyM_slot (i:=9) (v:=?_) rfl rfl (by kernel_rfl) (by kernel_rfl) (by kernel_rfl) (by kernel_rfl) (fun _ _ _ h=>h) (Or.inl ⟨by rfl,?_⟩) (by assumption) ?_;rotate_left;(focus (intro w hSw;(try dsimp only at hSw);go_simp;all_goals (with_reducible rfl)));simp only [List.setIfInBounds_toArray,List.set_cons_zero,List.set_cons_succ])
   (refine wpAnyM_slot (i:=10) (v:=?_) rfl rfl (by kernel_rfl) (by kernel_rfl) (by kernel_rfl) (by kernel_rfl) (fun _ _ _ h=>h) (Or.inl ⟨by rfl,?_⟩) (by assumption) ?_;rotate_left;(focus (intro w hSw;(try dsimp only at hSw);go_simp;all_goals (with_reducible rfl)));simp only [List.setIfInBounds_toArray,List.set_cons_zero,List.set_cons_succ])
   (refine wpAnyM_slot (i:=11) (v:=?_) rfl rfl (by kernel_rfl) (by kernel_rfl) (by kernel_rfl) (by kernel_rfl) (fun _ _ _ h=>h) (Or.inl ⟨by rfl,?_⟩) (by assumption) ?_;rotate_left;(focus (intro w hSw;(try dsimp only at hSw);go_simp;all_goals (with_reducible rfl)));simp only [List.setIfInBounds_toArray,List.set_cons_zero,List.set_cons_succ])
   refine wpAnyM_one (t:=12) (by kernel_rfl) rfl rfl (fun K' hK=>?_)
   go_simp
   refine hK.out _ _ (fun h=>absurd rfl h) (fun _=>wpAnyM_done (by kernel_rfl) ?_)
   refine NoPanic.normal ?_
   have R2:∀ X:World,Below wr.heap.size wr X → X.grownBy w9 (Value.slice ta i tcc).ownBlock → TbAt w0 wk B c rv mb va vc (some ⟨g,0,none⟩) sc (i + 1) (gosF c.states (i + 1)) none (.slice (some ⟨g9,0,none⟩) (i + 1) cap9) (.slice ga ((gosF c.states i).length + s.trans.length) gc) (w9.setCell ⟨mb,1,none⟩ (.slice (some ⟨g9,0,none⟩) (i + 1) cap9)):=fun X hX hg=>by
    have hr:=rowAt_keep hR.out hX
    have hgs:gosF c.states (i + 1) = gosF c.states i ++ ((c.states.getD i st0).trans.take s.trans.length).map fun t=>(i,t):=by
     rw [hs.out,List.take_length,gosF,hs.out]
    rw [hgs]
    refine tb_st hr.tb (vs_map hxs'.out fun _ _ k=>rwR_to k fun _ _ _ k1 k2=>⟨owns_below k1 hX,k2⟩) (owns_below hxO'.out hX) ⟨.slice oa s.trans.length oc,?_,?_,sepV_none _⟩ hown1 hg
    ·unfold rowC
     rw [hs.out,heo'.out,hxo'.out]
    ·rw [hs.out]
     exact hr.own
   have hRR:=Lib.hid (R2 _ (by (first | exact gwT | exact lzT)) hgrow)
   clear hown1 hgrow hat1 hg1 hbm z9 f9 im9 y0 y1 y2 y3 y4 y5 y6 y7 y8 y9 y10 hS hK K' R2 hrne hrb9 hblk' hxO' hxs' hR
   go_wp2
   go_end0
   exact ⟨rfl,_,_,hRR.out⟩
end
end Go.Proofs.YtfgpmcepppcmiaaGreatDoor
namespace Go.Proofs.YtfgpmcepppcmiaaGreatDoor
open Go.RowKit
structure TabV (w0:World) (B:Nat) (c:Ch) (rv:Nat → Value) (tv gv:Value) (w:World):Prop where
 env:Below w0.heap.size w0 w
 rows:∃ xs,Vs (RwR w0.heap.size c.states rv w none) (List.range c.states.length) xs ∧ w.ownsRow w0.heap.size 87 11 tv c.states.length xs
 gos:∃ xs,Vs (GoR B w0 c.states w none) (gosT c.states) xs ∧ w.ownsRow w0.heap.size 186 6 gv (gosT c.states).length xs
section
variable {w0:World} {B:Nat} {c:Ch} {rv:Nat → Value} {va sa:Option Addr} {vc sc:Nat} {tv gv:Value} {w w':World}
theorem tabV_set {rb j:Nat} {u:Value} {cs:Array Value} (h:TabV w0 B c rv tv gv w) (hr:w.heap[rb]? = some (.cells cs 27 (0,0))) (hl:w0.heap.size ≤ rb):TabV w0 B c rv tv gv (w.setCell ⟨rb,j,none⟩ u):=by
 obtain ⟨xs,h1,h2⟩:=h.rows
 obtain ⟨ys,h3,h4⟩:=h.gos
 have key:∀ v m zs,w.ownsRow w0.heap.size 3 1 v m zs → sepV v none → (w.setCell ⟨rb,j,none⟩ u).ownsRow w0.heap.size 3 1 v m zs ∧ sepV v none:=fun v m zs k1 k2=>⟨tp_set hr (by decide) _ _ _ _ k1,k2⟩
 exact ⟨h.env.setCell (p:=⟨rb,j,none⟩) hl _,⟨xs,vs_map h1 fun _ _ k=>rwR_to k key,tp_set hr (by decide) _ _ _ _ h2⟩,⟨ys,vs_map h3 fun _ _ k=>goR_to k key,tp_set hr (by decide) _ _ _ _ h4⟩⟩
def MkOk (B:Nat) (c:Ch) (rv:Nat → Value) (va:Option Addr) (vc:Nat) (w:World) (e:Ending) (w':World):Prop :=
 ∃ tv gv,e = .returned (.tuple #[.agg #[.slice va c.vars.length vc,tv,gv],.int .i64 0]) ∧ TabV w B c rv tv gv w'
set_option maxRecDepth 100000 in
set_option maxHeartbeats 8000000 in
theorem tmake_yes (O:OkC c) (hT:Db w) (hL:Lb w) (hC:ChV ct0 B w c rv (.slice va c.vars.length vc) (.slice sa c.states.length sc)) (hk:(checkE c).1 = 0) :
  Calls Tryz.prog 21 #[.agg #[str c.name,.slice va c.vars.length vc,.slice sa c.states.length sc]] w (MkOk B c rv va vc w):=by
 have V:=Lib.hid (fun wx (hb:Below w.heap.size w wx)=>vcheck_any O wx (chV_keep hC hb) (lb_below hL hb))
 rw [hk] at V
 have A:=Lib.hid (fun wk mb j (hj:j < c.states.length) tv gv wx (h:TbAt w wk B c rv mb va vc sa sc j (gosF c.states j) none tv gv wx)=>tadd_any hj O hT hC h)
 generalize (checkE c).2 = nm at *
 have hn49:=O.few
 replace O:=Lib.hid O
 clear hk hT hL hC
 go_enter Tryz.func21,Tryz.ntmps21
 go_wp2_with fail
 refine (V.out _ (by (first | exact gwT | exact lzT))).mono ?_
 rintro e w1 ⟨rfl,hb1⟩
 have hw1:Below w.heap.size w w1:=Below.trans (by (first | exact gwT | exact lzT)) (hb1.mono (by simp;omega))
 have q0:=blk_keep (blk_old (heap_alloc_new w (.cells #[str c.name,.slice va c.vars.length vc,.slice sa c.states.length sc] 75))) hb1
 have q1:=blk_keep (new_at (b:=w.heap.size + 1) (by simp)) hb1
 obtain ⟨u0,u1,u2,ul,uf⟩:=cells3 q0
 have i0:InW w.heap.size w1:=⟨ul⟩
 have i1:InW (w.heap.size + 1) w1:=⟨lt_of_block q1⟩
 have hz:=hw1.size
 have hrl:w.heap.size ≤ w.heap.size + 1:=by omega
 clear V hb1 q0
 generalize hrb:w.heap.size + 1 = rb at *
 dsimp only
 go_wp2
 obtain ⟨W1,hW1⟩:∃ W1,w1.alloc (.cells #[.slice va c.vars.length vc,.slice none 0 0,.slice none 0 0,.string ⟨c.name.toArray⟩,.slice va c.vars.length vc,.slice sa c.states.length sc] 138) = W1:=⟨_,rfl⟩
 have hT0:Hid (TbAt w W1 B c rv w1.heap.size va vc sa sc 0 (gosF c.states 0) none (.slice none 0 0) (.slice none 0 0) W1):=Lib.hid (by
  refine ⟨by rw [← hW1];exact heap_alloc_new w1 _,by rw [← hW1];exact hw1.alloc hz _,hz,kpM_refl _,⟨[],.nil,World.ownsRow_nil _ _ _ _⟩,⟨[],.nil,World.ownsRow_nil _ _ _ _⟩⟩)
 have r1:W1.heap[rb]? = some (.cells #[.slice none 0 0,.slice none 0 0,.slice none 0 0] 27 (0,0)):=by rw [← hW1];exact blk_old q1
 rw [hW1]
 have r1':=Lib.hid r1
 clear hW1 q1 u0 u1 u2 ul uf i0 i1 r1
 go_loopw [26] (fun x wr=>∃ (j:Nat) (tv gv:Value),x = .int .i64 (j:Int) ∧ j ≤ c.states.length ∧ Hid (TbAt w W1 B c rv w1.heap.size va vc sa sc j (gosF c.states j) none tv gv wr)) (fun x _=>c.states.length - (intOf x).toNat)
 case atStart=>exact ⟨0,_,_,rfl,Nat.zero_le _,hT0⟩
 case round =>
  obtain ⟨j,tv,gv,rfl,hj,hT⟩:=hrel
  rename World=>wr
  by_cases hlt:j < c.states.length
  ·have hI:(j:Int) < (c.states.length:Int):=by omega
   have A1:=Lib.hid (A.out W1 w1.heap.size j hlt tv gv wr hT.out)
   clear hT0 hT
   go_wp2_with fail
   refine A1.out.mono ?_
   rintro e w2 ⟨rfl,tv',gv',hT2⟩
   replace hT2:=Lib.hid hT2
   clear A1
   go_wp2
   go_roundw
   case rel=>exact ⟨j + 1,tv',gv',by go_num,by omega,hT2⟩
   case measure=>simp [intOf];omega
  ·have hI:¬ (j:Int) < (c.states.length:Int):=by omega
   obtain rfl:j = c.states.length:=by omega
   obtain ⟨xs,_,hxs⟩:=hT.out.rows
   obtain ⟨ys,_,hys⟩:=hT.out.gos
   obtain ⟨ta,tc,rfl⟩:=own_form hxs
   obtain ⟨ga,gc,rfl⟩:=own_form hys
   clear hxs hys
   have q:=hT.out.kp rb _ _ _ r1'.out (by decide) (by decide) (by decide) (by decide)
   obtain ⟨m0,m1,m2,ml,mf⟩:=cells3 q
   have i3:InW rb wr:=⟨ml⟩
   have f0:=mf 0
   have f1:=mf 1
   have f2:=mf 2
   have s0:=hasC_of m0
   have s1:=hasC_of m1
   have s2:=hasC_of m2
   have d0:wr.cell? ⟨w1.heap.size,0,none⟩ = some (.slice va c.vars.length vc):=by
    rw [cell_of_row wr _ _ _ _ _ hT.out.blk]
    rfl
   have d1:wr.cell? ⟨w1.heap.size,1,none⟩ = some (.slice ta c.states.length tc):=by
    rw [cell_of_row wr _ _ _ _ _ hT.out.blk]
    rfl
   have d2:wr.cell? ⟨w1.heap.size,2,none⟩ = some (.slice ga (gosF c.states c.states.length).length gc):=by
    rw [cell_of_row wr _ _ _ _ _ hT.out.blk]
    rfl
   have i4:InW w1.heap.size wr:=⟨lt_of_block hT.out.blk⟩
   have hq:=Lib.hid q
   clear hT0 A q mf
   go_wp2
   go_returns
   refine ⟨_,_,rfl,?_⟩
   have t0:TabV w B c rv (.slice ta c.states.length tc) (.slice ga (gosF c.states c.states.length).length gc) wr:=⟨hT.out.env,hT.out.rows,hT.out.gos⟩
   exact tabV_set (tabV_set (tabV_set t0 hq.out hrl) (blk_set hq.out) hrl) (blk_set (blk_set hq.out)) hrl
end
end Go.Proofs.YtfgpmcepppcmiaaGreatDoor
namespace Go.Proofs.YtfgpmcepppcmiaaGreatDoor
open Go.RowKit
def IsSl (v:Value):Prop:=∃ a n m,v = .slice a n m
structure TbC (c:Ch) (rv gi:Nat → Value) (b:Nat) (w:World):Prop where
 lt:b < w.heap.size
 at_:∀ k,k < c.states.length → ∀ j u,(rowC c.states k (gi k) (rv (3 * k)) (rv (3 * k + 1)))[j]? = some u → w.cell? ⟨b,k * 11 + j,none⟩ = some u
 sl:∀ k,k < c.states.length → IsSl (gi k) ∧ IsSl (rv (3 * k)) ∧ IsSl (rv (3 * k + 1))
section
variable {w0:World} {B:Nat} {c:Ch} {rv gi:Nat → Value} {b cap:Nat} {tv gv vv:Value} {w w':World}
theorem rwR_len {A i:Nat} {ss:List St} {cb:Option Nat} {v:List Value} (h:RwR A ss rv w cb i v):v.length = 11:=by
 obtain ⟨g,rfl,_⟩:=h
 rfl
theorem tbC_of {sv:Value} (hC:ChV ct0 B w0 c rv vv sv) (h:TabV w0 B c rv tv gv w) (h0:0 < c.states.length):∃ b cap gi,tv = .slice (some ⟨b,0,none⟩) c.states.length cap ∧ TbC c rv gi b w:=by
 obtain ⟨xs,hx,hO⟩:=h.rows
 obtain ⟨g,cap,e,hg,_,_,hc⟩:=own_head hO h0
 have H:∀ k,∃ gk,k < c.states.length → IsSl gk ∧ ∀ j u,(rowC c.states k gk (rv (3 * k)) (rv (3 * k + 1)))[j]? = some u → w.cell? ⟨g,k * 11 + j,none⟩ = some u:=fun k=>by
  by_cases hk:k < c.states.length
  ·obtain ⟨v,⟨gk,hv,ho,_⟩,hat⟩:=vs_at hx (fun _ _=>rwR_len) k (by simpa using hk)
   rw [List.getElem_range] at hv
   obtain ⟨oa,oc,hoe⟩:=own_form ho
   refine ⟨gk,fun _=>⟨⟨_,_,_,hoe⟩,fun j u hu=>hc _ _ ?_⟩⟩
   have hj:j < 11:=by
    have:=(List.getElem?_eq_some_iff.1 hu).1
    exact this
   rw [hat j hj,hv]
   exact hu
  ·exact ⟨.bool false,fun h=>absurd h hk⟩
 obtain ⟨gi,hgi⟩:=Classical.axiomOfChoice H
 refine ⟨g,cap,gi,e,hg,fun k hk=>(hgi k hk).2,fun k hk=>⟨(hgi k hk).1,?_,?_⟩⟩
 ·obtain ⟨a,m,e⟩:=blkRow_form (hC.ent k)
  exact ⟨_,_,_,e⟩
 ·obtain ⟨a,m,e⟩:=blkRow_form (hC.exi k)
  exact ⟨_,_,_,e⟩
theorem tbC_keep (h:TbC c rv gi b w) (hb:Below w.heap.size w w'):TbC c rv gi b w':=⟨Nat.lt_of_lt_of_le h.lt hb.size,fun k hk j u hu=>(hb.cell (p:=⟨b,_,none⟩) h.lt).trans (h.at_ k hk j u hu),h.sl⟩
theorem tbC_row (h:TbC c rv gi b w) {k:Nat} (hk:k < c.states.length):w.cell? ⟨b,k * 11,none⟩ = some (str (c.states.getD k st0).name) ∧ w.cell? ⟨b,k * 11 + 1,none⟩ = some (.int .i64 (c.states.getD k st0).kind) ∧ w.cell? ⟨b,k * 11 + 2,none⟩ = some (.int .i64 (c.states.getD k st0).parent) ∧ w.cell? ⟨b,k * 11 + 3,none⟩ = some (.int .i64 (begS c.states k)) ∧
  w.cell? ⟨b,k * 11 + 4,none⟩ = some (.int .u64 (upS c.states k:Int)) ∧ w.cell? ⟨b,k * 11 + 5,none⟩ = some (.int .u64 (undS c.states k:Int)) ∧ w.cell? ⟨b,k * 11 + 6,none⟩ = some (.int .u64 (kidS c.states k:Int)) ∧ w.cell? ⟨b,k * 11 + 7,none⟩ = some (.int .u64 (pasS c.states k:Int)) ∧
  w.cell? ⟨b,k * 11 + 8,none⟩ = some (gi k) ∧ w.cell? ⟨b,k * 11 + 9,none⟩ = some (rv (3 * k)) ∧ w.cell? ⟨b,k * 11 + 10,none⟩ = some (rv (3 * k + 1)) :=
 ⟨h.at_ k hk 0 _ rfl,h.at_ k hk 1 _ rfl,h.at_ k hk 2 _ rfl,h.at_ k hk 3 _ rfl,h.at_ k hk 4 _ rfl,h.at_ k hk 5 _ rfl,h.at_ k hk 6 _ rfl,h.at_ k hk 7 _ rfl,h.at_ k hk 8 _ rfl,h.at_ k hk 9 _ rfl,h.at_ k hk 10 _ rfl⟩
end
end Go.Proofs.YtfgpmcepppcmiaaGreatDoor
