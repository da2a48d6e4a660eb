/- Several texts of this proof, joined: MK, ML. -/
import Derived.Test.YtacnlghljmgdiaaGreatDoorQ4
import Derived.Test.YtacnlghljmgdiaaGreatDoorQ1
import Derived.WalkKit
import Derived.ProofKit
import Derived.OpenShut
import Derived.Handy
import Derived.BigQuiet
import Derived.OwnWalk
import Derived.Deep.AppendLies
import Derived.Deep.RegionHeld3
import Derived.Lib.Hide
import Derived.WalkSmall
import Derived.WalkLawsBesides
namespace Go.Proofs.YtacnlghljmgdiaaGreatDoor
open Go.RowKit
set_option maxRecDepth 100000 in
set_option maxHeartbeats 4000000 in
theorem q4l (ao:Option Addr) (cap:Nat) (ns:List Nd) (hn:ns.length ≤ 2000000) (w:World) (h:q1i w ao ns):Calls Tryz.prog 85 #[.slice ao ns.length cap] w (v2n ns w):=by
 have H:=fun wx hb=>z1t (w':=wx) h hb
 replace H:=hiT H
 obtain ⟨j0,hj,hy1,hy2,hy3⟩:=info_parts Tryz.infoN
 clear h
 go_enter Tryz.func85,Tryz.ntmps85
 go_wp2
 go_loopw [3,8] (fun v x wr=>∃ (i:Nat) (oa:Option Addr) (oc:Nat),x = .int .i64 (i:Int) ∧ i ≤ ns.length ∧ v = .slice oa i oc ∧ wr.ownsRow w.heap.size 241 7 (.slice oa i oc) i (z9j (ns.take i)) ∧ Below w.heap.size w wr) (fun _ x _=>ns.length - (intOf x).toNat)
 case atStart=>exact ⟨0,none,0,rfl,Nat.zero_le _,rfl,World.ownsRow_nil _ _ _ _,gzT⟩
 case round =>
  obtain ⟨i,oa,oc,rfl,hi,rfl,hown,hb⟩:=hrel
  rename World=>wr
  have hwz:=hb.size
  by_cases hlt:i < ns.length
  ·obtain ⟨g,o,rfl,hg,hc⟩:=H.out wr hb omT
   obtain ⟨n1,n2,n3,n4,n5,n6,n7⟩:=hc i hlt
   have htk:=hiT (k1v ns i hlt)
   have hndc:=hiT (rfl:ndC ns[i] = ndC ns[i])
   obtain ⟨n,hnn⟩:∃ n,ns[i] = n:=⟨_,rfl⟩
   rw [hnn] at n1 n2 n3 n4 n5 n6 n7 htk
   have i1:InW g wr:=⟨hg⟩
   clear hc hndc hnn
   have hI:(i:Int) < (ns.length:Int):=by omega
   have hownK:=hiT hown
   clear hown
   go_wp2_with (at_builtin;refine wpList_append_lies _ rfl _ _ 189 rfl w.heap.size 241 j0 _ 7 72 Tryz.underlying189 hj hy1 hy2 hy3 rfl deT (.slice oa i oc) i (z9j (ns.take i)) rfl (z0a hownK.out gzT) ⟨_,0,none⟩ 1 1 (ndC n) rfl rfl (World.news_of_block (z0s (by simp))) (by intro u hu;simp [ndC] at hu;rcases hu with rfl | rfl | rfl | rfl | rfl | rfl | rfl <;> rfl) deT (by unfold maxLen;omega) omT (by simp [go_sem];omega) _ rfl ?_)
   intro g' cap' w1 hown1 hgrow hat1 hg1
   have hb1:Below w.heap.size w w1:=Below.grown gzT hgrow (by simp [go_sem];omega) (fun k hk=>(hownK.out.lt k hk).1)
   have hown2:=hiT hown1
   clear hown1 hgrow hat1 hg1 hownK hb
   go_wp2
   go_roundw
   case rel=>exact ⟨i + 1,_,cap',by go_num,by omega,rfl,by rw [htk.out];exact hown2.out,hb1⟩
   case measure=>simp [intOf];omega
  ·obtain rfl:i = ns.length:=by omega
   rw [List.take_length] at hown
   have hN:=hiT hown
   clear hown
   go_wp2
   go_returns
   exact ⟨_,rfl,hN.out,hb⟩
theorem Tryz.infoMA:(Tryz.prog.info? 237).map (fun i=>(i.zero,i.size,i.bytes)) = some (some (.agg #[.int .i64 0,.slice none 0 0,.string ⟨#[]⟩,.slice none 0 0,.int .i64 0]),5,80):=by kernel_rfl
def v2m (cs:List Ac) (w:World) (e:Ending) (w':World):Prop:=∃ v,e = .returned v ∧ z4d 241 237 w.heap.size w' v cs ∧ Below w.heap.size w w'
set_option maxRecDepth 100000 in
set_option maxHeartbeats 4000000 in
theorem j6o (ao:Option Addr) (cap:Nat) (cs:List Ac) (hc:cs.length ≤ 1000) (hn:∀ c ∈ cs,c.cond.length ≤ 2000000 ∧ c.x.length ≤ 2000000) (w:World) (h:j0j w ao cs):Calls Tryz.prog 84 #[.slice ao cs.length cap] w (v2m cs w):=by
 have H:=fun wx hb=>z6f (w':=wx) h hb
 replace H:=hiT H
 obtain ⟨j0,hj,hy1,hy2,hy3⟩:=info_parts Tryz.infoMA
 clear h
 go_enter Tryz.func84,Tryz.ntmps84
 go_wp2
 go_loopw [3,8] (fun v x wr=>∃ (i:Nat) (oa:Option Addr) (oc:Nat),x = .int .i64 (i:Int) ∧ i ≤ cs.length ∧ v = .slice oa i oc ∧ z4d 241 237 w.heap.size wr (.slice oa i oc) (cs.take i) ∧ Below w.heap.size w wr) (fun _ x _=>cs.length - (intOf x).toNat)
 case atStart=>exact ⟨0,none,0,rfl,Nat.zero_le _,rfl,q2q _ _ _ _,gzT⟩
 case round =>
  obtain ⟨i,oa,oc,rfl,hi,rfl,hrow,hb⟩:=hrel
  rename World=>wr
  have hwz:=hb.size
  by_cases hlt:i < cs.length
  ·obtain ⟨g,rfl,hg,hcs⟩:=H.out wr hb omT
   obtain ⟨io,ic,xo,xc,n1,n2,n3,n4,n5,hN1,hN2⟩:=hcs i hlt
   obtain ⟨hl1,hl2⟩:=hn cs[i] (List.getElem_mem hlt)
   have htk:cs.take (i + 1) = cs.take i ++ [cs[i]]:=by rw [List.take_add_one,List.getElem?_eq_getElem hlt];rfl
   have hcl:(cs.take i).length = i:=by rw [List.length_take];omega
   obtain ⟨c,hcc⟩:∃ c,cs[i] = c:=⟨_,rfl⟩
   rw [hcc] at n1 n2 n3 n4 n5 hN1 hN2 hl1 hl2 htk
   obtain ⟨vs,hV,hO⟩:=hrow
   rw [hcl] at hO
   have N1:=hiT (fun wx (hk:Below wr.heap.size wr wx)=>q4l io ic c.cond hl1 wx (z1t hN1 hk))
   have N2:=hiT (fun wx (hk:Below wr.heap.size wr wx)=>q4l xo xc c.x hl2 wx (z1t hN2 hk))
   replace htk:=hiT htk
   replace hcl:=hiT hcl
   replace hV:=hiT hV
   replace hO:=hiT hO
   have i1:InW g wr:=⟨hg⟩
   clear hcs hcc hN1 hN2
   have hI:(i:Int) < (cs.length:Int):=by omega
   go_wp2_with fail
   go_region_held3 (fun w'=>w'.cell? ⟨wr.heap.size,0,none⟩ = some (.int .i64 c.kind) ∧ w'.cell? ⟨wr.heap.size,1,none⟩ = some (.slice io c.cond.length ic) ∧ w'.cell? ⟨wr.heap.size,2,none⟩ = some (.string ⟨c.name.toArray⟩) ∧ w'.cell? ⟨wr.heap.size,3,none⟩ = some (.slice xo c.x.length xc) ∧ w'.cell? ⟨wr.heap.size,4,none⟩ = some (.int .i64 c.n)) ((refine ⟨?_,?_,?_,?_,?_⟩ <;> first | assumption | (rw [z1f];assumption) | (simp [go_sem, *];done)))
    (first
     | ((with_reducible refine (N1.out _ gzT).mono ?_);intro e w3 hr;obtain ⟨v3,rfl,ho3,hb3⟩:=hr;obtain ⟨o3,c3,hv3⟩:=z0g ho3;subst hv3;obtain ⟨p3,rfl⟩:=toG hb3;clear hb3;(try simp only [z5j] at ho3))
     | ((with_reducible refine (N2.out _ gzT).mono ?_);intro e w4 hr;obtain ⟨v4,rfl,ho4,hb4⟩:=hr;obtain ⟨o4,c4,hv4⟩:=z0g ho4;subst hv4;obtain ⟨p4,rfl⟩:=toG hb4;clear hb4;(try simp only [z5j] at ho4))
     | ((refine step_append_lies _ rfl (.tmp 12) (.tmp 26) 187 rfl w.heap.size 237 j0 _ 5 80 Tryz.underlying187 hj hy1 hy2 hy3 rfl deT (.slice oa i oc) i vs (by simp [Act.eval]) (z0a hO.out gzT) ⟨_,0,none⟩ 1 1 [.int .i64 c.kind,.slice o3 c.cond.length c3,.string ⟨c.name.toArray⟩,.slice o4 c.x.length c4,.int .i64 c.n] rfl rfl (World.news_of_block (z0s (by simp))) (by intro u hu;simp at hu;rcases hu with rfl | rfl | rfl | rfl | rfl <;> rfl) deT (by unfold maxLen;omega) omT (Nat.le_trans hwz (Below.size (B:=wr.heap.size) (w:=wr) gzT)) _ rfl ?_);intro g' cap' w1 hown1 hgrow hat1 hg1;have hk1:=z0h (z0a hO.out gzT) (z0c (heap_alloc_new wr (.cells #[.int .i64 c.kind,.slice io c.cond.length ic,.string ⟨c.name.toArray⟩,.slice xo c.x.length xc,.int .i64 c.n] 235 (0,0))) gzT) deT hgrow;obtain ⟨u0,u1,u2,u3,u4,u5,u6⟩:=five hk1))
   have hbW:Below wr.heap.size wr ((G (pq p4 p3) (wr.alloc (.cells #[.int .i64 c.kind,.slice io c.cond.length ic,.string ⟨c.name.toArray⟩,.slice xo c.x.length xc,.int .i64 c.n] 235 (0,0)))).alloc (.cells #[.int .i64 c.kind,.slice o3 c.cond.length c3,.string ⟨c.name.toArray⟩,.slice o4 c.x.length c4,.int .i64 c.n] 237 (0,0))):=gzT
   have hb3:Below (G p3 (wr.alloc (.cells #[.int .i64 c.kind,.slice io c.cond.length ic,.string ⟨c.name.toArray⟩,.slice xo c.x.length xc,.int .i64 c.n] 235 (0,0)))).heap.size (G p3 (wr.alloc (.cells #[.int .i64 c.kind,.slice io c.cond.length ic,.string ⟨c.name.toArray⟩,.slice xo c.x.length xc,.int .i64 c.n] 235 (0,0)))) ((G (pq p4 p3) (wr.alloc (.cells #[.int .i64 c.kind,.slice io c.cond.length ic,.string ⟨c.name.toArray⟩,.slice xo c.x.length xc,.int .i64 c.n] 235 (0,0)))).alloc (.cells #[.int .i64 c.kind,.slice o3 c.cond.length c3,.string ⟨c.name.toArray⟩,.slice o4 c.x.length c4,.int .i64 c.n] 237 (0,0))):=by
    rw [← G_G]
    exact (z1e p4 _).alloc (z1e p4 _).size _
   have hb4:Below (G (pq p4 p3) (wr.alloc (.cells #[.int .i64 c.kind,.slice io c.cond.length ic,.string ⟨c.name.toArray⟩,.slice xo c.x.length xc,.int .i64 c.n] 235 (0,0)))).heap.size (G (pq p4 p3) (wr.alloc (.cells #[.int .i64 c.kind,.slice io c.cond.length ic,.string ⟨c.name.toArray⟩,.slice xo c.x.length xc,.int .i64 c.n] 235 (0,0)))) ((G (pq p4 p3) (wr.alloc (.cells #[.int .i64 c.kind,.slice io c.cond.length ic,.string ⟨c.name.toArray⟩,.slice xo c.x.length xc,.int .i64 c.n] 235 (0,0)))).alloc (.cells #[.int .i64 c.kind,.slice o3 c.cond.length c3,.string ⟨c.name.toArray⟩,.slice o4 c.x.length c4,.int .i64 c.n] 237 (0,0))):=(Below.refl _ _).alloc (Nat.le_refl _) _
   have hz3:w.heap.size ≤ (wr.alloc (.cells #[.int .i64 c.kind,.slice io c.cond.length ic,.string ⟨c.name.toArray⟩,.slice xo c.x.length xc,.int .i64 c.n] 235 (0,0))).heap.size:=Nat.le_trans hwz (by simp)
   have hz4:w.heap.size ≤ (G p3 (wr.alloc (.cells #[.int .i64 c.kind,.slice io c.cond.length ic,.string ⟨c.name.toArray⟩,.slice xo c.x.length xc,.int .i64 c.n] 235 (0,0)))).heap.size:=Nat.le_trans hz3 (z1e p3 _).size
   rw [G_G] at ho4
   have hc:AcV 241 w.heap.size ((G (pq p4 p3) (wr.alloc (.cells #[.int .i64 c.kind,.slice io c.cond.length ic,.string ⟨c.name.toArray⟩,.slice xo c.x.length xc,.int .i64 c.n] 235 (0,0)))).alloc (.cells #[.int .i64 c.kind,.slice o3 c.cond.length c3,.string ⟨c.name.toArray⟩,.slice o4 c.x.length c4,.int .i64 c.n] 237 (0,0))) c [.int .i64 c.kind,.slice o3 c.cond.length c3,.string ⟨c.name.toArray⟩,.slice o4 c.x.length c4,.int .i64 c.n]:=⟨_,_,rfl,z0m (z0a ho3 hb3) hz3,z0m (z0a ho4 hb4) hz4⟩
   have hrow2:=hiT (q6x (cs:=cs.take i) (ds:=[c]) (n:=i + 1) deT (j5k hV.out hbW) (by rw [hcl.out];exact z0a hO.out hbW) (q6y hc) hgrow (by rw [List.length_append,hcl.out];rfl) hown1)
   have hb1:Below w.heap.size w w1:=Below.grown (hb.trans (hbW.mono hwz)) hgrow (Nat.le_trans hwz hbW.size) (fun k hk=>(hO.out.lt k hk).1)
   rw [← htk.out] at hrow2
   clear hbW hb3 hb4 hc hgrow hown1 hat1 hg1 hk1 u0 u1 u2 u3 u4 u6 ho3 ho4 hV hO N1 N2
   go_wp2
   go_roundw
   case rel=>exact ⟨i + 1,_,cap',by go_num,by omega,rfl,hrow2.out,hb1⟩
   case measure=>simp [intOf];omega
  ·obtain rfl:i = cs.length:=by omega
   rw [List.take_length] at hrow
   have hI:¬ (cs.length:Int) < (cs.length:Int):=by omega
   replace hrow:=hiT hrow
   go_wp2
   go_returns
   exact ⟨_,rfl,hrow.out,hb⟩
theorem Tryz.infoMB:(Tryz.prog.info? 187).map (fun i=>(i.zero,i.size,i.bytes)) = some (some (.slice none 0 0),1,24):=by kernel_rfl
theorem Tryz.infoMT:(Tryz.prog.info? 192).map (fun i=>(i.zero,i.size,i.bytes)) = some (some (.agg #[.string ⟨#[]⟩,.slice none 0 0,.slice none 0 0,.bool false,.slice none 0 0]),5,96):=by kernel_rfl
theorem j0r {cs:List Ac} (h:q1m cs):cs.length ≤ 1000 ∧ ∀ c ∈ cs,c.cond.length ≤ 2000000 ∧ c.x.length ≤ 2000000:=⟨Nat.le_trans h.1 deT,j5r h.2⟩
def v7o (bs:List (List Ac)) (w:World) (e:Ending) (w':World):Prop:=∃ v,e = .returned v ∧ z2i ct1 w.heap.size w' v bs ∧ Below w.heap.size w w'
set_option maxRecDepth 100000 in
set_option maxHeartbeats 4000000 in
theorem q7y {B:Nat} (ao:Option Addr) (cap:Nat) (bs:List (List Ac)) (hb:bs.length ≤ 1000) (hs:∀ b ∈ bs,q1m b) (w:World) (h:z2i ct0 B w (.slice ao bs.length cap) bs):Calls Tryz.prog 54 #[.slice ao bs.length cap] w (v7o bs w):=by
 have H:=hiT (fun wx (hb:Below w.heap.size w wx)=>z1c (w':=wx) (z1q hb) h fun _ _ k=>z0a k hb)
 obtain ⟨j0,hj,hy1,hy2,hy3⟩:=info_parts Tryz.infoMB
 clear h
 go_enter Tryz.func54,Tryz.ntmps54
 go_wp2
 go_loopw [3,8] (fun v x wr=>∃ (i:Nat) (oa:Option Addr) (oc:Nat),x = .int .i64 (i:Int) ∧ i ≤ bs.length ∧ v = .slice oa i oc ∧ z2i ct1 w.heap.size wr (.slice oa i oc) (bs.take i) ∧ Below w.heap.size w wr) (fun _ x _=>bs.length - (intOf x).toNat)
 case atStart=>exact ⟨0,none,0,rfl,Nat.zero_le _,rfl,z3v _ _ _,gzT⟩
 case round =>
  obtain ⟨i,oa,oc,rfl,hi,rfl,hrow,hb⟩:=hrel
  rename World=>wr
  have hwz:=hb.size
  by_cases hlt:i < bs.length
  ·obtain ⟨g,xo,xc,rfl,hg,hc,hA⟩:=v1g (H.out wr hb) i hlt
   obtain ⟨b1,b2⟩:=j0r (hs bs[i] (List.getElem_mem hlt))
   have htk:bs.take (i + 1) = bs.take i ++ [bs[i]]:=by rw [List.take_add_one,List.getElem?_eq_getElem hlt];rfl
   have hcl:(bs.take i).length = i:=by rw [List.length_take];omega
   have A:=j6o xo xc bs[i] b1 b2 wr (q5y hA)
   generalize bs[i] = c at *
   obtain ⟨vs,hV,hO⟩:=hrow
   rw [hcl] at hO
   replace A:=hiT A
   replace htk:=hiT htk
   replace hcl:=hiT hcl
   replace hV:=hiT hV
   replace hO:=hiT hO
   have i1:InW g wr:=⟨hg⟩
   have hI:(i:Int) < (bs.length:Int):=by omega
   clear hA
   go_wp2_with fail
   refine A.out.mono ?_
   intro e w1 hr
   obtain ⟨v1,rfl,hr1,hb1⟩:=hr
   obtain ⟨ro,rc,hv⟩:=z6d hr1
   subst hv
   have hbw:Below w.heap.size w w1:=hb.trans (hb1.mono hwz)
   have hwz1:=hbw.size
   have hz1:=hb1.size
   replace hr1:=hiT hr1
   clear A
   go_wp2_with (at_builtin;refine wpList_append_lies _ rfl _ _ 107 rfl w.heap.size 187 j0 _ 1 24 Tryz.underlying107 hj hy1 hy2 hy3 rfl deT (.slice oa i oc) i vs rfl (z0a hO.out gzT) ⟨_,0,none⟩ 1 1 [.slice ro c.length rc] rfl rfl (World.news_of_block (z0s (by simp))) (by intro u hu;simp at hu;subst hu;rfl) deT (by unfold maxLen;omega) omT (by simp [go_sem];omega) _ rfl ?_)
   intro g' cap' w2 hown1 hgrow hat1 hg1
   have hbl:Below w1.heap.size w1 (w1.alloc (.cells #[.slice ro c.length rc] 187 (0,0))):=gzT
   have hbo:=hb1.trans (hbl.mono hb1.size)
   have hO2:=z0a hO.out hbo
   have hfg:=z8v (τ:=ct1) (B:=w.heap.size) hO2 deT deT deT hgrow
   have hnew:=q5e hfg (z3h hV.out fun _ _=>q4e (z1q hbo)) (q2r (z1q hbl) (z6c hr1.out hwz)) (by rw [hcl.out];exact hown1)
   rw [← htk.out] at hnew
   have hb3:Below w.heap.size w w2:=Below.grown (hbw.trans (hbl.mono hwz1)) hgrow (Nat.le_trans hwz1 hbl.size) (fun k hk=>(hO.out.lt k hk).1)
   replace hnew:=hiT hnew
   clear hbl hbo hO2 hfg hown1 hgrow hat1 hg1 hO hV hr1 hb hbw
   go_wp2
   go_roundw
   case rel=>exact ⟨i + 1,_,cap',by go_num,by omega,rfl,hnew.out,hb3⟩
   case measure=>simp [intOf];omega
  ·obtain rfl:i = bs.length:=by omega
   rw [List.take_length] at hrow
   have hI:¬ (bs.length:Int) < (bs.length:Int):=by omega
   replace hrow:=hiT hrow
   go_wp2
   go_returns
   exact ⟨_,rfl,hrow.out,hb⟩
def x1l (B:Nat) (ts:List Tr) (w:World) (e:Ending) (w':World):Prop:=∃ v vs,e = .returned v ∧ Vs (TrR ct1 B w') ts vs ∧ w'.ownsRow w.heap.size ct1.tr 5 v ts.length vs ∧ Below w.heap.size w w'
set_option maxRecDepth 100000 in
set_option maxHeartbeats 4000000 in
theorem y5y {B:Nat} (ao:Option Addr) (cap:Nat) (ts:List Tr) (hts:ts.length ≤ 1000) (hs:∀ t ∈ ts,SmallT t) (w:World) (hBw:B ≤ w.heap.size) (h:z9m ct0 B w (.slice ao ts.length cap) ts):Calls Tryz.prog 55 #[.slice ao ts.length cap] w (x1l B ts w):=by
 have H:=hiT (fun wx (hb:Below w.heap.size w wx)=>z4x (w':=wx) (z1q hb) h fun _ _ k=>z0a k hb)
 obtain ⟨j0,hj,hy1,hy2,hy3⟩:=info_parts Tryz.infoMT
 clear h
 go_enter Tryz.func55,Tryz.ntmps55
 go_wp2
 go_loopw [3,8] (fun v x wr=>∃ (i:Nat) (oa:Option Addr) (oc:Nat) (vs:List Value),x = .int .i64 (i:Int) ∧ i ≤ ts.length ∧ v = .slice oa i oc ∧ Vs (TrR ct1 B wr) (ts.take i) vs ∧ wr.ownsRow w.heap.size ct1.tr 5 (.slice oa i oc) i vs ∧ Below w.heap.size w wr) (fun _ x _=>ts.length - (intOf x).toNat)
 case atStart=>exact ⟨0,none,0,[],rfl,Nat.zero_le _,rfl,.nil,World.ownsRow_nil _ _ _ _,gzT⟩
 case round =>
  obtain ⟨i,oa,oc,vs,rfl,hi,rfl,hV,hO,hb⟩:=hrel
  rename World=>wr
  have hwz:=hb.size
  by_cases hlt:i < ts.length
  ·obtain ⟨g,io,ic,go,gc,uo,uc,rfl,hg,n1,n2,n3,n4,n5,hN,hG,hA⟩:=v6q (H.out wr hb) i hlt
   obtain ⟨hc1,hc2,hc3⟩:=hs ts[i] (List.getElem_mem hlt)
   obtain ⟨b1,b2⟩:=j0r hc3
   have htk:ts.take (i + 1) = ts.take i ++ [ts[i]]:=by rw [List.take_add_one,List.getElem?_eq_getElem hlt];rfl
   obtain ⟨c,hcc⟩:∃ c,ts[i] = c:=⟨_,rfl⟩
   rw [hcc] at n1 n2 n3 n4 n5 hN hG hA hc1 hc2 b1 b2 htk
   have N1:=hiT (fun wx (hk:Below wr.heap.size wr wx)=>q4l io ic c.cond omT wx (z1t (j3u hN) hk))
   have N2:=hiT (fun wx (hk:Below wr.heap.size wr wx)=>j6o uo uc c.thn b1 b2 wx (z6f (q5y hA) hk))
   replace htk:=hiT htk
   replace hV:=hiT hV
   replace hO:=hiT hO
   replace hG:=hiT hG
   have i1:InW g wr:=⟨hg⟩
   clear hcc hN hA hc1 hc2 b1 b2 hc3
   have hI:(i:Int) < (ts.length:Int):=by omega
   go_wp2_with fail
   go_region_held3 (fun w'=>w'.cell? ⟨wr.heap.size,0,none⟩ = some (str c.event) ∧ w'.cell? ⟨wr.heap.size,1,none⟩ = some (.slice io c.cond.length ic) ∧ w'.cell? ⟨wr.heap.size,2,none⟩ = some (.slice go c.goes.length gc) ∧ w'.cell? ⟨wr.heap.size,3,none⟩ = some (.bool c.inner) ∧ w'.cell? ⟨wr.heap.size,4,none⟩ = some (.slice uo c.thn.length uc)) ((refine ⟨?_,?_,?_,?_,?_⟩ <;> first | assumption | (rw [z1f];assumption) | (simp [go_sem, *];done)))
    (first
     | ((with_reducible refine (N1.out _ gzT).mono ?_);intro e w3 hr;obtain ⟨v3,rfl,ho3,hb3⟩:=hr;obtain ⟨o3,c3,hv3⟩:=z0g ho3;subst hv3;obtain ⟨p3,rfl⟩:=toG hb3;clear hb3;(try simp only [z5j] at ho3))
     | ((with_reducible refine (N2.out _ gzT).mono ?_);intro e w4 hr;obtain ⟨v4,rfl,ho4,hb4⟩:=hr;obtain ⟨o4,c4,hv4⟩:=z6d ho4;subst hv4;obtain ⟨p4,rfl⟩:=toG hb4;clear hb4;(try simp only [z5j] at ho4))
     | ((refine step_append_lies _ rfl (.tmp 12) (.tmp 26) 108 rfl w.heap.size 192 j0 _ 5 96 Tryz.underlying108 hj hy1 hy2 hy3 rfl deT (.slice oa i oc) i vs (by simp [Act.eval]) (z0a hO.out gzT) ⟨_,0,none⟩ 1 1 [str c.event,.slice o3 c.cond.length c3,.slice go c.goes.length gc,.bool c.inner,.slice o4 c.thn.length c4] rfl rfl (World.news_of_block (z0s (by simp))) (by intro u hu;simp at hu;rcases hu with rfl | rfl | rfl | rfl | rfl <;> rfl) deT (by unfold maxLen;omega) omT (Nat.le_trans hwz (Below.size (B:=wr.heap.size) (w:=wr) gzT)) _ rfl ?_);intro g' cap' w1 hown1 hgrow hat1 hg1;have hk1:=z0h (z0a hO.out gzT) (z0c (heap_alloc_new wr (.cells #[str c.event,.slice io c.cond.length ic,.slice go c.goes.length gc,.bool c.inner,.slice uo c.thn.length uc] 162 (0,0))) gzT) deT hgrow;obtain ⟨u0,u1,u2,u3,u4,u5,u6⟩:=five hk1))
   have hbW:Below wr.heap.size wr ((G (pq p4 p3) (wr.alloc (.cells #[str c.event,.slice io c.cond.length ic,.slice go c.goes.length gc,.bool c.inner,.slice uo c.thn.length uc] 162 (0,0)))).alloc (.cells #[str c.event,.slice o3 c.cond.length c3,.slice go c.goes.length gc,.bool c.inner,.slice o4 c.thn.length c4] 192 (0,0))):=gzT
   have hb3:Below (G p3 (wr.alloc (.cells #[str c.event,.slice io c.cond.length ic,.slice go c.goes.length gc,.bool c.inner,.slice uo c.thn.length uc] 162 (0,0)))).heap.size (G p3 (wr.alloc (.cells #[str c.event,.slice io c.cond.length ic,.slice go c.goes.length gc,.bool c.inner,.slice uo c.thn.length uc] 162 (0,0)))) ((G (pq p4 p3) (wr.alloc (.cells #[str c.event,.slice io c.cond.length ic,.slice go c.goes.length gc,.bool c.inner,.slice uo c.thn.length uc] 162 (0,0)))).alloc (.cells #[str c.event,.slice o3 c.cond.length c3,.slice go c.goes.length gc,.bool c.inner,.slice o4 c.thn.length c4] 192 (0,0))):=by
    rw [← G_G]
    exact (z1e p4 _).alloc (z1e p4 _).size _
   have hb4:Below (G (pq p4 p3) (wr.alloc (.cells #[str c.event,.slice io c.cond.length ic,.slice go c.goes.length gc,.bool c.inner,.slice uo c.thn.length uc] 162 (0,0)))).heap.size (G (pq p4 p3) (wr.alloc (.cells #[str c.event,.slice io c.cond.length ic,.slice go c.goes.length gc,.bool c.inner,.slice uo c.thn.length uc] 162 (0,0)))) ((G (pq p4 p3) (wr.alloc (.cells #[str c.event,.slice io c.cond.length ic,.slice go c.goes.length gc,.bool c.inner,.slice uo c.thn.length uc] 162 (0,0)))).alloc (.cells #[str c.event,.slice o3 c.cond.length c3,.slice go c.goes.length gc,.bool c.inner,.slice o4 c.thn.length c4] 192 (0,0))):=(Below.refl _ _).alloc (Nat.le_refl _) _
   have hz3:B ≤ (wr.alloc (.cells #[str c.event,.slice io c.cond.length ic,.slice go c.goes.length gc,.bool c.inner,.slice uo c.thn.length uc] 162 (0,0))).heap.size:=Nat.le_trans hBw (Nat.le_trans hwz (by simp))
   have hz4:B ≤ (G p3 (wr.alloc (.cells #[str c.event,.slice io c.cond.length ic,.slice go c.goes.length gc,.bool c.inner,.slice uo c.thn.length uc] 162 (0,0)))).heap.size:=Nat.le_trans hz3 (z1e p3 _).size
   rw [G_G] at ho4
   have hc:TrR ct1 B ((G (pq p4 p3) (wr.alloc (.cells #[str c.event,.slice io c.cond.length ic,.slice go c.goes.length gc,.bool c.inner,.slice uo c.thn.length uc] 162 (0,0)))).alloc (.cells #[str c.event,.slice o3 c.cond.length c3,.slice go c.goes.length gc,.bool c.inner,.slice o4 c.thn.length c4] 192 (0,0))) c [str c.event,.slice o3 c.cond.length c3,.slice go c.goes.length gc,.bool c.inner,.slice o4 c.thn.length c4]:=⟨_,_,_,rfl,z0m (z0a ho3 hb3) hz3,z0a hG.out hbW,z6c (z6e ho4 hb4) hz4⟩
   have hO2:=z0a hO.out hbW
   have hfg:=z8v (τ:=ct1) (B:=B) hO2 deT deT deT hgrow
   have hV2:=hiT (q9s (z3h (z3h hV.out fun _ _=>q1u (z1q hbW)) fun _ _=>q1u hfg) (q1u hfg hc))
   have hown2:=hiT hown1
   have hb1:Below w.heap.size w w1:=Below.grown (hb.trans (hbW.mono hwz)) hgrow (Nat.le_trans hwz hbW.size) (fun k hk=>(hO.out.lt k hk).1)
   rw [← htk.out] at hV2
   clear hbW hb3 hb4 hc hgrow hown1 hat1 hg1 hk1 u0 u1 u2 u3 u4 u6 ho3 ho4 hV hO N1 N2 hfg hO2 hG
   go_wp2
   go_roundw
   case rel=>exact ⟨i + 1,_,cap',_,by go_num,by omega,rfl,hV2.out,hown2.out,hb1⟩
   case measure=>simp [intOf];omega
  ·obtain rfl:i = ts.length:=by omega
   rw [List.take_length] at hV
   have hI:¬ (ts.length:Int) < (ts.length:Int):=by omega
   replace hV:=hiT hV
   replace hO:=hiT hO
   go_wp2
   go_returns
   exact ⟨_,_,rfl,hV.out,hO.out,hb⟩
end Go.Proofs.YtacnlghljmgdiaaGreatDoor
