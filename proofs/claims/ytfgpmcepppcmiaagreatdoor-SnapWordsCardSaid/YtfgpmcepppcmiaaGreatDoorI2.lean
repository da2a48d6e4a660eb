/- Several texts of this proof, joined: KV, VK, VQ, VP, VR. -/
import Derived.Test.YtfgpmcepppcmiaaGreatDoorY7
import Derived.Test.YtfgpmcepppcmiaaGreatDoorY9
import Derived.WalkKit
import Derived.ProofKit
import Derived.OpenShut
import Derived.Handy
import Derived.BigQuiet
import Derived.OwnWalk
import Derived.Deep.AppendLies
import Derived.Lib.Hide
import Derived.WalkSmall
import Derived.WalkLawsBesides
import Derived.Test.YtfgpmcepppcmiaaGreatDoorV5
import Derived.Test.YtfgpmcepppcmiaaGreatDoorV9
import Derived.Test.YtfgpmcepppcmiaaGreatDoorV7
import Derived.Test.YtfgpmcepppcmiaaGreatDoorV8
import Derived.Test.YtfgpmcepppcmiaaGreatDoorY2
import Derived.Deep.RegionHeld3
namespace Go.Proofs.YtfgpmcepppcmiaaGreatDoor
open Go.RowKit
def varC (v:ByteArray × Int):List Value:=[.string v.1,.int .i64 v.2]
def varsC (vs:List (ByteArray × Int)):List Value:=vs.flatMap varC
theorem varsC_take (vs:List (ByteArray × Int)) (i:Nat) (h:i < vs.length):varsC (vs.take (i + 1)) = varsC (vs.take i) ++ varC vs[i]:=by
 unfold varsC
 rw [List.take_succ_eq_append_getElem h,List.flatMap_append,List.flatMap_cons,List.flatMap_nil,List.append_nil]
theorem varsC_at:∀ (vs:List (ByteArray × Int)) (i:Nat) (h:i < vs.length) (j:Nat),j < 2 → (varsC vs)[i * 2 + j]? = (varC vs[i])[j]?
 | [],i,h,_,_=>absurd h (Nat.not_lt_zero _)
 | t :: r,0,_,j,hj=>by
  unfold varsC
  rw [List.flatMap_cons,Nat.zero_mul,Nat.zero_add,List.getElem?_append_left (by simpa [varC] using hj)]
  rfl
 | t :: r,i + 1,h,j,hj=>by
  have ih:=varsC_at r i (by simpa using h) j hj
  unfold varsC at *
  rw [List.flatMap_cons,List.getElem?_append_right (by simp [varC];omega),show (i + 1) * 2 + j - (varC t).length = i * 2 + j by simp [varC];omega,ih]
  rfl
theorem vars_own {w:World} {B cap:Nat} {e:TypeId} {na:Option Addr} {vs:List (ByteArray × Int)} (h:w.ownsRow B e 2 (.slice na vs.length cap) vs.length (varsC vs)):VarsAt w na vs:=by
 intro h0
 rcases h.2 with ⟨_,hn⟩ | ⟨g,cap',cur,hv,hb,hg,_⟩
 ·omega
 ·cases hv
  have hc:=h.cells (g:=g) rfl
  have hadd:∀ j,(⟨g,0,none⟩:Addr).add j = ⟨g,j,none⟩:=fun j=>by unfold Addr.add;split <;> simp_all
  refine ⟨g,0,rfl,(Array.getElem?_eq_some_iff.1 hg).1,fun i hi=>?_⟩
  rw [Nat.zero_add]
  refine ⟨?_,?_⟩
  ·rw [← hadd];exact hc _ _ ((varsC_at vs i hi 0 (by decide)).trans rfl)
  ·rw [← hadd];exact hc _ _ ((varsC_at vs i hi 1 (by decide)).trans rfl)
end Go.Proofs.YtfgpmcepppcmiaaGreatDoor
namespace Go.Proofs.YtfgpmcepppcmiaaGreatDoor
open Go.RowKit
theorem Tryz.infoVK:(Tryz.prog.info? 229).map (fun i=>(i.zero,i.size,i.bytes)) = some (some (.agg #[.string ⟨#[]⟩,.int .i64 0]),2,24):=by kernel_rfl
theorem Tryz.infoVS:(Tryz.prog.info? 9).map (fun i=>(i.zero,i.size,i.bytes)) = some (some (.string ⟨#[]⟩),1,16):=by kernel_rfl
theorem scV_len (vs:List Vr):(scV vs).length = vs.length:=by simp [scV]
theorem scV_take (vs:List Vr) (i:Nat) (h:i < vs.length):varsC ((scV vs).take (i + 1)) = varsC ((scV vs).take i) ++ [str vs[i].name,.int .i64 vs[i].vk]:=by
 rw [varsC_take (scV vs) i (by rw [scV_len];exact h)]
 simp [scV,varC]
theorem vstrs_own {w:World} {B cap:Nat} {e:TypeId} {na:Option Addr} {ss:List ByteArray} (h:w.ownsRow B e 1 (.slice na ss.length cap) ss.length (ss.map Value.string)):StrsAt w na ss:=by
 intro h0
 obtain ⟨g,cap',e,hg,_,_,hc⟩:=own_head h h0
 cases e
 exact ⟨g,0,rfl,hg,fun i hi=>by rw [Nat.zero_add];exact hc _ _ (by rw [List.getElem?_map,List.getElem?_eq_getElem hi];rfl)⟩
theorem scS_next {ss:List St} {i:Nat} (h:i < ss.length):scS (ss.take (i + 1)) = scS (ss.take i) ++ if pastS ss[i] then [] else [⟨ss[i].name.toArray⟩]:=by
 unfold scS
 rw [List.take_succ_eq_append_getElem h,List.filter_append,List.map_append]
 cases hp:pastS ss[i] <;> simp [hp]
theorem scS_le (ss:List St):(scS ss).length ≤ ss.length:=by
 unfold scS
 rw [List.length_map]
 exact List.length_filter_le _ _
def ScIs (vs:List (ByteArray × Int)) (ss:List ByteArray) (w:World) (e:Ending) (w':World):Prop:=∃ oa oc pa pc,e = .returned (.agg #[.slice oa vs.length oc,.slice pa ss.length pc]) ∧ w'.ownsRow w.heap.size 229 2 (.slice oa vs.length oc) vs.length (varsC vs) ∧ w'.ownsRow w.heap.size 9 1 (.slice pa ss.length pc) ss.length (ss.map Value.string) ∧ Below w.heap.size w w'
structure ScF (b:Nat) (sa:Option Addr) (n sc:Nat) (v1 v2:Value) (w:World):Prop where
 ch:∃ a1 a2,w.heap[b]? = some (.cells #[a1,a2,.slice sa n sc] 75 (0,0))
 an:w.heap[b + 1]? = some (.cells #[.slice none 0 0,.slice none 0 0] 173 (0,0))
 sc:w.heap[b + 1 + 1]? = some (.cells #[v1,v2] 173 (0,0))
section
variable {b:Nat} {sa:Option Addr} {n sc:Nat} {v1 v2:Value} {w w':World}
theorem scF_cells (h:ScF b sa n sc v1 v2 w):w.cell? ⟨b,2,none⟩ = some (.slice sa n sc) ∧ w.cell? ⟨b + 1,0,none⟩ = some (.slice none 0 0) ∧ w.cell? ⟨b + 1,1,none⟩ = some (.slice none 0 0) ∧ w.cell? ⟨b + 1 + 1,0,none⟩ = some v1 ∧ w.cell? ⟨b + 1 + 1,1,none⟩ = some v2 ∧
  w.frozen? ⟨b + 1,0,none⟩ = false ∧ w.frozen? ⟨b + 1,1,none⟩ = false ∧ w.frozen? ⟨b + 1 + 1,0,none⟩ = false ∧ w.frozen? ⟨b + 1 + 1,1,none⟩ = false:=by
 obtain ⟨⟨a1,a2,h1⟩,h2,h3⟩:=h
 exact ⟨(cell_of_row w b 2 _ _ _ h1).trans rfl,(cell_of_row w _ 0 _ _ _ h2).trans rfl,(cell_of_row w _ 1 _ _ _ h2).trans rfl,(cell_of_row w _ 0 _ _ _ h3).trans rfl,(cell_of_row w _ 1 _ _ _ h3).trans rfl,frozen_of_row w _ 0 _ _ h2,frozen_of_row w _ 1 _ _ h2,frozen_of_row w _ 0 _ _ h3,frozen_of_row w _ 1 _ _ h3⟩
theorem scF_keep {m:Nat} (h:ScF b sa n sc v1 v2 w) (hb:Below m w w') (hm:b + 1 + 1 < m):ScF b sa n sc v1 v2 w':=by
 obtain ⟨⟨a1,a2,h1⟩,h2,h3⟩:=h
 exact ⟨⟨a1,a2,(hb.block b (by omega)).trans h1⟩,(hb.block _ (by omega)).trans h2,(hb.block _ (by omega)).trans h3⟩
theorem scF_set1 {u:Value} {s2:Nat} (h:ScF b sa n sc v1 v2 w) (hs:s2 = b + 1 + 1):ScF b sa n sc u v2 (w.setCell ⟨s2,0,none⟩ u):=by
 subst hs
 obtain ⟨⟨a1,a2,h1⟩,h2,h3⟩:=h
 exact ⟨⟨a1,a2,(set_heap (by omega)).trans h1⟩,(set_heap (by omega)).trans h2,blk_set h3⟩
theorem scF_set2 {u:Value} {s2:Nat} (h:ScF b sa n sc v1 v2 w) (hs:s2 = b + 1 + 1):ScF b sa n sc v1 u (w.setCell ⟨s2,1,none⟩ u):=by
 subst hs
 obtain ⟨⟨a1,a2,h1⟩,h2,h3⟩:=h
 exact ⟨⟨a1,a2,(set_heap (by omega)).trans h1⟩,(set_heap (by omega)).trans h2,blk_set h3⟩
end
set_option maxRecDepth 100000 in
set_option maxHeartbeats 4000000 in
theorem scope_any {c:Ch} {B:Nat} {rv:Nat → Value} {va sa:Option Addr} {vc sc:Nat} (hv16:c.vars.length ≤ 16) (h49:c.states.length ≤ 49) (hs:0 < c.states.length) (w:World) (H:ChV ct0 B w c rv (.slice va c.vars.length vc) (.slice sa c.states.length sc)) :
  Calls Tryz.prog 79 #[.agg #[str c.name,.slice va c.vars.length vc,.slice sa c.states.length sc]] w (ScIs (scV c.vars) (scS (c.states.drop 1)) w):=by
 have C:=Lib.hid (fun wx (hb:Below w.heap.size w wx)=>chV_keep H hb)
 have htk:=Lib.hid (fun i (h:i < c.vars.length)=>scV_take c.vars i h)
 obtain ⟨j0,hj,hy1,hy2,hy3⟩:=info_parts Tryz.infoVK
 obtain ⟨kz,hk,hz1,hz2,hz3⟩:=info_parts Tryz.infoVS
 have hvl:=scV_len c.vars
 obtain ⟨g0,cap0,hsa,hg0,hcap,_,_⟩:=own_head H.sts hs
 cases hsa
 have hD:Hid (∀ i,i < (c.states.drop 1).length → ∃ h:i + 1 < c.states.length,(c.states.drop 1)[i]? = some c.states[i + 1]):=Lib.hid fun i hi=>by
  rw [List.length_drop] at hi
  exact ⟨by omega,by rw [List.getElem?_drop,List.getElem?_eq_getElem (by omega)];simp [Nat.add_comm]⟩
 have hDl:(c.states.drop 1).length = c.states.length - 1:=List.length_drop ..
 generalize c.states.drop 1 = D at *
 have hDt:=Lib.hid (List.take_length (l:=D))
 clear H
 go_enter Tryz.func79,Tryz.ntmps79
 go_wp2
 generalize hW:(((w.alloc (.cells #[str c.name,.slice va c.vars.length vc,.slice (some ⟨g0,0,none⟩) c.states.length sc] 75)).alloc (.cells #[.slice none 0 0,.slice none 0 0] 173)).alloc (.cells #[.slice none 0 0,.slice none 0 0] 173)) = W0
 have hb0:Below w.heap.size w W0:=by rw [← hW];(first | exact gwT | exact lzT)
 have hz0:W0.heap.size = w.heap.size + 3:=by rw [← hW];simp
 have f0:ScF w.heap.size (some ⟨g0,0,none⟩) c.states.length sc (.slice none 0 0) (.slice none 0 0) W0:=by
  rw [← hW]
  refine ⟨?_,?_,?_⟩
  ·exact ⟨_,_,blk_old (blk_old (heap_alloc_new w _))⟩
  ·exact blk_old (new_at (by simp))
  ·exact new_at (by simp)
 clear hW
 generalize hs1:w.heap.size + 1 = s1 at *
 generalize hs2:s1 + 1 = s2 at *
 go_loopw [11] (fun x wr=>∃ (i:Nat) (oa:Option Addr) (oc:Nat),x = .int .i64 (i:Int) ∧ i ≤ c.vars.length ∧ ScF w.heap.size (some ⟨g0,0,none⟩) c.states.length sc (.slice oa i oc) (.slice none 0 0) wr ∧ wr.ownsRow (w.heap.size + 3) 229 2 (.slice oa i oc) i (varsC ((scV c.vars).take i)) ∧ Below w.heap.size w wr) (fun x _=>c.vars.length - (intOf x).toNat)
 case atStart=>exact ⟨0,none,0,rfl,Nat.zero_le _,f0,World.ownsRow_nil _ _ _ _,hb0⟩
 case round =>
  obtain ⟨i,oa,oc,rfl,hi,f1,hown,hb⟩:=hrel
  rename World=>wr
  have hwz:=hb.size
  obtain ⟨k0,k1,k2,k3,k4,k5,k6,k7,k8⟩:=scF_cells f1
  rw [hs1] at k1 k2 k5 k6
  rw [hs1,hs2] at k3 k4 k7 k8
  have i0:InW w.heap.size wr:=⟨World.block_lt_of_cell? _ _ k0⟩
  have j1:InW s1 wr:=⟨World.block_lt_of_cell? _ _ k1⟩
  have j2:InW s2 wr:=⟨World.block_lt_of_cell? _ _ k3⟩
  have hlt2:=j2.lt
  have hownK:=Lib.hid hown
  clear hown
  by_cases hlt:i < c.vars.length
  ·obtain ⟨g,rfl,hg,n1,n2,n3,n4⟩:=var_at (C.out wr hb) i hlt
   have ht:=Lib.hid (htk.out i hlt)
   generalize c.vars[i] = v at *
   have i1:InW g wr:=⟨hg⟩
   have hI:(i:Int) < (c.vars.length:Int):=by omega
   go_wp2_with (at_builtin;refine wpList_append_lies _ rfl _ _ 171 rfl (w.heap.size + 3) 229 j0 _ 2 24 Tryz.underlying171 hj hy1 hy2 hy3 rfl (by decide) (.slice oa i oc) i (varsC ((scV c.vars).take i)) rfl (owns_below hownK.out (by (first | exact gwT | exact lzT))) ⟨_,0,none⟩ 1 1 [str v.name,.int .i64 v.vk] rfl rfl (World.news_of_block (new_at (by simp))) (by intro u hu;simp at hu;rcases hu with rfl | rfl <;> rfl) (by decide) (by unfold maxLen;omega) (by omega) (by simp [go_sem];omega) _ rfl ?_)
   intro g' cap' w2 hown1 hgrow hat1 hg1
   have hbA:Below (w.heap.size + 3) wr w2:=Below.grown (by (first | exact gwT | exact lzT)) hgrow (by simp [go_sem];omega) (fun k hk=>(hownK.out.lt k hk).1)
   have f2:=scF_keep f1 hbA (by omega)
   obtain ⟨k0',k1',k2',k3',k4',k5',k6',k7',k8'⟩:=scF_cells f2
   rw [hs1] at k1' k2' k5' k6'
   rw [hs1,hs2] at k3' k4' k7' k8'
   have hown2:=Lib.hid hown1
   have hqz:=hbA.size
   clear hown1 hgrow hat1 hg1 hownK k0 k1 k2 k3 k4 k5 k6 k7 k8 i0 j1 j2 n1 n2 n3 n4 i1
   go_wp2
   go_roundw
   case rel=>exact ⟨i + 1,_,cap',by go_num,by omega,scF_set1 f2 (by omega),by rw [ht.out];exact ownsRow_setCell_below hown2.out (by show s2 < _;omega) _,Below.setCell (hb.trans (hbA.mono (by omega))) (show w.heap.size ≤ s2 by omega) _⟩
   case measure=>simp [intOf];omega
  ·obtain rfl:i = c.vars.length:=by omega
   have hI:¬ (c.vars.length:Int) < (c.vars.length:Int):=by omega
   have hVr:Hid (wr.ownsRow (w.heap.size + 3) 229 2 (.slice oa c.vars.length oc) c.vars.length (varsC (scV c.vars))):=Lib.hid (by
    have:=hownK.out
    rw [← hvl,List.take_length] at this
    rw [hvl] at this
    exact this)
   have hL1:(1:Int) ≤ (c.states.length:Int):=by omega
   clear hownK htk f0 hb0 hz0
   go_wp2
   ·go_loopw [31] (fun x wq=>∃ (j:Nat) (pa:Option Addr) (pc:Nat),x = .int .i64 (j:Int) ∧ j ≤ c.states.length - 1 ∧ ScF w.heap.size (some ⟨g0,0,none⟩) c.states.length sc (.slice oa c.vars.length oc) (.slice pa (scS (D.take j)).length pc) wq ∧ wq.ownsRow (w.heap.size + 3) 9 1 (.slice pa (scS (D.take j)).length pc) (scS (D.take j)).length ((scS (D.take j)).map Value.string) ∧ wq.ownsRow (w.heap.size + 3) 229 2 (.slice oa c.vars.length oc) c.vars.length (varsC (scV c.vars)) ∧ Below w.heap.size w wq) (fun x _=>c.states.length - 1 - (intOf x).toNat)
    case atStart=>exact ⟨0,none,0,rfl,Nat.zero_le _,f1,World.ownsRow_nil _ _ _ _,hVr.out,hb⟩
    case round =>
     obtain ⟨j,pa,pc,rfl,hj,f3,hown,hvr,hb3⟩:=hrel
     rename World=>wq
     clear f1 hVr hb k0 k1 k2 k3 k4 k5 k6 k7 k8 i0 j1 j2 hlt2 hlt hwz
     have hwz:=hb3.size
     obtain ⟨k0,k1,k2,k3,k4,k5,k6,k7,k8⟩:=scF_cells f3
     rw [hs1] at k1 k2 k5 k6
     rw [hs1,hs2] at k3 k4 k7 k8
     have i0:InW w.heap.size wq:=⟨World.block_lt_of_cell? _ _ k0⟩
     have j1:InW s1 wq:=⟨World.block_lt_of_cell? _ _ k1⟩
     have j2:InW s2 wq:=⟨World.block_lt_of_cell? _ _ k3⟩
     have hlt2:=j2.lt
     have hownK:=Lib.hid hown
     have hvK:=Lib.hid hvr
     clear hown hvr
     have hn1:c.states.length = 1:=by omega
     by_cases hlj:j < c.states.length - 1
     ·omega
     ·obtain rfl:j = c.states.length - 1:=by omega
      have hI2:¬ ((c.states.length - 1:Nat):Int) < ((c.states.length - 1:Nat):Int):=by omega
      have hT:=hDt.out
      rw [hDl] at hT
      rw [hT] at hownK k4
      have hvS:=hvK.out
      rw [← hvl] at hvS
      replace hvS:=Lib.hid hvS
      clear hvK
      have m0:=World.cell?_setCell_same wq ⟨s1,0,none⟩ (.slice oa c.vars.length oc) k1
      have m1:((wq.setCell ⟨s1,0,none⟩ (.slice oa c.vars.length oc)).setCell ⟨s1,1,none⟩ (.slice pa (scS D).length pc)).cell? ⟨s1,1,none⟩ = some (.slice pa (scS D).length pc):=World.cell?_setCell_same (u := .slice none 0 0) _ _ _ (by simp [go_sem,k2])
      go_wp2
      refine bodyPost_ret (v := .agg #[.slice oa c.vars.length oc,.slice pa (scS D).length pc]) (by simp [results,Tryz.f79,go_sem,m0,m1]) rfl ?_
      refine ⟨oa,oc,pa,pc,by rw [hvl],?_,?_,?_⟩
      ·exact owns_base (B:=w.heap.size + 3) (hB:=by omega) (ownsRow_setCell_below (ownsRow_setCell_below hvS.out (by show s1 < _;omega) _) (by show s1 < _;omega) _)
      ·exact owns_base (B:=w.heap.size + 3) (hB:=by omega) (ownsRow_setCell_below (ownsRow_setCell_below hownK.out (by show s1 < _;omega) _) (by show s1 < _;omega) _)
      ·exact Below.setCell (Below.setCell hb3 (show w.heap.size ≤ s1 by omega) _) (show w.heap.size ≤ s1 by omega) _
   ·go_loopw [31] (fun x wq=>∃ (j:Nat) (pa:Option Addr) (pc:Nat),x = .int .i64 (j:Int) ∧ j ≤ c.states.length - 1 ∧ ScF w.heap.size (some ⟨g0,0,none⟩) c.states.length sc (.slice oa c.vars.length oc) (.slice pa (scS (D.take j)).length pc) wq ∧ wq.ownsRow (w.heap.size + 3) 9 1 (.slice pa (scS (D.take j)).length pc) (scS (D.take j)).length ((scS (D.take j)).map Value.string) ∧ wq.ownsRow (w.heap.size + 3) 229 2 (.slice oa c.vars.length oc) c.vars.length (varsC (scV c.vars)) ∧ Below w.heap.size w wq) (fun x _=>c.states.length - 1 - (intOf x).toNat)
    case atStart=>exact ⟨0,none,0,rfl,Nat.zero_le _,f1,World.ownsRow_nil _ _ _ _,hVr.out,hb⟩
    case round =>
     obtain ⟨j,pa,pc,rfl,hj,f3,hown,hvr,hb3⟩:=hrel
     rename World=>wq
     clear f1 hVr hb k0 k1 k2 k3 k4 k5 k6 k7 k8 i0 j1 j2 hlt2 hlt hwz
     have hwz:=hb3.size
     obtain ⟨k0,k1,k2,k3,k4,k5,k6,k7,k8⟩:=scF_cells f3
     rw [hs1] at k1 k2 k5 k6
     rw [hs1,hs2] at k3 k4 k7 k8
     have i0:InW w.heap.size wq:=⟨World.block_lt_of_cell? _ _ k0⟩
     have j1:InW s1 wq:=⟨World.block_lt_of_cell? _ _ k1⟩
     have j2:InW s2 wq:=⟨World.block_lt_of_cell? _ _ k3⟩
     have hlt2:=j2.lt
     have hownK:=Lib.hid hown
     have hvK:=Lib.hid hvr
     clear hown hvr
     by_cases hlj:j < c.states.length - 1
     ·obtain ⟨g,eo,ec,xo,xc,to',tc,hge,hg,n1,n2,n3,n4,n5,n6,n7,_,_,_⟩:=st_at (C.out wq hb3) (j + 1) (by omega)
      cases hge
      obtain ⟨_,hDj⟩:=hD.out j (by omega)
      obtain ⟨hjD,hDj⟩:=List.getElem?_eq_some_iff.1 hDj
      have hn:=scS_next hjD
      rw [hDj] at hn
      have hle:=scS_le (D.take j)
      rw [List.length_take] at hle
      generalize c.states[j + 1] = s at *
      have e7:(j + 1) * 7 = 7 + j * 7:=by omega
      rw [e7] at n1 n2 n3 n4 n5 n6 n7
      have i1:InW g0 wq:=⟨hg⟩
      have hI2:(j:Int) < ((c.states.length - 1:Nat):Int):=by omega
      have Q:=Lib.hid (fun wx=>vpast_any s (.slice eo s.enter.length ec) (.slice xo s.exit.length xc) (.slice to' s.trans.length tc) wx)
      clear hDj hlj
      cases hp:pastS s
      ·rw [hp] at hn Q
       rw [if_neg (by decide)] at hn
       have hn':=Lib.hid hn
       clear hn
       generalize (scS (D.take j)) = N at *
       go_wp2_with (first | ((with_reducible refine (Q.out _).mono ?_);intro e w1 hr;obtain ⟨rfl,p,rfl⟩:=hr.out;clear hr) | (at_builtin;refine wpList_append_lies _ rfl _ _ 38 rfl (w.heap.size + 3) 9 kz _ 1 16 Tryz.underlying38 hk hz1 hz2 hz3 rfl (by decide) (.slice pa N.length pc) N.length (N.map Value.string) rfl (owns_below hownK.out (by (first | exact gwT | exact lzT))) ⟨_,0,none⟩ 1 1 [str s.name] rfl rfl (World.news_of_block (new_at (by simp))) (by intro u hu;simp at hu;subst hu;rfl) (by decide) (by unfold maxLen;omega) (by omega) (Nat.le_trans (show w.heap.size + 3 ≤ wq.heap.size by omega) (Below.size (B:=wq.heap.size) (by (first | exact gwT | exact lzT)))) _ rfl ?_))
       intro g' cap' w2 hown1 hgrow hat1 hg1
       have hbA:Below (w.heap.size + 3) wq w2:=Below.grown (by (first | exact gwT | exact lzT)) hgrow (Nat.le_trans (show w.heap.size + 3 ≤ wq.heap.size by omega) (Below.size (B:=wq.heap.size) (by (first | exact gwT | exact lzT)))) (fun k hk=>(hownK.out.lt k hk).1)
       have f4:=scF_keep f3 hbA (by omega)
       have hv2:=tp_grown (B:=w.heap.size + 3) (B':=w.heap.size + 3) (e:=229) (owns_below hownK.out (by (first | exact gwT | exact lzT))) (by decide) hgrow _ _ _ _ (owns_below hvK.out (by (first | exact gwT | exact lzT)))
       obtain ⟨k0',k1',k2',k3',k4',k5',k6',k7',k8'⟩:=scF_cells f4
       rw [hs1] at k1' k2' k5' k6'
       rw [hs1,hs2] at k3' k4' k7' k8'
       have hown2:=Lib.hid hown1
       have hvL:=Lib.hid hv2
       have hqz:=hbA.size
       clear hown1 hgrow hat1 hg1 hownK hvK hv2 k0 k1 k2 k3 k4 k5 k6 k7 k8 i0 j1 j2 n1 n2 n3 n4 n5 n6 n7 i1
       go_wp2
       go_roundw
       case rel=>exact ⟨j + 1,_,cap',by go_num,by omega,by rw [hn'.out,List.length_append];exact scF_set2 f4 (by omega),by rw [hn'.out,List.length_append,List.map_append];exact ownsRow_setCell_below hown2.out (by show s2 < _;omega) _,ownsRow_setCell_below hvL.out (by show s2 < _;omega) _,Below.setCell (hb3.trans (hbA.mono (by omega))) (show w.heap.size ≤ s2 by omega) _⟩
       case measure=>simp [intOf];omega
      ·rw [hp] at hn Q
       rw [if_pos rfl,List.append_nil] at hn
       have hn':=Lib.hid hn
       clear k1 k2 k3 k4 k5 k6 k7 k8 hn
       go_wp2_with ((with_reducible refine (Q.out _).mono ?_);intro e w1 hr;obtain ⟨rfl,p,rfl⟩:=hr.out;clear hr)
       go_roundw
       case rel=>exact ⟨j + 1,pa,pc,by go_num,by omega,by rw [hn'.out];exact scF_keep (m:=wq.heap.size) f3 (by (first | exact gwT | exact lzT)) (by omega),by rw [hn'.out];exact owns_below hownK.out (by (first | exact gwT | exact lzT)),owns_below hvK.out (by (first | exact gwT | exact lzT)),by (first | exact gwT | exact lzT)⟩
       case measure=>simp [intOf];omega
     ·obtain rfl:j = c.states.length - 1:=by omega
      have hI2:¬ ((c.states.length - 1:Nat):Int) < ((c.states.length - 1:Nat):Int):=by omega
      have hT:=hDt.out
      rw [hDl] at hT
      rw [hT] at hownK k4
      have hvS:=hvK.out
      rw [← hvl] at hvS
      replace hvS:=Lib.hid hvS
      clear hvK
      have m0:=World.cell?_setCell_same wq ⟨s1,0,none⟩ (.slice oa c.vars.length oc) k1
      have m1:((wq.setCell ⟨s1,0,none⟩ (.slice oa c.vars.length oc)).setCell ⟨s1,1,none⟩ (.slice pa (scS D).length pc)).cell? ⟨s1,1,none⟩ = some (.slice pa (scS D).length pc):=World.cell?_setCell_same (u := .slice none 0 0) _ _ _ (by simp [go_sem,k2])
      go_wp2
      refine bodyPost_ret (v := .agg #[.slice oa c.vars.length oc,.slice pa (scS D).length pc]) (by simp [results,Tryz.f79,go_sem,m0,m1]) rfl ?_
      refine ⟨oa,oc,pa,pc,by rw [hvl],?_,?_,?_⟩
      ·exact owns_base (B:=w.heap.size + 3) (hB:=by omega) (ownsRow_setCell_below (ownsRow_setCell_below hvS.out (by show s1 < _;omega) _) (by show s1 < _;omega) _)
      ·exact owns_base (B:=w.heap.size + 3) (hB:=by omega) (ownsRow_setCell_below (ownsRow_setCell_below hownK.out (by show s1 < _;omega) _) (by show s1 < _;omega) _)
      ·exact Below.setCell (Below.setCell hb3 (show w.heap.size ≤ s1 by omega) _) (show w.heap.size ≤ s1 by omega) _
end Go.Proofs.YtfgpmcepppcmiaaGreatDoor
namespace Go.Proofs.YtfgpmcepppcmiaaGreatDoor
open Go.RowKit
section
variable {l:Lk} {lb:Nat}
theorem tgt_c (P:LkP l) (o a:Nat) (ho:o < l.c.states.length) (ha:a < l.c.states.length) (b1 b2:Nat) (w:World) (h1:w.cell? ⟨b1,0,none⟩ = some (.pointer (some ⟨lb,0,none⟩))) (h2:w.cell? ⟨b2,0,none⟩ = some (.int .i64 (a:Int))) (H:LkAt w lb l):ClIs 212 #[.pointer (some ⟨b1,0,none⟩),.pointer (some ⟨b2,0,none⟩)] (fun o => !apartE l.c.states a o) o w:=by
 have A:=Lib.hid (fun wx (hb:Below w.heap.size w wx)=>apart_any P a o ha ho wx (lk_keep H hb))
 have i1:InW b1 w:=⟨World.block_lt_of_cell? _ _ h1⟩
 have i2:InW b2 w:=⟨World.block_lt_of_cell? _ _ h2⟩
 unfold ClIs
 simp only
 generalize apartE l.c.states a o = q at *
 clear H
 show Calls Tryz.prog _ #[.int .i64 (o:Int),.pointer (some ⟨b1,0,none⟩),.pointer (some ⟨b2,0,none⟩)] _ _
 go_enter Tryz.func212,Tryz.ntmps212
 go_wp2_with ((with_reducible refine (A.out _ (by (first | exact gwT | exact lzT))).mono ?_);intro e w1 hr;obtain ⟨rfl,p,rfl⟩:=hr.out;clear hr)
 go_returns
 exact ⟨rfl,by (first | exact gwT | exact lzT)⟩
def GoesRd (w:World) (ao:Option Addr) (gs:List (List UInt8)):Prop:=∀ i (hi:i < gs.length),∃ g,ao = some ⟨g,0,none⟩ ∧ g < w.heap.size ∧ w.cell? ⟨g,i,none⟩ = some (str gs[i])
theorem goes_keep {w w':World} {ao:Option Addr} {gs:List (List UInt8)} (h:GoesRd w ao gs) (hb:Below w.heap.size w w'):GoesRd w' ao gs:=fun i hi=>by
 obtain ⟨g,e,hg,h1⟩:=h i hi
 exact ⟨g,e,Nat.lt_of_lt_of_le hg hb.size,(hb.cell (p:=⟨g,_,none⟩) hg).trans h1⟩
theorem goes_own {w:World} {B:Nat} {ao:Option Addr} {n cap:Nat} {gs:List (List UInt8)} (h:w.ownsRow B 9 1 (.slice ao n cap) gs.length (strsC gs)):GoesRd w ao gs:=fun i hi=>by
 obtain ⟨g,cap',e,hg,_,_,hc⟩:=own_head h (by omega)
 cases e
 exact ⟨g,rfl,hg,hc _ _ (by unfold strsC;rw [List.getElem?_map,List.getElem?_eq_getElem hi];rfl)⟩
theorem tgs_more' {ss:List St} {gs:List (List UInt8)} {i:Nat} (h:i < gs.length) (ahead:List Nat):tgsE ss (gs.drop i) ahead = match findA gs[i] ss 0 with
  | none=>32
  | some at_=>if ahead.any fun o => !apartE ss at_ o then 32 else tgsE ss (gs.drop (i + 1)) (ahead ++ [at_]):=by
 rw [List.drop_eq_getElem_cons h,tgsE]
 cases findA gs[i] ss 0 <;> rfl
theorem tgs_end {ss:List St} {gs:List (List UInt8)} {i:Nat} (h:gs.length ≤ i) (ahead:List Nat):tgsE ss (gs.drop i) ahead = 0:=by
 rw [List.drop_of_length_le h,tgsE]
set_option maxRecDepth 100000 in
set_option maxHeartbeats 8000000 in
theorem targets_any (P:LkP l) (ao:Option Addr) (cap:Nat) (gs:List (List UInt8)) (hn:gs.length ≤ 1000) (w:World) (h:GoesRd w ao gs) (H:LkAt w lb l):Calls Tryz.prog 187 #[.pointer (some ⟨lb,0,none⟩),.slice ao gs.length cap] w (Ret (.int .i64 (tgsE l.c.states gs [])) w):=by
 have L:=Lib.hid (fun wx (hb:Below w.heap.size w wx)=>lk_keep H hb)
 have R:=Lib.hid (fun wx (hb:Below w.heap.size w wx)=>goes_keep h hb)
 obtain ⟨B,rv,va,sa,oa,pa,vc,sc,oc,pc,H⟩:=H
 have FF:=Lib.hid (fun nm=>lfind_any P H nm)
 obtain ⟨hl,c0,c1,c2,c3,c4⟩:=lk_cells H
 have hF':Hid (tgsE l.c.states (gs.drop 0) [] = tgsE l.c.states gs []):=Lib.hid (by rw [List.drop_zero])
 generalize tgsE l.c.states gs [] = F at *
 have i1:InW lb w:=⟨hl⟩
 obtain ⟨j0,hj,hy1,hy2,hy3⟩:=info_parts Tryz.infoInt
 have hmf:∀ (fn:Fn) (first cap:Array Value) (w:World),(Instr.makeFunc fn first cap).run Tryz.prog w = .ok (.func fn first cap) w:=fun _ _ _ _=>rfl
 clear h
 go_enter Tryz.func187,Tryz.ntmps187
 go_wp2
 go_loopw [5,12] (fun v x wr=>∃ (i:Nat) (ks:List Nat) (oa:Option Addr) (oc:Nat),x = .int .i64 (i:Int) ∧ i ≤ gs.length ∧ ks.length = i ∧ (∀ k ∈ ks,k < l.c.states.length) ∧ Hid (tgsE l.c.states (gs.drop i) ks = F) ∧ v = .slice oa ks.length oc ∧ wr.ownsRow (w.heap.size + 1) 3 1 (.slice oa ks.length oc) ks.length (natsC ks) ∧ wr.cell? ⟨w.heap.size,0,none⟩ = some (.pointer (some ⟨lb,0,none⟩)) ∧ Below w.heap.size w wr) (fun _ x _=>gs.length - (intOf x).toNat)
 case atStart=>exact ⟨0,[],none,0,rfl,Nat.zero_le _,rfl,fun _ h=>(by cases h),hF',rfl,World.ownsRow_nil _ _ _ _,by simp [go_sem],by (first | exact gwT | exact lzT)⟩
 case round =>
  obtain ⟨i,ks,oa2,oc2,rfl,hi,hki,hks,hF,rfl,hown,hbx,hb⟩:=hrel
  rename World=>wr
  have hwz:=hb.size
  have i0:InW w.heap.size wr:=⟨World.block_lt_of_cell? _ _ hbx⟩
  have hz0:=i0.lt
  have iL:InW lb wr:=⟨by omega⟩
  have d0:=(hb.cell (p:=⟨lb,0,none⟩) hl).trans c0
  have d1:=(hb.cell (p:=⟨lb,1,none⟩) hl).trans c1
  have d2:=(hb.cell (p:=⟨lb,2,none⟩) hl).trans c2
  have hownK:=Lib.hid hown
  have hk1000:ks.length ≤ 1000:=by omega
  replace hki:=Lib.hid hki
  clear hown
  by_cases hlt:i < gs.length
  ·have hI:(i:Int) < (gs.length:Int):=by omega
   obtain ⟨g,rfl,hg,n1⟩:=R.out wr hb i hlt
   have hm:=tgs_more' (ss:=l.c.states) hlt ks
   have iG:InW g wr:=⟨hg⟩
   have Fd:=FF.out gs[i]
   rw [hF.out] at hm
   have hfl:=fnd_lt P gs[i]
   unfold fnd isF at Fd
   unfold fnd at hfl
   generalize gs[i] = nm at *
   replace Fd:=Lib.hid (fun wx (hx:Below wr.heap.size wr wx)=>Fd.out wx (hb.trans (hx.mono hwz)))
   cases hf:findA nm l.c.states 0 with
   | none =>
    rw [hf] at hm Fd
    simp only [Option.getD_none,Option.isSome_none] at hm Fd
    subst hm
    clear hF hf hfl
    go_wp2_with ((with_reducible refine (Fd.out _ (by (first | exact gwT | exact lzT))).mono ?_);intro e w1 hr;obtain ⟨rfl,p,rfl⟩:=hr.out;clear hr)
    go_returns
    exact ⟨rfl,by (first | exact gwT | exact lzT)⟩
   | some k =>
    rw [hf] at hm Fd hfl
    simp only [Option.getD_some,Option.isSome_some] at hm Fd hfl
    have A:=Lib.hid (fun b2 wx (hx:Below wr.heap.size wr wx) (h2:wx.cell? ⟨b2,0,none⟩ = some (.int .i64 (k:Int)))=>has_any 212 (fun _ _=>rfl) (.pointer (some ⟨w.heap.size,0,none⟩)) (.pointer (some ⟨b2,0,none⟩)) #[.pointer (some ⟨w.heap.size,0,none⟩),.pointer (some ⟨b2,0,none⟩)] (.inr rfl) (fun o => !apartE l.c.states k o) oa2 oc2 ks hk1000 wx (nts_own (owns_below hownK.out hx)) fun o ho wy hy=>tgt_c P o k (hks o ho) hfl w.heap.size b2 wy ((hy.cell (p:=⟨w.heap.size,0,none⟩) (by have:=hx.size;show w.heap.size < _;omega)).trans ((hx.cell (p:=⟨w.heap.size,0,none⟩) hz0).trans hbx)) ((hy.cell (p:=⟨b2,0,none⟩) (World.block_lt_of_cell? _ _ h2)).trans h2) (L.out wy ((hb.trans (hx.mono hwz)).trans (hy.mono (Nat.le_trans hwz hx.size)))))
    generalize (ks.any fun o => !apartE l.c.states k o) = q at *
    clear hF hf
    cases q with
    | true =>
     rw [if_pos rfl] at hm
     subst hm
     go_wp2_with (first | ((with_reducible refine (Fd.out _ (by (first | exact gwT | exact lzT))).mono ?_);intro e w1 hr;obtain ⟨rfl,p,rfl⟩:=hr.out;clear hr) | ((with_reducible refine (A.out _ _ (by (first | exact gwT | exact lzT)) (by simp [go_sem])).mono ?_);intro e w1 hr;obtain ⟨rfl,p,rfl⟩:=hr.out;clear hr))
     go_returns
     exact ⟨rfl,by (first | exact gwT | exact lzT)⟩
    | false =>
     rw [if_neg Bool.false_ne_true] at hm
     have hm':=Lib.hid hm.symm
     clear hm
     go_wp2_with (first | ((with_reducible refine (Fd.out _ (by (first | exact gwT | exact lzT))).mono ?_);intro e w1 hr;obtain ⟨rfl,p,rfl⟩:=hr.out;clear hr) | ((with_reducible refine (A.out _ _ (by (first | exact gwT | exact lzT)) (by simp [go_sem])).mono ?_);intro e w1 hr;obtain ⟨rfl,p,rfl⟩:=hr.out;clear hr) | (at_builtin;refine wpList_append_lies _ rfl _ _ 40 rfl (w.heap.size + 1) 3 j0 _ 1 8 Tryz.underlying40 hj hy1 hy2 hy3 rfl (by decide) (.slice oa2 ks.length oc2) ks.length (natsC ks) rfl (owns_below hownK.out (by (first | exact gwT | exact lzT))) ⟨_,0,none⟩ 1 1 [.int .i64 (k:Int)] rfl rfl (World.news_of_block (new_at (by simp))) (by intro u hu;simp at hu;subst hu;rfl) (by decide) (by unfold maxLen;omega) (by omega) (Nat.le_trans (show w.heap.size + 1 ≤ wr.heap.size by omega) (Below.size (B:=wr.heap.size) (by (first | exact gwT | exact lzT)))) _ rfl ?_))
     intro g' cap' w2 hown1 hgrow hat1 hg1
     have hbA:Below (w.heap.size + 1) wr w2:=Below.grown (by (first | exact gwT | exact lzT)) hgrow (Nat.le_trans (show w.heap.size + 1 ≤ wr.heap.size by omega) (Below.size (B:=wr.heap.size) (by (first | exact gwT | exact lzT)))) (fun k hk=>(hownK.out.lt k hk).1)
     have hown2:=Lib.hid hown1
     have hqz:=hbA.size
     clear hown1 hgrow hat1 hg1 hownK Fd A
     go_wp2
     go_roundw
     case rel=>exact ⟨i + 1,ks ++ [k],_,cap',by go_num,by omega,by rw [List.length_append,hki.out];rfl,fun o ho=>by
      rcases List.mem_append.1 ho with ho | ho
      ·exact hks o ho
      ·rw [List.mem_singleton.1 ho];exact hfl,hm',by rw [List.length_append];rfl,by rw [List.length_append,show natsC (ks ++ [k]) = natsC ks ++ [.int .i64 (k:Int)] by simp [natsC]];exact hown2.out,(hbA.cell (p:=⟨w.heap.size,0,none⟩) (by show w.heap.size < _;omega)).trans hbx,hb.trans (hbA.mono (by omega))⟩
     case measure=>simp [intOf];omega
  ·have hI:¬ (i:Int) < (gs.length:Int):=by omega
   have hm:=tgs_end (ss:=l.c.states) (show gs.length ≤ i by omega) ks
   rw [hF.out] at hm
   subst hm
   clear hF
   go_wp2
   go_returns
   exact ⟨rfl,by (first | exact gwT | exact lzT)⟩
theorem way_no {t:Tr} (h:t.event = [] ∧ t.cond.length = 0 ∧ t.goes.length = 0):wayE l t = 11:=by unfold wayE;rw [if_pos h]
theorem way_go {t:Tr} (h:¬ (t.event = [] ∧ t.cond.length = 0 ∧ t.goes.length = 0)):wayE l t = thenE (truE l t.cond) (thenE (tgsE l.c.states t.goes []) (eachE l t.thn)):=by unfold wayE;rw [if_neg h]
abbrev trV (t:Tr) (io go uo:Option Addr) (ic gc uc:Nat):Value := .agg #[str t.event,.slice io t.cond.length ic,.slice go t.goes.length gc,.bool t.inner,.slice uo t.thn.length uc]
set_option maxRecDepth 100000 in
set_option maxHeartbeats 8000000 in
theorem way_any (P:LkP l) (t:Tr) (io go uo:Option Addr) (ic gc uc:Nat) (hf:FitT t) (w:World) (h1:NdsAt w io t.cond) (h2:GoesRd w go t.goes) (h3:ActsAt w uo t.thn) (H:LkAt w lb l) :
  Calls Tryz.prog 157 #[.pointer (some ⟨lb,0,none⟩),trV t io go uo ic gc uc] w (Ret (.int .i64 (wayE l t)) w):=by
 have T:=Lib.hid (fun wx (hb:Below w.heap.size w wx)=>vtruth_any P io ic t.cond hf.cond wx (nds_below h1 hb) (lk_keep H hb))
 have G1:=Lib.hid (fun wx (hb:Below w.heap.size w wx)=>targets_any P go gc t.goes hf.goes wx (goes_keep h2 hb) (lk_keep H hb))
 have E:=Lib.hid (fun wx (hb:Below w.heap.size w wx)=>each_any P uo uc t.thn hf.thn wx (acts_below h3 hb) (lk_keep H hb))
 obtain ⟨B,rv,va,sa,oa,pa,vc,sc,oc,pc,H⟩:=H
 have i1:InW lb w:=⟨lt_of_block H.blk⟩
 have wn:=@way_no l t
 have wg:=@way_go l t
 generalize truE l t.cond = r1 at *
 generalize tgsE l.c.states t.goes [] = r2 at *
 generalize eachE l t.thn = r3 at *
 obtain ⟨ev,cond,gs,inn,thn⟩:=t
 unfold trV
 simp only at *
 clear H h1 h2 h3 hf
 have e1:((cond.length:Int) == 0) = (cond.length == 0):=by rw [Bool.eq_iff_iff];simp
 have e2:((gs.length:Int) == 0) = (gs.length == 0):=by rw [Bool.eq_iff_iff];simp
 have key:(ev.isEmpty = true ∧ ((cond.length:Int) == 0) = true ∧ ((gs.length:Int) == 0) = true ∧ wayE l ⟨ev,cond,gs,inn,thn⟩ = 11) ∨ (wayE l ⟨ev,cond,gs,inn,thn⟩ = thenE r1 (thenE r2 r3) ∧ (ev.isEmpty = false ∨ ev.isEmpty = true ∧ ((cond.length:Int) == 0) = false ∨ ev.isEmpty = true ∧ ((cond.length:Int) == 0) = true ∧ ((gs.length:Int) == 0) = false)):=by
  rw [e1,e2]
  by_cases hx:ev = [] ∧ cond.length = 0 ∧ gs.length = 0
  ·exact .inl ⟨by rw [hx.1];rfl,by rw [hx.2.1];rfl,by rw [hx.2.2];rfl,wn hx⟩
  ·refine .inr ⟨wg hx,?_⟩
   cases ev with
   | cons c r=>exact .inl rfl
   | nil =>
    by_cases hc:cond.length = 0
    ·exact .inr (.inr ⟨rfl,by rw [hc];rfl,beq_eq_false_iff_ne.2 fun hg=>hx ⟨rfl,hc,hg⟩⟩)
    ·exact .inr (.inl ⟨rfl,beq_eq_false_iff_ne.2 hc⟩)
 clear wn wg e1 e2
 rcases key with ⟨k1,k2,k3,k4⟩ | ⟨k4,key⟩
 ·rw [k4]
  go_enter Tryz.func157,Tryz.ntmps157
  go_wp2
  go_returns
  exact ⟨rfl,by (first | exact gwT | exact lzT)⟩
 ·rw [k4]
  by_cases h1:r1 = 0
  ·rw [then_go h1]
   obtain ⟨z0,z1⟩:=eq_eqs h1
   replace h1:=Lib.hid h1
   by_cases h2:r2 = 0
   ·rw [then_go h2]
    obtain ⟨y0,y1⟩:=eq_eqs h2
    replace h2:=Lib.hid h2
    rcases key with k1 | ⟨k1,k2⟩ | ⟨k1,k2,k3⟩
    all_goals
     go_enter Tryz.func157,Tryz.ntmps157
     go_wp2_with (first | ((with_reducible refine (T.out _ (by (first | exact gwT | exact lzT))).mono ?_);intro e w1 hr;obtain ⟨rfl,p,rfl⟩:=hr.out;clear hr) | ((with_reducible refine (G1.out _ (by (first | exact gwT | exact lzT))).mono ?_);intro e w1 hr;obtain ⟨rfl,p,rfl⟩:=hr.out;clear hr) | ((with_reducible refine (E.out _ (by (first | exact gwT | exact lzT))).mono ?_);intro e w1 hr;obtain ⟨rfl,p,rfl⟩:=hr.out;clear hr))
     go_returns
     exact ⟨rfl,by (first | exact gwT | exact lzT)⟩
   ·rw [then_no h2]
    obtain ⟨y0,y1⟩:=ne_eqs h2
    replace h2:=Lib.hid h2
    rcases key with k1 | ⟨k1,k2⟩ | ⟨k1,k2,k3⟩
    all_goals
     go_enter Tryz.func157,Tryz.ntmps157
     go_wp2_with (first | ((with_reducible refine (T.out _ (by (first | exact gwT | exact lzT))).mono ?_);intro e w1 hr;obtain ⟨rfl,p,rfl⟩:=hr.out;clear hr) | ((with_reducible refine (G1.out _ (by (first | exact gwT | exact lzT))).mono ?_);intro e w1 hr;obtain ⟨rfl,p,rfl⟩:=hr.out;clear hr))
     go_returns
     exact ⟨rfl,by (first | exact gwT | exact lzT)⟩
  ·rw [then_no h1]
   obtain ⟨z0,z1⟩:=ne_eqs h1
   replace h1:=Lib.hid h1
   rcases key with k1 | ⟨k1,k2⟩ | ⟨k1,k2,k3⟩
   all_goals
    go_enter Tryz.func157,Tryz.ntmps157
    go_wp2_with ((with_reducible refine (T.out _ (by (first | exact gwT | exact lzT))).mono ?_);intro e w1 hr;obtain ⟨rfl,p,rfl⟩:=hr.out;clear hr)
    go_returns
    exact ⟨rfl,by (first | exact gwT | exact lzT)⟩
set_option maxRecDepth 100000 in
set_option maxHeartbeats 8000000 in
theorem ways_any (P:LkP l) (i:Nat) (hi:i < l.c.states.length) (w:World) (H:LkAt w lb l):Calls Tryz.prog 123 #[.pointer (some ⟨lb,0,none⟩),.int .i64 (i:Int)] w (Ret (.int .i64 (waysE l i)) w):=by
 have L:=Lib.hid (fun wx (hb:Below w.heap.size w wx)=>lk_keep H hb)
 obtain ⟨B,rv,va,sa,oa,pa,vc,sc,oc,pc,H⟩:=H
 obtain ⟨hl,c0,c1,c2,c3,c4⟩:=lk_cells H
 obtain ⟨g,eo,ec,xo,xc,to',tc,rfl,hg,_,_,_,_,_,_,n7,_,_,hT⟩:=st_at H.ch i hi
 have hfit:=P.fit i hi
 unfold waysE stL
 rw [show l.c.states.getD i st0 = l.c.states[i] by simp [List.getD,hi]] at hfit ⊢
 have hft:=Lib.hid hfit.trans
 have hle:l.c.states[i].trans.length ≤ 96:=by
  have:=(P.lens i hi).2.2
  rwa [show l.c.states.getD i st0 = l.c.states[i] by simp [List.getD,hi]] at this
 have RR:=Lib.hid (fun wx (hx:Below w.heap.size w wx)=>trRow_tp (fx_below hx) hT fun _ _ h=>owns_below h hx)
 generalize l.c.states[i].trans = ts at *
 have hF':Hid (firstE (wayE l) (ts.drop 0) = firstE (wayE l) ts):=Lib.hid (by rw [List.drop_zero])
 generalize firstE (wayE l) ts = F at *
 have i1:InW lb w:=⟨hl⟩
 have i2:InW g w:=⟨hg⟩
 have hI:(i:Int) < (l.c.states.length:Int):=by omega
 clear hT hfit H
 go_enter Tryz.func123,Tryz.ntmps123
 go_wp2
 go_loopw [18] (fun x wr=>∃ (k:Nat),x = .int .i64 (k:Int) ∧ k ≤ ts.length ∧ Hid (firstE (wayE l) (ts.drop k) = F) ∧ Below w.heap.size w wr) (fun x _=>ts.length - (intOf x).toNat)
 case atStart=>exact ⟨0,rfl,Nat.zero_le _,hF',by (first | exact gwT | exact lzT)⟩
 case round =>
  obtain ⟨k,rfl,hk,hF,hb⟩:=hrel
  rename World=>wr
  have hwz:=hb.size
  have j0:InW lb wr:=⟨by omega⟩
  by_cases hlt:k < ts.length
  ·have hK:(k:Int) < (ts.length:Int):=by omega
   obtain ⟨g2,io,ic,go,gc,uo,uc,rfl,hg2,m1,m2,m3,m4,m5,hN,hG,hA⟩:=tr_at (RR.out wr hb) k hlt
   have hfk:=hft.out ts[k] (List.getElem_mem hlt)
   have hm:=first_more (f:=wayE l) hlt
   have W:=Lib.hid (fun wx (hx:Below wr.heap.size wr wx)=>way_any P ts[k] io go uo ic gc uc hfk wx (nds_below (nds_own hN) hx) (goes_keep (goes_own hG) hx) (acts_below (acRow_at hA) hx) (L.out wx (hb.trans (hx.mono hwz))))
   have j1:InW g2 wr:=⟨hg2⟩
   unfold trV at W
   clear hN hG hA hfk
   generalize ts[k] = t at *
   rw [hF.out] at hm
   generalize wayE l t = e at *
   by_cases h0:e = 0
   ·rw [then_go h0] at hm
    obtain ⟨z0,z1⟩:=eq_eqs h0
    replace h0:=Lib.hid h0
    have hm':=Lib.hid hm.symm
    clear hm hF
    go_wp2_with ((with_reducible refine (W.out _ (by (first | exact gwT | exact lzT))).mono ?_);intro e w1 hr;obtain ⟨rfl,p,rfl⟩:=hr.out;clear hr)
    go_roundw
    case rel=>exact ⟨k + 1,by go_num,by omega,hm',by (first | exact gwT | exact lzT)⟩
    case measure=>simp [intOf];omega
   ·rw [then_no h0] at hm
    obtain ⟨z0,z1⟩:=ne_eqs h0
    replace h0:=Lib.hid h0
    subst hm
    clear hF
    go_wp2_with ((with_reducible refine (W.out _ (by (first | exact gwT | exact lzT))).mono ?_);intro e w1 hr;obtain ⟨rfl,p,rfl⟩:=hr.out;clear hr)
    go_returns
    exact ⟨rfl,by (first | exact gwT | exact lzT)⟩
  ·have hK:¬ (k:Int) < (ts.length:Int):=by omega
   have hm:=first_end (f:=wayE l) (show ts.length ≤ k by omega)
   rw [hF.out] at hm
   subst hm
   clear hF
   go_wp2
   go_returns
   exact ⟨rfl,by (first | exact gwT | exact lzT)⟩
end
end Go.Proofs.YtfgpmcepppcmiaaGreatDoor
namespace Go.Proofs.YtfgpmcepppcmiaaGreatDoor
open Go.RowKit
section
variable {l:Lk} {lb:Nat}
abbrev lookF (f:FuncId) (lb:Nat):Value := .func (.func f) #[.pointer (some ⟨lb,0,none⟩)] #[]
def fnsL (l:Lk) (i:Nat):List FuncId:=if pastS (stL l i) then [118,119] else [118,120,121,122,123]
def errsL (l:Lk) (i:Nat):List Int:=if pastS (stL l i) then [onceE l i,pastE l i] else [onceE l i,kidsE l i,startE l i,actsE l i,waysE l i]
theorem fns_no {i:Nat} (h:pastS (stL l i) = false):fnsL l i = [118,120,121,122,123]:=by unfold fnsL;rw [h];rfl
theorem fns_yes {i:Nat} (h:pastS (stL l i) = true):fnsL l i = [118,119]:=by unfold fnsL;rw [h];rfl
def LooksIs (l:Lk) (lb i:Nat) (w:World) (e:Ending) (w':World):Prop:=∃ g cap,e = .returned (.slice (some ⟨g,0,none⟩) (fnsL l i).length cap) ∧ g < w'.heap.size ∧ (∀ k f,(fnsL l i)[k]? = some f → w'.cell? ⟨g,k,none⟩ = some (lookF f lb)) ∧ Below w.heap.size w w'
set_option maxRecDepth 100000 in
set_option maxHeartbeats 4000000 in
theorem looks_any (i:Nat) (hi:i < l.c.states.length) (w:World) (H:LkAt w lb l):Calls Tryz.prog 80 #[.pointer (some ⟨lb,0,none⟩),.int .i64 (i:Int)] w (LooksIs l lb i w):=by
 obtain ⟨B,rv,va,sa,oa,pa,vc,sc,oc,pc,H⟩:=H
 obtain ⟨hl,c0,c1,c2,c3,c4⟩:=lk_cells H
 obtain ⟨g,eo,ec,xo,xc,to',tc,rfl,hg,n1,n2,n3,n4,n5,n6,n7,_⟩:=st_at H.ch i hi
 rw [← stL_at hi] at n1 n2 n3 n4 n5 n6 n7
 have i1:InW lb w:=⟨hl⟩
 have i2:InW g w:=⟨hg⟩
 have hI:(i:Int) < (l.c.states.length:Int):=by omega
 have Q:=Lib.hid (fun wx=>vpast_any (stL l i) (.slice eo (stL l i).enter.length ec) (.slice xo (stL l i).exit.length xc) (.slice to' (stL l i).trans.length tc) wx)
 have hmf:∀ (fn:Fn) (first cap:Array Value) (w:World),(Instr.makeFunc fn first cap).run Tryz.prog w = .ok (.func fn first cap) w:=fun _ _ _ _=>rfl
 clear H
 cases hp:pastS (stL l i)
 ·rw [hp] at Q
  have hfn:=Lib.hid (fns_no hp)
  clear hp
  generalize stL l i = s at *
  go_enter Tryz.func80,Tryz.ntmps80
  go_wp2_with ((with_reducible refine (Q.out _).mono ?_);intro e w1 hr;obtain ⟨rfl,p,rfl⟩:=hr.out;clear hr)
  go_returns
  refine ⟨_,_,by rw [hfn.out];rfl,by simp [go_sem],fun k f hf=>?_,by (first | exact gwT | exact lzT)⟩
  rw [hfn.out] at hf
  rcases k with _ | _ | _ | _ | _ | k
  all_goals
   simp at hf
   try subst hf
   try simp [go_sem]
 ·rw [hp] at Q
  have hfn:=Lib.hid (fns_yes hp)
  clear hp
  generalize stL l i = s at *
  go_enter Tryz.func80,Tryz.ntmps80
  go_wp2_with ((with_reducible refine (Q.out _).mono ?_);intro e w1 hr;obtain ⟨rfl,p,rfl⟩:=hr.out;clear hr)
  go_returns
  refine ⟨_,_,by rw [hfn.out];rfl,by simp [go_sem],fun k f hf=>?_,by (first | exact gwT | exact lzT)⟩
  rw [hfn.out] at hf
  rcases k with _ | _ | k
  all_goals
   simp at hf
   try subst hf
   try simp [go_sem]
theorem then_zero (a:Int):thenE a 0 = a:=by unfold thenE;split <;> simp_all
theorem state_errs (i:Nat):stateE l i = firstE id (errsL l i):=by
 unfold stateE errsL
 split
 ·simp only [firstE,id,then_zero]
 ·simp only [firstE,id,then_zero]
theorem errs_len (i:Nat):(errsL l i).length = (fnsL l i).length:=by
 unfold errsL fnsL
 split <;> rfl
set_option maxRecDepth 100000 in
theorem look_any (P:LkP l) (i:Nat) (hi:i < l.c.states.length) {k:Nat} {f:FuncId} {e:Int} (hf:(fnsL l i)[k]? = some f) (he:(errsL l i)[k]? = some e) :
  (∀ a wx,(callFunc f a).run Tryz.prog wx = .ok (.enter f a) wx) ∧ ∀ w,LkAt w lb l → Calls Tryz.prog f #[.pointer (some ⟨lb,0,none⟩),.int .i64 (i:Int)] w (Ret (.int .i64 e) w):=by
 unfold fnsL at hf
 unfold errsL at he
 split at hf
 ·rename_i hp
  rw [if_pos hp] at he
  rcases k with _ | _ | k
  ·cases hf;cases he
   exact ⟨fun _ _=>rfl,fun w H=>once_any P i hi w H⟩
  ·cases hf;cases he
   exact ⟨fun _ _=>rfl,fun w H=>past_any P i hi w H⟩
  ·cases hf
 ·rename_i hp
  rw [if_neg hp] at he
  rcases k with _ | _ | _ | _ | _ | k
  ·cases hf;cases he
   exact ⟨fun _ _=>rfl,fun w H=>once_any P i hi w H⟩
  ·cases hf;cases he
   exact ⟨fun _ _=>rfl,fun w H=>kids_any P i hi w H⟩
  ·cases hf;cases he
   exact ⟨fun _ _=>rfl,fun w H=>start_any P i hi w H⟩
  ·cases hf;cases he
   exact ⟨fun _ _=>rfl,fun w H=>acts_any P i hi w H⟩
  ·cases hf;cases he
   exact ⟨fun _ _=>rfl,fun w H=>ways_any P i hi w H⟩
  ·cases hf
end
end Go.Proofs.YtfgpmcepppcmiaaGreatDoor
namespace Go.Proofs.YtfgpmcepppcmiaaGreatDoor
open Go.RowKit
structure OkC (c:Ch):Prop where
 some:0 < c.states.length
 few:c.states.length ≤ 49
 vars:c.vars.length ≤ 16
 par:Par c.states
 fit:∀ i,i < c.states.length → FitS (c.states.getD i st0)
 lens:∀ i,i < c.states.length → (c.states.getD i st0).enter.length ≤ 8 ∧ (c.states.getD i st0).exit.length ≤ 8 ∧ (c.states.getD i st0).trans.length ≤ 96
theorem lkP_of {c:Ch} (h:OkC c):LkP (lkC c) :=
 ⟨h.some,h.few,h.vars,by show (scV c.vars).length ≤ _;rw [scV_len];have:=h.vars;omega,by
  have:=scS_le (c.states.drop 1)
  rw [List.length_drop] at this
  have:=h.few
  show (scS (c.states.drop 1)).length ≤ 1000
  omega,h.par,h.fit,h.lens⟩
theorem twice_more {vs:List Vr} {i:Nat} (h:i < vs.length):twiceE (vs.take i) (vs.drop i) = if (vs.take i).any fun u=>u.name == vs[i].name then some vs[i].name else twiceE (vs.take (i + 1)) (vs.drop (i + 1)):=by
 rw [List.drop_eq_getElem_cons h,twiceE,List.take_succ_eq_append_getElem h]
theorem twice_end {vs:List Vr} {i:Nat} (h:vs.length ≤ i):twiceE (vs.take i) (vs.drop i) = none:=by
 rw [List.drop_of_length_le h]
 cases vs.take i <;> rfl
theorem sts_more {l:Lk} {ss:List St} {i:Nat} (h:i < ss.length):stsE l i (ss.drop i) = if stateE l i = 0 then stsE l (i + 1) (ss.drop (i + 1)) else (stateE l i,ss[i].name):=by
 rw [List.drop_eq_getElem_cons h,stsE]
theorem sts_end {l:Lk} {ss:List St} {i:Nat} (h:ss.length ≤ i):stsE l i (ss.drop i) = (0,[]):=by
 rw [List.drop_of_length_le h,stsE]
theorem checkE_some {c:Ch} {nm:List UInt8} (h0:0 < c.states.length) (h:twiceE [] c.vars = some nm):checkE c = (16,nm):=by
 unfold checkE
 rw [if_neg (by omega),h]
theorem checkE_none {c:Ch} (h0:0 < c.states.length) (h:twiceE [] c.vars = none):checkE c = stsE (lkC c) 0 c.states:=by
 unfold checkE
 rw [if_neg (by omega),h]
set_option maxRecDepth 100000 in
set_option maxHeartbeats 8000000 in
theorem vcheck_any {c:Ch} {B:Nat} {rv:Nat → Value} {va sa:Option Addr} {vc sc:Nat} (O:OkC c) (w:World) (H:ChV ct0 B w c rv (.slice va c.vars.length vc) (.slice sa c.states.length sc)) (hw:Lb w) :
  Calls Tryz.prog 53 #[.agg #[str c.name,.slice va c.vars.length vc,.slice sa c.states.length sc]] w (Ret (.tuple #[.int .i64 (checkE c).1,str (checkE c).2]) w):=by
 have C:=Lib.hid (fun wx (hb:Below w.heap.size w wx)=>chV_keep H hb)
 have hLb:=Lib.hid (fun wx (hb:Below w.heap.size w wx)=>lb_below hw hb)
 have SC:=Lib.hid (fun wx (hb:Below w.heap.size w wx)=>scope_any O.vars O.few O.some wx (chV_keep H hb))
 have hs0:=O.some
 have hs49:=O.few
 have hv16:=O.vars
 have z0:((c.states.length:Int) == 0) = false:=by rw [beq_eq_false_iff_ne];omega
 have hT:=Lib.hid (show twiceE (c.vars.take 0) (c.vars.drop 0) = twiceE [] c.vars from rfl)
 have hcs:=fun nm=>checkE_some (c:=c) (nm:=nm) hs0
 have hcn:=checkE_none (c:=c) hs0
 generalize checkE c = F at *
 generalize twiceE [] c.vars = T at *
 have hcap:Hid (0 < c.vars.length → c.vars.length ≤ vc):=Lib.hid fun h0=>by
  obtain ⟨g,cap,e,_,hle,_⟩:=own_head H.vars h0
  cases e
  exact hle
 replace hcs:=Lib.hid hcs
 replace hcn:=Lib.hid hcn
 clear H hw
 go_enter Tryz.func53,Tryz.ntmps53
 go_wp2
 go_loopw [19] (fun x wr=>∃ (i:Nat),x = .int .i64 (i:Int) ∧ i ≤ c.vars.length ∧ Hid (twiceE (c.vars.take i) (c.vars.drop i) = T) ∧ wr.heap[w.heap.size]? = some (.cells #[str c.name,.slice va c.vars.length vc,.slice sa c.states.length sc] 75 (0,0)) ∧ Below w.heap.size w wr) (fun x _=>c.vars.length - (intOf x).toNat)
 case atStart=>exact ⟨0,rfl,Nat.zero_le _,hT,heap_alloc_new w _,by (first | exact gwT | exact lzT)⟩
 case round =>
  obtain ⟨i,rfl,hi,hT,hbx,hb⟩:=hrel
  rename World=>wr
  have hwz:=hb.size
  have b0:=(cell_of_row wr w.heap.size 0 _ _ _ hbx).trans rfl
  have b1:=(cell_of_row wr w.heap.size 1 _ _ _ hbx).trans rfl
  have b2:=(cell_of_row wr w.heap.size 2 _ _ _ hbx).trans rfl
  have i0:InW w.heap.size wr:=⟨lt_of_block hbx⟩
  by_cases hlt:i < c.vars.length
  ·have hI:(i:Int) < (c.vars.length:Int):=by omega
   have hcv:=hcap.out (by omega)
   have hVr:=vrs_of (C.out wr hb)
   obtain ⟨g,rfl,hg,n1,n2,n3,n4⟩:=hVr i hlt
   have hm:=twice_more hlt
   rw [hT.out] at hm
   have hli:(c.vars.take i).length = i:=by rw [List.length_take];omega
   have V:=fun b wx (hx:Below wr.heap.size wr wx) (hc:wx.cell? ⟨b,0,none⟩ = some (.string ⟨c.vars[i].name.toArray⟩))=>vhas_of (some ⟨g,0,none⟩) vc (c.vars.take i) ⟨c.vars[i].name.toArray⟩ (by omega) b wx (vrs_keep (vrs_take hVr i) hx) hc
   rw [hli,show (⟨c.vars[i].name.toArray⟩:ByteArray).toList = c.vars[i].name by rw [Lib.toList_data]] at V
   replace V:=Lib.hid V
   have iG:InW g wr:=⟨hg⟩
   have hI0:(0:Int) ≤ (i:Int):=by omega
   have hIc:(i:Int) ≤ (vc:Int):=by omega
   have hIc2:i ≤ vc:=by omega
   generalize ((c.vars.take i).any fun u=>u.name == c.vars[i].name) = q at *
   generalize c.vars[i] = v at *
   clear hVr hli hT
   go_wp2
   go_region_held3 (fun w'=>w'.cell? ⟨w.heap.size,1,none⟩ = some (.slice (some ⟨g,0,none⟩) c.vars.length vc) ∧ w'.cell? ⟨wr.heap.size,0,none⟩ = some (str v.name)) ((refine ⟨?_,?_⟩ <;> first | assumption | (rw [cell_GI];assumption) | (simp [go_sem, *];done)))
    (first
     | ((with_reducible refine (named_any _ _).mono ?_);intro e w3 hr;obtain ⟨rfl,hx3,hb3⟩:=hr;obtain ⟨p3,rfl⟩:=toG hb3;clear hb3;(try simp only [G_drew,World.size_drew,World.size_alloc] at hx3))
     | ((with_reducible refine (V.out _ _ (by (first | exact gwT | exact lzT)) (by first | assumption | exact hx3 | (rw [← G_G];exact hx3))).mono ?_);intro e w4 hr;obtain ⟨rfl,p4,rfl⟩:=hr.out;clear hr))
   cases q with
   | true =>
    rw [if_pos rfl] at hm
    subst hm
    have hF:=hcs.out v.name rfl
    subst hF
    clear hcs hcn
    go_wp2
    (refine wp_region_G (by kernel_rfl) (by kernel_rfl) ?_;(repeat (go_big_quiet_step (fail)));refine wpQuiet_nil ?_;intro _ hw';obtain ⟨pg,hw''⟩:=hw';subst hw'')
    go_wp2
    go_returns
    exact ⟨rfl,by (first | exact gwT | exact lzT)⟩
   | false =>
    rw [if_neg Bool.false_ne_true] at hm
    have hm':=Lib.hid hm.symm
    clear hm
    go_wp2
    go_roundw
    case rel=>exact ⟨i + 1,by go_num,by omega,hm',(Below.block (B:=wr.heap.size) (by (first | exact gwT | exact lzT)) _ i0.lt).trans hbx,by (first | exact gwT | exact lzT)⟩
    case measure=>simp [intOf];omega
  ·have hI:¬ (i:Int) < (c.vars.length:Int):=by omega
   have hm:=twice_end (show c.vars.length ≤ i by omega)
   rw [hT.out] at hm
   have hF:=Lib.hid (hcn.out hm)
   have S1:=Lib.hid (fun wx (hx:Below wr.heap.size wr wx)=>SC.out wx (hb.trans (hx.mono hwz)))
   generalize hSS:scS (c.states.drop 1) = SS at S1
   replace hSS:=Lib.hid hSS
   clear hcs hcn hT hm SC hcap
   go_wp2
   go_upto_region 9 with (fail)
   go_cut [6] (fun x wx=>∃ lb,x = .pointer (some ⟨lb,0,none⟩) ∧ LkAt wx lb (lkC c) ∧ wx.cell? ⟨w.heap.size,2,none⟩ = some (.slice sa c.states.length sc) ∧ Below w.heap.size w wx)
   case first =>
    go_region_held3 (fun w'=>w'.cell? ⟨w.heap.size,0,none⟩ = some (str c.name) ∧ w'.cell? ⟨w.heap.size,1,none⟩ = some (.slice va c.vars.length vc) ∧ w'.cell? ⟨w.heap.size,2,none⟩ = some (.slice sa c.states.length sc)) ((refine ⟨?_,?_,?_⟩ <;> first | assumption | (rw [cell_GI];assumption) | (rw [cell_allocI];assumption) | (simp [go_sem, *];done)))
     (first | ((with_reducible refine (S1.out _ (by (first | exact gwT | exact lzT))).mono ?_);intro e w4 hr;obtain ⟨oa,oc,pa,pc,rfl,hO1,hO2,hb4⟩:=hr;obtain ⟨p4,rfl⟩:=toG hb4;clear hb4;(try simp only [G_drew,World.size_drew] at hO1 hO2)))
    all_goals
     go_wp2
     go_meet
    ·have e9:=hSS.out
     subst e9
     refine ⟨_,rfl,⟨B,rv,va,sa,oa,pa,vc,sc,oc,pc,heap_alloc_new _ _,C.out _ (by (first | exact gwT | exact lzT)),vars_below (vars_own hO1) (by (first | exact gwT | exact lzT)),strs_below (vstrs_own hO2) (by (first | exact gwT | exact lzT)),hLb.out _ (by (first | exact gwT | exact lzT))⟩,by simp [go_sem,b2],by (first | exact gwT | exact lzT)⟩
    ·have e9:=hSS.out
     subst e9
     refine ⟨_,rfl,⟨B,rv,va,sa,oa,pa,vc,sc,oc,pc,((belowG0 p4 _).block _ (by simp)).trans (heap_alloc_new _ _),C.out _ (by (first | exact gwT | exact lzT)),vars_own (own_Galloc hO1 (by simp)),vstrs_own (own_Galloc hO2 (by simp)),hLb.out _ (by (first | exact gwT | exact lzT))⟩,by simp [go_sem,b2],by (first | exact gwT | exact lzT)⟩
   case rest =>
    obtain ⟨lb,rfl,HL,k2,hb3⟩:=hcut
    rename World=>wx
    have hx:=hb3.size
    clear S1 b0 b1 b2 hbx hb hwz
    have P:=lkP_of O
    have HK:=Lib.hid (fun wy (hy:Below wx.heap.size wx wy)=>lk_keep HL hy)
    obtain ⟨_,_,_,_,_,_,_,_,_,_,HL⟩:=HL
    have iLb:InW lb wx:=⟨lt_of_block HL.blk⟩
    have i2:InW w.heap.size wx:=⟨World.block_lt_of_cell? _ _ k2⟩
    have hR:=Lib.hid (show stsE (lkC c) 0 (c.states.drop 0) = F by rw [hF.out];rfl)
    clear HL hF
    go_wp2
    go_loopw [42] (fun x wr=>∃ (i:Nat),x = .int .i64 (i:Int) ∧ i ≤ c.states.length ∧ Hid (stsE (lkC c) i (c.states.drop i) = F) ∧ Below wx.heap.size wx wr) (fun x _=>c.states.length - (intOf x).toNat)
    case atStart=>exact ⟨0,rfl,Nat.zero_le _,hR,by (first | exact gwT | exact lzT)⟩
    case round =>
     obtain ⟨i,rfl,hi,hF,hb⟩:=hrel
     rename World=>wr
     have hwz:=hb.size
     by_cases hlt:i < c.states.length
     ·have hI:(i:Int) < (c.states.length:Int):=by omega
      obtain ⟨g,eo,ec,xo,xc,to',tc,rfl,hg,n1,n2,n3,n4,n5,n6,n7,_,_,_⟩:=st_at (C.out wr (hb3.trans (hb.mono hx))) i hlt
      have hm:=sts_more (l:=lkC c) hlt
      rw [hF.out,state_errs] at hm
      have LK:=Lib.hid (fun wy (hy:Below wr.heap.size wr wy)=>looks_any (l:=lkC c) (lb:=lb) i hlt wy (HK.out wy (hb.trans (hy.mono hwz))))
      have LA:=Lib.hid (fun (k:Nat) (f:FuncId) (e:Int) hf he=>look_any (lb:=lb) P i hlt (k:=k) (f:=f) (e:=e) hf he)
      have hfe:=errs_len (l:=lkC c) i
      have hf5:(fnsL (lkC c) i).length ≤ 5:=by unfold fnsL;split <;> decide
      have iG:InW g wr:=⟨hg⟩
      have iL:InW lb wr:=⟨Nat.lt_of_lt_of_le iLb.lt hwz⟩
      generalize c.states[i] = s at *
      have hE0:=Lib.hid (show firstE id ((errsL (lkC c) i).drop 0) = firstE id (errsL (lkC c) i) by rw [List.drop_zero])
      generalize firstE id (errsL (lkC c) i) = E at *
      unfold LooksIs at LK
      generalize errsL (lkC c) i = es at *
      generalize fnsL (lkC c) i = fs at *
      have hm':=Lib.hid hm
      clear hm hF hR
      go_wp2_with fail
      refine (LK.out _ (by (first | exact gwT | exact lzT))).mono ?_
      rintro e w1 ⟨g2,cap,rfl,hg2,hcl,hb4⟩
      have hs1:=(hb4.cell (p:=⟨wr.heap.size,0,none⟩) (by simp)).trans (show _ = some (str s.name) by simp [go_sem])
      have hbw:Below wx.heap.size wx w1:=hb.trans ((Below.alloc (Below.refl _ _) (Nat.le_refl _) _ |>.trans (hb4.mono (by simp))).mono hwz)
      have hcl:=Lib.hid hcl
      have j1:InW g2 w1:=⟨hg2⟩
      have j2:InW wr.heap.size w1:=⟨World.block_lt_of_cell? _ _ hs1⟩
      have hz1:=hbw.size
      clear LK hb4 n1 n2 n3 n4 n5 n6 n7
      dsimp only
      go_wp2
      go_loopw [50] (fun x wq=>∃ (k:Nat),x = .int .i64 (k:Int) ∧ k ≤ fs.length ∧ Hid (firstE id (es.drop k) = E) ∧ Below w1.heap.size w1 wq) (fun x _=>fs.length - (intOf x).toNat)
      case atStart=>exact ⟨0,rfl,Nat.zero_le _,hE0,by (first | exact gwT | exact lzT)⟩
      case round =>
       obtain ⟨k,rfl,hk,hK,hbq⟩:=hrel
       rename World=>wq
       have hzq:=hbq.size
       have q1:InW g2 wq:=⟨Nat.lt_of_lt_of_le j1.lt hzq⟩
       have q2:InW wr.heap.size wq:=⟨Nat.lt_of_lt_of_le j2.lt hzq⟩
       have qs:=(hbq.cell (p:=⟨wr.heap.size,0,none⟩) j2.lt).trans hs1
       by_cases hlk:k < fs.length
       ·have hKI:(k:Int) < (fs.length:Int):=by omega
        have hlk2:k < es.length:=by omega
        have hcf:=hcl.out k fs[k] (List.getElem?_eq_getElem hlk)
        have qc:=(hbq.cell (p:=⟨g2,k,none⟩) j1.lt).trans hcf
        obtain ⟨hcf,X⟩:=LA.out k fs[k] es[k] (List.getElem?_eq_getElem hlk) (List.getElem?_eq_getElem hlk2)
        replace X:=Lib.hid (fun wy (hy:Below wq.heap.size wq wy)=>X wy (HK.out wy ((hbw.trans (hbq.mono hz1)).trans (hy.mono (Nat.le_trans hz1 hzq)))))
        have hn:=first_more (f:=id) hlk2
        rw [hK.out] at hn
        generalize fs[k] = f at *
        generalize hek:es[k] = e at *
        simp only [id] at hn
        unfold lookF at qc
        clear hK hE0 hek
        by_cases h0:e = 0
        ·rw [then_go h0] at hn
         obtain ⟨y0,y1⟩:=eq_eqs h0
         replace h0:=Lib.hid h0
         have hn':=Lib.hid hn.symm
         clear hn
         go_wp2
         refine Calls.mono (X.out _ (by (first | exact gwT | exact lzT))) ?_
         intro e5 w5 hr
         obtain ⟨rfl,p,rfl⟩:=hr.out
         clear hr
         go_wp2
         go_roundw
         case rel=>exact ⟨k + 1,by go_num,by omega,hn',by (first | exact gwT | exact lzT)⟩
         case measure=>simp [intOf];omega
        ·rw [then_no h0] at hn
         obtain ⟨y0,y1⟩:=ne_eqs h0
         subst hn
         have hm:=hm'.out
         rw [if_neg h0] at hm
         subst hm
         replace h0:=Lib.hid h0
         clear hm'
         go_wp2
         refine Calls.mono (X.out _ (by (first | exact gwT | exact lzT))) ?_
         intro e5 w5 hr
         obtain ⟨rfl,p,rfl⟩:=hr.out
         clear hr
         go_wp2
         (refine wp_region_G (by kernel_rfl) (by kernel_rfl) ?_;(repeat (go_big_quiet_step (fail)));refine wpQuiet_nil ?_;intro _ hw';obtain ⟨pg,hw''⟩:=hw';subst hw'')
         go_wp2
         go_returns
         refine ⟨rfl,?_⟩
         exact (hb3.trans ((hbw.trans (hbq.mono hz1)).mono hx)).trans (Below.mono (show Below wq.heap.size wq _ by (first | exact gwT | exact lzT)) (Nat.le_trans (Nat.le_trans hx hz1) hzq))
       ·have hKI:¬ (k:Int) < (fs.length:Int):=by omega
        have hn:E = 0:=by
         rw [← hK.out,List.drop_of_length_le (by omega)]
         rfl
        have hm:=hm'.out
        rw [if_pos hn] at hm
        have hm2:=Lib.hid hm.symm
        clear hm hm' hn hK hE0
        go_wp2
        go_roundw
        case rel=>exact ⟨i + 1,by go_num,by omega,hm2,(hbw.trans (hbq.mono hz1)).trans (Below.mono (show Below wq.heap.size wq _ by (first | exact gwT | exact lzT)) (Nat.le_trans hz1 hzq))⟩
        case measure=>simp [intOf];omega
     ·have hI:¬ (i:Int) < (c.states.length:Int):=by omega
      have hm:=sts_end (l:=lkC c) (show c.states.length ≤ i by omega)
      rw [hF.out] at hm
      subst hm
      clear hF hR
      go_wp2
      go_returns
      exact ⟨rfl,hb3.trans (Below.mono (by (first | exact gwT | exact lzT)) hx)⟩
end Go.Proofs.YtfgpmcepppcmiaaGreatDoor
