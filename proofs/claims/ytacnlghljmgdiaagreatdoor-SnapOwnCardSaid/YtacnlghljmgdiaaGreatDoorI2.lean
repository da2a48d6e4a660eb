/- Several texts of this proof, joined: KV, VK, VQ, VP, VR. -/
import Derived.Test.YtacnlghljmgdiaaGreatDoorY7
import Derived.Test.YtacnlghljmgdiaaGreatDoorY9
import Derived.WalkKit
import Derived.ProofKit
import Derived.OpenShut
import Derived.Handy
import Derived.BigQuiet
import Derived.OwnWalk
import Derived.Deep.AppendLies
import Derived.Lib.Hide
import Derived.WalkSmall
import Derived.WalkLawsBesides
import Derived.Test.YtacnlghljmgdiaaGreatDoorV5
import Derived.Test.YtacnlghljmgdiaaGreatDoorV9
import Derived.Test.YtacnlghljmgdiaaGreatDoorV7
import Derived.Test.YtacnlghljmgdiaaGreatDoorV8
import Derived.Test.YtacnlghljmgdiaaGreatDoorY2
import Derived.Deep.RegionHeld3
namespace Go.Proofs.YtacnlghljmgdiaaGreatDoor
open Go.RowKit
def v2h (v:ByteArray × Int):List Value:=[.string v.1,.int .i64 v.2]
def q2k (vs:List (ByteArray × Int)):List Value:=vs.flatMap v2h
theorem y8h (vs:List (ByteArray × Int)) (i:Nat) (h:i < vs.length):q2k (vs.take (i + 1)) = q2k (vs.take i) ++ v2h vs[i]:=by
 unfold q2k
 rw [List.take_succ_eq_append_getElem h,List.flatMap_append,List.flatMap_cons,List.flatMap_nil,List.append_nil]
theorem j5a:∀ (vs:List (ByteArray × Int)) (i:Nat) (h:i < vs.length) (j:Nat),j < 2 → (q2k vs)[i * 2 + j]? = (v2h vs[i])[j]?
 | [],i,h,_,_=>absurd h (Nat.not_lt_zero _)
 | t :: r,0,_,j,hj=>by
  unfold q2k
  rw [List.flatMap_cons,Nat.zero_mul,Nat.zero_add,List.getElem?_append_left (by simpa [v2h] using hj)]
  rfl
 | t :: r,i + 1,h,j,hj=>by
  have ih:=j5a r i (by simpa using h) j hj
  unfold q2k at *
  rw [List.flatMap_cons,List.getElem?_append_right (by simp [v2h];omega),show (i + 1) * 2 + j - (v2h t).length = i * 2 + j by simp [v2h];omega,ih]
  rfl
theorem y3v {w:World} {B cap:Nat} {e:TypeId} {na:Option Addr} {vs:List (ByteArray × Int)} (h:w.ownsRow B e 2 (.slice na vs.length cap) vs.length (q2k vs)):q2p w na vs:=by
 intro h0
 rcases h.2 with ⟨_,hn⟩ | ⟨g,cap',cur,hv,hb,hg,_⟩
 ·omega
 ·cases hv
  have hc:=h.cells (g:=g) rfl
  have hadd:∀ j,(⟨g,0,none⟩:Addr).add j = ⟨g,j,none⟩:=fun j=>by unfold Addr.add;split <;> simp_all
  refine ⟨g,0,rfl,(Array.getElem?_eq_some_iff.1 hg).1,fun i hi=>?_⟩
  rw [Nat.zero_add]
  refine ⟨?_,?_⟩
  ·rw [← hadd];exact hc _ _ ((j5a vs i hi 0 deT).trans rfl)
  ·rw [← hadd];exact hc _ _ ((j5a vs i hi 1 deT).trans rfl)
theorem Tryz.infoVK:(Tryz.prog.info? 229).map (fun i=>(i.zero,i.size,i.bytes)) = some (some (.agg #[.string ⟨#[]⟩,.int .i64 0]),2,24):=by kernel_rfl
theorem Tryz.infoVS:(Tryz.prog.info? 9).map (fun i=>(i.zero,i.size,i.bytes)) = some (some (.string ⟨#[]⟩),1,16):=by kernel_rfl
theorem y0s (vs:List Vr):(scV vs).length = vs.length:=by simp [scV]
theorem k9i (vs:List Vr) (i:Nat) (h:i < vs.length):q2k ((scV vs).take (i + 1)) = q2k ((scV vs).take i) ++ [str vs[i].name,.int .i64 vs[i].vk]:=by
 rw [y8h (scV vs) i (by rw [y0s];exact h)]
 simp [scV,v2h]
theorem j8i {w:World} {B cap:Nat} {e:TypeId} {na:Option Addr} {ss:List ByteArray} (h:w.ownsRow B e 1 (.slice na ss.length cap) ss.length (ss.map Value.string)):q2o w na ss:=by
 intro h0
 obtain ⟨g,cap',e,hg,_,_,hc⟩:=z1g h h0
 cases e
 exact ⟨g,0,rfl,hg,fun i hi=>by rw [Nat.zero_add];exact hc _ _ (by rw [List.getElem?_map,List.getElem?_eq_getElem hi];rfl)⟩
theorem k9h {ss:List St} {i:Nat} (h:i < ss.length):scS (ss.take (i + 1)) = scS (ss.take i) ++ if z3o ss[i] then [] else [⟨ss[i].name.toArray⟩]:=by
 unfold scS
 rw [List.take_succ_eq_append_getElem h,List.filter_append,List.map_append]
 cases hp:z3o ss[i] <;> simp [hp]
theorem v2c (ss:List St):(scS ss).length ≤ ss.length:=by
 unfold scS
 rw [List.length_map]
 exact List.length_filter_le _ _
def x3u (vs:List (ByteArray × Int)) (ss:List ByteArray) (w:World) (e:Ending) (w':World):Prop:=∃ oa oc pa pc,e = .returned (.agg #[.slice oa vs.length oc,.slice pa ss.length pc]) ∧ w'.ownsRow w.heap.size 229 2 (.slice oa vs.length oc) vs.length (q2k vs) ∧ w'.ownsRow w.heap.size 9 1 (.slice pa ss.length pc) ss.length (ss.map Value.string) ∧ Below w.heap.size w w'
structure ScF (b:Nat) (sa:Option Addr) (n sc:Nat) (v1 v2:Value) (w:World):Prop where
 ch:∃ a1 a2,w.heap[b]? = some (.cells #[a1,a2,.slice sa n sc] 72 (0,0))
 an:w.heap[b + 1]? = some (.cells #[.slice none 0 0,.slice none 0 0] 173 (0,0))
 sc:w.heap[b + 1 + 1]? = some (.cells #[v1,v2] 173 (0,0))
section
variable {b:Nat} {sa:Option Addr} {n sc:Nat} {v1 v2:Value} {w w':World}
theorem q0f (h:ScF b sa n sc v1 v2 w):w.cell? ⟨b,2,none⟩ = some (.slice sa n sc) ∧ w.cell? ⟨b + 1,0,none⟩ = some (.slice none 0 0) ∧ w.cell? ⟨b + 1,1,none⟩ = some (.slice none 0 0) ∧ w.cell? ⟨b + 1 + 1,0,none⟩ = some v1 ∧ w.cell? ⟨b + 1 + 1,1,none⟩ = some v2 ∧
  w.frozen? ⟨b + 1,0,none⟩ = false ∧ w.frozen? ⟨b + 1,1,none⟩ = false ∧ w.frozen? ⟨b + 1 + 1,0,none⟩ = false ∧ w.frozen? ⟨b + 1 + 1,1,none⟩ = false:=by
 obtain ⟨⟨a1,a2,h1⟩,h2,h3⟩:=h
 exact ⟨(cell_of_row w b 2 _ _ _ h1).trans rfl,(cell_of_row w _ 0 _ _ _ h2).trans rfl,(cell_of_row w _ 1 _ _ _ h2).trans rfl,(cell_of_row w _ 0 _ _ _ h3).trans rfl,(cell_of_row w _ 1 _ _ _ h3).trans rfl,frozen_of_row w _ 0 _ _ h2,frozen_of_row w _ 1 _ _ h2,frozen_of_row w _ 0 _ _ h3,frozen_of_row w _ 1 _ _ h3⟩
theorem j4l {m:Nat} (h:ScF b sa n sc v1 v2 w) (hb:Below m w w') (hm:b + 1 + 1 < m):ScF b sa n sc v1 v2 w':=by
 obtain ⟨⟨a1,a2,h1⟩,h2,h3⟩:=h
 exact ⟨⟨a1,a2,(hb.block b omT).trans h1⟩,(hb.block _ omT).trans h2,(hb.block _ omT).trans h3⟩
theorem k9f {u:Value} {s2:Nat} (h:ScF b sa n sc v1 v2 w) (hs:s2 = b + 1 + 1):ScF b sa n sc u v2 (w.setCell ⟨s2,0,none⟩ u):=by
 subst hs
 obtain ⟨⟨a1,a2,h1⟩,h2,h3⟩:=h
 exact ⟨⟨a1,a2,(z0v omT).trans h1⟩,(z0v omT).trans h2,z0l h3⟩
theorem k9g {u:Value} {s2:Nat} (h:ScF b sa n sc v1 v2 w) (hs:s2 = b + 1 + 1):ScF b sa n sc v1 u (w.setCell ⟨s2,1,none⟩ u):=by
 subst hs
 obtain ⟨⟨a1,a2,h1⟩,h2,h3⟩:=h
 exact ⟨⟨a1,a2,(z0v omT).trans h1⟩,(z0v omT).trans h2,z0l h3⟩
end
set_option maxRecDepth 100000 in
set_option maxHeartbeats 4000000 in
theorem k3m {c:Ch} {B:Nat} {rv:Nat → Value} {va sa:Option Addr} {vc sc:Nat} (hv16:c.vars.length ≤ 16) (h49:c.states.length ≤ 49) (hs:0 < c.states.length) (w:World) (H:ChV ct0 B w c rv (.slice va c.vars.length vc) (.slice sa c.states.length sc)) :
  Calls Tryz.prog 78 #[.agg #[str c.name,.slice va c.vars.length vc,.slice sa c.states.length sc]] w (x3u (scV c.vars) (scS (c.states.drop 1)) w):=by
 have C:=hiT (fun wx (hb:Below w.heap.size w wx)=>z1u H hb)
 have htk:=hiT (fun i (h:i < c.vars.length)=>k9i c.vars i h)
 obtain ⟨j0,hj,hy1,hy2,hy3⟩:=info_parts Tryz.infoVK
 obtain ⟨kz,hk,hz1,hz2,hz3⟩:=info_parts Tryz.infoVS
 have hvl:=y0s c.vars
 obtain ⟨g0,cap0,hsa,hg0,hcap,_,_⟩:=z1g H.sts hs
 cases hsa
 have hD:Hid (∀ i,i < (c.states.drop 1).length → ∃ h:i + 1 < c.states.length,(c.states.drop 1)[i]? = some c.states[i + 1]):=hiT fun i hi=>by
  rw [List.length_drop] at hi
  exact ⟨by omega,by rw [List.getElem?_drop,List.getElem?_eq_getElem omT];simp [Nat.add_comm]⟩
 have hDl:(c.states.drop 1).length = c.states.length - 1:=List.length_drop ..
 generalize c.states.drop 1 = D at *
 have hDt:=hiT (List.take_length (l:=D))
 clear H
 go_enter Tryz.func78,Tryz.ntmps78
 go_wp2
 generalize hW:(((w.alloc (.cells #[str c.name,.slice va c.vars.length vc,.slice (some ⟨g0,0,none⟩) c.states.length sc] 72)).alloc (.cells #[.slice none 0 0,.slice none 0 0] 173)).alloc (.cells #[.slice none 0 0,.slice none 0 0] 173)) = W0
 have hb0:Below w.heap.size w W0:=by rw [← hW];exact gzT
 have hz0:W0.heap.size = w.heap.size + 3:=by rw [← hW];simp
 have f0:ScF w.heap.size (some ⟨g0,0,none⟩) c.states.length sc (.slice none 0 0) (.slice none 0 0) W0:=by
  rw [← hW]
  refine ⟨?_,?_,?_⟩
  ·exact ⟨_,_,z0j (z0j (heap_alloc_new w _))⟩
  ·exact z0j (z0s (by simp))
  ·exact z0s (by simp)
 clear hW
 generalize hs1:w.heap.size + 1 = s1 at *
 generalize hs2:s1 + 1 = s2 at *
 go_loopw [11] (fun x wr=>∃ (i:Nat) (oa:Option Addr) (oc:Nat),x = .int .i64 (i:Int) ∧ i ≤ c.vars.length ∧ ScF w.heap.size (some ⟨g0,0,none⟩) c.states.length sc (.slice oa i oc) (.slice none 0 0) wr ∧ wr.ownsRow (w.heap.size + 3) 229 2 (.slice oa i oc) i (q2k ((scV c.vars).take i)) ∧ Below w.heap.size w wr) (fun x _=>c.vars.length - (intOf x).toNat)
 case atStart=>exact ⟨0,none,0,rfl,Nat.zero_le _,f0,World.ownsRow_nil _ _ _ _,hb0⟩
 case round =>
  obtain ⟨i,oa,oc,rfl,hi,f1,hown,hb⟩:=hrel
  rename World=>wr
  have hwz:=hb.size
  obtain ⟨k0,k1,k2,k3,k4,k5,k6,k7,k8⟩:=q0f f1
  rw [hs1] at k1 k2 k5 k6
  rw [hs1,hs2] at k3 k4 k7 k8
  have i0:InW w.heap.size wr:=⟨World.block_lt_of_cell? _ _ k0⟩
  have j1:InW s1 wr:=⟨World.block_lt_of_cell? _ _ k1⟩
  have j2:InW s2 wr:=⟨World.block_lt_of_cell? _ _ k3⟩
  have hlt2:=j2.lt
  have hownK:=hiT hown
  clear hown
  by_cases hlt:i < c.vars.length
  ·obtain ⟨g,rfl,hg,n1,n2,n3,n4⟩:=j8f (C.out wr hb) i hlt
   have ht:=hiT (htk.out i hlt)
   generalize c.vars[i] = v at *
   have i1:InW g wr:=⟨hg⟩
   have hI:(i:Int) < (c.vars.length:Int):=by omega
   go_wp2_with (at_builtin;refine wpList_append_lies _ rfl _ _ 171 rfl (w.heap.size + 3) 229 j0 _ 2 24 Tryz.underlying171 hj hy1 hy2 hy3 rfl deT (.slice oa i oc) i (q2k ((scV c.vars).take i)) rfl (z0a hownK.out gzT) ⟨_,0,none⟩ 1 1 [str v.name,.int .i64 v.vk] rfl rfl (World.news_of_block (z0s (by simp))) (by intro u hu;simp at hu;rcases hu with rfl | rfl <;> rfl) deT (by unfold maxLen;omega) omT (by simp [go_sem];omega) _ rfl ?_)
   intro g' cap' w2 hown1 hgrow hat1 hg1
   have hbA:Below (w.heap.size + 3) wr w2:=Below.grown gzT hgrow (by simp [go_sem];omega) (fun k hk=>(hownK.out.lt k hk).1)
   have f2:=j4l f1 hbA omT
   obtain ⟨k0',k1',k2',k3',k4',k5',k6',k7',k8'⟩:=q0f f2
   rw [hs1] at k1' k2' k5' k6'
   rw [hs1,hs2] at k3' k4' k7' k8'
   have hown2:=hiT hown1
   have hqz:=hbA.size
   clear hown1 hgrow hat1 hg1 hownK k0 k1 k2 k3 k4 k5 k6 k7 k8 i0 j1 j2 n1 n2 n3 n4 i1
   go_wp2
   go_roundw
   case rel=>exact ⟨i + 1,_,cap',by go_num,by omega,k9f f2 omT,by rw [ht.out];exact ownsRow_setCell_below hown2.out (by show s2 < _;omega) _,Below.setCell (hb.trans (hbA.mono omT)) (show w.heap.size ≤ s2 by omega) _⟩
   case measure=>simp [intOf];omega
  ·obtain rfl:i = c.vars.length:=by omega
   have hI:¬ (c.vars.length:Int) < (c.vars.length:Int):=by omega
   have hVr:Hid (wr.ownsRow (w.heap.size + 3) 229 2 (.slice oa c.vars.length oc) c.vars.length (q2k (scV c.vars))):=hiT (by
    have:=hownK.out
    rw [← hvl,List.take_length] at this
    rw [hvl] at this
    exact this)
   have hL1:(1:Int) ≤ (c.states.length:Int):=by omega
   clear hownK htk f0 hb0 hz0
   go_wp2
   ·go_loopw [31] (fun x wq=>∃ (j:Nat) (pa:Option Addr) (pc:Nat),x = .int .i64 (j:Int) ∧ j ≤ c.states.length - 1 ∧ ScF w.heap.size (some ⟨g0,0,none⟩) c.states.length sc (.slice oa c.vars.length oc) (.slice pa (scS (D.take j)).length pc) wq ∧ wq.ownsRow (w.heap.size + 3) 9 1 (.slice pa (scS (D.take j)).length pc) (scS (D.take j)).length ((scS (D.take j)).map Value.string) ∧ wq.ownsRow (w.heap.size + 3) 229 2 (.slice oa c.vars.length oc) c.vars.length (q2k (scV c.vars)) ∧ Below w.heap.size w wq) (fun x _=>c.states.length - 1 - (intOf x).toNat)
    case atStart=>exact ⟨0,none,0,rfl,Nat.zero_le _,f1,World.ownsRow_nil _ _ _ _,hVr.out,hb⟩
    case round =>
     obtain ⟨j,pa,pc,rfl,hj,f3,hown,hvr,hb3⟩:=hrel
     rename World=>wq
     clear f1 hVr hb k0 k1 k2 k3 k4 k5 k6 k7 k8 i0 j1 j2 hlt2 hlt hwz
     have hwz:=hb3.size
     obtain ⟨k0,k1,k2,k3,k4,k5,k6,k7,k8⟩:=q0f f3
     rw [hs1] at k1 k2 k5 k6
     rw [hs1,hs2] at k3 k4 k7 k8
     have i0:InW w.heap.size wq:=⟨World.block_lt_of_cell? _ _ k0⟩
     have j1:InW s1 wq:=⟨World.block_lt_of_cell? _ _ k1⟩
     have j2:InW s2 wq:=⟨World.block_lt_of_cell? _ _ k3⟩
     have hlt2:=j2.lt
     have hownK:=hiT hown
     have hvK:=hiT hvr
     clear hown hvr
     have hn1:c.states.length = 1:=by omega
     by_cases hlj:j < c.states.length - 1
     ·omega
     ·obtain rfl:j = c.states.length - 1:=by omega
      have hI2:¬ ((c.states.length - 1:Nat):Int) < ((c.states.length - 1:Nat):Int):=by omega
      have hT:=hDt.out
      rw [hDl] at hT
      rw [hT] at hownK k4
      have hvS:=hvK.out
      rw [← hvl] at hvS
      replace hvS:=hiT hvS
      clear hvK
      have m0:=World.cell?_setCell_same wq ⟨s1,0,none⟩ (.slice oa c.vars.length oc) k1
      have m1:((wq.setCell ⟨s1,0,none⟩ (.slice oa c.vars.length oc)).setCell ⟨s1,1,none⟩ (.slice pa (scS D).length pc)).cell? ⟨s1,1,none⟩ = some (.slice pa (scS D).length pc):=World.cell?_setCell_same (u := .slice none 0 0) _ _ _ (by simp [go_sem,k2])
      go_wp2
      refine bodyPost_ret (v := .agg #[.slice oa c.vars.length oc,.slice pa (scS D).length pc]) (by simp [results,Tryz.f78,go_sem,m0,m1]) rfl ?_
      refine ⟨oa,oc,pa,pc,by rw [hvl],?_,?_,?_⟩
      ·exact z0m (B:=w.heap.size + 3) (hB:=by omega) (ownsRow_setCell_below (ownsRow_setCell_below hvS.out (by show s1 < _;omega) _) (by show s1 < _;omega) _)
      ·exact z0m (B:=w.heap.size + 3) (hB:=by omega) (ownsRow_setCell_below (ownsRow_setCell_below hownK.out (by show s1 < _;omega) _) (by show s1 < _;omega) _)
      ·exact Below.setCell (Below.setCell hb3 (show w.heap.size ≤ s1 by omega) _) (show w.heap.size ≤ s1 by omega) _
   ·go_loopw [31] (fun x wq=>∃ (j:Nat) (pa:Option Addr) (pc:Nat),x = .int .i64 (j:Int) ∧ j ≤ c.states.length - 1 ∧ ScF w.heap.size (some ⟨g0,0,none⟩) c.states.length sc (.slice oa c.vars.length oc) (.slice pa (scS (D.take j)).length pc) wq ∧ wq.ownsRow (w.heap.size + 3) 9 1 (.slice pa (scS (D.take j)).length pc) (scS (D.take j)).length ((scS (D.take j)).map Value.string) ∧ wq.ownsRow (w.heap.size + 3) 229 2 (.slice oa c.vars.length oc) c.vars.length (q2k (scV c.vars)) ∧ Below w.heap.size w wq) (fun x _=>c.states.length - 1 - (intOf x).toNat)
    case atStart=>exact ⟨0,none,0,rfl,Nat.zero_le _,f1,World.ownsRow_nil _ _ _ _,hVr.out,hb⟩
    case round =>
     obtain ⟨j,pa,pc,rfl,hj,f3,hown,hvr,hb3⟩:=hrel
     rename World=>wq
     clear f1 hVr hb k0 k1 k2 k3 k4 k5 k6 k7 k8 i0 j1 j2 hlt2 hlt hwz
     have hwz:=hb3.size
     obtain ⟨k0,k1,k2,k3,k4,k5,k6,k7,k8⟩:=q0f f3
     rw [hs1] at k1 k2 k5 k6
     rw [hs1,hs2] at k3 k4 k7 k8
     have i0:InW w.heap.size wq:=⟨World.block_lt_of_cell? _ _ k0⟩
     have j1:InW s1 wq:=⟨World.block_lt_of_cell? _ _ k1⟩
     have j2:InW s2 wq:=⟨World.block_lt_of_cell? _ _ k3⟩
     have hlt2:=j2.lt
     have hownK:=hiT hown
     have hvK:=hiT hvr
     clear hown hvr
     by_cases hlj:j < c.states.length - 1
     ·obtain ⟨g,eo,ec,xo,xc,to',tc,hge,hg,n1,n2,n3,n4,n5,n6,n7,_,_,_⟩:=z8h (C.out wq hb3) (j + 1) omT
      cases hge
      obtain ⟨_,hDj⟩:=hD.out j omT
      obtain ⟨hjD,hDj⟩:=List.getElem?_eq_some_iff.1 hDj
      have hn:=k9h hjD
      rw [hDj] at hn
      have hle:=v2c (D.take j)
      rw [List.length_take] at hle
      generalize c.states[j + 1] = s at *
      have e7:(j + 1) * 7 = 7 + j * 7:=by omega
      rw [e7] at n1 n2 n3 n4 n5 n6 n7
      have i1:InW g0 wq:=⟨hg⟩
      have hI2:(j:Int) < ((c.states.length - 1:Nat):Int):=by omega
      have Q:=hiT (fun wx=>q0l s (.slice eo s.enter.length ec) (.slice xo s.exit.length xc) (.slice to' s.trans.length tc) wx)
      clear hDj hlj
      cases hp:z3o s
      ·rw [hp] at hn Q
       rw [if_neg deT] at hn
       have hn':=hiT hn
       clear hn
       generalize (scS (D.take j)) = N at *
       go_wp2_with (first | ((with_reducible refine (Q.out _).mono ?_);intro e w1 hr;obtain ⟨rfl,p,rfl⟩:=hr.out;clear hr) | (at_builtin;refine wpList_append_lies _ rfl _ _ 38 rfl (w.heap.size + 3) 9 kz _ 1 16 Tryz.underlying38 hk hz1 hz2 hz3 rfl deT (.slice pa N.length pc) N.length (N.map Value.string) rfl (z0a hownK.out gzT) ⟨_,0,none⟩ 1 1 [str s.name] rfl rfl (World.news_of_block (z0s (by simp))) (by intro u hu;simp at hu;subst hu;rfl) deT (by unfold maxLen;omega) omT (Nat.le_trans (show w.heap.size + 3 ≤ wq.heap.size by omega) (Below.size (B:=wq.heap.size) gzT)) _ rfl ?_))
       intro g' cap' w2 hown1 hgrow hat1 hg1
       have hbA:Below (w.heap.size + 3) wq w2:=Below.grown gzT hgrow (Nat.le_trans (show w.heap.size + 3 ≤ wq.heap.size by omega) (Below.size (B:=wq.heap.size) gzT)) (fun k hk=>(hownK.out.lt k hk).1)
       have f4:=j4l f3 hbA omT
       have hv2:=z1l (B:=w.heap.size + 3) (B':=w.heap.size + 3) (e:=229) (z0a hownK.out gzT) deT hgrow _ _ _ _ (z0a hvK.out gzT)
       obtain ⟨k0',k1',k2',k3',k4',k5',k6',k7',k8'⟩:=q0f f4
       rw [hs1] at k1' k2' k5' k6'
       rw [hs1,hs2] at k3' k4' k7' k8'
       have hown2:=hiT hown1
       have hvL:=hiT hv2
       have hqz:=hbA.size
       clear hown1 hgrow hat1 hg1 hownK hvK hv2 k0 k1 k2 k3 k4 k5 k6 k7 k8 i0 j1 j2 n1 n2 n3 n4 n5 n6 n7 i1
       go_wp2
       go_roundw
       case rel=>exact ⟨j + 1,_,cap',by go_num,by omega,by rw [hn'.out,List.length_append];exact k9g f4 omT,by rw [hn'.out,List.length_append,List.map_append];exact ownsRow_setCell_below hown2.out (by show s2 < _;omega) _,ownsRow_setCell_below hvL.out (by show s2 < _;omega) _,Below.setCell (hb3.trans (hbA.mono omT)) (show w.heap.size ≤ s2 by omega) _⟩
       case measure=>simp [intOf];omega
      ·rw [hp] at hn Q
       rw [if_pos rfl,List.append_nil] at hn
       have hn':=hiT hn
       clear k1 k2 k3 k4 k5 k6 k7 k8 hn
       go_wp2_with ((with_reducible refine (Q.out _).mono ?_);intro e w1 hr;obtain ⟨rfl,p,rfl⟩:=hr.out;clear hr)
       go_roundw
       case rel=>exact ⟨j + 1,pa,pc,by go_num,by omega,by rw [hn'.out];exact j4l (m:=wq.heap.size) f3 gzT omT,by rw [hn'.out];exact z0a hownK.out gzT,z0a hvK.out gzT,gzT⟩
       case measure=>simp [intOf];omega
     ·obtain rfl:j = c.states.length - 1:=by omega
      have hI2:¬ ((c.states.length - 1:Nat):Int) < ((c.states.length - 1:Nat):Int):=by omega
      have hT:=hDt.out
      rw [hDl] at hT
      rw [hT] at hownK k4
      have hvS:=hvK.out
      rw [← hvl] at hvS
      replace hvS:=hiT hvS
      clear hvK
      have m0:=World.cell?_setCell_same wq ⟨s1,0,none⟩ (.slice oa c.vars.length oc) k1
      have m1:((wq.setCell ⟨s1,0,none⟩ (.slice oa c.vars.length oc)).setCell ⟨s1,1,none⟩ (.slice pa (scS D).length pc)).cell? ⟨s1,1,none⟩ = some (.slice pa (scS D).length pc):=World.cell?_setCell_same (u := .slice none 0 0) _ _ _ (by simp [go_sem,k2])
      go_wp2
      refine bodyPost_ret (v := .agg #[.slice oa c.vars.length oc,.slice pa (scS D).length pc]) (by simp [results,Tryz.f78,go_sem,m0,m1]) rfl ?_
      refine ⟨oa,oc,pa,pc,by rw [hvl],?_,?_,?_⟩
      ·exact z0m (B:=w.heap.size + 3) (hB:=by omega) (ownsRow_setCell_below (ownsRow_setCell_below hvS.out (by show s1 < _;omega) _) (by show s1 < _;omega) _)
      ·exact z0m (B:=w.heap.size + 3) (hB:=by omega) (ownsRow_setCell_below (ownsRow_setCell_below hownK.out (by show s1 < _;omega) _) (by show s1 < _;omega) _)
      ·exact Below.setCell (Below.setCell hb3 (show w.heap.size ≤ s1 by omega) _) (show w.heap.size ≤ s1 by omega) _
section
variable {l:Lk} {lb:Nat}
theorem x2r (P:LkP l) (o a:Nat) (ho:o < l.c.states.length) (ha:a < l.c.states.length) (b1 b2:Nat) (w:World) (h1:w.cell? ⟨b1,0,none⟩ = some (.pointer (some ⟨lb,0,none⟩))) (h2:w.cell? ⟨b2,0,none⟩ = some (.int .i64 (a:Int))) (H:q9y w lb l):k5i 211 #[.pointer (some ⟨b1,0,none⟩),.pointer (some ⟨b2,0,none⟩)] (fun o => !q2u l.c.states a o) o w:=by
 have A:=hiT (fun wx (hb:Below w.heap.size w wx)=>y8y P a o ha ho wx (z5r H hb))
 have i1:InW b1 w:=⟨World.block_lt_of_cell? _ _ h1⟩
 have i2:InW b2 w:=⟨World.block_lt_of_cell? _ _ h2⟩
 unfold k5i
 simp only
 generalize q2u l.c.states a o = q at *
 clear H
 show Calls Tryz.prog _ #[.int .i64 (o:Int),.pointer (some ⟨b1,0,none⟩),.pointer (some ⟨b2,0,none⟩)] _ _
 go_enter Tryz.func211,Tryz.ntmps211
 go_wp2_with ((with_reducible refine (A.out _ gzT).mono ?_);intro e w1 hr;obtain ⟨rfl,p,rfl⟩:=hr.out;clear hr)
 go_returns
 exact ⟨rfl,gzT⟩
def j5g (w:World) (ao:Option Addr) (gs:List (List UInt8)):Prop:=∀ i (hi:i < gs.length),∃ g,ao = some ⟨g,0,none⟩ ∧ g < w.heap.size ∧ w.cell? ⟨g,i,none⟩ = some (str gs[i])
theorem q7r {w w':World} {ao:Option Addr} {gs:List (List UInt8)} (h:j5g w ao gs) (hb:Below w.heap.size w w'):j5g w' ao gs:=fun i hi=>by
 obtain ⟨g,e,hg,h1⟩:=h i hi
 exact ⟨g,e,Nat.lt_of_lt_of_le hg hb.size,(hb.cell (p:=⟨g,_,none⟩) hg).trans h1⟩
theorem k7b {w:World} {B:Nat} {ao:Option Addr} {n cap:Nat} {gs:List (List UInt8)} (h:w.ownsRow B 9 1 (.slice ao n cap) gs.length (z6a gs)):j5g w ao gs:=fun i hi=>by
 obtain ⟨g,cap',e,hg,_,_,hc⟩:=z1g h omT
 cases e
 exact ⟨g,rfl,hg,hc _ _ (by unfold z6a;rw [List.getElem?_map,List.getElem?_eq_getElem hi];rfl)⟩
theorem k4e {ss:List St} {gs:List (List UInt8)} {i:Nat} (h:i < gs.length) (ahead:List Nat):y3t ss (gs.drop i) ahead = match z7b gs[i] ss 0 with
  | none=>32
  | some at_=>if ahead.any fun o => !q2u ss at_ o then 32 else y3t ss (gs.drop (i + 1)) (ahead ++ [at_]):=by
 rw [List.drop_eq_getElem_cons h,y3t]
 cases z7b gs[i] ss 0 <;> rfl
theorem v6n {ss:List St} {gs:List (List UInt8)} {i:Nat} (h:gs.length ≤ i) (ahead:List Nat):y3t ss (gs.drop i) ahead = 0:=by
 rw [List.drop_of_length_le h,y3t]
set_option maxRecDepth 100000 in
set_option maxHeartbeats 8000000 in
theorem y0y (P:LkP l) (ao:Option Addr) (cap:Nat) (gs:List (List UInt8)) (hn:gs.length ≤ 1000) (w:World) (h:j5g w ao gs) (H:q9y w lb l):Calls Tryz.prog 186 #[.pointer (some ⟨lb,0,none⟩),.slice ao gs.length cap] w (Ret (.int .i64 (y3t l.c.states gs [])) w):=by
 have L:=hiT (fun wx (hb:Below w.heap.size w wx)=>z5r H hb)
 have R:=hiT (fun wx (hb:Below w.heap.size w wx)=>q7r h hb)
 obtain ⟨B,rv,va,sa,oa,pa,vc,sc,oc,pc,H⟩:=H
 have FF:=hiT (fun nm=>q3d P H nm)
 obtain ⟨hl,c0,c1,c2,c3,c4⟩:=z3r H
 have hF':Hid (y3t l.c.states (gs.drop 0) [] = y3t l.c.states gs []):=hiT (by rw [List.drop_zero])
 generalize y3t l.c.states gs [] = F at *
 have i1:InW lb w:=⟨hl⟩
 obtain ⟨j0,hj,hy1,hy2,hy3⟩:=info_parts Tryz.infoInt
 have hmf:∀ (fn:Fn) (first cap:Array Value) (w:World),(Instr.makeFunc fn first cap).run Tryz.prog w = .ok (.func fn first cap) w:=fun _ _ _ _=>rfl
 clear h
 go_enter Tryz.func186,Tryz.ntmps186
 go_wp2
 go_loopw [5,12] (fun v x wr=>∃ (i:Nat) (ks:List Nat) (oa:Option Addr) (oc:Nat),x = .int .i64 (i:Int) ∧ i ≤ gs.length ∧ ks.length = i ∧ (∀ k ∈ ks,k < l.c.states.length) ∧ Hid (y3t l.c.states (gs.drop i) ks = F) ∧ v = .slice oa ks.length oc ∧ wr.ownsRow (w.heap.size + 1) 3 1 (.slice oa ks.length oc) ks.length (z1h ks) ∧ wr.cell? ⟨w.heap.size,0,none⟩ = some (.pointer (some ⟨lb,0,none⟩)) ∧ Below w.heap.size w wr) (fun _ x _=>gs.length - (intOf x).toNat)
 case atStart=>exact ⟨0,[],none,0,rfl,Nat.zero_le _,rfl,fun _ h=>(by cases h),hF',rfl,World.ownsRow_nil _ _ _ _,by simp [go_sem],gzT⟩
 case round =>
  obtain ⟨i,ks,oa2,oc2,rfl,hi,hki,hks,hF,rfl,hown,hbx,hb⟩:=hrel
  rename World=>wr
  have hwz:=hb.size
  have i0:InW w.heap.size wr:=⟨World.block_lt_of_cell? _ _ hbx⟩
  have hz0:=i0.lt
  have iL:InW lb wr:=⟨by omega⟩
  have d0:=(hb.cell (p:=⟨lb,0,none⟩) hl).trans c0
  have d1:=(hb.cell (p:=⟨lb,1,none⟩) hl).trans c1
  have d2:=(hb.cell (p:=⟨lb,2,none⟩) hl).trans c2
  have hownK:=hiT hown
  have hk1000:ks.length ≤ 1000:=by omega
  replace hki:=hiT hki
  clear hown
  by_cases hlt:i < gs.length
  ·have hI:(i:Int) < (gs.length:Int):=by omega
   obtain ⟨g,rfl,hg,n1⟩:=R.out wr hb i hlt
   have hm:=k4e (ss:=l.c.states) hlt ks
   have iG:InW g wr:=⟨hg⟩
   have Fd:=FF.out gs[i]
   rw [hF.out] at hm
   have hfl:=k0e P gs[i]
   unfold fnd isF at Fd
   unfold fnd at hfl
   generalize gs[i] = nm at *
   replace Fd:=hiT (fun wx (hx:Below wr.heap.size wr wx)=>Fd.out wx (hb.trans (hx.mono hwz)))
   cases hf:z7b nm l.c.states 0 with
   | none =>
    rw [hf] at hm Fd
    simp only [Option.getD_none,Option.isSome_none] at hm Fd
    subst hm
    clear hF hf hfl
    go_wp2_with ((with_reducible refine (Fd.out _ gzT).mono ?_);intro e w1 hr;obtain ⟨rfl,p,rfl⟩:=hr.out;clear hr)
    go_returns
    exact ⟨rfl,gzT⟩
   | some k =>
    rw [hf] at hm Fd hfl
    simp only [Option.getD_some,Option.isSome_some] at hm Fd hfl
    have A:=hiT (fun b2 wx (hx:Below wr.heap.size wr wx) (h2:wx.cell? ⟨b2,0,none⟩ = some (.int .i64 (k:Int)))=>j9m 211 (fun _ _=>rfl) (.pointer (some ⟨w.heap.size,0,none⟩)) (.pointer (some ⟨b2,0,none⟩)) #[.pointer (some ⟨w.heap.size,0,none⟩),.pointer (some ⟨b2,0,none⟩)] (.inr rfl) (fun o => !q2u l.c.states k o) oa2 oc2 ks hk1000 wx (j9z (z0a hownK.out hx)) fun o ho wy hy=>x2r P o k (hks o ho) hfl w.heap.size b2 wy ((hy.cell (p:=⟨w.heap.size,0,none⟩) (by have:=hx.size;show w.heap.size < _;omega)).trans ((hx.cell (p:=⟨w.heap.size,0,none⟩) hz0).trans hbx)) ((hy.cell (p:=⟨b2,0,none⟩) (World.block_lt_of_cell? _ _ h2)).trans h2) (L.out wy ((hb.trans (hx.mono hwz)).trans (hy.mono (Nat.le_trans hwz hx.size)))))
    generalize (ks.any fun o => !q2u l.c.states k o) = q at *
    clear hF hf
    cases q with
    | true =>
     rw [if_pos rfl] at hm
     subst hm
     go_wp2_with (first | ((with_reducible refine (Fd.out _ gzT).mono ?_);intro e w1 hr;obtain ⟨rfl,p,rfl⟩:=hr.out;clear hr) | ((with_reducible refine (A.out _ _ gzT (by simp [go_sem])).mono ?_);intro e w1 hr;obtain ⟨rfl,p,rfl⟩:=hr.out;clear hr))
     go_returns
     exact ⟨rfl,gzT⟩
    | false =>
     rw [if_neg Bool.false_ne_true] at hm
     have hm':=hiT hm.symm
     clear hm
     go_wp2_with (first | ((with_reducible refine (Fd.out _ gzT).mono ?_);intro e w1 hr;obtain ⟨rfl,p,rfl⟩:=hr.out;clear hr) | ((with_reducible refine (A.out _ _ gzT (by simp [go_sem])).mono ?_);intro e w1 hr;obtain ⟨rfl,p,rfl⟩:=hr.out;clear hr) | (at_builtin;refine wpList_append_lies _ rfl _ _ 40 rfl (w.heap.size + 1) 3 j0 _ 1 8 Tryz.underlying40 hj hy1 hy2 hy3 rfl deT (.slice oa2 ks.length oc2) ks.length (z1h ks) rfl (z0a hownK.out gzT) ⟨_,0,none⟩ 1 1 [.int .i64 (k:Int)] rfl rfl (World.news_of_block (z0s (by simp))) (by intro u hu;simp at hu;subst hu;rfl) deT (by unfold maxLen;omega) omT (Nat.le_trans (show w.heap.size + 1 ≤ wr.heap.size by omega) (Below.size (B:=wr.heap.size) gzT)) _ rfl ?_))
     intro g' cap' w2 hown1 hgrow hat1 hg1
     have hbA:Below (w.heap.size + 1) wr w2:=Below.grown gzT hgrow (Nat.le_trans (show w.heap.size + 1 ≤ wr.heap.size by omega) (Below.size (B:=wr.heap.size) gzT)) (fun k hk=>(hownK.out.lt k hk).1)
     have hown2:=hiT hown1
     have hqz:=hbA.size
     clear hown1 hgrow hat1 hg1 hownK Fd A
     go_wp2
     go_roundw
     case rel=>exact ⟨i + 1,ks ++ [k],_,cap',by go_num,by omega,by rw [List.length_append,hki.out];rfl,fun o ho=>by
      rcases List.mem_append.1 ho with ho | ho
      ·exact hks o ho
      ·rw [List.mem_singleton.1 ho];exact hfl,hm',by rw [List.length_append];rfl,by rw [List.length_append,show z1h (ks ++ [k]) = z1h ks ++ [.int .i64 (k:Int)] by simp [z1h]];exact hown2.out,(hbA.cell (p:=⟨w.heap.size,0,none⟩) (by show w.heap.size < _;omega)).trans hbx,hb.trans (hbA.mono omT)⟩
     case measure=>simp [intOf];omega
  ·have hI:¬ (i:Int) < (gs.length:Int):=by omega
   have hm:=v6n (ss:=l.c.states) (show gs.length ≤ i by omega) ks
   rw [hF.out] at hm
   subst hm
   clear hF
   go_wp2
   go_returns
   exact ⟨rfl,gzT⟩
theorem x0k {t:Tr} (h:t.event = [] ∧ t.cond.length = 0 ∧ t.goes.length = 0):y1j l t = 11:=by unfold y1j;rw [if_pos h]
theorem x0j {t:Tr} (h:¬ (t.event = [] ∧ t.cond.length = 0 ∧ t.goes.length = 0)):y1j l t = z6y (v6r l t.cond) (z6y (y3t l.c.states t.goes []) (q4f l t.thn)):=by unfold y1j;rw [if_neg h]
abbrev trV (t:Tr) (io go uo:Option Addr) (ic gc uc:Nat):Value := .agg #[str t.event,.slice io t.cond.length ic,.slice go t.goes.length gc,.bool t.inner,.slice uo t.thn.length uc]
set_option maxRecDepth 100000 in
set_option maxHeartbeats 8000000 in
theorem v6y (P:LkP l) (t:Tr) (io go uo:Option Addr) (ic gc uc:Nat) (hf:FitT t) (w:World) (h1:q1i w io t.cond) (h2:j5g w go t.goes) (h3:j0j w uo t.thn) (H:q9y w lb l) :
  Calls Tryz.prog 156 #[.pointer (some ⟨lb,0,none⟩),trV t io go uo ic gc uc] w (Ret (.int .i64 (y1j l t)) w):=by
 have T:=hiT (fun wx (hb:Below w.heap.size w wx)=>j2n P io ic t.cond hf.cond wx (z1t h1 hb) (z5r H hb))
 have G1:=hiT (fun wx (hb:Below w.heap.size w wx)=>y0y P go gc t.goes hf.goes wx (q7r h2 hb) (z5r H hb))
 have E:=hiT (fun wx (hb:Below w.heap.size w wx)=>y1y P uo uc t.thn hf.thn wx (z6f h3 hb) (z5r H hb))
 obtain ⟨B,rv,va,sa,oa,pa,vc,sc,oc,pc,H⟩:=H
 have i1:InW lb w:=⟨lt_of_block H.blk⟩
 have wn:=@x0k l t
 have wg:=@x0j l t
 generalize v6r l t.cond = r1 at *
 generalize y3t l.c.states t.goes [] = r2 at *
 generalize q4f l t.thn = r3 at *
 obtain ⟨ev,cond,gs,inn,thn⟩:=t
 unfold trV
 simp only at *
 clear H h1 h2 h3 hf
 have e1:((cond.length:Int) == 0) = (cond.length == 0):=by rw [Bool.eq_iff_iff];simp
 have e2:((gs.length:Int) == 0) = (gs.length == 0):=by rw [Bool.eq_iff_iff];simp
 have key:(ev.isEmpty = true ∧ ((cond.length:Int) == 0) = true ∧ ((gs.length:Int) == 0) = true ∧ y1j l ⟨ev,cond,gs,inn,thn⟩ = 11) ∨ (y1j l ⟨ev,cond,gs,inn,thn⟩ = z6y r1 (z6y r2 r3) ∧ (ev.isEmpty = false ∨ ev.isEmpty = true ∧ ((cond.length:Int) == 0) = false ∨ ev.isEmpty = true ∧ ((cond.length:Int) == 0) = true ∧ ((gs.length:Int) == 0) = false)):=by
  rw [e1,e2]
  by_cases hx:ev = [] ∧ cond.length = 0 ∧ gs.length = 0
  ·exact .inl ⟨by rw [hx.1];rfl,by rw [hx.2.1];rfl,by rw [hx.2.2];rfl,wn hx⟩
  ·refine .inr ⟨wg hx,?_⟩
   cases ev with
   | cons c r=>exact .inl rfl
   | nil =>
    by_cases hc:cond.length = 0
    ·exact .inr (.inr ⟨rfl,by rw [hc];rfl,beq_eq_false_iff_ne.2 fun hg=>hx ⟨rfl,hc,hg⟩⟩)
    ·exact .inr (.inl ⟨rfl,beq_eq_false_iff_ne.2 hc⟩)
 clear wn wg e1 e2
 rcases key with ⟨k1,k2,k3,k4⟩ | ⟨k4,key⟩
 ·rw [k4]
  go_enter Tryz.func156,Tryz.ntmps156
  go_wp2
  go_returns
  exact ⟨rfl,gzT⟩
 ·rw [k4]
  by_cases h1:r1 = 0
  ·rw [q2i h1]
   obtain ⟨z0,z1⟩:=q7n h1
   replace h1:=hiT h1
   by_cases h2:r2 = 0
   ·rw [q2i h2]
    obtain ⟨y0,y1⟩:=q7n h2
    replace h2:=hiT h2
    rcases key with k1 | ⟨k1,k2⟩ | ⟨k1,k2,k3⟩
    all_goals
     go_enter Tryz.func156,Tryz.ntmps156
     go_wp2_with (first | ((with_reducible refine (T.out _ gzT).mono ?_);intro e w1 hr;obtain ⟨rfl,p,rfl⟩:=hr.out;clear hr) | ((with_reducible refine (G1.out _ gzT).mono ?_);intro e w1 hr;obtain ⟨rfl,p,rfl⟩:=hr.out;clear hr) | ((with_reducible refine (E.out _ gzT).mono ?_);intro e w1 hr;obtain ⟨rfl,p,rfl⟩:=hr.out;clear hr))
     go_returns
     exact ⟨rfl,gzT⟩
   ·rw [q2j h2]
    obtain ⟨y0,y1⟩:=q8b h2
    replace h2:=hiT h2
    rcases key with k1 | ⟨k1,k2⟩ | ⟨k1,k2,k3⟩
    all_goals
     go_enter Tryz.func156,Tryz.ntmps156
     go_wp2_with (first | ((with_reducible refine (T.out _ gzT).mono ?_);intro e w1 hr;obtain ⟨rfl,p,rfl⟩:=hr.out;clear hr) | ((with_reducible refine (G1.out _ gzT).mono ?_);intro e w1 hr;obtain ⟨rfl,p,rfl⟩:=hr.out;clear hr))
     go_returns
     exact ⟨rfl,gzT⟩
  ·rw [q2j h1]
   obtain ⟨z0,z1⟩:=q8b h1
   replace h1:=hiT h1
   rcases key with k1 | ⟨k1,k2⟩ | ⟨k1,k2,k3⟩
   all_goals
    go_enter Tryz.func156,Tryz.ntmps156
    go_wp2_with ((with_reducible refine (T.out _ gzT).mono ?_);intro e w1 hr;obtain ⟨rfl,p,rfl⟩:=hr.out;clear hr)
    go_returns
    exact ⟨rfl,gzT⟩
set_option maxRecDepth 100000 in
set_option maxHeartbeats 8000000 in
theorem v0t (P:LkP l) (i:Nat) (hi:i < l.c.states.length) (w:World) (H:q9y w lb l):Calls Tryz.prog 122 #[.pointer (some ⟨lb,0,none⟩),.int .i64 (i:Int)] w (Ret (.int .i64 (v0s l i)) w):=by
 have L:=hiT (fun wx (hb:Below w.heap.size w wx)=>z5r H hb)
 obtain ⟨B,rv,va,sa,oa,pa,vc,sc,oc,pc,H⟩:=H
 obtain ⟨hl,c0,c1,c2,c3,c4⟩:=z3r H
 obtain ⟨g,eo,ec,xo,xc,to',tc,rfl,hg,_,_,_,_,_,_,n7,_,_,hT⟩:=z8h H.ch i hi
 have hfit:=P.fit i hi
 unfold v0s stL
 rw [show l.c.states.getD i st0 = l.c.states[i] by simp [List.getD,hi]] at hfit ⊢
 have hft:=hiT hfit.trans
 have hle:l.c.states[i].trans.length ≤ 96:=by
  have:=(P.lens i hi).2.2
  rwa [show l.c.states.getD i st0 = l.c.states[i] by simp [List.getD,hi]] at this
 have RR:=hiT (fun wx (hx:Below w.heap.size w wx)=>z4x (z1q hx) hT fun _ _ h=>z0a h hx)
 generalize l.c.states[i].trans = ts at *
 have hF':Hid (z3e (y1j l) (ts.drop 0) = z3e (y1j l) ts):=hiT (by rw [List.drop_zero])
 generalize z3e (y1j l) ts = F at *
 have i1:InW lb w:=⟨hl⟩
 have i2:InW g w:=⟨hg⟩
 have hI:(i:Int) < (l.c.states.length:Int):=by omega
 clear hT hfit H
 go_enter Tryz.func122,Tryz.ntmps122
 go_wp2
 go_loopw [18] (fun x wr=>∃ (k:Nat),x = .int .i64 (k:Int) ∧ k ≤ ts.length ∧ Hid (z3e (y1j l) (ts.drop k) = F) ∧ Below w.heap.size w wr) (fun x _=>ts.length - (intOf x).toNat)
 case atStart=>exact ⟨0,rfl,Nat.zero_le _,hF',gzT⟩
 case round =>
  obtain ⟨k,rfl,hk,hF,hb⟩:=hrel
  rename World=>wr
  have hwz:=hb.size
  have j0:InW lb wr:=⟨by omega⟩
  by_cases hlt:k < ts.length
  ·have hK:(k:Int) < (ts.length:Int):=by omega
   obtain ⟨g2,io,ic,go,gc,uo,uc,rfl,hg2,m1,m2,m3,m4,m5,hN,hG,hA⟩:=v6q (RR.out wr hb) k hlt
   have hfk:=hft.out ts[k] (List.getElem_mem hlt)
   have hm:=q0t (f:=y1j l) hlt
   have W:=hiT (fun wx (hx:Below wr.heap.size wr wx)=>v6y P ts[k] io go uo ic gc uc hfk wx (z1t (k1w hN) hx) (q7r (k7b hG) hx) (z6f (q5y hA) hx) (L.out wx (hb.trans (hx.mono hwz))))
   have j1:InW g2 wr:=⟨hg2⟩
   unfold trV at W
   clear hN hG hA hfk
   generalize ts[k] = t at *
   rw [hF.out] at hm
   generalize y1j l t = e at *
   by_cases h0:e = 0
   ·rw [q2i h0] at hm
    obtain ⟨z0,z1⟩:=q7n h0
    replace h0:=hiT h0
    have hm':=hiT hm.symm
    clear hm hF
    go_wp2_with ((with_reducible refine (W.out _ gzT).mono ?_);intro e w1 hr;obtain ⟨rfl,p,rfl⟩:=hr.out;clear hr)
    go_roundw
    case rel=>exact ⟨k + 1,by go_num,by omega,hm',gzT⟩
    case measure=>simp [intOf];omega
   ·rw [q2j h0] at hm
    obtain ⟨z0,z1⟩:=q8b h0
    replace h0:=hiT h0
    subst hm
    clear hF
    go_wp2_with ((with_reducible refine (W.out _ gzT).mono ?_);intro e w1 hr;obtain ⟨rfl,p,rfl⟩:=hr.out;clear hr)
    go_returns
    exact ⟨rfl,gzT⟩
  ·have hK:¬ (k:Int) < (ts.length:Int):=by omega
   have hm:=q7o (f:=y1j l) (show ts.length ≤ k by omega)
   rw [hF.out] at hm
   subst hm
   clear hF
   go_wp2
   go_returns
   exact ⟨rfl,gzT⟩
end
section
variable {l:Lk} {lb:Nat}
abbrev v9a (f:FuncId) (lb:Nat):Value := .func (.func f) #[.pointer (some ⟨lb,0,none⟩)] #[]
def y4q (l:Lk) (i:Nat):List FuncId:=if z3o (stL l i) then [117,118] else [117,119,120,121,122]
def j0a (l:Lk) (i:Nat):List Int:=if z3o (stL l i) then [y6d l i,k8n l i] else [y6d l i,k7f l i,y3k l i,k5r l i,v0s l i]
theorem v8f {i:Nat} (h:z3o (stL l i) = false):y4q l i = [117,119,120,121,122]:=by unfold y4q;rw [h];rfl
theorem v4j {i:Nat} (h:z3o (stL l i) = true):y4q l i = [117,118]:=by unfold y4q;rw [h];rfl
def y8p (l:Lk) (lb i:Nat) (w:World) (e:Ending) (w':World):Prop:=∃ g cap,e = .returned (.slice (some ⟨g,0,none⟩) (y4q l i).length cap) ∧ g < w'.heap.size ∧ (∀ k f,(y4q l i)[k]? = some f → w'.cell? ⟨g,k,none⟩ = some (v9a f lb)) ∧ Below w.heap.size w w'
set_option maxRecDepth 100000 in
set_option maxHeartbeats 4000000 in
theorem k1p (i:Nat) (hi:i < l.c.states.length) (w:World) (H:q9y w lb l):Calls Tryz.prog 79 #[.pointer (some ⟨lb,0,none⟩),.int .i64 (i:Int)] w (y8p l lb i w):=by
 obtain ⟨B,rv,va,sa,oa,pa,vc,sc,oc,pc,H⟩:=H
 obtain ⟨hl,c0,c1,c2,c3,c4⟩:=z3r H
 obtain ⟨g,eo,ec,xo,xc,to',tc,rfl,hg,n1,n2,n3,n4,n5,n6,n7,_⟩:=z8h H.ch i hi
 rw [← q9c hi] at n1 n2 n3 n4 n5 n6 n7
 have i1:InW lb w:=⟨hl⟩
 have i2:InW g w:=⟨hg⟩
 have hI:(i:Int) < (l.c.states.length:Int):=by omega
 have Q:=hiT (fun wx=>q0l (stL l i) (.slice eo (stL l i).enter.length ec) (.slice xo (stL l i).exit.length xc) (.slice to' (stL l i).trans.length tc) wx)
 have hmf:∀ (fn:Fn) (first cap:Array Value) (w:World),(Instr.makeFunc fn first cap).run Tryz.prog w = .ok (.func fn first cap) w:=fun _ _ _ _=>rfl
 clear H
 cases hp:z3o (stL l i)
 ·rw [hp] at Q
  have hfn:=hiT (v8f hp)
  clear hp
  generalize stL l i = s at *
  go_enter Tryz.func79,Tryz.ntmps79
  go_wp2_with ((with_reducible refine (Q.out _).mono ?_);intro e w1 hr;obtain ⟨rfl,p,rfl⟩:=hr.out;clear hr)
  go_returns
  refine ⟨_,_,by rw [hfn.out];rfl,by simp [go_sem],fun k f hf=>?_,gzT⟩
  rw [hfn.out] at hf
  rcases k with _ | _ | _ | _ | _ | k
  all_goals
   simp at hf
   try subst hf
   try simp [go_sem]
 ·rw [hp] at Q
  have hfn:=hiT (v4j hp)
  clear hp
  generalize stL l i = s at *
  go_enter Tryz.func79,Tryz.ntmps79
  go_wp2_with ((with_reducible refine (Q.out _).mono ?_);intro e w1 hr;obtain ⟨rfl,p,rfl⟩:=hr.out;clear hr)
  go_returns
  refine ⟨_,_,by rw [hfn.out];rfl,by simp [go_sem],fun k f hf=>?_,gzT⟩
  rw [hfn.out] at hf
  rcases k with _ | _ | k
  all_goals
   simp at hf
   try subst hf
   try simp [go_sem]
theorem j7z (a:Int):z6y a 0 = a:=by unfold z6y;split <;> simp_all
theorem y7n (i:Nat):j2c l i = z3e id (j0a l i):=by
 unfold j2c j0a
 split
 ·simp only [z3e,id,j7z]
 ·simp only [z3e,id,j7z]
theorem k6v (i:Nat):(j0a l i).length = (y4q l i).length:=by
 unfold j0a y4q
 split <;> rfl
set_option maxRecDepth 100000 in
theorem k7w (P:LkP l) (i:Nat) (hi:i < l.c.states.length) {k:Nat} {f:FuncId} {e:Int} (hf:(y4q l i)[k]? = some f) (he:(j0a l i)[k]? = some e) :
  (∀ a wx,(callFunc f a).run Tryz.prog wx = .ok (.enter f a) wx) ∧ ∀ w,q9y w lb l → Calls Tryz.prog f #[.pointer (some ⟨lb,0,none⟩),.int .i64 (i:Int)] w (Ret (.int .i64 e) w):=by
 unfold y4q at hf
 unfold j0a at he
 split at hf
 ·rename_i hp
  rw [if_pos hp] at he
  rcases k with _ | _ | k
  ·cases hf;cases he
   exact ⟨fun _ _=>rfl,fun w H=>y2q P i hi w H⟩
  ·cases hf;cases he
   exact ⟨fun _ _=>rfl,fun w H=>k8o P i hi w H⟩
  ·cases hf
 ·rename_i hp
  rw [if_neg hp] at he
  rcases k with _ | _ | _ | _ | _ | k
  ·cases hf;cases he
   exact ⟨fun _ _=>rfl,fun w H=>y2q P i hi w H⟩
  ·cases hf;cases he
   exact ⟨fun _ _=>rfl,fun w H=>k7g P i hi w H⟩
  ·cases hf;cases he
   exact ⟨fun _ _=>rfl,fun w H=>k3w P i hi w H⟩
  ·cases hf;cases he
   exact ⟨fun _ _=>rfl,fun w H=>k5s P i hi w H⟩
  ·cases hf;cases he
   exact ⟨fun _ _=>rfl,fun w H=>v0t P i hi w H⟩
  ·cases hf
end
structure OkC (c:Ch):Prop where
 some:0 < c.states.length
 few:c.states.length ≤ 49
 vars:c.vars.length ≤ 16
 par:Par c.states
 fit:∀ i,i < c.states.length → FitS (c.states.getD i st0)
 lens:∀ i,i < c.states.length → (c.states.getD i st0).enter.length ≤ 8 ∧ (c.states.getD i st0).exit.length ≤ 8 ∧ (c.states.getD i st0).trans.length ≤ 96
theorem v8u {c:Ch} (h:OkC c):LkP (lkC c) :=
 ⟨h.some,h.few,h.vars,by show (scV c.vars).length ≤ _;rw [y0s];have:=h.vars;omega,by
  have:=v2c (c.states.drop 1)
  rw [List.length_drop] at this
  have:=h.few
  show (scS (c.states.drop 1)).length ≤ 1000
  omega,h.par,h.fit,h.lens⟩
theorem y8b {vs:List Vr} {i:Nat} (h:i < vs.length):z9f (vs.take i) (vs.drop i) = if (vs.take i).any fun u=>u.name == vs[i].name then some vs[i].name else z9f (vs.take (i + 1)) (vs.drop (i + 1)):=by
 rw [List.drop_eq_getElem_cons h,z9f,List.take_succ_eq_append_getElem h]
theorem k4m {vs:List Vr} {i:Nat} (h:vs.length ≤ i):z9f (vs.take i) (vs.drop i) = none:=by
 rw [List.drop_of_length_le h]
 cases vs.take i <;> rfl
theorem k9u {l:Lk} {ss:List St} {i:Nat} (h:i < ss.length):k5g l i (ss.drop i) = if j2c l i = 0 then k5g l (i + 1) (ss.drop (i + 1)) else (j2c l i,ss[i].name):=by
 rw [List.drop_eq_getElem_cons h,k5g]
theorem v6k {l:Lk} {ss:List St} {i:Nat} (h:ss.length ≤ i):k5g l i (ss.drop i) = (0,[]):=by
 rw [List.drop_of_length_le h,k5g]
theorem j8y {c:Ch} {nm:List UInt8} (h0:0 < c.states.length) (h:z9f [] c.vars = some nm):z4r c = (16,nm):=by
 unfold z4r
 rw [if_neg omT,h]
theorem j8x {c:Ch} (h0:0 < c.states.length) (h:z9f [] c.vars = none):z4r c = k5g (lkC c) 0 c.states:=by
 unfold z4r
 rw [if_neg omT,h]
set_option maxRecDepth 100000 in
set_option maxHeartbeats 8000000 in
theorem j2m {c:Ch} {B:Nat} {rv:Nat → Value} {va sa:Option Addr} {vc sc:Nat} (O:OkC c) (w:World) (H:ChV ct0 B w c rv (.slice va c.vars.length vc) (.slice sa c.states.length sc)) (hw:Lb w) :
  Calls Tryz.prog 52 #[.agg #[str c.name,.slice va c.vars.length vc,.slice sa c.states.length sc]] w (Ret (.tuple #[.int .i64 (z4r c).1,str (z4r c).2]) w):=by
 have C:=hiT (fun wx (hb:Below w.heap.size w wx)=>z1u H hb)
 have hLb:=hiT (fun wx (hb:Below w.heap.size w wx)=>z1v hw hb)
 have SC:=hiT (fun wx (hb:Below w.heap.size w wx)=>k3m O.vars O.few O.some wx (z1u H hb))
 have hs0:=O.some
 have hs49:=O.few
 have hv16:=O.vars
 have z0:((c.states.length:Int) == 0) = false:=by rw [beq_eq_false_iff_ne];omega
 have hT:=hiT (show z9f (c.vars.take 0) (c.vars.drop 0) = z9f [] c.vars from rfl)
 have hcs:=fun nm=>j8y (c:=c) (nm:=nm) hs0
 have hcn:=j8x (c:=c) hs0
 generalize z4r c = F at *
 generalize z9f [] c.vars = T at *
 have hcap:Hid (0 < c.vars.length → c.vars.length ≤ vc):=hiT fun h0=>by
  obtain ⟨g,cap,e,_,hle,_⟩:=z1g H.vars h0
  cases e
  exact hle
 replace hcs:=hiT hcs
 replace hcn:=hiT hcn
 clear H hw
 go_enter Tryz.func52,Tryz.ntmps52
 go_wp2
 go_loopw [19] (fun x wr=>∃ (i:Nat),x = .int .i64 (i:Int) ∧ i ≤ c.vars.length ∧ Hid (z9f (c.vars.take i) (c.vars.drop i) = T) ∧ wr.heap[w.heap.size]? = some (.cells #[str c.name,.slice va c.vars.length vc,.slice sa c.states.length sc] 72 (0,0)) ∧ Below w.heap.size w wr) (fun x _=>c.vars.length - (intOf x).toNat)
 case atStart=>exact ⟨0,rfl,Nat.zero_le _,hT,heap_alloc_new w _,gzT⟩
 case round =>
  obtain ⟨i,rfl,hi,hT,hbx,hb⟩:=hrel
  rename World=>wr
  have hwz:=hb.size
  have b0:=(cell_of_row wr w.heap.size 0 _ _ _ hbx).trans rfl
  have b1:=(cell_of_row wr w.heap.size 1 _ _ _ hbx).trans rfl
  have b2:=(cell_of_row wr w.heap.size 2 _ _ _ hbx).trans rfl
  have i0:InW w.heap.size wr:=⟨lt_of_block hbx⟩
  by_cases hlt:i < c.vars.length
  ·have hI:(i:Int) < (c.vars.length:Int):=by omega
   have hcv:=hcap.out omT
   have hVr:=k4v (C.out wr hb)
   obtain ⟨g,rfl,hg,n1,n2,n3,n4⟩:=hVr i hlt
   have hm:=y8b hlt
   rw [hT.out] at hm
   have hli:(c.vars.take i).length = i:=by rw [List.length_take];omega
   have V:=fun b wx (hx:Below wr.heap.size wr wx) (hc:wx.cell? ⟨b,0,none⟩ = some (.string ⟨c.vars[i].name.toArray⟩))=>v6u (some ⟨g,0,none⟩) vc (c.vars.take i) ⟨c.vars[i].name.toArray⟩ omT b wx (q6r (v0r hVr i) hx) hc
   rw [hli,show (⟨c.vars[i].name.toArray⟩:ByteArray).toList = c.vars[i].name by rw [Lib.toList_data]] at V
   replace V:=hiT V
   have iG:InW g wr:=⟨hg⟩
   have hI0:(0:Int) ≤ (i:Int):=by omega
   have hIc:(i:Int) ≤ (vc:Int):=by omega
   have hIc2:i ≤ vc:=by omega
   generalize ((c.vars.take i).any fun u=>u.name == c.vars[i].name) = q at *
   generalize c.vars[i] = v at *
   clear hVr hli hT
   go_wp2
   go_region_held3 (fun w'=>w'.cell? ⟨w.heap.size,1,none⟩ = some (.slice (some ⟨g,0,none⟩) c.vars.length vc) ∧ w'.cell? ⟨wr.heap.size,0,none⟩ = some (str v.name)) ((refine ⟨?_,?_⟩ <;> first | assumption | (rw [z1f];assumption) | (simp [go_sem, *];done)))
    (first
     | ((with_reducible refine (q8a _ _).mono ?_);intro e w3 hr;obtain ⟨rfl,hx3,hb3⟩:=hr;obtain ⟨p3,rfl⟩:=toG hb3;clear hb3;(try simp only [z5j,World.size_drew,World.size_alloc] at hx3))
     | ((with_reducible refine (V.out _ _ gzT (by first | assumption | exact hx3 | (rw [← G_G];exact hx3))).mono ?_);intro e w4 hr;obtain ⟨rfl,p4,rfl⟩:=hr.out;clear hr))
   cases q with
   | true =>
    rw [if_pos rfl] at hm
    subst hm
    have hF:=hcs.out v.name rfl
    subst hF
    clear hcs hcn
    go_wp2
    (refine z0d krT krT ?_;(repeat (go_big_quiet_step (fail)));refine wpQuiet_nil ?_;intro _ hw';obtain ⟨pg,hw''⟩:=hw';subst hw'')
    go_wp2
    go_returns
    exact ⟨rfl,gzT⟩
   | false =>
    rw [if_neg Bool.false_ne_true] at hm
    have hm':=hiT hm.symm
    clear hm
    go_wp2
    go_roundw
    case rel=>exact ⟨i + 1,by go_num,by omega,hm',(Below.block (B:=wr.heap.size) gzT _ i0.lt).trans hbx,gzT⟩
    case measure=>simp [intOf];omega
  ·have hI:¬ (i:Int) < (c.vars.length:Int):=by omega
   have hm:=k4m (show c.vars.length ≤ i by omega)
   rw [hT.out] at hm
   have hF:=hiT (hcn.out hm)
   have S1:=hiT (fun wx (hx:Below wr.heap.size wr wx)=>SC.out wx (hb.trans (hx.mono hwz)))
   generalize hSS:scS (c.states.drop 1) = SS at S1
   replace hSS:=hiT hSS
   clear hcs hcn hT hm SC hcap
   go_wp2
   go_upto_region 9 with (fail)
   go_cut [6] (fun x wx=>∃ lb,x = .pointer (some ⟨lb,0,none⟩) ∧ q9y wx lb (lkC c) ∧ wx.cell? ⟨w.heap.size,2,none⟩ = some (.slice sa c.states.length sc) ∧ Below w.heap.size w wx)
   case first =>
    go_region_held3 (fun w'=>w'.cell? ⟨w.heap.size,0,none⟩ = some (str c.name) ∧ w'.cell? ⟨w.heap.size,1,none⟩ = some (.slice va c.vars.length vc) ∧ w'.cell? ⟨w.heap.size,2,none⟩ = some (.slice sa c.states.length sc)) ((refine ⟨?_,?_,?_⟩ <;> first | assumption | (rw [z1f];assumption) | (rw [z0p];assumption) | (simp [go_sem, *];done)))
     (first | ((with_reducible refine (S1.out _ gzT).mono ?_);intro e w4 hr;obtain ⟨oa,oc,pa,pc,rfl,hO1,hO2,hb4⟩:=hr;obtain ⟨p4,rfl⟩:=toG hb4;clear hb4;(try simp only [z5j,World.size_drew] at hO1 hO2)))
    all_goals
     go_wp2
     go_meet
    ·have e9:=hSS.out
     subst e9
     refine ⟨_,rfl,⟨B,rv,va,sa,oa,pa,vc,sc,oc,pc,heap_alloc_new _ _,C.out _ gzT,z3m (y3v hO1) gzT,z5i (j8i hO2) gzT,hLb.out _ gzT⟩,by simp [go_sem,b2],gzT⟩
    ·have e9:=hSS.out
     subst e9
     refine ⟨_,rfl,⟨B,rv,va,sa,oa,pa,vc,sc,oc,pc,((z1e p4 _).block _ (by simp)).trans (heap_alloc_new _ _),C.out _ gzT,y3v (q4o hO1 (by simp)),j8i (q4o hO2 (by simp)),hLb.out _ gzT⟩,by simp [go_sem,b2],gzT⟩
   case rest =>
    obtain ⟨lb,rfl,HL,k2,hb3⟩:=hcut
    rename World=>wx
    have hx:=hb3.size
    clear S1 b0 b1 b2 hbx hb hwz
    have P:=v8u O
    have HK:=hiT (fun wy (hy:Below wx.heap.size wx wy)=>z5r HL hy)
    obtain ⟨_,_,_,_,_,_,_,_,_,_,HL⟩:=HL
    have iLb:InW lb wx:=⟨lt_of_block HL.blk⟩
    have i2:InW w.heap.size wx:=⟨World.block_lt_of_cell? _ _ k2⟩
    have hR:=hiT (show k5g (lkC c) 0 (c.states.drop 0) = F by rw [hF.out];rfl)
    clear HL hF
    go_wp2
    go_loopw [42] (fun x wr=>∃ (i:Nat),x = .int .i64 (i:Int) ∧ i ≤ c.states.length ∧ Hid (k5g (lkC c) i (c.states.drop i) = F) ∧ Below wx.heap.size wx wr) (fun x _=>c.states.length - (intOf x).toNat)
    case atStart=>exact ⟨0,rfl,Nat.zero_le _,hR,gzT⟩
    case round =>
     obtain ⟨i,rfl,hi,hF,hb⟩:=hrel
     rename World=>wr
     have hwz:=hb.size
     by_cases hlt:i < c.states.length
     ·have hI:(i:Int) < (c.states.length:Int):=by omega
      obtain ⟨g,eo,ec,xo,xc,to',tc,rfl,hg,n1,n2,n3,n4,n5,n6,n7,_,_,_⟩:=z8h (C.out wr (hb3.trans (hb.mono hx))) i hlt
      have hm:=k9u (l:=lkC c) hlt
      rw [hF.out,y7n] at hm
      have LK:=hiT (fun wy (hy:Below wr.heap.size wr wy)=>k1p (l:=lkC c) (lb:=lb) i hlt wy (HK.out wy (hb.trans (hy.mono hwz))))
      have LA:=hiT (fun (k:Nat) (f:FuncId) (e:Int) hf he=>k7w (lb:=lb) P i hlt (k:=k) (f:=f) (e:=e) hf he)
      have hfe:=k6v (l:=lkC c) i
      have hf5:(y4q (lkC c) i).length ≤ 5:=by unfold y4q;split <;> decide
      have iG:InW g wr:=⟨hg⟩
      have iL:InW lb wr:=⟨Nat.lt_of_lt_of_le iLb.lt hwz⟩
      generalize c.states[i] = s at *
      have hE0:=hiT (show z3e id ((j0a (lkC c) i).drop 0) = z3e id (j0a (lkC c) i) by rw [List.drop_zero])
      generalize z3e id (j0a (lkC c) i) = E at *
      unfold y8p at LK
      generalize j0a (lkC c) i = es at *
      generalize y4q (lkC c) i = fs at *
      have hm':=hiT hm
      clear hm hF hR
      go_wp2_with fail
      refine (LK.out _ gzT).mono ?_
      rintro e w1 ⟨g2,cap,rfl,hg2,hcl,hb4⟩
      have hs1:=(hb4.cell (p:=⟨wr.heap.size,0,none⟩) (by simp)).trans (show _ = some (str s.name) by simp [go_sem])
      have hbw:Below wx.heap.size wx w1:=hb.trans ((Below.alloc (Below.refl _ _) (Nat.le_refl _) _ |>.trans (hb4.mono (by simp))).mono hwz)
      have hcl:=hiT hcl
      have j1:InW g2 w1:=⟨hg2⟩
      have j2:InW wr.heap.size w1:=⟨World.block_lt_of_cell? _ _ hs1⟩
      have hz1:=hbw.size
      clear LK hb4 n1 n2 n3 n4 n5 n6 n7
      dsimp only
      go_wp2
      go_loopw [50] (fun x wq=>∃ (k:Nat),x = .int .i64 (k:Int) ∧ k ≤ fs.length ∧ Hid (z3e id (es.drop k) = E) ∧ Below w1.heap.size w1 wq) (fun x _=>fs.length - (intOf x).toNat)
      case atStart=>exact ⟨0,rfl,Nat.zero_le _,hE0,gzT⟩
      case round =>
       obtain ⟨k,rfl,hk,hK,hbq⟩:=hrel
       rename World=>wq
       have hzq:=hbq.size
       have q1:InW g2 wq:=⟨Nat.lt_of_lt_of_le j1.lt hzq⟩
       have q2:InW wr.heap.size wq:=⟨Nat.lt_of_lt_of_le j2.lt hzq⟩
       have qs:=(hbq.cell (p:=⟨wr.heap.size,0,none⟩) j2.lt).trans hs1
       by_cases hlk:k < fs.length
       ·have hKI:(k:Int) < (fs.length:Int):=by omega
        have hlk2:k < es.length:=by omega
        have hcf:=hcl.out k fs[k] (List.getElem?_eq_getElem hlk)
        have qc:=(hbq.cell (p:=⟨g2,k,none⟩) j1.lt).trans hcf
        obtain ⟨hcf,X⟩:=LA.out k fs[k] es[k] (List.getElem?_eq_getElem hlk) (List.getElem?_eq_getElem hlk2)
        replace X:=hiT (fun wy (hy:Below wq.heap.size wq wy)=>X wy (HK.out wy ((hbw.trans (hbq.mono hz1)).trans (hy.mono (Nat.le_trans hz1 hzq)))))
        have hn:=q0t (f:=id) hlk2
        rw [hK.out] at hn
        generalize fs[k] = f at *
        generalize hek:es[k] = e at *
        simp only [id] at hn
        unfold v9a at qc
        clear hK hE0 hek
        by_cases h0:e = 0
        ·rw [q2i h0] at hn
         obtain ⟨y0,y1⟩:=q7n h0
         replace h0:=hiT h0
         have hn':=hiT hn.symm
         clear hn
         go_wp2
         refine Calls.mono (X.out _ gzT) ?_
         intro e5 w5 hr
         obtain ⟨rfl,p,rfl⟩:=hr.out
         clear hr
         go_wp2
         go_roundw
         case rel=>exact ⟨k + 1,by go_num,by omega,hn',gzT⟩
         case measure=>simp [intOf];omega
        ·rw [q2j h0] at hn
         obtain ⟨y0,y1⟩:=q8b h0
         subst hn
         have hm:=hm'.out
         rw [if_neg h0] at hm
         subst hm
         replace h0:=hiT h0
         clear hm'
         go_wp2
         refine Calls.mono (X.out _ gzT) ?_
         intro e5 w5 hr
         obtain ⟨rfl,p,rfl⟩:=hr.out
         clear hr
         go_wp2
         (refine z0d krT krT ?_;(repeat (go_big_quiet_step (fail)));refine wpQuiet_nil ?_;intro _ hw';obtain ⟨pg,hw''⟩:=hw';subst hw'')
         go_wp2
         go_returns
         refine ⟨rfl,?_⟩
         exact (hb3.trans ((hbw.trans (hbq.mono hz1)).mono hx)).trans (Below.mono (show Below wq.heap.size wq _ from gzT) (Nat.le_trans (Nat.le_trans hx hz1) hzq))
       ·have hKI:¬ (k:Int) < (fs.length:Int):=by omega
        have hn:E = 0:=by
         rw [← hK.out,List.drop_of_length_le omT]
         rfl
        have hm:=hm'.out
        rw [if_pos hn] at hm
        have hm2:=hiT hm.symm
        clear hm hm' hn hK hE0
        go_wp2
        go_roundw
        case rel=>exact ⟨i + 1,by go_num,by omega,hm2,(hbw.trans (hbq.mono hz1)).trans (Below.mono (show Below wq.heap.size wq _ from gzT) (Nat.le_trans hz1 hzq))⟩
        case measure=>simp [intOf];omega
     ·have hI:¬ (i:Int) < (c.states.length:Int):=by omega
      have hm:=v6k (l:=lkC c) (show c.states.length ≤ i by omega)
      rw [hF.out] at hm
      subst hm
      clear hF hR
      go_wp2
      go_returns
      exact ⟨rfl,hb3.trans (Below.mono gzT hx)⟩
end Go.Proofs.YtacnlghljmgdiaaGreatDoor
