/- Several texts of this proof, joined: KV, VK. -/
import Derived.Test.YtpgibloeinphaaaGreatDoorY7
import Derived.Test.YtpgibloeinphaaaGreatDoorY9
import Derived.WalkKit
import Derived.ProofKit
import Derived.OpenShut
import Derived.Handy
import Derived.BigQuiet
import Derived.OwnWalk
import Derived.Deep.AppendLies
import Derived.Lib.Hide
import Derived.WalkSmall
import Derived.WalkLawsBesides
import Derived.Test.YtpgibloeinphaaaGreatDoorV5
namespace Go.Proofs.YtpgibloeinphaaaGreatDoor
open Go.RowKit
def varC (v : ByteArray × Int) : List Value := [.string v.1,.int .i64 v.2]
def varsC (vs : List (ByteArray × Int)) : List Value := vs.flatMap varC
theorem varsC_take (vs : List (ByteArray × Int)) (i : Nat) (h : i < vs.length) : varsC (vs.take (i + 1)) = varsC (vs.take i) ++ varC vs[i] := by
 unfold varsC
 rw [List.take_succ_eq_append_getElem h,List.flatMap_append,List.flatMap_cons,List.flatMap_nil,List.append_nil]
theorem varsC_at : ∀ (vs : List (ByteArray × Int)) (i : Nat) (h : i < vs.length) (j : Nat),j < 2 → (varsC vs)[i * 2 + j]? = (varC vs[i])[j]?
 | [],i,h,_,_ => absurd h (Nat.not_lt_zero _)
 | t :: r,0,_,j,hj => by
  unfold varsC
  rw [List.flatMap_cons,Nat.zero_mul,Nat.zero_add,List.getElem?_append_left (by simpa [varC] using hj)]
  rfl
 | t :: r,i + 1,h,j,hj => by
  have ih := varsC_at r i (by simpa using h) j hj
  unfold varsC at *
  rw [List.flatMap_cons,List.getElem?_append_right (by simp [varC];omega),show (i + 1) * 2 + j - (varC t).length = i * 2 + j by simp [varC];omega,ih]
  rfl
theorem vars_own {w : World} {B cap : Nat} {e : TypeId} {na : Option Addr} {vs : List (ByteArray × Int)} (h : w.ownsRow B e 2 (.slice na vs.length cap) vs.length (varsC vs)) : VarsAt w na vs := by
 intro h0
 rcases h.2 with ⟨_,hn⟩ | ⟨g,cap',cur,hv,hb,hg,_⟩
 ·omega
 ·cases hv
  have hc := h.cells (g := g) rfl
  have hadd : ∀ j,(⟨g,0,none⟩ : Addr).add j = ⟨g,j,none⟩ := fun j => by unfold Addr.add;split <;> simp_all
  refine ⟨g,0,rfl,(Array.getElem?_eq_some_iff.1 hg).1,fun i hi => ?_⟩
  rw [Nat.zero_add]
  refine ⟨?_,?_⟩
  ·rw [← hadd];exact hc _ _ ((varsC_at vs i hi 0 (by decide)).trans rfl)
  ·rw [← hadd];exact hc _ _ ((varsC_at vs i hi 1 (by decide)).trans rfl)
end Go.Proofs.YtpgibloeinphaaaGreatDoor
namespace Go.Proofs.YtpgibloeinphaaaGreatDoor
open Go.RowKit
theorem Tryz.infoVK : (Tryz.prog.info? 197).map (fun i => (i.zero,i.size,i.bytes)) = some (some (.agg #[.string ⟨#[]⟩,.int .i64 0]),2,24) := by kernel_rfl
theorem Tryz.infoVS : (Tryz.prog.info? 9).map (fun i => (i.zero,i.size,i.bytes)) = some (some (.string ⟨#[]⟩),1,16) := by kernel_rfl
theorem scV_len (vs : List Vr) : (scV vs).length = vs.length := by simp [scV]
theorem scV_take (vs : List Vr) (i : Nat) (h : i < vs.length) : varsC ((scV vs).take (i + 1)) = varsC ((scV vs).take i) ++ [str vs[i].name,.int .i64 vs[i].vk] := by
 rw [varsC_take (scV vs) i (by rw [scV_len];exact h)]
 simp [scV,varC]
theorem vstrs_own {w : World} {B cap : Nat} {e : TypeId} {na : Option Addr} {ss : List ByteArray} (h : w.ownsRow B e 1 (.slice na ss.length cap) ss.length (ss.map Value.string)) : StrsAt w na ss := by
 intro h0
 obtain ⟨g,cap',e,hg,_,_,hc⟩ := own_head h h0
 cases e
 exact ⟨g,0,rfl,hg,fun i hi => by rw [Nat.zero_add];exact hc _ _ (by rw [List.getElem?_map,List.getElem?_eq_getElem hi];rfl)⟩
theorem scS_next {ss : List St} {i : Nat} (h : i < ss.length) : scS (ss.take (i + 1)) = scS (ss.take i) ++ if pastS ss[i] then [] else [⟨ss[i].name.toArray⟩] := by
 unfold scS
 rw [List.take_succ_eq_append_getElem h,List.filter_append,List.map_append]
 cases hp : pastS ss[i] <;> simp [hp]
theorem scS_le (ss : List St) : (scS ss).length ≤ ss.length := by
 unfold scS
 rw [List.length_map]
 exact List.length_filter_le _ _
def ScIs (vs : List (ByteArray × Int)) (ss : List ByteArray) (w : World) (e : Ending) (w' : World) : Prop := ∃ oa oc pa pc,e = .returned (.agg #[.slice oa vs.length oc,.slice pa ss.length pc]) ∧ w'.ownsRow w.heap.size 197 2 (.slice oa vs.length oc) vs.length (varsC vs) ∧ w'.ownsRow w.heap.size 9 1 (.slice pa ss.length pc) ss.length (ss.map Value.string) ∧ Below w.heap.size w w'
structure ScF (b : Nat) (sa : Option Addr) (n sc : Nat) (v1 v2 : Value) (w : World) : Prop where
 ch : ∃ a1 a2,w.heap[b]? = some (.cells #[a1,a2,.slice sa n sc] 26 (0,0))
 an : w.heap[b + 1]? = some (.cells #[.slice none 0 0,.slice none 0 0] 133 (0,0))
 sc : w.heap[b + 1 + 1]? = some (.cells #[v1,v2] 133 (0,0))
section
variable {b : Nat} {sa : Option Addr} {n sc : Nat} {v1 v2 : Value} {w w' : World}
theorem scF_cells (h : ScF b sa n sc v1 v2 w) : w.cell? ⟨b,2,none⟩ = some (.slice sa n sc) ∧ w.cell? ⟨b + 1,0,none⟩ = some (.slice none 0 0) ∧ w.cell? ⟨b + 1,1,none⟩ = some (.slice none 0 0) ∧ w.cell? ⟨b + 1 + 1,0,none⟩ = some v1 ∧ w.cell? ⟨b + 1 + 1,1,none⟩ = some v2 ∧
  w.frozen? ⟨b + 1,0,none⟩ = false ∧ w.frozen? ⟨b + 1,1,none⟩ = false ∧ w.frozen? ⟨b + 1 + 1,0,none⟩ = false ∧ w.frozen? ⟨b + 1 + 1,1,none⟩ = false := by
 obtain ⟨⟨a1,a2,h1⟩,h2,h3⟩ := h
 exact ⟨(cell_of_row w b 2 _ _ _ h1).trans rfl,(cell_of_row w _ 0 _ _ _ h2).trans rfl,(cell_of_row w _ 1 _ _ _ h2).trans rfl,(cell_of_row w _ 0 _ _ _ h3).trans rfl,(cell_of_row w _ 1 _ _ _ h3).trans rfl,frozen_of_row w _ 0 _ _ h2,frozen_of_row w _ 1 _ _ h2,frozen_of_row w _ 0 _ _ h3,frozen_of_row w _ 1 _ _ h3⟩
theorem scF_keep {m : Nat} (h : ScF b sa n sc v1 v2 w) (hb : Below m w w') (hm : b + 1 + 1 < m) : ScF b sa n sc v1 v2 w' := by
 obtain ⟨⟨a1,a2,h1⟩,h2,h3⟩ := h
 exact ⟨⟨a1,a2,(hb.block b (by omega)).trans h1⟩,(hb.block _ (by omega)).trans h2,(hb.block _ (by omega)).trans h3⟩
theorem scF_set1 {u : Value} {s2 : Nat} (h : ScF b sa n sc v1 v2 w) (hs : s2 = b + 1 + 1) : ScF b sa n sc u v2 (w.setCell ⟨s2,0,none⟩ u) := by
 subst hs
 obtain ⟨⟨a1,a2,h1⟩,h2,h3⟩ := h
 exact ⟨⟨a1,a2,(set_heap (by omega)).trans h1⟩,(set_heap (by omega)).trans h2,blk_set h3⟩
theorem scF_set2 {u : Value} {s2 : Nat} (h : ScF b sa n sc v1 v2 w) (hs : s2 = b + 1 + 1) : ScF b sa n sc v1 u (w.setCell ⟨s2,1,none⟩ u) := by
 subst hs
 obtain ⟨⟨a1,a2,h1⟩,h2,h3⟩ := h
 exact ⟨⟨a1,a2,(set_heap (by omega)).trans h1⟩,(set_heap (by omega)).trans h2,blk_set h3⟩
end
set_option maxRecDepth 100000 in
set_option maxHeartbeats 4000000 in
theorem scope_any {c : Ch} {B : Nat} {rv : Nat → Value} {va sa : Option Addr} {vc sc : Nat} (hv16 : c.vars.length ≤ 16) (h49 : c.states.length ≤ 49) (hs : 0 < c.states.length) (w : World) (H : ChV ct0 B w c rv (.slice va c.vars.length vc) (.slice sa c.states.length sc)) :
  Calls Tryz.prog 56 #[.agg #[str c.name,.slice va c.vars.length vc,.slice sa c.states.length sc]] w (ScIs (scV c.vars) (scS (c.states.drop 1)) w) := by
 have C := Lib.hid (fun wx (hb : Below w.heap.size w wx) => chV_keep H hb)
 have htk := Lib.hid (fun i (h : i < c.vars.length) => scV_take c.vars i h)
 obtain ⟨j0,hj,hy1,hy2,hy3⟩ := info_parts Tryz.infoVK
 obtain ⟨kz,hk,hz1,hz2,hz3⟩ := info_parts Tryz.infoVS
 have hvl := scV_len c.vars
 obtain ⟨g0,cap0,hsa,hg0,hcap,_,_⟩ := own_head H.sts hs
 cases hsa
 have hD : Hid (∀ i,i < (c.states.drop 1).length → ∃ h : i + 1 < c.states.length,(c.states.drop 1)[i]? = some c.states[i + 1]) := Lib.hid fun i hi => by
  rw [List.length_drop] at hi
  exact ⟨by omega,by rw [List.getElem?_drop,List.getElem?_eq_getElem (by omega)];simp [Nat.add_comm]⟩
 have hDl : (c.states.drop 1).length = c.states.length - 1 := List.length_drop ..
 generalize c.states.drop 1 = D at *
 have hDt := Lib.hid (List.take_length (l := D))
 clear H
 go_enter Tryz.func56,Tryz.ntmps56
 go_wp2
 generalize hW : (((w.alloc (.cells #[str c.name,.slice va c.vars.length vc,.slice (some ⟨g0,0,none⟩) c.states.length sc] 26)).alloc (.cells #[.slice none 0 0,.slice none 0 0] 133)).alloc (.cells #[.slice none 0 0,.slice none 0 0] 133)) = W0
 have hb0 : Below w.heap.size w W0 := by rw [← hW];(first | exact gwT | exact lzT)
 have hz0 : W0.heap.size = w.heap.size + 3 := by rw [← hW];simp
 have f0 : ScF w.heap.size (some ⟨g0,0,none⟩) c.states.length sc (.slice none 0 0) (.slice none 0 0) W0 := by
  rw [← hW]
  refine ⟨?_,?_,?_⟩
  ·exact ⟨_,_,blk_old (blk_old (heap_alloc_new w _))⟩
  ·exact blk_old (new_at (by simp))
  ·exact new_at (by simp)
 clear hW
 generalize hs1 : w.heap.size + 1 = s1 at *
 generalize hs2 : s1 + 1 = s2 at *
 go_loopw [11] (fun x wr => ∃ (i : Nat) (oa : Option Addr) (oc : Nat),x = .int .i64 (i : Int) ∧ i ≤ c.vars.length ∧ ScF w.heap.size (some ⟨g0,0,none⟩) c.states.length sc (.slice oa i oc) (.slice none 0 0) wr ∧ wr.ownsRow (w.heap.size + 3) 197 2 (.slice oa i oc) i (varsC ((scV c.vars).take i)) ∧ Below w.heap.size w wr) (fun x _ => c.vars.length - (intOf x).toNat)
 case atStart => exact ⟨0,none,0,rfl,Nat.zero_le _,f0,World.ownsRow_nil _ _ _ _,hb0⟩
 case round =>
  obtain ⟨i,oa,oc,rfl,hi,f1,hown,hb⟩ := hrel
  rename World => wr
  have hwz := hb.size
  obtain ⟨k0,k1,k2,k3,k4,k5,k6,k7,k8⟩ := scF_cells f1
  rw [hs1] at k1 k2 k5 k6
  rw [hs1,hs2] at k3 k4 k7 k8
  have i0 : InW w.heap.size wr := ⟨World.block_lt_of_cell? _ _ k0⟩
  have j1 : InW s1 wr := ⟨World.block_lt_of_cell? _ _ k1⟩
  have j2 : InW s2 wr := ⟨World.block_lt_of_cell? _ _ k3⟩
  have hlt2 := j2.lt
  have hownK := Lib.hid hown
  clear hown
  by_cases hlt : i < c.vars.length
  ·obtain ⟨g,rfl,hg,n1,n2,n3,n4⟩ := var_at (C.out wr hb) i hlt
   have ht := Lib.hid (htk.out i hlt)
   generalize c.vars[i] = v at *
   have i1 : InW g wr := ⟨hg⟩
   have hI : (i : Int) < (c.vars.length : Int) := by omega
   go_wp2_with (at_builtin;refine wpList_append_lies _ rfl _ _ 131 rfl (w.heap.size + 3) 197 j0 _ 2 24 Tryz.underlying131 hj hy1 hy2 hy3 rfl (by decide) (.slice oa i oc) i (varsC ((scV c.vars).take i)) rfl (owns_below hownK.out (by (first | exact gwT | exact lzT))) ⟨_,0,none⟩ 1 1 [str v.name,.int .i64 v.vk] rfl rfl (World.news_of_block (new_at (by simp))) (by intro u hu;simp at hu;rcases hu with rfl | rfl <;> rfl) (by decide) (by unfold maxLen;omega) (by omega) (by simp [go_sem];omega) _ rfl ?_)
   intro g' cap' w2 hown1 hgrow hat1 hg1
   have hbA : Below (w.heap.size + 3) wr w2 := Below.grown (by (first | exact gwT | exact lzT)) hgrow (by simp [go_sem];omega) (fun k hk => (hownK.out.lt k hk).1)
   have f2 := scF_keep f1 hbA (by omega)
   obtain ⟨k0',k1',k2',k3',k4',k5',k6',k7',k8'⟩ := scF_cells f2
   rw [hs1] at k1' k2' k5' k6'
   rw [hs1,hs2] at k3' k4' k7' k8'
   have hown2 := Lib.hid hown1
   have hqz := hbA.size
   clear hown1 hgrow hat1 hg1 hownK k0 k1 k2 k3 k4 k5 k6 k7 k8 i0 j1 j2 n1 n2 n3 n4 i1
   go_wp2
   go_roundw
   case rel => exact ⟨i + 1,_,cap',by go_num,by omega,scF_set1 f2 (by omega),by rw [ht.out];exact ownsRow_setCell_below hown2.out (by show s2 < _;omega) _,Below.setCell (hb.trans (hbA.mono (by omega))) (show w.heap.size ≤ s2 by omega) _⟩
   case measure => simp [intOf];omega
  ·obtain rfl : i = c.vars.length := by omega
   have hI : ¬ (c.vars.length : Int) < (c.vars.length : Int) := by omega
   have hVr : Hid (wr.ownsRow (w.heap.size + 3) 197 2 (.slice oa c.vars.length oc) c.vars.length (varsC (scV c.vars))) := Lib.hid (by
    have := hownK.out
    rw [← hvl,List.take_length] at this
    rw [hvl] at this
    exact this)
   have hL1 : (1 : Int) ≤ (c.states.length : Int) := by omega
   clear hownK htk f0 hb0 hz0
   go_wp2
   ·go_loopw [31] (fun x wq => ∃ (j : Nat) (pa : Option Addr) (pc : Nat),x = .int .i64 (j : Int) ∧ j ≤ c.states.length - 1 ∧ ScF w.heap.size (some ⟨g0,0,none⟩) c.states.length sc (.slice oa c.vars.length oc) (.slice pa (scS (D.take j)).length pc) wq ∧ wq.ownsRow (w.heap.size + 3) 9 1 (.slice pa (scS (D.take j)).length pc) (scS (D.take j)).length ((scS (D.take j)).map Value.string) ∧ wq.ownsRow (w.heap.size + 3) 197 2 (.slice oa c.vars.length oc) c.vars.length (varsC (scV c.vars)) ∧ Below w.heap.size w wq) (fun x _ => c.states.length - 1 - (intOf x).toNat)
    case atStart => exact ⟨0,none,0,rfl,Nat.zero_le _,f1,World.ownsRow_nil _ _ _ _,hVr.out,hb⟩
    case round =>
     obtain ⟨j,pa,pc,rfl,hj,f3,hown,hvr,hb3⟩ := hrel
     rename World => wq
     clear f1 hVr hb k0 k1 k2 k3 k4 k5 k6 k7 k8 i0 j1 j2 hlt2 hlt hwz
     have hwz := hb3.size
     obtain ⟨k0,k1,k2,k3,k4,k5,k6,k7,k8⟩ := scF_cells f3
     rw [hs1] at k1 k2 k5 k6
     rw [hs1,hs2] at k3 k4 k7 k8
     have i0 : InW w.heap.size wq := ⟨World.block_lt_of_cell? _ _ k0⟩
     have j1 : InW s1 wq := ⟨World.block_lt_of_cell? _ _ k1⟩
     have j2 : InW s2 wq := ⟨World.block_lt_of_cell? _ _ k3⟩
     have hlt2 := j2.lt
     have hownK := Lib.hid hown
     have hvK := Lib.hid hvr
     clear hown hvr
     have hn1 : c.states.length = 1 := by omega
     by_cases hlj : j < c.states.length - 1
     ·omega
     ·obtain rfl : j = c.states.length - 1 := by omega
      have hI2 : ¬ ((c.states.length - 1 : Nat) : Int) < ((c.states.length - 1 : Nat) : Int) := by omega
      have hT := hDt.out
      rw [hDl] at hT
      rw [hT] at hownK k4
      have hvS := hvK.out
      rw [← hvl] at hvS
      replace hvS := Lib.hid hvS
      clear hvK
      have m0 := World.cell?_setCell_same wq ⟨s1,0,none⟩ (.slice oa c.vars.length oc) k1
      have m1 : ((wq.setCell ⟨s1,0,none⟩ (.slice oa c.vars.length oc)).setCell ⟨s1,1,none⟩ (.slice pa (scS D).length pc)).cell? ⟨s1,1,none⟩ = some (.slice pa (scS D).length pc) := World.cell?_setCell_same (u := .slice none 0 0) _ _ _ (by simp [go_sem,k2])
      go_wp2
      refine bodyPost_ret (v := .agg #[.slice oa c.vars.length oc,.slice pa (scS D).length pc]) (by simp [results,Tryz.f56,go_sem,m0,m1]) rfl ?_
      refine ⟨oa,oc,pa,pc,by rw [hvl],?_,?_,?_⟩
      ·exact owns_base (B := w.heap.size + 3) (hB := by omega) (ownsRow_setCell_below (ownsRow_setCell_below hvS.out (by show s1 < _;omega) _) (by show s1 < _;omega) _)
      ·exact owns_base (B := w.heap.size + 3) (hB := by omega) (ownsRow_setCell_below (ownsRow_setCell_below hownK.out (by show s1 < _;omega) _) (by show s1 < _;omega) _)
      ·exact Below.setCell (Below.setCell hb3 (show w.heap.size ≤ s1 by omega) _) (show w.heap.size ≤ s1 by omega) _
   ·go_loopw [31] (fun x wq => ∃ (j : Nat) (pa : Option Addr) (pc : Nat),x = .int .i64 (j : Int) ∧ j ≤ c.states.length - 1 ∧ ScF w.heap.size (some ⟨g0,0,none⟩) c.states.length sc (.slice oa c.vars.length oc) (.slice pa (scS (D.take j)).length pc) wq ∧ wq.ownsRow (w.heap.size + 3) 9 1 (.slice pa (scS (D.take j)).length pc) (scS (D.take j)).length ((scS (D.take j)).map Value.string) ∧ wq.ownsRow (w.heap.size + 3) 197 2 (.slice oa c.vars.length oc) c.vars.length (varsC (scV c.vars)) ∧ Below w.heap.size w wq) (fun x _ => c.states.length - 1 - (intOf x).toNat)
    case atStart => exact ⟨0,none,0,rfl,Nat.zero_le _,f1,World.ownsRow_nil _ _ _ _,hVr.out,hb⟩
    case round =>
     obtain ⟨j,pa,pc,rfl,hj,f3,hown,hvr,hb3⟩ := hrel
     rename World => wq
     clear f1 hVr hb k0 k1 k2 k3 k4 k5 k6 k7 k8 i0 j1 j2 hlt2 hlt hwz
     have hwz := hb3.size
     obtain ⟨k0,k1,k2,k3,k4,k5,k6,k7,k8⟩ := scF_cells f3
     rw [hs1] at k1 k2 k5 k6
     rw [hs1,hs2] at k3 k4 k7 k8
     have i0 : InW w.heap.size wq := ⟨World.block_lt_of_cell? _ _ k0⟩
     have j1 : InW s1 wq := ⟨World.block_lt_of_cell? _ _ k1⟩
     have j2 : InW s2 wq := ⟨World.block_lt_of_cell? _ _ k3⟩
     have hlt2 := j2.lt
     have hownK := Lib.hid hown
     have hvK := Lib.hid hvr
     clear hown hvr
     by_cases hlj : j < c.states.length - 1
     ·obtain ⟨g,eo,ec,xo,xc,to',tc,hge,hg,n1,n2,n3,n4,n5,n6,n7,_,_,_⟩ := st_at (C.out wq hb3) (j + 1) (by omega)
      cases hge
      obtain ⟨_,hDj⟩ := hD.out j (by omega)
      obtain ⟨hjD,hDj⟩ := List.getElem?_eq_some_iff.1 hDj
      have hn := scS_next hjD
      rw [hDj] at hn
      have hle := scS_le (D.take j)
      rw [List.length_take] at hle
      generalize c.states[j + 1] = s at *
      have e7 : (j + 1) * 7 = 7 + j * 7 := by omega
      rw [e7] at n1 n2 n3 n4 n5 n6 n7
      have i1 : InW g0 wq := ⟨hg⟩
      have hI2 : (j : Int) < ((c.states.length - 1 : Nat) : Int) := by omega
      have Q := Lib.hid (fun wx => vpast_any s (.slice eo s.enter.length ec) (.slice xo s.exit.length xc) (.slice to' s.trans.length tc) wx)
      clear hDj hlj
      cases hp : pastS s
      ·rw [hp] at hn Q
       rw [if_neg (by decide)] at hn
       have hn' := Lib.hid hn
       clear hn
       generalize (scS (D.take j)) = N at *
       go_wp2_with (first | ((with_reducible refine (Q.out _).mono ?_);intro e w1 hr;obtain ⟨rfl,p,rfl⟩ := hr.out;clear hr) | (at_builtin;refine wpList_append_lies _ rfl _ _ 85 rfl (w.heap.size + 3) 9 kz _ 1 16 Tryz.underlying85 hk hz1 hz2 hz3 rfl (by decide) (.slice pa N.length pc) N.length (N.map Value.string) rfl (owns_below hownK.out (by (first | exact gwT | exact lzT))) ⟨_,0,none⟩ 1 1 [str s.name] rfl rfl (World.news_of_block (new_at (by simp))) (by intro u hu;simp at hu;subst hu;rfl) (by decide) (by unfold maxLen;omega) (by omega) (Nat.le_trans (show w.heap.size + 3 ≤ wq.heap.size by omega) (Below.size (B := wq.heap.size) (by (first | exact gwT | exact lzT)))) _ rfl ?_))
       intro g' cap' w2 hown1 hgrow hat1 hg1
       have hbA : Below (w.heap.size + 3) wq w2 := Below.grown (by (first | exact gwT | exact lzT)) hgrow (Nat.le_trans (show w.heap.size + 3 ≤ wq.heap.size by omega) (Below.size (B := wq.heap.size) (by (first | exact gwT | exact lzT)))) (fun k hk => (hownK.out.lt k hk).1)
       have f4 := scF_keep f3 hbA (by omega)
       have hv2 := tp_grown (B := w.heap.size + 3) (B' := w.heap.size + 3) (e := 197) (owns_below hownK.out (by (first | exact gwT | exact lzT))) (by decide) hgrow _ _ _ _ (owns_below hvK.out (by (first | exact gwT | exact lzT)))
       obtain ⟨k0',k1',k2',k3',k4',k5',k6',k7',k8'⟩ := scF_cells f4
       rw [hs1] at k1' k2' k5' k6'
       rw [hs1,hs2] at k3' k4' k7' k8'
       have hown2 := Lib.hid hown1
       have hvL := Lib.hid hv2
       have hqz := hbA.size
       clear hown1 hgrow hat1 hg1 hownK hvK hv2 k0 k1 k2 k3 k4 k5 k6 k7 k8 i0 j1 j2 n1 n2 n3 n4 n5 n6 n7 i1
       go_wp2
       go_roundw
       case rel => exact ⟨j + 1,_,cap',by go_num,by omega,by rw [hn'.out,List.length_append];exact scF_set2 f4 (by omega),by rw [hn'.out,List.length_append,List.map_append];exact ownsRow_setCell_below hown2.out (by show s2 < _;omega) _,ownsRow_setCell_below hvL.out (by show s2 < _;omega) _,Below.setCell (hb3.trans (hbA.mono (by omega))) (show w.heap.size ≤ s2 by omega) _⟩
       case measure => simp [intOf];omega
      ·rw [hp] at hn Q
       rw [if_pos rfl,List.append_nil] at hn
       have hn' := Lib.hid hn
       clear k1 k2 k3 k4 k5 k6 k7 k8 hn
       go_wp2_with ((with_reducible refine (Q.out _).mono ?_);intro e w1 hr;obtain ⟨rfl,p,rfl⟩ := hr.out;clear hr)
       go_roundw
       case rel => exact ⟨j + 1,pa,pc,by go_num,by omega,by rw [hn'.out];exact scF_keep (m := wq.heap.size) f3 (by (first | exact gwT | exact lzT)) (by omega),by rw [hn'.out];exact owns_below hownK.out (by (first | exact gwT | exact lzT)),owns_below hvK.out (by (first | exact gwT | exact lzT)),by (first | exact gwT | exact lzT)⟩
       case measure => simp [intOf];omega
     ·obtain rfl : j = c.states.length - 1 := by omega
      have hI2 : ¬ ((c.states.length - 1 : Nat) : Int) < ((c.states.length - 1 : Nat) : Int) := by omega
      have hT := hDt.out
      rw [hDl] at hT
      rw [hT] at hownK k4
      have hvS := hvK.out
      rw [← hvl] at hvS
      replace hvS := Lib.hid hvS
      clear hvK
      have m0 := World.cell?_setCell_same wq ⟨s1,0,none⟩ (.slice oa c.vars.length oc) k1
      have m1 : ((wq.setCell ⟨s1,0,none⟩ (.slice oa c.vars.length oc)).setCell ⟨s1,1,none⟩ (.slice pa (scS D).length pc)).cell? ⟨s1,1,none⟩ = some (.slice pa (scS D).length pc) := World.cell?_setCell_same (u := .slice none 0 0) _ _ _ (by simp [go_sem,k2])
      go_wp2
      refine bodyPost_ret (v := .agg #[.slice oa c.vars.length oc,.slice pa (scS D).length pc]) (by simp [results,Tryz.f56,go_sem,m0,m1]) rfl ?_
      refine ⟨oa,oc,pa,pc,by rw [hvl],?_,?_,?_⟩
      ·exact owns_base (B := w.heap.size + 3) (hB := by omega) (ownsRow_setCell_below (ownsRow_setCell_below hvS.out (by show s1 < _;omega) _) (by show s1 < _;omega) _)
      ·exact owns_base (B := w.heap.size + 3) (hB := by omega) (ownsRow_setCell_below (ownsRow_setCell_below hownK.out (by show s1 < _;omega) _) (by show s1 < _;omega) _)
      ·exact Below.setCell (Below.setCell hb3 (show w.heap.size ≤ s1 by omega) _) (show w.heap.size ≤ s1 by omega) _
end Go.Proofs.YtpgibloeinphaaaGreatDoor
