/- Several texts of this proof, joined: BU, JO, SG, SJ. -/
import Derived.Test.YtacnlghljmgdiaaGreatDoorZ1
import Derived.Test.YtacnlghljmgdiaaGreatDoorChecked
import Derived.WalkKit
import Derived.ProofKit
import Derived.OpenShut
import Derived.Handy
import Derived.BigQuiet
import Derived.OwnWalk
import Derived.Lib.Hide
import Derived.Lib.Builder
import Derived.Lib.AppendStr
import Derived.Lib.UnsafeStr
import Derived.Laws.Externs
import Derived.WalkLawsBesides
import Derived.Test.YtacnlghljmgdiaaGreatDoorZ7
import Derived.Test.YtacnlghljmgdiaaGreatDoorShelf3
import Derived.WalkSmall
import Derived.Lib.MakeNoZero
import Derived.Test.YtacnlghljmgdiaaGreatDoorY1
import Derived.Test.YtacnlghljmgdiaaGreatDoorY2
import Derived.Lib.Join
namespace Go.Proofs.YtacnlghljmgdiaaGreatDoor
open Go.RowKit
def Bld (B b:Nat) (l:List UInt8) (w:World):Prop:=Lib.IsBuilder 195 5 B b (Lib.byteCells l) w
theorem y1r:∃ j,Tryz.prog.info? 195 = some j ∧ j.size = 2:=by
 have h:(Tryz.prog.info? 195).map (·.size) = some 2:=by kernel_rfl
 obtain ⟨j,hj,hs⟩:=Option.map_eq_some_iff.1 h
 exact ⟨j,hj,hs⟩
theorem k6e:liesAt Tryz.prog Tryz.prog.depth 195 (2 / Tryz.prog.cellsOf 195) 0 195 1 = true:=by kernel_rfl
set_option maxRecDepth 100000 in
theorem y4i (b:Nat) (w:World) (h0:w.cell? ⟨b,0,none⟩ = some (.pointer (some ⟨b,0,none⟩))):Calls Tryz.prog 127 #[.pointer (some ⟨b,0,none⟩)] w (z6k (.tuple #[]) w):=by
 obtain ⟨j,hj,_⟩:=y1r
 go_enter Tryz.func127,Tryz.ntmps127
 go_wp2
 rw [Lib.run_neq_ptr_same w _ Tryz.underlying193 hj]
 go_wp2
 go_end0
 exact ⟨rfl,rfl⟩
set_option maxRecDepth 100000 in
theorem q7f (b:Nat) (w:World) (h0:w.cell? ⟨b,0,none⟩ = some (.pointer none)) (hsh:w.shape? b = some (195,2)) (hfz:w.frozen? ⟨b,0,none⟩ = false) :
  Calls Tryz.prog 127 #[.pointer (some ⟨b,0,none⟩)] w (z6k (.tuple #[]) (w.setCell ⟨b,0,none⟩ (.pointer (some ⟨b,0,none⟩)))):=by
 obtain ⟨j,hj,hjs⟩:=y1r
 go_enter Tryz.func127,Tryz.ntmps127
 go_wp2
 rw [Lib.run_to_unsafe w ⟨b,0,none⟩ Tryz.underlying193 Tryz.underlying273 hj (by rw [hjs];decide) hsh (Nat.zero_lt_succ 1)]
 simp only [Result.andThen]
 rw [Oper.upon_value]
 go_wp2
 rw [run_callFunc_extern Tryz.func157 krT krT krT (e:=Extern.AbiNoEscape.same) krT]
 rw [Lib.run_noEscape]
 simp only [Result.andThen]
 rw [Oper.upon_value]
 go_wp2
 rw [Lib.run_from_unsafe w ⟨b,0,none⟩ Tryz.underlying273 Tryz.underlying193 hj hsh k6e]
 simp only [Result.andThen]
 rw [Oper.upon_value]
 go_wp2
 go_end0
 exact ⟨rfl,rfl⟩
def x0n (B b:Nat) (l:List UInt8) (w:World):Prop:=Lib.BuilderAt 195 5 B b (.pointer (some ⟨b,0,none⟩)) (Lib.byteCells l) w
theorem v7z {B b:Nat} {l:List UInt8} {w:World} (h:x0n B b l w):Bld B b l w := .inr h
def j2r (b:Nat) (w w':World):Prop:=∀ k cs T fr,k ≠ b → T ≠ 5 → w.heap[k]? = some (.cells cs T fr) → w'.heap[k]? = some (.cells cs T fr)
theorem j6d (b j:Nat) (v:Value) (w:World):j2r b w (w.setCell ⟨b,j,none⟩ v):=fun k cs T fr hk _ h=>by
 rw [Below.heap_setCell _ _ _ _ (fun e=>hk (by simpa using e))]
 exact h
theorem j2r.trans {b:Nat} {w w1 w2:World} (h:j2r b w w1) (h':j2r b w1 w2):j2r b w w2:=fun k cs T fr hk hT hw=>h' k cs T fr hk hT (h k cs T fr hk hT hw)
theorem j9p {B b n:Nat} {v:Value} {xs:List Value} {w w':World} (hown:w.ownsRow B 5 1 v n xs) (hg:w.grownBy w' v.ownBlock):j2r b w w':=fun k cs T fr _ hT h=>by
 have hlt:k < w.heap.size:=(Array.getElem?_eq_some_iff.1 h).1
 rw [hg.block k hlt (fun e=>Lib.ownBlock_ne hown h hT e.symm)]
 exact h
def v2k (B b:Nat) (l:List UInt8) (w:World) (e:Ending) (w':World):Prop:=e = .returned (.tuple #[]) ∧ x0n B b l w' ∧ Below B w w' ∧ j2r b w w'
theorem y9n (B b:Nat) (l:List UInt8) (w:World) (h:Bld B b l w):Calls Tryz.prog 127 #[.pointer (some ⟨b,0,none⟩)] w (v2k B b l w):=by
 rcases h with h | h
 ·exact (q7f b w h.cell0 h.shape h.frozen0).mono fun e w' ⟨he,hw⟩=>⟨he,hw ▸ h.used _,hw ▸ (Below.refl B w).setCell (p:=⟨b,0,none⟩) h.1 _,hw ▸ j6d b 0 _ w⟩
 ·exact (y4i b w h.cell0).mono fun e w' ⟨he,hw⟩=>⟨he,hw ▸ h,hw ▸ Below.refl B _,hw ▸ fun _ _ _ _ _ _ h=>h⟩
theorem Tryz.infoU8:(Tryz.prog.info? 5).map (fun i=>(i.zero,i.size,i.bytes)) = some (some (.int .u8 0),1,1):=by kernel_rfl
def v2r (v:Value) (B b:Nat) (l:List UInt8) (w:World) (e:Ending) (w':World):Prop:=e = .returned v ∧ Bld B b l w' ∧ Below B w w' ∧ j2r b w w'
theorem j5s (l:List UInt8) (s:ByteArray):Lib.byteCells l ++ Lib.strCells s = Lib.byteCells (l ++ s.data.toList):=by simp [Lib.byteCells,Lib.strCells]
set_option maxRecDepth 100000 in
set_option maxHeartbeats 2000000 in
theorem q2l (B b:Nat) (l:List UInt8) (s:ByteArray) (w:World) (h:Bld B b l w) (hl:l.length ≤ 1000000) (hs:s.size ≤ 2000000) (hBw:B ≤ w.heap.size) :
  Calls Tryz.prog 87 #[.pointer (some ⟨b,0,none⟩),.string s] w (v2r (.tuple #[.int .i64 s.size,.nilIface]) B b (l ++ s.data.toList) w):=by
 obtain ⟨i0,hi,hz0,hz1,hz2⟩:=info_parts Tryz.infoU8
 have C:=hiT (y9n B b l w h)
 have hbl:(Lib.byteCells l).length = l.length:=Lib.byteCells_length l
 go_enter Tryz.func87,Tryz.ntmps87
 go_wp2_with fail
 refine C.out.mono ?_
 intro e w1 hr
 obtain ⟨rfl,⟨hB,v,hbk,hown,hne⟩,hb1,hk1⟩:=hr
 have c0:w1.cell? ⟨b,0,none⟩ = some (.pointer (some ⟨b,0,none⟩)):=by rw [Lib.cell_of_heap hbk];rfl
 have c1:w1.cell? ⟨b,1,none⟩ = some v:=by rw [Lib.cell_of_heap hbk];rfl
 have hsz:=hb1.size
 have hlt:b < w1.heap.size:=World.block_lt_of_cell? _ _ c0
 clear C
 go_wp2_with (at_builtin;refine Lib.wpList_append_own_string _ rfl _ _ 150 9 rfl B 5 i0 Tryz.underlying150 Tryz.underlying9 hi hz0 hz1 hz2 _ _ _ rfl hown s rfl ?c3 ?c4 ?c5 ?_)
 case c3=>unfold maxLen;omega
 case c4=>omega
 case c5=>omega
 intro v' w2 hown' hgrow _
 have hb2:w2.heap[b]? = some (.cells #[.pointer (some ⟨b,0,none⟩),v] 195 (0,0)):=by
  rw [hgrow.block b hlt (fun e=>hne e.symm)]
  exact hbk
 have d0:w2.cell? ⟨b,0,none⟩ = some (.pointer (some ⟨b,0,none⟩)):=by rw [Lib.cell_of_heap hb2];rfl
 have d1:w2.cell? ⟨b,1,none⟩ = some v:=by rw [Lib.cell_of_heap hb2];rfl
 have f1:w2.frozen? ⟨b,1,none⟩ = false:=Lib.frozen_of_heap hb2 1
 obtain ⟨ao,n',cap,rfl⟩:∃ ao n' cap,v' = .slice ao n' cap:=by
  rcases hown'.2 with ⟨hv,_⟩ | ⟨g,cap,cur,hv,_⟩
  ·exact ⟨_,_,_,hv⟩
  ·exact ⟨_,_,_,hv⟩
 have hfin:Bld B b (l ++ s.data.toList) (w2.setCell ⟨b,1,none⟩ (.slice ao n' cap)):=by
  refine .inr ?_
  rw [← j5s]
  exact Lib.BuilderAt.put (T:=195) (e:=5) hB hb2 (bs':=Lib.byteCells l ++ Lib.strCells s) (by rw [List.length_append,Lib.strCells_length,hbl];exact hown') deT
 have hbel:Below B w (w2.setCell ⟨b,1,none⟩ (.slice ao n' cap)) :=
  (hb1.grown hgrow omT (fun k hk=>(hown.lt k hk).1)).setCell (p:=⟨b,1,none⟩) hB _
 have hkept:j2r b w (w2.setCell ⟨b,1,none⟩ (.slice ao n' cap)):=(hk1.trans (j9p hown hgrow)).trans (j6d b 1 _ w2)
 replace hfin:=hiT hfin
 replace hbel:=hiT hbel
 replace hkept:=hiT hkept
 clear hgrow hown' hown hk1
 go_wp2
 go_returns
 exact ⟨rfl,hfin.out,hbel.out,hkept.out⟩
theorem j8u (B b:Nat) (l:List UInt8) (w:World) (h:Bld B b l w) (hBw:B ≤ w.heap.size):Calls Tryz.prog 88 #[.pointer (some ⟨b,0,none⟩)] w fun e w'=>e = .returned (.string ⟨l.toArray⟩) ∧ Below B w w' :=
 Any.Builder_String_any Tryz.lays169 Tryz.Builder_Extra_169 B b l w h hBw
theorem k3o (w:World) (b i:Nat) (v:Value) (o:Obj) (h:b < w.heap.size):(w.alloc o).setCell ⟨b,i,none⟩ v = (w.setCell ⟨b,i,none⟩ v).alloc o:=by
 unfold World.alloc World.setCell
 congr 1
 apply Array.ext_getElem?
 intro k
 simp only [Array.getElem?_modify,Array.getElem?_push,Array.size_modify]
 by_cases hk:k = w.heap.size
 ·have:b ≠ k:=by omega
  simp [hk]
  omega
 ·simp [hk]
set_option maxRecDepth 100000 in
set_option maxHeartbeats 2000000 in
theorem y9d (B b n:Nat) (w:World) (hB:B ≤ b) (hbk:w.heap[b]? = some (.cells #[.pointer (some ⟨b,0,none⟩),.slice none 0 0] 195 (0,0))) (hBw:B ≤ w.heap.size) (hn:n ≤ 1000000000000) :
  Calls Tryz.prog 128 #[.pointer (some ⟨b,0,none⟩),.int .i64 n] w fun e w'=>e = .returned (.tuple #[]) ∧ x0n B b [] w' ∧ Below B w w':=by
 obtain ⟨cs,hrun,hle,hmax⟩:=Lib.run_makeNoZero (P:=Tryz.prog) w.drew #[3] 150 5 Tryz.underlying150 n omT
 have hw:IntKind.i64.wrap (IntKind.i64.wrap 0 + (n:Int)) = n:=by
  rw [IntKind.wrap_i64,IntKind.wrap_i64]
  omega
 have hcall:(callFunc 158 #[.int .i64 (IntKind.i64.wrap (IntKind.i64.wrap 0 + (n:Int)))]).run Tryz.prog w.drew = .ok (.value (.slice (some ⟨w.drew.heap.size,0,none⟩) n cs.size)) (w.drew.drew.drew.alloc (.cells cs 5)):=by
  rw [hw,run_callFunc_extern Tryz.func158 krT krT krT (e:=Extern.BytealgMakeNoZero.makeNoZero #[3] #[150]) krT,hrun]
  rfl
 have hlt:=lt_of_block hbk
 have c1:w.drew.cell? ⟨b,1,none⟩ = some (.slice none 0 0):=by
  have:w.drew.heap[b]? = _:=hbk
  rw [Lib.cell_of_heap this];rfl
 have hb2:(w.alloc (.cells cs 5)).heap[b]? = _:=(Lib.alloc_old w _ b hlt).trans hbk
 have c2:(w.alloc (.cells cs 5)).cell? ⟨b,1,none⟩ = some (.slice none 0 0):=by rw [Lib.cell_of_heap hb2];rfl
 have f2:(w.alloc (.cells cs 5)).frozen? ⟨b,1,none⟩ = false:=Lib.frozen_of_heap hb2 1
 obtain ⟨i0,hi,hz0,hz1,hz2⟩:=info_parts Tryz.infoU8
 have hcopy:∀ W:World,(Builtin.copy_ #[150,150] 3 #[.slice (some ⟨w.heap.size,0,none⟩) 0 cs.size,.slice none 0 0]).run Tryz.prog W = .ok (goInt 0) W :=
  fun W=>run_copy_none W 150 150 3 5 _ _ 0 cs.size 0 0 Tryz.underlying150 krT rfl
 clear hw
 go_enter Tryz.func128,Tryz.ntmps128
 go_wp2
 have hfin:=Lib.grown_fresh (T:=195) (e:=5) (cs:=cs) hB hbk hBw (hmax (by unfold maxLen;omega)) deT
 rw [k3o _ _ _ _ _ hlt] at hfin
 go_region
 all_goals (go_wp2;go_end0;exact ⟨rfl,hfin⟩)
theorem y4g (B b n:Nat) (w:World) (hB:B ≤ b) (hbk:w.heap[b]? = some (.cells #[.pointer none,.slice none 0 0] 195 (0,0))) (hBw:B ≤ w.heap.size) (hn:n ≤ 1000000000000) (hn0:0 < n) :
  Calls Tryz.prog 86 #[.pointer (some ⟨b,0,none⟩),.int .i64 n] w fun e w'=>e = .returned (.tuple #[]) ∧ x0n B b [] w' ∧ Below B w w':=by
 have c0:w.cell? ⟨b,0,none⟩ = some (.pointer none):=by rw [cell_of_row w b _ _ _ _ hbk];rfl
 have hf:w.frozen? ⟨b,0,none⟩ = false:=frozen_of_row w b 0 _ _ hbk
 have hsh:w.shape? b = some (195,2):=by
  unfold World.shape?
  rw [hbk]
  rfl
 have C:=hiT (q7f b w c0 hsh hf)
 have hbk2:(w.setCell ⟨b,0,none⟩ (.pointer (some ⟨b,0,none⟩))).heap[b]? = some (.cells #[.pointer (some ⟨b,0,none⟩),.slice none 0 0] 195 (0,0)):=z0l hbk
 have hse:(w.setCell ⟨b,0,none⟩ (.pointer (some ⟨b,0,none⟩))).heap.size = w.heap.size:=by simp [World.setCell]
 have hbs:Below B w (w.setCell ⟨b,0,none⟩ (.pointer (some ⟨b,0,none⟩))):=(Below.refl B w).setCell (p:=⟨b,0,none⟩) hB _
 have hlt:=lt_of_block hbk
 clear hbk hsh hf c0
 generalize w.setCell ⟨b,0,none⟩ (.pointer (some ⟨b,0,none⟩)) = W at *
 have R:=hiT (fun wx (hb:Below W.heap.size W wx)=>y9d B b n wx hB ((hb.block b (lt_of_block hbk2)).trans hbk2) (Nat.le_trans (by rw [hse];exact hBw) hb.size) hn)
 have d1:W.cell? ⟨b,1,none⟩ = some (.slice none 0 0):=by rw [cell_of_row W b _ _ _ _ hbk2];rfl
 have i1:InW b W:=⟨lt_of_block hbk2⟩
 have hnI:(0:Int) < (n:Int):=by omega
 have hWz:B ≤ W.heap.size:=by rw [hse];exact hBw
 replace hbs:=hiT hbs
 clear hbk2 hse
 go_enter Tryz.func86,Tryz.ntmps86
 go_wp2_with ((with_reducible refine (C.out).mono ?_);rintro e w1 ⟨rfl,rfl⟩)
 (refine z0d krT krT ?_;(repeat (go_big_quiet_step (fail)));refine wpQuiet_nil ?_;intro _ hw';obtain ⟨pg,hw''⟩:=hw';subst hw'')
 go_wp2_with fail
 refine (R.out _ gzT).mono ?_
 intro e w2 hr
 obtain ⟨rfl,h1,h2⟩:=hr
 have h3:=hbs.out.trans (Below.trans (show Below B W _ from gzT) h2)
 clear R C h2
 go_wp2
 go_end0
 exact ⟨rfl,h1,h3⟩
theorem v4v (xs:List (List UInt8)) (sep:List UInt8) (k:Nat):Lib.lens (xs.take k) ≤ (Lib.join xs sep).length:=by
 refine Nat.le_trans (Lib.lens_take_le _ _) ?_
 cases xs with
 | nil=>exact Nat.zero_le _
 | cons x r=>rw [Lib.join_length];omega
def z9s (xs:List ByteArray) (sep:ByteArray):List UInt8:=Lib.join (xs.map (·.data.toList)) sep.data.toList
theorem q0v (x:ByteArray) (r:List ByteArray) (sep:ByteArray):z9s (x :: r) sep = x.data.toList ++ Lib.joinTail sep.data.toList (r.map (·.data.toList)):=by
 unfold z9s
 rw [List.map_cons,Lib.join_cons]
def y0w (r:List ByteArray) (sep:ByteArray) (k:Nat):List UInt8:=Lib.joinTail sep.data.toList ((r.map (·.data.toList)).take k)
theorem y7q (r:List ByteArray) (sep:ByteArray) (k:Nat) (h:k < r.length):y0w r sep (k + 1) = y0w r sep k ++ sep.data.toList ++ r[k].data.toList :=
 Lib.joinTail_take_succ _ _ k _ (by simp [h])
theorem k9z (r:List ByteArray) (sep:ByteArray) (k:Nat):(y0w r sep k).length ≤ (Lib.joinTail sep.data.toList (r.map (·.data.toList))).length:=Lib.joinTail_take_le _ _ _
structure JoinBy (xs:List ByteArray) (sep:ByteArray) (r:List ByteArray) (M:Nat) (A:Nat → Nat) (L:Nat → List UInt8):Prop where
 rl:xs.length = r.length + 1
 m:(sep.size:Int) * ((xs.length:Int) - 1) = (M:Int)
 mle:M ≤ 10000000
 mpos:0 < M
 dv:¬ (9223372036854775807 / ((xs.length:Int) - 1) ≤ (sep.size:Int))
 a0:A 0 = 0
 ale:∀ k,A k ≤ 900000
 asucc:∀ k (h:k < xs.length),A (k + 1) = A k + xs[k].size
 l0:∀ (h:0 < xs.length),L 0 = xs[0].data.toList
 lle:∀ k,(L k).length ≤ 900000
 lsucc:∀ k (h:k + 1 < xs.length),L (k + 1) = L k ++ sep.data.toList ++ xs[k + 1].data.toList
 whole:L r.length = z9s xs sep
 one:∀ k (h:k < xs.length),xs[k].size ≤ 900000
theorem v4o (xs:List ByteArray) (sep:ByteArray) (h2:2 ≤ xs.length) (hn:xs.length ≤ 10000) (hs:0 < sep.size) (hs2:sep.size ≤ 1000) (hj:(z9s xs sep).length ≤ 900000):∃ r M A L,JoinBy xs sep r M A L:=by
 obtain ⟨x0,r,rfl⟩:∃ x0 r,xs = x0 :: r:=by
  cases xs with
  | nil=>simp at h2
  | cons a t=>exact ⟨a,t,rfl⟩
 have hll:∀ k,Lib.lens (((x0 :: r).map (·.data.toList)).take k) ≤ 900000:=fun k=>Nat.le_trans (v4v _ sep.data.toList k) hj
 have hst:∀ k (h:k < (x0 :: r).length),Lib.lens (((x0 :: r).map (·.data.toList)).take (k + 1)) = Lib.lens (((x0 :: r).map (·.data.toList)).take k) + (x0 :: r)[k].size:=fun k h=>by
  rw [Lib.lens_take_succ _ k (x0 :: r)[k].data.toList (by rw [List.getElem?_map,List.getElem?_eq_getElem h];rfl),Lib.size_eq]
 refine ⟨r,sep.size * ((x0 :: r).length - 1),fun k=>Lib.lens (((x0 :: r).map (·.data.toList)).take k),fun k=>x0.data.toList ++ y0w r sep k,⟨rfl,?_,?_,Nat.mul_pos hs omT,?_,rfl,hll,hst,fun _=>?_,fun k=>?_,fun k h=>?_,?_,fun k h=>?_⟩⟩
 ·rw [show (((x0 :: r).length:Int) - 1) = (((x0 :: r).length - 1:Nat):Int) by omega]
  exact (Int.natCast_mul _ _).symm
 ·exact Nat.le_trans (Nat.mul_le_mul hs2 (show (x0 :: r).length - 1 ≤ 10000 by omega)) deT
 ·intro hh
  have e1:(9223372036854775807:Int) / 10000 ≤ 9223372036854775807 / (((x0 :: r).length:Int) - 1):=by
   rw [Int.le_ediv_iff_mul_le omT]
   have:(9223372036854775807:Int) / 10000 * (((x0 :: r).length:Int) - 1) ≤ 9223372036854775807 / 10000 * 10000:=Int.mul_le_mul_of_nonneg_left omT deT
   omega
  omega
 ·simp [y0w,Lib.joinTail]
 ·have:=k9z r sep k
  rw [q0v,List.length_append] at hj
  rw [List.length_append]
  omega
 ·have hk:k < r.length:=by simpa using h
  show x0.data.toList ++ y0w r sep (k + 1) = _
  rw [y7q r sep k hk]
  simp
 ·rw [q0v]
  unfold y0w
  rw [List.take_of_length_le (by simp)]
 ·have h1:=hst k h
  have h2:=hll (k + 1)
  omega
set_option maxRecDepth 100000 in
set_option maxHeartbeats 4000000 in
theorem y7i (tg cap:Nat) (xs:List ByteArray) (sep:ByteArray) (h2:2 ≤ xs.length) (hn:xs.length ≤ 10000) (hcap:xs.length ≤ cap) (hs:0 < sep.size) (hs2:sep.size ≤ 1000) (hj:(z9s xs sep).length ≤ 900000) (w:World) (htg:tg < w.heap.size) (hT:∀ j (h:j < xs.length),w.cell? ⟨tg,j,none⟩ = some (.string xs[j])) :
  Calls Tryz.prog 59 #[.slice (some ⟨tg,0,none⟩) xs.length cap,.string sep] w (Ret (.string ⟨(z9s xs sep).toArray⟩) w):=by
 have HC:=hiT (fun wx (hb:Below w.heap.size w wx) i (hi:i < xs.length)=>((hb.cell (p:=⟨tg,i,none⟩) htg).trans (hT i hi):wx.cell? ⟨tg,i,none⟩ = some (.string xs[i])))
 obtain ⟨r,M,A,L,J⟩:=v4o xs sep h2 hn hs hs2 hj
 have hrl:=hiT J.rl
 have hprod:=J.m
 have hdv:=J.dv
 have hM:=J.mle
 have hM0:=J.mpos
 replace J:=hiT J
 have hne0:((xs.length:Int) == 0) = false:=beq_eq_false_iff_ne.2 omT
 have hne1:((xs.length:Int) == 1) = false:=beq_eq_false_iff_ne.2 omT
 have hsI:(0:Int) < (sep.size:Int):=by omega
 clear hT hj
 obtain ⟨jb,hjb⟩:∃ jb,z9s xs sep = jb:=⟨_,rfl⟩
 rw [hjb]
 replace hjb:=hiT hjb
 go_enter Tryz.func59,Tryz.ntmps59
 go_wp2_with fail
 go_loop [5,41] (fun n i=>∃ k:Nat,k ≤ xs.length ∧ i = .int .i64 k ∧ n = .int .i64 ((M + A k:Nat):Int)) (fun _ i=>xs.length - (intOf i).toNat)
 case atStart=>exact ⟨0,Nat.zero_le _,rfl,by rw [J.out.a0];first | rfl | simp⟩
 case round =>
  obtain ⟨k,hk,rfl,rfl⟩:=hrel
  have hA:=J.out.ale k
  by_cases hkn:k < xs.length
  ·have hc:=HC.out w (Below.refl _ _) k hkn
   have h1:=J.out.asucc k hkn
   have h3:=J.out.one k hkn
   have h4:=J.out.ale (k + 1)
   have hI:(k:Int) < (xs.length:Int):=by omega
   generalize xs[k] = x at *
   generalize A k = a at *
   replace h1:=hiT h1
   go_wp2
   go_round
   case rel=>exact ⟨k + 1,by omega,by go_num,by rw [h1.out];refine congrArg _ ?_;omega⟩
   case measure=>simp [intOf];omega
  ·obtain rfl:k = xs.length:=by omega
   have hI:¬ ((xs.length:Int) < (xs.length:Int)):=by omega
   generalize A xs.length = T at *
   go_wp2_with fail
   refine (y4g w.heap.size w.heap.size (M + T) _ (Nat.le_refl _) (heap_alloc_new w _) (by simp) omT omT).mono ?_
   rintro e w1 ⟨rfl,h1,hb1⟩
   replace hb1:Below w.heap.size w w1:=((Below.refl w.heap.size w).alloc (Nat.le_refl _) _).trans hb1
   have hbl1:=hiT (v7z h1)
   have hz1:=hb1.size
   clear h1
   have h0:0 < xs.length:=by omega
   have c0:=HC.out w1 hb1 0 h0
   have hx0:=J.out.one 0 h0
   have hL0:=J.out.l0 h0
   generalize xs[0] = x0 at *
   go_wp2_with fail
   refine (q2l w.heap.size w.heap.size [] x0 w1 hbl1.out (by simp) omT hz1).mono ?_
   intro e w2 hr
   obtain ⟨rfl,hb2l,hb2,_⟩:=hr
   rw [List.nil_append,← hL0] at hb2l
   replace hb2:Below w.heap.size w w2:=hb1.trans hb2
   have hbl2:=hiT hb2l
   have hz2:=hb2.size
   clear hb2l hbl1 hb1 hz1 c0 hL0
   have hr1:(1:Int) ≤ (xs.length:Int):=by omega
   have hr2:(xs.length:Int) ≤ (cap:Int):=by omega
   go_wp2_with fail
   go_loopw [65] (fun i wr=>∃ k:Nat,k ≤ r.length ∧ i = .int .i64 k ∧ Bld w.heap.size w.heap.size (L k) wr ∧ Below w.heap.size w wr) (fun i _=>r.length - (intOf i).toNat)
   case atStart=>exact ⟨0,Nat.zero_le _,rfl,hbl2.out,hb2⟩
   case round =>
    obtain ⟨k,hk',rfl,hbl,hbr⟩:=hrel
    rename World=>wr
    have hzr:=hbr.size
    have hl0:=J.out.lle k
    by_cases hkr:k < r.length
    ·have hk1:k + 1 < xs.length:=by have:=hrl.out;omega
     have hc:=HC.out wr hbr (k + 1) hk1
     have hnx:=hiT (J.out.lsucc k hk1)
     have hy:=J.out.one (k + 1) hk1
     generalize xs[k + 1] = y at *
     rw [Nat.add_comm] at hc
     have hI:(k:Int) < (xs.length:Int) - 1:=by omega
     go_wp2_with fail
     refine (q2l w.heap.size w.heap.size (L k) sep wr hbl omT omT hzr).mono ?_
     intro e w3 hr
     obtain ⟨rfl,hb3l,hb3,_⟩:=hr
     replace hb3:Below w.heap.size w w3:=hbr.trans hb3
     have hz3:=hb3.size
     clear hbl
     go_wp2_with fail
     refine (q2l w.heap.size w.heap.size (L k ++ sep.data.toList) y w3 hb3l (by rw [List.length_append,← Lib.size_eq];omega) omT hz3).mono ?_
     intro e w4 hr
     obtain ⟨rfl,hb4l,hb4,_⟩:=hr
     rw [← hnx.out] at hb4l
     replace hb4l:=hiT hb4l
     replace hb4:Below w.heap.size w w4:=hb3.trans hb4
     clear hb3l
     go_wp2
     go_roundw
     case rel=>exact ⟨k + 1,by omega,by go_num,hb4l.out,hb4⟩
     case measure=>simp [intOf];omega
    ·obtain rfl:k = r.length:=by omega
     have hw:=J.out.whole
     rw [hjb.out] at hw
     rw [hw] at hbl hl0
     have hI:¬ ((r.length:Int) < (xs.length:Int) - 1):=by have:=hrl.out;omega
     go_wp2_with fail
     refine (j8u w.heap.size w.heap.size jb wr hbl hzr).mono ?_
     intro e w5 hr
     obtain ⟨rfl,hb5⟩:=hr
     have hb6:=hbr.trans hb5
     go_wp2
     go_returns
     exact ⟨rfl,hb6⟩
set_option maxRecDepth 100000 in
set_option maxHeartbeats 4000000 in
theorem k3q (tg cap:Nat) (xs:List ByteArray) (sep:ByteArray) (hn:xs.length ≤ 10000) (hcap:xs.length ≤ cap) (hs:0 < sep.size) (hs2:sep.size ≤ 1000) (hj:(z9s xs sep).length ≤ 900000) (w:World) (htg:tg < w.heap.size) (hT:∀ j (h:j < xs.length),w.cell? ⟨tg,j,none⟩ = some (.string xs[j])) :
  Calls Tryz.prog 59 #[.slice (some ⟨tg,0,none⟩) xs.length cap,.string sep] w (Ret (.string ⟨(z9s xs sep).toArray⟩) w):=by
 match xs,hn,hcap,hj,hT with
 | [],_,_,_,_ =>
  show Calls _ _ #[.slice (some ⟨tg,0,none⟩) 0 cap,_] w (Ret (.string ⟨#[]⟩) w)
  go_enter Tryz.func59,Tryz.ntmps59
  go_wp2
  go_returns
  exact ⟨rfl,gzT⟩
 | [x],_,_,_,hT =>
  have c0:w.cell? ⟨tg,0,none⟩ = some (.string x):=hT 0 (by simp)
  have e:(⟨(z9s [x] sep).toArray⟩:ByteArray) = x:=by
   unfold z9s
   rw [List.map_singleton,Lib.join_one]
  rw [e]
  show Calls _ _ #[.slice (some ⟨tg,0,none⟩) 1 cap,_] w _
  clear hT e
  go_enter Tryz.func59,Tryz.ntmps59
  go_wp2
  go_returns
  exact ⟨rfl,gzT⟩
 | x :: y :: r,hn,hcap,hj,hT=>exact y7i tg cap (x :: y :: r) sep (by simp) hn hcap hs hs2 hj w htg hT
end Go.Proofs.YtacnlghljmgdiaaGreatDoor
