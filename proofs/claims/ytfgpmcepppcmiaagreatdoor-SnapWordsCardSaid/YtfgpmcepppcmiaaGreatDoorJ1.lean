/- Several texts of this proof, joined: BU, JO, SG, SJ. -/
import Derived.Test.YtfgpmcepppcmiaaGreatDoorZ1
import Derived.Test.YtfgpmcepppcmiaaGreatDoorChecked
import Derived.WalkKit
import Derived.ProofKit
import Derived.OpenShut
import Derived.Handy
import Derived.BigQuiet
import Derived.OwnWalk
import Derived.Lib.Hide
import Derived.Lib.Builder
import Derived.Lib.AppendStr
import Derived.Lib.UnsafeStr
import Derived.Laws.Externs
import Derived.WalkLawsBesides
import Derived.Test.YtfgpmcepppcmiaaGreatDoorZ7
import Derived.Test.YtfgpmcepppcmiaaGreatDoorShelf3
import Derived.WalkSmall
import Derived.Lib.MakeNoZero
import Derived.Test.YtfgpmcepppcmiaaGreatDoorY1
import Derived.Test.YtfgpmcepppcmiaaGreatDoorY2
import Derived.Lib.Join
namespace Go.Proofs.YtfgpmcepppcmiaaGreatDoor
open Go.RowKit
def Bld (B b:Nat) (l:List UInt8) (w:World):Prop:=Lib.IsBuilder 195 5 B b (Lib.byteCells l) w
theorem bld_info:∃ j,Tryz.prog.info? 195 = some j ∧ j.size = 2:=by
 have h:(Tryz.prog.info? 195).map (·.size) = some 2:=by kernel_rfl
 obtain ⟨j,hj,hs⟩:=Option.map_eq_some_iff.1 h
 exact ⟨j,hj,hs⟩
theorem bld_lies:liesAt Tryz.prog Tryz.prog.depth 195 (2 / Tryz.prog.cellsOf 195) 0 195 1 = true:=by kernel_rfl
set_option maxRecDepth 100000 in
theorem check_used (b:Nat) (w:World) (h0:w.cell? ⟨b,0,none⟩ = some (.pointer (some ⟨b,0,none⟩))):Calls Tryz.prog 128 #[.pointer (some ⟨b,0,none⟩)] w (RetW (.tuple #[]) w):=by
 obtain ⟨j,hj,_⟩:=bld_info
 go_enter Tryz.func128,Tryz.ntmps128
 go_wp2
 rw [Lib.run_neq_ptr_same w _ Tryz.underlying193 hj]
 go_wp2
 go_end0
 exact ⟨rfl,rfl⟩
set_option maxRecDepth 100000 in
theorem check_fresh (b:Nat) (w:World) (h0:w.cell? ⟨b,0,none⟩ = some (.pointer none)) (hsh:w.shape? b = some (195,2)) (hfz:w.frozen? ⟨b,0,none⟩ = false) :
  Calls Tryz.prog 128 #[.pointer (some ⟨b,0,none⟩)] w (RetW (.tuple #[]) (w.setCell ⟨b,0,none⟩ (.pointer (some ⟨b,0,none⟩)))):=by
 obtain ⟨j,hj,hjs⟩:=bld_info
 go_enter Tryz.func128,Tryz.ntmps128
 go_wp2
 rw [Lib.run_to_unsafe w ⟨b,0,none⟩ Tryz.underlying193 Tryz.underlying273 hj (by rw [hjs];decide) hsh (Nat.zero_lt_succ 1)]
 simp only [Result.andThen]
 rw [Oper.upon_value]
 go_wp2
 rw [run_callFunc_extern Tryz.func158 (by kernel_rfl) (by kernel_rfl) (by kernel_rfl) (e:=Extern.AbiNoEscape.same) (by kernel_rfl)]
 rw [Lib.run_noEscape]
 simp only [Result.andThen]
 rw [Oper.upon_value]
 go_wp2
 rw [Lib.run_from_unsafe w ⟨b,0,none⟩ Tryz.underlying273 Tryz.underlying193 hj hsh bld_lies]
 simp only [Result.andThen]
 rw [Oper.upon_value]
 go_wp2
 go_end0
 exact ⟨rfl,rfl⟩
def BldU (B b:Nat) (l:List UInt8) (w:World):Prop:=Lib.BuilderAt 195 5 B b (.pointer (some ⟨b,0,none⟩)) (Lib.byteCells l) w
theorem bld_of {B b:Nat} {l:List UInt8} {w:World} (h:BldU B b l w):Bld B b l w := .inr h
def KeptB (b:Nat) (w w':World):Prop:=∀ k cs T fr,k ≠ b → T ≠ 5 → w.heap[k]? = some (.cells cs T fr) → w'.heap[k]? = some (.cells cs T fr)
theorem keptB_set (b j:Nat) (v:Value) (w:World):KeptB b w (w.setCell ⟨b,j,none⟩ v):=fun k cs T fr hk _ h=>by
 rw [Below.heap_setCell _ _ _ _ (fun e=>hk (by simpa using e))]
 exact h
theorem KeptB.trans {b:Nat} {w w1 w2:World} (h:KeptB b w w1) (h':KeptB b w1 w2):KeptB b w w2:=fun k cs T fr hk hT hw=>h' k cs T fr hk hT (h k cs T fr hk hT hw)
theorem keptB_grown {B b n:Nat} {v:Value} {xs:List Value} {w w':World} (hown:w.ownsRow B 5 1 v n xs) (hg:w.grownBy w' v.ownBlock):KeptB b w w':=fun k cs T fr _ hT h=>by
 have hlt:k < w.heap.size:=(Array.getElem?_eq_some_iff.1 h).1
 rw [hg.block k hlt (fun e=>Lib.ownBlock_ne hown h hT e.symm)]
 exact h
def CheckIs (B b:Nat) (l:List UInt8) (w:World) (e:Ending) (w':World):Prop:=e = .returned (.tuple #[]) ∧ BldU B b l w' ∧ Below B w w' ∧ KeptB b w w'
theorem check_any (B b:Nat) (l:List UInt8) (w:World) (h:Bld B b l w):Calls Tryz.prog 128 #[.pointer (some ⟨b,0,none⟩)] w (CheckIs B b l w):=by
 rcases h with h | h
 ·exact (check_fresh b w h.cell0 h.shape h.frozen0).mono fun e w' ⟨he,hw⟩=>⟨he,hw ▸ h.used _,hw ▸ (Below.refl B w).setCell (p:=⟨b,0,none⟩) h.1 _,hw ▸ keptB_set b 0 _ w⟩
 ·exact (check_used b w h.cell0).mono fun e w' ⟨he,hw⟩=>⟨he,hw ▸ h,hw ▸ Below.refl B _,hw ▸ fun _ _ _ _ _ _ h=>h⟩
theorem Tryz.infoU8:(Tryz.prog.info? 5).map (fun i=>(i.zero,i.size,i.bytes)) = some (some (.int .u8 0),1,1):=by kernel_rfl
def WroteIs (v:Value) (B b:Nat) (l:List UInt8) (w:World) (e:Ending) (w':World):Prop:=e = .returned v ∧ Bld B b l w' ∧ Below B w w' ∧ KeptB b w w'
theorem bytes_append (l:List UInt8) (s:ByteArray):Lib.byteCells l ++ Lib.strCells s = Lib.byteCells (l ++ s.data.toList):=by simp [Lib.byteCells,Lib.strCells]
set_option maxRecDepth 100000 in
set_option maxHeartbeats 2000000 in
theorem wstring_any (B b:Nat) (l:List UInt8) (s:ByteArray) (w:World) (h:Bld B b l w) (hl:l.length ≤ 1000000) (hs:s.size ≤ 2000000) (hBw:B ≤ w.heap.size) :
  Calls Tryz.prog 88 #[.pointer (some ⟨b,0,none⟩),.string s] w (WroteIs (.tuple #[.int .i64 s.size,.nilIface]) B b (l ++ s.data.toList) w):=by
 obtain ⟨i0,hi,hz0,hz1,hz2⟩:=info_parts Tryz.infoU8
 have C:=Lib.hid (check_any B b l w h)
 have hbl:(Lib.byteCells l).length = l.length:=Lib.byteCells_length l
 go_enter Tryz.func88,Tryz.ntmps88
 go_wp2_with fail
 refine C.out.mono ?_
 intro e w1 hr
 obtain ⟨rfl,⟨hB,v,hbk,hown,hne⟩,hb1,hk1⟩:=hr
 have c0:w1.cell? ⟨b,0,none⟩ = some (.pointer (some ⟨b,0,none⟩)):=by rw [Lib.cell_of_heap hbk];rfl
 have c1:w1.cell? ⟨b,1,none⟩ = some v:=by rw [Lib.cell_of_heap hbk];rfl
 have hsz:=hb1.size
 have hlt:b < w1.heap.size:=World.block_lt_of_cell? _ _ c0
 clear C
 go_wp2_with (at_builtin;refine Lib.wpList_append_own_string _ rfl _ _ 151 9 rfl B 5 i0 Tryz.underlying151 Tryz.underlying9 hi hz0 hz1 hz2 _ _ _ rfl hown s rfl ?c3 ?c4 ?c5 ?_)
 case c3=>unfold maxLen;omega
 case c4=>omega
 case c5=>omega
 intro v' w2 hown' hgrow _
 have hb2:w2.heap[b]? = some (.cells #[.pointer (some ⟨b,0,none⟩),v] 195 (0,0)):=by
  rw [hgrow.block b hlt (fun e=>hne e.symm)]
  exact hbk
 have d0:w2.cell? ⟨b,0,none⟩ = some (.pointer (some ⟨b,0,none⟩)):=by rw [Lib.cell_of_heap hb2];rfl
 have d1:w2.cell? ⟨b,1,none⟩ = some v:=by rw [Lib.cell_of_heap hb2];rfl
 have f1:w2.frozen? ⟨b,1,none⟩ = false:=Lib.frozen_of_heap hb2 1
 obtain ⟨ao,n',cap,rfl⟩:∃ ao n' cap,v' = .slice ao n' cap:=by
  rcases hown'.2 with ⟨hv,_⟩ | ⟨g,cap,cur,hv,_⟩
  ·exact ⟨_,_,_,hv⟩
  ·exact ⟨_,_,_,hv⟩
 have hfin:Bld B b (l ++ s.data.toList) (w2.setCell ⟨b,1,none⟩ (.slice ao n' cap)):=by
  refine .inr ?_
  rw [← bytes_append]
  exact Lib.BuilderAt.put (T:=195) (e:=5) hB hb2 (bs':=Lib.byteCells l ++ Lib.strCells s) (by rw [List.length_append,Lib.strCells_length,hbl];exact hown') (by decide)
 have hbel:Below B w (w2.setCell ⟨b,1,none⟩ (.slice ao n' cap)) :=
  (hb1.grown hgrow (by omega) (fun k hk=>(hown.lt k hk).1)).setCell (p:=⟨b,1,none⟩) hB _
 have hkept:KeptB b w (w2.setCell ⟨b,1,none⟩ (.slice ao n' cap)):=(hk1.trans (keptB_grown hown hgrow)).trans (keptB_set b 1 _ w2)
 replace hfin:=Lib.hid hfin
 replace hbel:=Lib.hid hbel
 replace hkept:=Lib.hid hkept
 clear hgrow hown' hown hk1
 go_wp2
 go_returns
 exact ⟨rfl,hfin.out,hbel.out,hkept.out⟩
end Go.Proofs.YtfgpmcepppcmiaaGreatDoor
namespace Go.Proofs.YtfgpmcepppcmiaaGreatDoor
open Go.RowKit
theorem bstring_any (B b:Nat) (l:List UInt8) (w:World) (h:Bld B b l w) (hBw:B ≤ w.heap.size):Calls Tryz.prog 89 #[.pointer (some ⟨b,0,none⟩)] w fun e w'=>e = .returned (.string ⟨l.toArray⟩) ∧ Below B w w' :=
 Any.Builder_String_any Tryz.lays169 Tryz.Builder_Extra_169 B b l w h hBw
end Go.Proofs.YtfgpmcepppcmiaaGreatDoor
namespace Go.Proofs.YtfgpmcepppcmiaaGreatDoor
open Go.RowKit
theorem set_alloc (w:World) (b i:Nat) (v:Value) (o:Obj) (h:b < w.heap.size):(w.alloc o).setCell ⟨b,i,none⟩ v = (w.setCell ⟨b,i,none⟩ v).alloc o:=by
 unfold World.alloc World.setCell
 congr 1
 apply Array.ext_getElem?
 intro k
 simp only [Array.getElem?_modify,Array.getElem?_push,Array.size_modify]
 by_cases hk:k = w.heap.size
 ·have:b ≠ k:=by omega
  simp [hk]
  omega
 ·simp [hk]
set_option maxRecDepth 100000 in
set_option maxHeartbeats 2000000 in
theorem bgrow_any (B b n:Nat) (w:World) (hB:B ≤ b) (hbk:w.heap[b]? = some (.cells #[.pointer (some ⟨b,0,none⟩),.slice none 0 0] 195 (0,0))) (hBw:B ≤ w.heap.size) (hn:n ≤ 1000000000000) :
  Calls Tryz.prog 129 #[.pointer (some ⟨b,0,none⟩),.int .i64 n] w fun e w'=>e = .returned (.tuple #[]) ∧ BldU B b [] w' ∧ Below B w w':=by
 obtain ⟨cs,hrun,hle,hmax⟩:=Lib.run_makeNoZero (P:=Tryz.prog) w.drew #[3] 151 5 Tryz.underlying151 n (by omega)
 have hw:IntKind.i64.wrap (IntKind.i64.wrap 0 + (n:Int)) = n:=by
  rw [IntKind.wrap_i64,IntKind.wrap_i64]
  omega
 have hcall:(callFunc 159 #[.int .i64 (IntKind.i64.wrap (IntKind.i64.wrap 0 + (n:Int)))]).run Tryz.prog w.drew = .ok (.value (.slice (some ⟨w.drew.heap.size,0,none⟩) n cs.size)) (w.drew.drew.drew.alloc (.cells cs 5)):=by
  rw [hw,run_callFunc_extern Tryz.func159 (by kernel_rfl) (by kernel_rfl) (by kernel_rfl) (e:=Extern.BytealgMakeNoZero.makeNoZero #[3] #[151]) (by kernel_rfl),hrun]
  rfl
 have hlt:=lt_of_block hbk
 have c1:w.drew.cell? ⟨b,1,none⟩ = some (.slice none 0 0):=by
  have:w.drew.heap[b]? = _:=hbk
  rw [Lib.cell_of_heap this];rfl
 have hb2:(w.alloc (.cells cs 5)).heap[b]? = _:=(Lib.alloc_old w _ b hlt).trans hbk
 have c2:(w.alloc (.cells cs 5)).cell? ⟨b,1,none⟩ = some (.slice none 0 0):=by rw [Lib.cell_of_heap hb2];rfl
 have f2:(w.alloc (.cells cs 5)).frozen? ⟨b,1,none⟩ = false:=Lib.frozen_of_heap hb2 1
 obtain ⟨i0,hi,hz0,hz1,hz2⟩:=info_parts Tryz.infoU8
 have hcopy:∀ W:World,(Builtin.copy_ #[151,151] 3 #[.slice (some ⟨w.heap.size,0,none⟩) 0 cs.size,.slice none 0 0]).run Tryz.prog W = .ok (goInt 0) W :=
  fun W=>run_copy_none W 151 151 3 5 _ _ 0 cs.size 0 0 Tryz.underlying151 (by kernel_rfl) rfl
 clear hw
 go_enter Tryz.func129,Tryz.ntmps129
 go_wp2
 have hfin:=Lib.grown_fresh (T:=195) (e:=5) (cs:=cs) hB hbk hBw (hmax (by unfold maxLen;omega)) (by decide)
 rw [set_alloc _ _ _ _ _ hlt] at hfin
 go_region
 all_goals (go_wp2;go_end0;exact ⟨rfl,hfin⟩)
end Go.Proofs.YtfgpmcepppcmiaaGreatDoor
namespace Go.Proofs.YtfgpmcepppcmiaaGreatDoor
open Go.RowKit
theorem bready_any (B b n:Nat) (w:World) (hB:B ≤ b) (hbk:w.heap[b]? = some (.cells #[.pointer none,.slice none 0 0] 195 (0,0))) (hBw:B ≤ w.heap.size) (hn:n ≤ 1000000000000) (hn0:0 < n) :
  Calls Tryz.prog 87 #[.pointer (some ⟨b,0,none⟩),.int .i64 n] w fun e w'=>e = .returned (.tuple #[]) ∧ BldU B b [] w' ∧ Below B w w':=by
 have c0:w.cell? ⟨b,0,none⟩ = some (.pointer none):=by rw [cell_of_row w b _ _ _ _ hbk];rfl
 have hf:w.frozen? ⟨b,0,none⟩ = false:=frozen_of_row w b 0 _ _ hbk
 have hsh:w.shape? b = some (195,2):=by
  unfold World.shape?
  rw [hbk]
  rfl
 have C:=Lib.hid (check_fresh b w c0 hsh hf)
 have hbk2:(w.setCell ⟨b,0,none⟩ (.pointer (some ⟨b,0,none⟩))).heap[b]? = some (.cells #[.pointer (some ⟨b,0,none⟩),.slice none 0 0] 195 (0,0)):=blk_set hbk
 have hse:(w.setCell ⟨b,0,none⟩ (.pointer (some ⟨b,0,none⟩))).heap.size = w.heap.size:=by simp [World.setCell]
 have hbs:Below B w (w.setCell ⟨b,0,none⟩ (.pointer (some ⟨b,0,none⟩))):=(Below.refl B w).setCell (p:=⟨b,0,none⟩) hB _
 have hlt:=lt_of_block hbk
 clear hbk hsh hf c0
 generalize w.setCell ⟨b,0,none⟩ (.pointer (some ⟨b,0,none⟩)) = W at *
 have R:=Lib.hid (fun wx (hb:Below W.heap.size W wx)=>bgrow_any B b n wx hB ((hb.block b (lt_of_block hbk2)).trans hbk2) (Nat.le_trans (by rw [hse];exact hBw) hb.size) hn)
 have d1:W.cell? ⟨b,1,none⟩ = some (.slice none 0 0):=by rw [cell_of_row W b _ _ _ _ hbk2];rfl
 have i1:InW b W:=⟨lt_of_block hbk2⟩
 have hnI:(0:Int) < (n:Int):=by omega
 have hWz:B ≤ W.heap.size:=by rw [hse];exact hBw
 replace hbs:=Lib.hid hbs
 clear hbk2 hse
 go_enter Tryz.func87,Tryz.ntmps87
 go_wp2_with ((with_reducible refine (C.out).mono ?_);rintro e w1 ⟨rfl,rfl⟩)
 (refine wp_region_G (by kernel_rfl) (by kernel_rfl) ?_;(repeat (go_big_quiet_step (fail)));refine wpQuiet_nil ?_;intro _ hw';obtain ⟨pg,hw''⟩:=hw';subst hw'')
 go_wp2_with fail
 refine (R.out _ (by (first | exact gwT | exact lzT))).mono ?_
 intro e w2 hr
 obtain ⟨rfl,h1,h2⟩:=hr
 have h3:=hbs.out.trans (Below.trans (show Below B W _ by (first | exact gwT | exact lzT)) h2)
 clear R C h2
 go_wp2
 go_end0
 exact ⟨rfl,h1,h3⟩
theorem lens_le (xs:List (List UInt8)) (sep:List UInt8) (k:Nat):Lib.lens (xs.take k) ≤ (Lib.join xs sep).length:=by
 refine Nat.le_trans (Lib.lens_take_le _ _) ?_
 cases xs with
 | nil=>exact Nat.zero_le _
 | cons x r=>rw [Lib.join_length];omega
def joinB (xs:List ByteArray) (sep:ByteArray):List UInt8:=Lib.join (xs.map (·.data.toList)) sep.data.toList
theorem joinB_cons (x:ByteArray) (r:List ByteArray) (sep:ByteArray):joinB (x :: r) sep = x.data.toList ++ Lib.joinTail sep.data.toList (r.map (·.data.toList)):=by
 unfold joinB
 rw [List.map_cons,Lib.join_cons]
def tailB (r:List ByteArray) (sep:ByteArray) (k:Nat):List UInt8:=Lib.joinTail sep.data.toList ((r.map (·.data.toList)).take k)
theorem tailB_succ (r:List ByteArray) (sep:ByteArray) (k:Nat) (h:k < r.length):tailB r sep (k + 1) = tailB r sep k ++ sep.data.toList ++ r[k].data.toList :=
 Lib.joinTail_take_succ _ _ k _ (by simp [h])
theorem tailB_le (r:List ByteArray) (sep:ByteArray) (k:Nat):(tailB r sep k).length ≤ (Lib.joinTail sep.data.toList (r.map (·.data.toList))).length:=Lib.joinTail_take_le _ _ _
structure JoinBy (xs:List ByteArray) (sep:ByteArray) (r:List ByteArray) (M:Nat) (A:Nat → Nat) (L:Nat → List UInt8):Prop where
 rl:xs.length = r.length + 1
 m:(sep.size:Int) * ((xs.length:Int) - 1) = (M:Int)
 mle:M ≤ 10000000
 mpos:0 < M
 dv:¬ (9223372036854775807 / ((xs.length:Int) - 1) ≤ (sep.size:Int))
 a0:A 0 = 0
 ale:∀ k,A k ≤ 900000
 asucc:∀ k (h:k < xs.length),A (k + 1) = A k + xs[k].size
 l0:∀ (h:0 < xs.length),L 0 = xs[0].data.toList
 lle:∀ k,(L k).length ≤ 900000
 lsucc:∀ k (h:k + 1 < xs.length),L (k + 1) = L k ++ sep.data.toList ++ xs[k + 1].data.toList
 whole:L r.length = joinB xs sep
 one:∀ k (h:k < xs.length),xs[k].size ≤ 900000
theorem join_by (xs:List ByteArray) (sep:ByteArray) (h2:2 ≤ xs.length) (hn:xs.length ≤ 10000) (hs:0 < sep.size) (hs2:sep.size ≤ 1000) (hj:(joinB xs sep).length ≤ 900000):∃ r M A L,JoinBy xs sep r M A L:=by
 obtain ⟨x0,r,rfl⟩:∃ x0 r,xs = x0 :: r:=by
  cases xs with
  | nil=>simp at h2
  | cons a t=>exact ⟨a,t,rfl⟩
 have hll:∀ k,Lib.lens (((x0 :: r).map (·.data.toList)).take k) ≤ 900000:=fun k=>Nat.le_trans (lens_le _ sep.data.toList k) hj
 have hst:∀ k (h:k < (x0 :: r).length),Lib.lens (((x0 :: r).map (·.data.toList)).take (k + 1)) = Lib.lens (((x0 :: r).map (·.data.toList)).take k) + (x0 :: r)[k].size:=fun k h=>by
  rw [Lib.lens_take_succ _ k (x0 :: r)[k].data.toList (by rw [List.getElem?_map,List.getElem?_eq_getElem h];rfl),Lib.size_eq]
 refine ⟨r,sep.size * ((x0 :: r).length - 1),fun k=>Lib.lens (((x0 :: r).map (·.data.toList)).take k),fun k=>x0.data.toList ++ tailB r sep k,⟨rfl,?_,?_,Nat.mul_pos hs (by omega),?_,rfl,hll,hst,fun _=>?_,fun k=>?_,fun k h=>?_,?_,fun k h=>?_⟩⟩
 ·rw [show (((x0 :: r).length:Int) - 1) = (((x0 :: r).length - 1:Nat):Int) by omega]
  exact (Int.natCast_mul _ _).symm
 ·exact Nat.le_trans (Nat.mul_le_mul hs2 (show (x0 :: r).length - 1 ≤ 10000 by omega)) (by decide)
 ·intro hh
  have e1:(9223372036854775807:Int) / 10000 ≤ 9223372036854775807 / (((x0 :: r).length:Int) - 1):=by
   rw [Int.le_ediv_iff_mul_le (by omega)]
   have:(9223372036854775807:Int) / 10000 * (((x0 :: r).length:Int) - 1) ≤ 9223372036854775807 / 10000 * 10000:=Int.mul_le_mul_of_nonneg_left (by omega) (by decide)
   omega
  omega
 ·simp [tailB,Lib.joinTail]
 ·have:=tailB_le r sep k
  rw [joinB_cons,List.length_append] at hj
  rw [List.length_append]
  omega
 ·have hk:k < r.length:=by simpa using h
  show x0.data.toList ++ tailB r sep (k + 1) = _
  rw [tailB_succ r sep k hk]
  simp
 ·rw [joinB_cons]
  unfold tailB
  rw [List.take_of_length_le (by simp)]
 ·have h1:=hst k h
  have h2:=hll (k + 1)
  omega
set_option maxRecDepth 100000 in
set_option maxHeartbeats 4000000 in
theorem sjoin_many (tg cap:Nat) (xs:List ByteArray) (sep:ByteArray) (h2:2 ≤ xs.length) (hn:xs.length ≤ 10000) (hcap:xs.length ≤ cap) (hs:0 < sep.size) (hs2:sep.size ≤ 1000) (hj:(joinB xs sep).length ≤ 900000) (w:World) (htg:tg < w.heap.size) (hT:∀ j (h:j < xs.length),w.cell? ⟨tg,j,none⟩ = some (.string xs[j])) :
  Calls Tryz.prog 60 #[.slice (some ⟨tg,0,none⟩) xs.length cap,.string sep] w (Ret (.string ⟨(joinB xs sep).toArray⟩) w):=by
 have HC:=Lib.hid (fun wx (hb:Below w.heap.size w wx) i (hi:i < xs.length)=>((hb.cell (p:=⟨tg,i,none⟩) htg).trans (hT i hi):wx.cell? ⟨tg,i,none⟩ = some (.string xs[i])))
 obtain ⟨r,M,A,L,J⟩:=join_by xs sep h2 hn hs hs2 hj
 have hrl:=Lib.hid J.rl
 have hprod:=J.m
 have hdv:=J.dv
 have hM:=J.mle
 have hM0:=J.mpos
 replace J:=Lib.hid J
 have hne0:((xs.length:Int) == 0) = false:=beq_eq_false_iff_ne.2 (by omega)
 have hne1:((xs.length:Int) == 1) = false:=beq_eq_false_iff_ne.2 (by omega)
 have hsI:(0:Int) < (sep.size:Int):=by omega
 clear hT hj
 obtain ⟨jb,hjb⟩:∃ jb,joinB xs sep = jb:=⟨_,rfl⟩
 rw [hjb]
 replace hjb:=Lib.hid hjb
 go_enter Tryz.func60,Tryz.ntmps60
 go_wp2_with fail
 go_loop [5,41] (fun n i=>∃ k:Nat,k ≤ xs.length ∧ i = .int .i64 k ∧ n = .int .i64 ((M + A k:Nat):Int)) (fun _ i=>xs.length - (intOf i).toNat)
 case atStart=>exact ⟨0,Nat.zero_le _,rfl,by rw [J.out.a0];first | rfl | simp⟩
 case round =>
  obtain ⟨k,hk,rfl,rfl⟩:=hrel
  have hA:=J.out.ale k
  by_cases hkn:k < xs.length
  ·have hc:=HC.out w (Below.refl _ _) k hkn
   have h1:=J.out.asucc k hkn
   have h3:=J.out.one k hkn
   have h4:=J.out.ale (k + 1)
   have hI:(k:Int) < (xs.length:Int):=by omega
   generalize xs[k] = x at *
   generalize A k = a at *
   replace h1:=Lib.hid h1
   go_wp2
   go_round
   case rel=>exact ⟨k + 1,by omega,by go_num,by rw [h1.out];refine congrArg _ ?_;omega⟩
   case measure=>simp [intOf];omega
  ·obtain rfl:k = xs.length:=by omega
   have hI:¬ ((xs.length:Int) < (xs.length:Int)):=by omega
   generalize A xs.length = T at *
   go_wp2_with fail
   refine (bready_any w.heap.size w.heap.size (M + T) _ (Nat.le_refl _) (heap_alloc_new w _) (by simp) (by omega) (by omega)).mono ?_
   rintro e w1 ⟨rfl,h1,hb1⟩
   replace hb1:Below w.heap.size w w1:=((Below.refl w.heap.size w).alloc (Nat.le_refl _) _).trans hb1
   have hbl1:=Lib.hid (bld_of h1)
   have hz1:=hb1.size
   clear h1
   have h0:0 < xs.length:=by omega
   have c0:=HC.out w1 hb1 0 h0
   have hx0:=J.out.one 0 h0
   have hL0:=J.out.l0 h0
   generalize xs[0] = x0 at *
   go_wp2_with fail
   refine (wstring_any w.heap.size w.heap.size [] x0 w1 hbl1.out (by simp) (by omega) hz1).mono ?_
   intro e w2 hr
   obtain ⟨rfl,hb2l,hb2,_⟩:=hr
   rw [List.nil_append,← hL0] at hb2l
   replace hb2:Below w.heap.size w w2:=hb1.trans hb2
   have hbl2:=Lib.hid hb2l
   have hz2:=hb2.size
   clear hb2l hbl1 hb1 hz1 c0 hL0
   have hr1:(1:Int) ≤ (xs.length:Int):=by omega
   have hr2:(xs.length:Int) ≤ (cap:Int):=by omega
   go_wp2_with fail
   go_loopw [65] (fun i wr=>∃ k:Nat,k ≤ r.length ∧ i = .int .i64 k ∧ Bld w.heap.size w.heap.size (L k) wr ∧ Below w.heap.size w wr) (fun i _=>r.length - (intOf i).toNat)
   case atStart=>exact ⟨0,Nat.zero_le _,rfl,hbl2.out,hb2⟩
   case round =>
    obtain ⟨k,hk',rfl,hbl,hbr⟩:=hrel
    rename World=>wr
    have hzr:=hbr.size
    have hl0:=J.out.lle k
    by_cases hkr:k < r.length
    ·have hk1:k + 1 < xs.length:=by have:=hrl.out;omega
     have hc:=HC.out wr hbr (k + 1) hk1
     have hnx:=Lib.hid (J.out.lsucc k hk1)
     have hy:=J.out.one (k + 1) hk1
     generalize xs[k + 1] = y at *
     rw [Nat.add_comm] at hc
     have hI:(k:Int) < (xs.length:Int) - 1:=by omega
     go_wp2_with fail
     refine (wstring_any w.heap.size w.heap.size (L k) sep wr hbl (by omega) (by omega) hzr).mono ?_
     intro e w3 hr
     obtain ⟨rfl,hb3l,hb3,_⟩:=hr
     replace hb3:Below w.heap.size w w3:=hbr.trans hb3
     have hz3:=hb3.size
     clear hbl
     go_wp2_with fail
     refine (wstring_any w.heap.size w.heap.size (L k ++ sep.data.toList) y w3 hb3l (by rw [List.length_append,← Lib.size_eq];omega) (by omega) hz3).mono ?_
     intro e w4 hr
     obtain ⟨rfl,hb4l,hb4,_⟩:=hr
     rw [← hnx.out] at hb4l
     replace hb4l:=Lib.hid hb4l
     replace hb4:Below w.heap.size w w4:=hb3.trans hb4
     clear hb3l
     go_wp2
     go_roundw
     case rel=>exact ⟨k + 1,by omega,by go_num,hb4l.out,hb4⟩
     case measure=>simp [intOf];omega
    ·obtain rfl:k = r.length:=by omega
     have hw:=J.out.whole
     rw [hjb.out] at hw
     rw [hw] at hbl hl0
     have hI:¬ ((r.length:Int) < (xs.length:Int) - 1):=by have:=hrl.out;omega
     go_wp2_with fail
     refine (bstring_any w.heap.size w.heap.size jb wr hbl hzr).mono ?_
     intro e w5 hr
     obtain ⟨rfl,hb5⟩:=hr
     have hb6:=hbr.trans hb5
     go_wp2
     go_returns
     exact ⟨rfl,hb6⟩
set_option maxRecDepth 100000 in
set_option maxHeartbeats 4000000 in
theorem sjoin_any (tg cap:Nat) (xs:List ByteArray) (sep:ByteArray) (hn:xs.length ≤ 10000) (hcap:xs.length ≤ cap) (hs:0 < sep.size) (hs2:sep.size ≤ 1000) (hj:(joinB xs sep).length ≤ 900000) (w:World) (htg:tg < w.heap.size) (hT:∀ j (h:j < xs.length),w.cell? ⟨tg,j,none⟩ = some (.string xs[j])) :
  Calls Tryz.prog 60 #[.slice (some ⟨tg,0,none⟩) xs.length cap,.string sep] w (Ret (.string ⟨(joinB xs sep).toArray⟩) w):=by
 match xs,hn,hcap,hj,hT with
 | [],_,_,_,_ =>
  show Calls _ _ #[.slice (some ⟨tg,0,none⟩) 0 cap,_] w (Ret (.string ⟨#[]⟩) w)
  go_enter Tryz.func60,Tryz.ntmps60
  go_wp2
  go_returns
  exact ⟨rfl,by (first | exact gwT | exact lzT)⟩
 | [x],_,_,_,hT =>
  have c0:w.cell? ⟨tg,0,none⟩ = some (.string x):=hT 0 (by simp)
  have e:(⟨(joinB [x] sep).toArray⟩:ByteArray) = x:=by
   unfold joinB
   rw [List.map_singleton,Lib.join_one]
  rw [e]
  show Calls _ _ #[.slice (some ⟨tg,0,none⟩) 1 cap,_] w _
  clear hT e
  go_enter Tryz.func60,Tryz.ntmps60
  go_wp2
  go_returns
  exact ⟨rfl,by (first | exact gwT | exact lzT)⟩
 | x :: y :: r,hn,hcap,hj,hT=>exact sjoin_many tg cap (x :: y :: r) sep (by simp) hn hcap hs hs2 hj w htg hT
end Go.Proofs.YtfgpmcepppcmiaaGreatDoor
