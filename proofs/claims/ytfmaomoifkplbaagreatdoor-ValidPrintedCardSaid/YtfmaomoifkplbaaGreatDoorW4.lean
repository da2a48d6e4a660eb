/- Several texts of this proof, joined: PD, PB, PE, PF, PG, PH. -/
import Derived.Test.YtfmaomoifkplbaaGreatDoorZ7
import Derived.Test.YtfmaomoifkplbaaGreatDoorShelf5
import Derived.WalkKit
import Derived.ProofKit
import Derived.OpenShut
import Derived.Handy
import Derived.BigQuiet
import Derived.Lib.Hide
import Derived.WalkSmall
import Derived.WalkLawsBesides
import Derived.Test.YtfmaomoifkplbaaGreatDoorJ1
import Derived.Test.YtfmaomoifkplbaaGreatDoorQ4
import Derived.OwnWalk
import Derived.Lib.Builder
import Derived.Lib.AppendStr
import Derived.Lib.UnsafeStr
import Derived.Laws.Externs
import Derived.Deep.RegionHeld3
import Derived.Test.YtfmaomoifkplbaaGreatDoorP6
import Derived.Test.YtfmaomoifkplbaaGreatDoorZ4
namespace Go.Proofs.YtfmaomoifkplbaaGreatDoor
open Go.RowKit
theorem mul_two (n : Nat) (hn : n ≤ 60) (w : World) : Calls Tryz.prog 87 #[.int .u64 2,.int .u64 (n : Int)] w (RetW (.tuple #[.int .u64 0,.int .u64 ((2 * n : Nat) : Int)]) w) := by
 refine (Any.bits_Mul Tryz.lays212 2 n (by decide) (by omega) w).mono fun e w' ⟨he,hw⟩ => ⟨?_,hw.symm⟩
 rw [he,Nat.div_eq_of_lt (by omega),Nat.mod_eq_of_lt (by omega)]
 rfl
theorem blanks_cut (S : ByteArray) (hS : S.data.toList = List.replicate 128 32) (m : Nat) (hm : m ≤ 128) : S.extract 0 m = ⟨(List.replicate m 32).toArray⟩ := by
 rw [Lib.extract_eq,hS,List.drop_zero,Nat.sub_zero,List.take_replicate,Nat.min_eq_left hm]
theorem prefix_yes (t p : ByteArray) (h : Lib.hasPrefix t.data.toList p.data.toList = true) (w : World) : Calls Tryz.prog 88 #[.string t,.string p] w (RetW (.bool true) w) := by
 have := prefix_any t p w
 rw [h] at this
 exact this
set_option maxRecDepth 100000 in
set_option maxHeartbeats 4000000 in
theorem repeat_two (n : Nat) (hn : n ≤ 60) (w : World) : Calls Tryz.prog 42 #[.string ⟨#[32,32]⟩,.int .i64 (n : Int)] w (RetW (.string ⟨(List.replicate (2 * n) 32).toArray⟩) w) := by
 by_cases h0 : n = 0
 ·subst h0
  go_enter Tryz.func42,Tryz.ntmps42
  go_wp2
  go_returns
  exact ⟨rfl,rfl⟩
 ·by_cases h1 : n = 1
  ·subst h1
   go_enter Tryz.func42,Tryz.ntmps42
   go_wp2
   go_returns
   exact ⟨rfl,rfl⟩
  ·have e0 : ((n : Int) == 0) = false := by rw [beq_eq_false_iff_ne];omega
   have e1 : ((n : Int) == 1) = false := by rw [beq_eq_false_iff_ne];omega
   have e2 : ¬ (n : Int) < 0 := by omega
   have M := Lib.hid (mul_two n hn w)
   have h128 : 2 * (n : Int) ≤ 128 := by omega
   replace h0 := Lib.hid h0
   replace h1 := Lib.hid h1
   go_enter Tryz.func42,Tryz.ntmps42
   go_wp2_with (((with_reducible refine (M.out).mono ?_);rintro e w1 ⟨rfl,rfl⟩))
   refine (prefix_yes _ _ (by kernel_rfl) _).mono ?_
   rintro e w1 ⟨rfl,rfl⟩
   go_wp2
   go_returns
   refine ⟨?_,rfl⟩
   exact congrArg (fun x => Ending.returned (.string x)) (blanks_cut _ (by kernel_rfl) _ (by omega))
def padB (n : Nat) : ByteArray := ⟨(List.replicate (2 * n) 32).toArray⟩
theorem padB_list (n : Nat) : (padB n).data.toList = List.replicate (2 * n) 32 := by simp [padB]
theorem repeat_pad (n : Nat) (hn : n ≤ 60) (w : World) : Calls Tryz.prog 42 #[.string ⟨#[32,32]⟩,.int .i64 (n : Int)] w (RetW (.string (padB n)) w) := repeat_two n hn w
end Go.Proofs.YtfmaomoifkplbaaGreatDoor
namespace Go.Proofs.YtfmaomoifkplbaaGreatDoor
open Go.RowKit
abbrev prC (nm vv sv av bv ov : Value) : Array Value := #[nm,vv,sv,av,bv,ov]
def KpT (w w' : World) : Prop := ∀ (b : Nat) (cs : Array Value) (t : TypeId) (fr : Nat × Nat),w.heap[b]? = some (.cells cs t fr) → t ≠ 5 → t ≠ 3 → t ≠ 61 → w'.heap[b]? = some (.cells cs t fr)
theorem kp_refl (w : World) : KpT w w := fun _ _ _ _ h _ _ _ => h
theorem kp_trans {w w1 w2 : World} (h : KpT w w1) (k : KpT w1 w2) : KpT w w2 := fun b cs t fr hb h1 h2 h3 => k b cs t fr (h b cs t fr hb h1 h2 h3) h1 h2 h3
theorem kp_below {w w1 : World} (h : Below w.heap.size w w1) : KpT w w1 := fun _ _ _ _ hb _ _ _ => blk_keep hb h
theorem kp_grown {w w1 : World} {B s n : Nat} {e : TypeId} {v : Value} {xs : List Value} (h : w.ownsRow B e s v n xs) (he : e = 5 ∨ e = 3) (hg : w.grownBy w1 v.ownBlock) : KpT w w1 := fun b cs t fr hb h1 h2 h3 => grown_blk h hb (by rcases he with rfl | rfl <;> assumption) hg
theorem kp_set {w : World} {b i : Nat} {u : Value} {cs : Array Value} {fr : Nat × Nat} (h : w.heap[b]? = some (.cells cs 61 fr)) : KpT w (w.setCell ⟨b,i,none⟩ u) := fun k cs' t fr' hb h1 h2 h3 => by
 rw [Below.heap_setCell _ _ _ _ (fun e => ?_)]
 ·exact hb
 ·have e2 : k = b := e
  rw [e2,h] at hb
  cases hb
  exact h3 rfl
structure PrIs (w0 wk : World) (pb : Nat) (nm vv sv : Value) (l : List UInt8) (op : List Nat) (av bv ov : Value) (w : World) : Prop where
 blk : w.heap[pb]? = some (.cells (prC nm vv sv av bv ov) 61 (0,0))
 adr : av = .pointer none ∨ av = .pointer (some ⟨pb,3,none⟩)
 buf : w.ownsRow w0.heap.size 5 1 bv l.length (Lib.byteCells l)
 opn : w.ownsRow w0.heap.size 3 1 ov op.length (natsC op)
 low : pb < w0.heap.size
 env : w0.grownBy w (some pb)
 kp : KpT wk w
def PAt (w0 wk : World) (pb : Nat) (nm vv sv : Value) (l : List UInt8) (op : List Nat) (ov : Value) (w : World) : Prop := ∃ av bv,PrIs w0 wk pb nm vv sv l op av bv ov w
theorem grown_trans {w w1 w2 : World} {j : Option Nat} (h : w.grownBy w1 j) (k : w1.grownBy w2 j) : w.grownBy w2 j := ⟨k.os.trans h.os,k.tape.trans h.tape,k.output.trans h.output,Nat.le_trans h.size k.size,fun b hb hne => (k.block b (Nat.lt_of_lt_of_le hb h.size) hne).trans (h.block b hb hne)⟩
theorem grown_of_below {w w1 : World} {j : Option Nat} (h : Below w.heap.size w w1) : w.grownBy w1 j := ⟨h.os,h.tape,h.output,h.size,fun b hb _ => h.block b hb⟩
theorem grown_own {w w1 w2 : World} {j : Nat} {r : Option Nat} (h : w.grownBy w1 (some j)) (k : w1.grownBy w2 r) (hr : ∀ b,r = some b → w.heap.size ≤ b) : w.grownBy w2 (some j) := ⟨k.os.trans h.os,k.tape.trans h.tape,k.output.trans h.output,Nat.le_trans h.size k.size,fun b hb hne => (k.block b (Nat.lt_of_lt_of_le hb h.size) (fun e => by have := hr b e.symm;omega)).trans (h.block b hb hne)⟩
theorem grown_at {w w1 : World} {j i : Nat} {v : Value} (h : w.grownBy w1 (some j)) : w.grownBy (w1.setCell ⟨j,i,none⟩ v) (some j) := ⟨h.os,h.tape,h.output,by rw [size_set];exact h.size,fun b hb hne => by
 rw [Below.heap_setCell _ _ _ _ (fun e => hne (by rw [show b = j from e]))]
 exact h.block b hb hne⟩
section
variable {w0 wk : World} {pb : Nat} {nm vv sv av bv ov : Value} {l : List UInt8} {op : List Nat} {w w' : World}
theorem pr_keep (h : PrIs w0 wk pb nm vv sv l op av bv ov w) (hb : Below w.heap.size w w') : PrIs w0 wk pb nm vv sv l op av bv ov w' :=
 ⟨blk_keep h.blk hb,h.adr,owns_below h.buf hb,owns_below h.opn hb,h.low,grown_trans h.env (grown_of_below hb),kp_trans h.kp (kp_below hb)⟩
theorem pat_keep (h : PAt w0 wk pb nm vv sv l op ov w) (hb : Below w.heap.size w w') : PAt w0 wk pb nm vv sv l op ov w' := by
 obtain ⟨av,bv,h⟩ := h
 exact ⟨av,bv,pr_keep h hb⟩
theorem pat_anchor (h : PAt w0 wk pb nm vv sv l op ov w) : PAt w0 w pb nm vv sv l op ov w := by
 obtain ⟨av,bv,h⟩ := h
 exact ⟨av,bv,⟨h.blk,h.adr,h.buf,h.opn,h.low,h.env,kp_refl w⟩⟩
theorem pat_back {wx : World} (h : PAt w0 wx pb nm vv sv l op ov w) (hk : KpT wk wx) : PAt w0 wk pb nm vv sv l op ov w := by
 obtain ⟨av,bv,h⟩ := h
 exact ⟨av,bv,⟨h.blk,h.adr,h.buf,h.opn,h.low,h.env,kp_trans hk h.kp⟩⟩
theorem pat_kp (h : PAt w0 wk pb nm vv sv l op ov w) : KpT wk w := by
 obtain ⟨av,bv,h⟩ := h
 exact h.kp
theorem pr_top (h : PrIs w0 wk pb nm vv sv l op av bv ov w) : w0.heap.size ≤ w.heap.size := h.env.size
theorem pr_cells (h : PrIs w0 wk pb nm vv sv l op av bv ov w) : w.cell? ⟨pb,0,none⟩ = some nm ∧ w.cell? ⟨pb,1,none⟩ = some vv ∧ w.cell? ⟨pb,2,none⟩ = some sv ∧ w.cell? ⟨pb,3,none⟩ = some av ∧ w.cell? ⟨pb,4,none⟩ = some bv ∧ w.cell? ⟨pb,5,none⟩ = some ov ∧ pb < w.heap.size ∧ ∀ i,w.frozen? ⟨pb,i,none⟩ = false := by
 refine ⟨?_,?_,?_,?_,?_,?_,lt_of_block h.blk,fun i => frozen_of_row w pb i _ _ h.blk⟩
 all_goals
  rw [cell_of_row w pb _ _ _ _ h.blk]
  rfl
theorem pr_shape (h : PrIs w0 wk pb nm vv sv l op av bv ov w) : w.shape? pb = some (61,6) := by
 unfold World.shape?
 rw [h.blk]
 rfl
end
theorem pr_lies : liesAt Tryz.prog Tryz.prog.depth 61 (6 / Tryz.prog.cellsOf 61) 3 59 1 = true := by kernel_rfl
set_option maxRecDepth 100000 in
theorem pcheck_used (b : Nat) (w : World) (h0 : w.cell? ⟨b,3,none⟩ = some (.pointer (some ⟨b,3,none⟩))) : Calls Tryz.prog 86 #[.pointer (some ⟨b,3,none⟩)] w (RetW (.tuple #[]) w) := by
 obtain ⟨j,hj,_⟩ := bld_info
 go_enter Tryz.func86,Tryz.ntmps86
 go_wp2
 rw [Lib.run_neq_ptr_same w _ Tryz.underlying56 hj]
 go_wp2
 go_end0
 exact ⟨rfl,rfl⟩
set_option maxRecDepth 100000 in
theorem pcheck_fresh (b : Nat) (w : World) (h0 : w.cell? ⟨b,3,none⟩ = some (.pointer none)) (hsh : w.shape? b = some (61,6)) (hfz : w.frozen? ⟨b,3,none⟩ = false) :
  Calls Tryz.prog 86 #[.pointer (some ⟨b,3,none⟩)] w (RetW (.tuple #[]) (w.setCell ⟨b,3,none⟩ (.pointer (some ⟨b,3,none⟩)))) := by
 obtain ⟨j,hj,hjs⟩ := bld_info
 go_enter Tryz.func86,Tryz.ntmps86
 go_wp2
 rw [Lib.run_to_unsafe w ⟨b,3,none⟩ Tryz.underlying56 Tryz.underlying226 hj (by rw [hjs];decide) hsh (show (3 : Nat) < 6 by decide)]
 simp only [Result.andThen]
 rw [Oper.upon_value]
 go_wp2
 rw [run_callFunc_extern Tryz.func133 (by kernel_rfl) (by kernel_rfl) (by kernel_rfl) (e := Extern.AbiNoEscape.same) (by kernel_rfl)]
 rw [Lib.run_noEscape]
 simp only [Result.andThen]
 rw [Oper.upon_value]
 go_wp2
 rw [Lib.run_from_unsafe w ⟨b,3,none⟩ Tryz.underlying226 Tryz.underlying56 hj hsh pr_lies]
 simp only [Result.andThen]
 rw [Oper.upon_value]
 go_wp2
 go_end0
 exact ⟨rfl,rfl⟩
section
variable {w0 wk : World} {pb : Nat} {nm vv sv av bv ov : Value} {l : List UInt8} {op : List Nat} {w w' : World}
theorem pr_set {i : Nat} {u : Value} (h : PrIs w0 wk pb nm vv sv l op av bv ov w) : (w.setCell ⟨pb,i,none⟩ u).heap[pb]? = some (.cells ((prC nm vv sv av bv ov).setIfInBounds i u) 61 (0,0)) ∧ (w.setCell ⟨pb,i,none⟩ u).ownsRow w0.heap.size 5 1 bv l.length (Lib.byteCells l) ∧ (w.setCell ⟨pb,i,none⟩ u).ownsRow w0.heap.size 3 1 ov op.length (natsC op) ∧ w0.grownBy (w.setCell ⟨pb,i,none⟩ u) (some pb) ∧ KpT wk (w.setCell ⟨pb,i,none⟩ u) :=
 ⟨blk_set h.blk,tp_set h.blk (by decide) _ _ _ _ h.buf,tp_set h.blk (by decide) _ _ _ _ h.opn,grown_at h.env,kp_trans h.kp (kp_set h.blk)⟩
def PChk (w0 wk : World) (pb : Nat) (nm vv sv : Value) (l : List UInt8) (op : List Nat) (ov : Value) (e : Ending) (w' : World) : Prop := e = .returned (.tuple #[]) ∧ ∃ bv,PrIs w0 wk pb nm vv sv l op (.pointer (some ⟨pb,3,none⟩)) bv ov w'
theorem pcheck_any (h : PAt w0 wk pb nm vv sv l op ov w) : Calls Tryz.prog 86 #[.pointer (some ⟨pb,3,none⟩)] w (PChk w0 wk pb nm vv sv l op ov) := by
 obtain ⟨av,bv,h⟩ := h
 obtain ⟨_,_,_,c3,_,_,_,hf⟩ := pr_cells h
 rcases h.adr with rfl | rfl
 ·refine (pcheck_fresh pb w c3 (pr_shape h) (hf 3)).mono fun e w' ⟨he,hw⟩ => ⟨he,bv,?_⟩
  subst hw
  obtain ⟨k1,k2,k3,k4,k5⟩ := pr_set (i := 3) (u := .pointer (some ⟨pb,3,none⟩)) h
  exact ⟨k1,.inr rfl,k2,k3,h.low,k4,k5⟩
 ·exact (pcheck_used pb w c3).mono fun e w' ⟨he,hw⟩ => ⟨he,bv,hw ▸ h⟩
def PWr (v : Value) (w0 wk : World) (pb : Nat) (nm vv sv : Value) (l : List UInt8) (op : List Nat) (ov : Value) (e : Ending) (w' : World) : Prop := e = .returned v ∧ PAt w0 wk pb nm vv sv l op ov w'
set_option maxRecDepth 100000 in
set_option maxHeartbeats 2000000 in
theorem pwrite_any (s : ByteArray) (hl : l.length ≤ 70368744177664) (hs : s.size ≤ 2000000) (h : PAt w0 wk pb nm vv sv l op ov w) :
  Calls Tryz.prog 41 #[.pointer (some ⟨pb,3,none⟩),.string s] w (PWr (.tuple #[.int .i64 s.size,.nilIface]) w0 wk pb nm vv sv (l ++ s.data.toList) op ov) := by
 obtain ⟨i0,hi,hz0,hz1,hz2⟩ := info_parts Tryz.infoU8
 have C := Lib.hid (pcheck_any h)
 have hbl : (Lib.byteCells l).length = l.length := Lib.byteCells_length l
 clear h
 go_enter Tryz.func41,Tryz.ntmps41
 go_wp2_with fail
 refine C.out.mono ?_
 intro e w1 hr
 obtain ⟨rfl,bv,hP⟩ := hr
 obtain ⟨c0,c1,c2,c3,c4,c5,hlt,hf⟩ := pr_cells hP
 have htop := pr_top hP
 have hown := Lib.hid hP.buf
 have f4 := hf 4
 have i1 : InW pb w1 := ⟨hlt⟩
 replace hP := Lib.hid hP
 clear C hf c0 c1 c2 c3 c5
 go_wp2_with (at_builtin;refine Lib.wpList_append_own_string _ rfl _ _ 57 9 rfl w0.heap.size 5 i0 Tryz.underlying57 Tryz.underlying9 hi hz0 hz1 hz2 _ _ _ rfl hown.out s rfl ?c3 ?c4 ?c5 ?_)
 case c3 => unfold maxLen;omega
 case c4 => omega
 case c5 => omega
 intro v' w2 hown' hgrow _
 have hP := hP.out
 have hb2 := grown_blk hP.buf hP.blk (by decide) hgrow
 have ho2 := tp_grown (B := w0.heap.size) hP.buf (show 3 ≠ 5 by decide) hgrow _ _ _ _ hP.opn
 have hk2 := kp_trans hP.kp (kp_grown hP.buf (.inl rfl) hgrow)
 have hg2 := grown_own hP.env hgrow (fun b hb => (hP.buf.lt b hb).1)
 have d4 : w2.cell? ⟨pb,4,none⟩ = some bv := (cell_of_row w2 pb _ _ _ _ hb2).trans rfl
 have f4' : w2.frozen? ⟨pb,4,none⟩ = false := frozen_of_row w2 pb 4 _ _ hb2
 obtain ⟨ao,n',cap,rfl⟩ : ∃ ao n' cap,v' = .slice ao n' cap := by
  rcases hown'.2 with ⟨hv,_⟩ | ⟨g,cap,cur,hv,_⟩
  ·exact ⟨_,_,_,hv⟩
  ·exact ⟨_,_,_,hv⟩
 have i2 : InW pb w2 := ⟨lt_of_block hb2⟩
 have hfin : PAt w0 wk pb nm vv sv (l ++ s.data.toList) op ov (w2.setCell ⟨pb,4,none⟩ (.slice ao n' cap)) := by
  refine ⟨_,_,blk_set hb2,.inr rfl,?_,tp_set hb2 (by decide) _ _ _ _ ho2,hP.low,grown_at hg2,kp_trans hk2 (kp_set hb2)⟩
  rw [← bytes_append,List.length_append,show s.data.toList.length = s.size from (Lib.size_eq s).symm]
  exact tp_set hb2 (by decide) _ _ _ _ hown'
 replace hfin := Lib.hid hfin
 clear hgrow hown' hown hP hb2 ho2 hg2
 go_wp2
 go_returns
 exact ⟨rfl,hfin.out⟩
end
end Go.Proofs.YtfmaomoifkplbaaGreatDoor
namespace Go.Proofs.YtfmaomoifkplbaaGreatDoor
open Go.RowKit
section
variable {w0 wk : World} {pb : Nat} {nm vv sv av bv ov : Value} {l : List UInt8} {op : List Nat} {w w' : World}
def lineO (k : Nat) (s : List UInt8) : List UInt8 := List.replicate (2 * k) 32 ++ (s ++ [10])
set_option maxRecDepth 100000 in
set_option maxHeartbeats 4000000 in
theorem say_any (s : ByteArray) (hl : l.length ≤ 70368740000000) (hs : s.size ≤ 2000000) (hop : op.length ≤ 60) (h : PAt w0 wk pb nm vv sv l op ov w) :
  Calls Tryz.prog 18 #[.pointer (some ⟨pb,0,none⟩),.string s] w (PWr (.tuple #[]) w0 wk pb nm vv sv (l ++ lineO op.length s.data.toList) op ov) := by
 obtain ⟨av,bv,hP⟩ := h
 obtain ⟨_,_,_,_,_,c5,hlt,_⟩ := pr_cells hP
 obtain ⟨oa,oc,rfl⟩ := own_form hP.opn
 have P : PAt w0 wk pb nm vv sv l op (.slice oa op.length oc) w := ⟨av,bv,hP⟩
 have i1 : InW pb w := ⟨hlt⟩
 have R := Lib.hid (fun wx => (repeat_pad op.length hop wx))
 have W1 := Lib.hid (fun wx (hk : Below w.heap.size w wx) => pwrite_any (padB op.length) (by omega) (by rw [Lib.size_eq,padB_list];simp;omega) (pat_keep P hk))
 have hsz := Lib.hid (Lib.size_eq s)
 clear P hP
 go_enter Tryz.func18,Tryz.ntmps18
 go_wp2_with fail
 go_region_held3 (fun w' => w'.cell? ⟨pb,5,none⟩ = some (.slice oa op.length oc)) ((first | assumption | (rw [cell_GI];assumption) | (simp [go_sem, *];done)))
  (first
   | ((with_reducible refine (R.out _).mono ?_);rintro e w1 ⟨rfl,rfl⟩)
   | ((with_reducible refine (W1.out _ (by (first | exact gwT | exact lzT))).mono ?_);intro e w2 hr;obtain ⟨rfl,av2,bv2,hP2⟩ := hr;obtain ⟨_,_,_,_,_,d5,dlt,_⟩ := pr_cells hP2))
 have P2 : PAt w0 wk pb nm vv sv (l ++ (padB op.length).data.toList) op (.slice oa op.length oc) w2 := ⟨av2,bv2,hP2⟩
 have hpl : (padB op.length).data.toList.length ≤ 120 := by rw [padB_list,List.length_replicate];omega
 have W2 := Lib.hid (pwrite_any s (by rw [List.length_append];omega) hs P2)
 have i2 : InW pb w2 := ⟨dlt⟩
 clear R W1 P2 hP2 d5 c5
 go_wp2_with fail
 refine W2.out.mono ?_
 intro e w3 hr
 obtain ⟨rfl,P3⟩ := hr
 have hsl : s.data.toList.length ≤ 2000000 := by rw [← hsz.out];exact hs
 have W3 := Lib.hid (pwrite_any ⟨#[10]⟩ (by rw [List.length_append,List.length_append];omega) (by decide) P3)
 clear W2 P3
 go_wp2_with fail
 refine W3.out.mono ?_
 intro e w4 hr
 obtain ⟨rfl,P4⟩ := hr
 have hE : l ++ (padB op.length).data.toList ++ s.data.toList ++ (⟨#[10]⟩ : ByteArray).data.toList = l ++ lineO op.length s.data.toList := by
  rw [padB_list]
  unfold lineO
  simp
 rw [hE] at P4
 replace P4 := Lib.hid P4
 clear W3 hE
 go_wp2
 go_end0
 exact ⟨rfl,P4.out⟩
end
end Go.Proofs.YtfmaomoifkplbaaGreatDoor
namespace Go.Proofs.YtfmaomoifkplbaaGreatDoor
open Go.RowKit
abbrev lnN (k : Int) (nm st : ByteArray) : Array Value := #[.int .i64 k,.string nm,.string st,.int .i64 0,.int .i64 0,.string ⟨#[]⟩,.slice none 0 0,.string ⟨#[]⟩,.slice none 0 0,.slice none 0 0,.bool false,.slice none 0 0]
def wdB (k : Nat) : ByteArray := ⟨(lwL k).toArray⟩
theorem wdB_size (k : Nat) (h1 : 1 ≤ k) (h2 : k ≤ 12) : (wdB k).size ≤ 10 := by
 rcases (by omega : k = 1 ∨ k = 2 ∨ k = 3 ∨ k = 4 ∨ k = 5 ∨ k = 6 ∨ k = 7 ∨ k = 8 ∨ k = 9 ∨ k = 10 ∨ k = 11 ∨ k = 12) with rfl | rfl | rfl | rfl | rfl | rfl | rfl | rfl | rfl | rfl | rfl | rfl <;> decide
set_option maxRecDepth 100000 in
set_option maxHeartbeats 4000000 in
theorem ltext_end (nm st : ByteArray) (w : World) (hw : Lw w) : Calls Tryz.prog 19 #[.agg (lnN 12 nm st)] w (Ret (.string (wdB 12)) w) := by
 have l10 := lw_word hw 12 (by decide)
 have hgl := lw_lt hw
 have ig : InW 0 w := ⟨hgl⟩
 unfold wdB
 generalize (⟨(lwL 12).toArray⟩ : ByteArray) = wd at *
 clear hw
 go_enter Tryz.func19,Tryz.ntmps19
 go_wp2
 go_returns
 exact ⟨rfl,by (first | exact gwT | exact lzT)⟩
def namesB (k : Nat) (nm st : ByteArray) : ByteArray := if st = ⟨#[]⟩ then wdB k ++ ⟨#[32]⟩ ++ nm else wdB k ++ ⟨#[32]⟩ ++ nm ++ ⟨#[32]⟩ ++ st
set_option maxRecDepth 100000 in
set_option maxHeartbeats 8000000 in
theorem ltext_names (k : Nat) (hk : k = 1 ∨ k = 3 ∨ k = 4 ∨ k = 5 ∨ k = 6 ∨ k = 7) (nm st : ByteArray) (h1 : nm.size ≤ 2000000) (h2 : st.size ≤ 2000000) (w : World) (hw : Lw w) :
  Calls Tryz.prog 19 #[.agg (lnN (k : Int) nm st)] w (Ret (.string (namesB k nm st)) w) := by
 have hgl := lw_lt hw
 have ig : InW 0 w := ⟨hgl⟩
 have hz := wdB_size k (by omega) (by omega)
 have l10 : w.cell? ⟨0,k,none⟩ = some (.string (wdB k)) := lw_word hw k (by omega)
 unfold namesB
 have he := emptyB st
 generalize wdB k = wd at *
 by_cases hs : st = ⟨#[]⟩
 ·rw [if_pos hs]
  subst hs
  clear he
  rcases hk with rfl | rfl | rfl | rfl | rfl | rfl
  all_goals
   clear hw
   go_enter Tryz.func19,Tryz.ntmps19
   go_wp2
   go_returns
   exact ⟨rfl,by (first | exact gwT | exact lzT)⟩
 ·rw [if_neg hs]
  have he2 : st.toList.isEmpty = false := by rw [he];simpa using hs
  have he3 : (!st.toList.isEmpty) = true := by rw [he2];rfl
  replace hs := Lib.hid hs
  clear he
  rcases hk with rfl | rfl | rfl | rfl | rfl | rfl
  all_goals
   clear hw
   go_enter Tryz.func19,Tryz.ntmps19
   go_wp2
   go_returns
   exact ⟨rfl,by (first | exact gwT | exact lzT)⟩
end Go.Proofs.YtfmaomoifkplbaaGreatDoor
namespace Go.Proofs.YtfmaomoifkplbaaGreatDoor
open Go.RowKit
abbrev lnVr (nm : ByteArray) (vk vn : Int) (vs : ByteArray) : Array Value := #[.int .i64 2,.string nm,.string ⟨#[]⟩,.int .i64 vk,.int .i64 vn,.string vs,.slice none 0 0,.string ⟨#[]⟩,.slice none 0 0,.slice none 0 0,.bool false,.slice none 0 0]
def varB (nm t : ByteArray) : ByteArray := wdB 2 ++ ⟨#[32]⟩ ++ nm ++ ⟨#[32]⟩ ++ t
set_option maxRecDepth 100000 in
set_option maxHeartbeats 4000000 in
theorem ltext_var (nm vs : ByteArray) (vk vn : Int) (hr : rightB vk vn vs = true) (hn : I64 vn) (h1 : nm.size ≤ 2000000) (h2 : (showS vk vn vs).size ≤ 2000000) (w : World) (hw : Az w) :
  Calls Tryz.prog 19 #[.agg (lnVr nm vk vn vs)] w (Ret (.string (varB nm (showS vk vn vs))) w) := by
 have hgl := lw_lt hw.al.lw
 have ig : InW 0 w := ⟨hgl⟩
 have hz := wdB_size 2 (by omega) (by omega)
 have l10 : w.cell? ⟨0,2,none⟩ = some (.string (wdB 2)) := lw_word hw.al.lw 2 (by omega)
 have S := Lib.hid (fun wx (hb : Below w.heap.size w wx) => show_any vk vn vs hr hn wx (tab_below hw.tab hb))
 unfold varB
 generalize wdB 2 = wd at *
 generalize showS vk vn vs = t at *
 clear hw hr hn
 go_enter Tryz.func19,Tryz.ntmps19
 go_wp2_with fail
 (refine wp_region_G (by kernel_rfl) (by kernel_rfl) ?_;(repeat (go_big_quiet_step ((with_reducible exact quietG (S.out _ (by (first | exact gwT | exact lzT)))))));refine wpQuiet_nil ?_;intro _ hw';obtain ⟨pg,hw''⟩ := hw';subst hw'')
 go_wp2
 go_returns
 exact ⟨rfl,by (first | exact gwT | exact lzT)⟩
abbrev lnAc (k : Int) (av : Value) : Array Value := #[.int .i64 k,.string ⟨#[]⟩,.string ⟨#[]⟩,.int .i64 0,.int .i64 0,.string ⟨#[]⟩,av,.string ⟨#[]⟩,.slice none 0 0,.slice none 0 0,.bool false,.slice none 0 0]
def actsB (k : Nat) (t : ByteArray) : ByteArray := wdB k ++ ⟨#[32]⟩ ++ t
set_option maxRecDepth 100000 in
set_option maxHeartbeats 4000000 in
theorem ltext_acts (k : Nat) (hk : k = 8 ∨ k = 9) (ao : Option Addr) (n cap : Nat) (t : ByteArray) (h1 : t.size ≤ 2000000) (w : World) (hw : Lw w)
  (hT : ∀ wx,Below w.heap.size w wx → Calls Tryz.prog 44 #[.slice ao n cap] wx (Ret (.string t) wx)) :
  Calls Tryz.prog 19 #[.agg (lnAc (k : Int) (.slice ao n cap))] w (Ret (.string (actsB k t)) w) := by
 have hgl := lw_lt hw
 have ig : InW 0 w := ⟨hgl⟩
 have hz := wdB_size k (by omega) (by omega)
 have l10 : w.cell? ⟨0,k,none⟩ = some (.string (wdB k)) := lw_word hw k (by omega)
 unfold actsB
 generalize wdB k = wd at *
 replace hT := Lib.hid hT
 rcases hk with rfl | rfl
 all_goals
  clear hw
  go_enter Tryz.func19,Tryz.ntmps19
  go_wp2_with ((with_reducible refine ((hT.out _ (by (first | exact gwT | exact lzT)))).mono ?_);intro e w1 hr;obtain ⟨rfl,p,rfl⟩ := hr.out;clear hr)
  go_returns
  exact ⟨rfl,by (first | exact gwT | exact lzT)⟩
end Go.Proofs.YtfmaomoifkplbaaGreatDoor
namespace Go.Proofs.YtfmaomoifkplbaaGreatDoor
open Go.RowKit
def closeR : List Nat → Int → List Nat
 | [],_ => []
 | x :: r,i => if (x : Int) = i then x :: r else closeR r i
def closeT : List Nat → Int → List UInt8
 | [],_ => []
 | x :: r,i => if (x : Int) = i then [] else lineO r.length (lwL 12) ++ closeT r i
theorem closeR_le : ∀ (r : List Nat) (i : Int),(closeR r i).length ≤ r.length
 | [],_ => by simp [closeR]
 | x :: r,i => by
  have := closeR_le r i
  rw [closeR]
  split <;> simp <;> omega
theorem lineO_len (k : Nat) (s : List UInt8) : (lineO k s).length = 2 * k + s.length + 1 := by
 unfold lineO
 simp
 omega
section
variable {w0 wk : World} {pb : Nat} {nm vv sv av bv ov : Value} {l : List UInt8} {op : List Nat} {w w' : World}
def PWo (v : Value) (w0 wk : World) (pb : Nat) (nm vv sv : Value) (l : List UInt8) (op : List Nat) (e : Ending) (w' : World) : Prop := e = .returned v ∧ ∃ ov,PAt w0 wk pb nm vv sv l op ov w'
theorem pr_pop {oa : Option Addr} {oc k n : Nat} (hn : op.length = n) (h : PAt w0 wk pb nm vv sv l op (.slice oa n oc) w) (hk : k ≤ n) : PAt w0 wk pb nm vv sv l (op.take k) (.slice oa k oc) (w.setCell ⟨pb,5,none⟩ (.slice oa k oc)) := by
 subst hn
 obtain ⟨av,bv,h⟩ := h
 obtain ⟨k1,k2,k3,k4,k5⟩ := pr_set (i := 5) (u := .slice oa k oc) h
 refine ⟨av,bv,k1,h.adr,k2,?_,h.low,k4,k5⟩
 have := owns_takeV k3 hk
 rw [Nat.mul_one] at this
 rw [show (op.take k).length = k by rw [List.length_take];omega,show natsC (op.take k) = (natsC op).take k by simp [natsC]]
 exact this
theorem pat_cells (h : PAt w0 wk pb nm vv sv l op ov w) : w.cell? ⟨pb,0,none⟩ = some nm ∧ w.cell? ⟨pb,1,none⟩ = some vv ∧ w.cell? ⟨pb,2,none⟩ = some sv ∧ w.cell? ⟨pb,5,none⟩ = some ov ∧ pb < w.heap.size ∧ ∀ i,w.frozen? ⟨pb,i,none⟩ = false := by
 obtain ⟨av,bv,h⟩ := h
 obtain ⟨c0,c1,c2,_,_,c5,hlt,hf⟩ := pr_cells h
 exact ⟨c0,c1,c2,c5,hlt,hf⟩
theorem pat_open (h : PAt w0 wk pb nm vv sv l op ov w) : w.ownsRow w0.heap.size 3 1 ov op.length (natsC op) := by
 obtain ⟨av,bv,h⟩ := h
 exact h.opn
theorem wdB_list (k : Nat) : (wdB k).data.toList = lwL k := by simp [wdB]
theorem pat_env (h : PAt w0 wk pb nm vv sv l op ov w) : w0.grownBy w (some pb) := by
 obtain ⟨av,bv,h⟩ := h
 exact h.env
theorem pat_last {oa : Option Addr} {oc x : Nat} {r : List Nat} (h : PAt w0 wk pb nm vv sv l (x :: r).reverse (.slice oa (r.length + 1) oc) w) : ∃ g,oa = some ⟨g,0,none⟩ ∧ g < w.heap.size ∧ w.cell? ⟨g,r.length,none⟩ = some (.int .i64 (x : Int)) ∧ r.length + 1 ≤ oc ∧ oc ≤ maxLen := by
 have ho := pat_open h
 rw [List.length_reverse,List.length_cons] at ho
 obtain ⟨g,cap',e,hg,h1,h2,hc⟩ := own_head ho (by omega)
 cases e
 exact ⟨g,rfl,hg,hc _ _ (by simp [natsC]),h1,h2⟩
set_option maxRecDepth 100000 in
set_option maxHeartbeats 4000000 in
theorem close_any (rop : List Nat) (i : Int) (hl : l.length ≤ 70368700000000) (hop : rop.length ≤ 60) (hZ : ∀ wx,w0.grownBy wx (some pb) → Az wx) (h : PAt w0 wk pb nm vv sv l rop.reverse ov w) :
  Calls Tryz.prog 20 #[.pointer (some ⟨pb,0,none⟩),.int .i64 i] w (PWo (.tuple #[]) w0 wk pb nm vv sv (l ++ closeT rop i) (closeR rop i).reverse) := by
 obtain ⟨_,_,_,c5,hlt,_⟩ := pat_cells h
 obtain ⟨oa,oc,rfl⟩ := own_form (pat_open h)
 rw [List.length_reverse] at h c5
 have i1 : InW pb w := ⟨hlt⟩
 replace h := Lib.hid h
 replace hZ := Lib.hid hZ
 obtain ⟨T,hT⟩ : ∃ T,Hid (l ++ closeT rop i = T) := ⟨_,Lib.hid rfl⟩
 obtain ⟨F,hF⟩ : ∃ F,Hid (closeR rop i = F) := ⟨_,Lib.hid rfl⟩
 rw [hT.out,hF.out]
 go_enter Tryz.func20,Tryz.ntmps20
 go_wp2
 go_loopw [4] (fun x wr => ∃ (rp : List Nat) (l' : List UInt8) (oa : Option Addr) (oc : Nat),x = .int .i64 (rp.length : Int) ∧ rp.length ≤ 60 ∧ l'.length + rp.length * 200 ≤ 70368700020000 ∧ Hid (l' ++ closeT rp i = T) ∧ Hid (closeR rp i = F) ∧ Hid (PAt w0 wk pb nm vv sv l' rp.reverse (.slice oa rp.length oc) wr)) (fun x _ => (intOf x).toNat)
 case atStart => exact ⟨rop,l,oa,oc,rfl,hop,by omega,hT,hF,h⟩
 case round =>
  obtain ⟨rp,l',oa,oc,rfl,hrp,hll,hT,hF,hP⟩ := hrel
  rename World => wr
  obtain ⟨_,_,_,c5,hlt,hf⟩ := pat_cells hP.out
  have i1 : InW pb wr := ⟨hlt⟩
  have f5 := hf 5
  clear hf
  cases rp with
  | nil =>
   have h1 : l' = T := by rw [← hT.out];simp [closeT]
   have h2 : F = [] := by rw [← hF.out];rfl
   subst h1
   subst h2
   clear hT hF c5
   simp only [List.length_nil,List.reverse_nil] at hP ⊢
   go_wp2
   go_end0
   exact ⟨rfl,_,hP.out⟩
  | cons x r =>
   rw [List.length_cons] at hrp hll c5 ⊢
   rw [List.length_cons] at hP
   obtain ⟨g,rfl,hg,hc,hcap1,hcap2⟩ := pat_last hP.out
   unfold maxLen at hcap2
   have hcap3 : (r.length : Int) ≤ (oc : Int) := by omega
   have g1 : InW g wr := ⟨hg⟩
   have hn0 : (0 : Int) < ((r.length + 1 : Nat) : Int) := by omega
   by_cases hx : (x : Int) = i
   ·have h1 : l' = T := by rw [← hT.out,closeT,if_pos hx,List.append_nil]
    have h2 : F = x :: r := by rw [← hF.out,closeR,if_pos hx]
    subst h1
    subst h2
    have e1 : ((x : Int) != i) = false := by rw [bne_eq_false_iff_eq];exact hx
    replace hx := Lib.hid hx
    clear hT hF
    go_wp2
    go_end0
    exact ⟨rfl,_,hP.out⟩
   ·have h1 : Hid ((l' ++ lineO r.length (lwL 12)) ++ closeT r i = T) := Lib.hid (by rw [← hT.out,closeT,if_neg hx,List.append_assoc])
    have h2 : Hid (closeR r i = F) := Lib.hid (by rw [← hF.out,closeR,if_neg hx])
    have e1 : ((x : Int) != i) = true := by rw [bne_iff_ne];exact hx
    replace hx := Lib.hid hx
    clear hT hF
    have hpop := pr_pop (k := r.length) (by rw [List.length_reverse,List.length_cons]) hP.out (by omega)
    have htk : (x :: r).reverse.take r.length = r.reverse := by
     rw [List.reverse_cons,List.take_append_of_le_length (by simp),List.take_of_length_le (by simp)]
    rw [htk] at hpop
    have hL := hZ.out _ (pat_env hpop)
    have T1 := Lib.hid (ltext_end ⟨#[]⟩ ⟨#[]⟩ _ hL.al.lw)
    replace hpop := Lib.hid hpop
    clear hL htk hP
    go_wp2_with fail
    refine T1.out.mono ?_
    intro e w2 hr
    obtain ⟨rfl,hb⟩ := hr
    have hS := say_any (wdB 12) (by omega) (Nat.le_trans (wdB_size 12 (by decide) (by decide)) (by decide)) (by rw [List.length_reverse];omega) (pat_keep hpop.out hb)
    rw [wdB_list,List.length_reverse] at hS
    replace hS := Lib.hid hS
    have hlt2 : pb < w2.heap.size := Nat.lt_of_lt_of_le (by rw [size_set];exact hlt) hb.size
    have i2 : InW pb w2 := ⟨hlt2⟩
    clear T1 hpop hb
    go_wp2_with fail
    refine hS.out.mono ?_
    intro e w3 hr
    obtain ⟨rfl,hP3⟩ := hr
    obtain ⟨_,_,_,d5,dlt,_⟩ := pat_cells hP3
    have i3 : InW pb w3 := ⟨dlt⟩
    replace hP3 := Lib.hid hP3
    clear hS
    go_wp2
    go_roundw
    case rel => exact ⟨r,l' ++ lineO r.length (lwL 12),some ⟨g,0,none⟩,oc,rfl,by omega,by rw [List.length_append,lineO_len,show (lwL 12).length = 3 from rfl];omega,h1,h2,hP3⟩
    case measure => simp [intOf]
end
end Go.Proofs.YtfmaomoifkplbaaGreatDoor
