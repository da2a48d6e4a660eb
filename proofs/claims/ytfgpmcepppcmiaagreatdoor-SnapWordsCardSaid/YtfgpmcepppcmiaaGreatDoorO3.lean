/- Several texts of this proof, joined: SA, SO, SK. -/
import Derived.Test.YtfgpmcepppcmiaaGreatDoorO1
import Derived.Test.YtfgpmcepppcmiaaGreatDoorO2
import Derived.Test.YtfgpmcepppcmiaaGreatDoorChecked
import Derived.Test.YtfgpmcepppcmiaaGreatDoorZ1
import Derived.WalkKit
import Derived.ProofKit
import Derived.OpenShut
import Derived.Lib.SmallJoins
import Derived.Test.YtfgpmcepppcmiaaGreatDoorJ3
import Derived.SliceStrings
import Derived.Handy
import Derived.BigQuiet
import Derived.OwnWalk
import Derived.Deep.RegionHeld3
import Derived.Deep.AppendLies
import Derived.Laws.OwnMore
import Derived.Lib.Hide
import Derived.WalkSmall
import Derived.WalkLawsBesides
import Derived.Test.YtfgpmcepppcmiaaGreatDoorQ5
namespace Go.Proofs.YtfgpmcepppcmiaaGreatDoor
open Go.RowKit
theorem flat_len {α:Type} (f:α → List Value) (s:Nat) (hf:∀ x,(f x).length = s):∀ l:List α,(l.flatMap f).length = l.length * s
 | []=>by simp
 | x :: r=>by rw [List.flatMap_cons,List.length_append,flat_len f s hf r,hf,List.length_cons,Nat.add_mul,Nat.one_mul,Nat.add_comm]
theorem flat_at {α:Type} (f:α → List Value) (s:Nat) (hf:∀ x,(f x).length = s):∀ (l:List α) (i:Nat) (h:i < l.length) (j:Nat),j < s → (l.flatMap f)[i * s + j]? = (f l[i])[j]?
 | [],i,h,_,_=>absurd h (Nat.not_lt_zero _)
 | x :: r,0,_,j,hj=>by
  rw [List.flatMap_cons,Nat.zero_mul,Nat.zero_add,List.getElem?_append_left (by rw [hf];exact hj)]
  rfl
 | x :: r,i + 1,h,j,hj=>by
  have ih:=flat_at f s hf r i (by simpa using h) j hj
  rw [List.flatMap_cons,List.getElem?_append_right (by rw [hf,Nat.add_mul];omega),hf,show (i + 1) * s + j - s = i * s + j by rw [Nat.add_mul];omega,ih]
  rfl
theorem flat_one {α:Type} (f:α → List Value) (hf:∀ x,∀ u ∈ f x,u.oneCell' = true) (l:List α):∀ u ∈ l.flatMap f,u.oneCell' = true:=by
 intro u hu
 obtain ⟨t,_,hu⟩:=List.mem_flatMap.1 hu
 exact hf t u hu
theorem src_at {α:Type} (f:α → List Value) (s:Nat) (hf:∀ x,(f x).length = s) {w:World} {ao:Option Addr} {c:Nat} {l:List α} (h:SrcAt w ao c (l.flatMap f)) (i:Nat) (hi:i < l.length) (hs:0 < s):∃ g o,ao = some ⟨g,o,none⟩ ∧ g < w.heap.size ∧ ∀ j u,j < s → (f l[i])[j]? = some u → w.cell? ⟨g,o + i * s + j,none⟩ = some u:=by
 have hn:l.flatMap f ≠ []:=fun e=>by
  have:=flat_len f s hf l
  rw [e,List.length_nil] at this
  have:=Nat.mul_pos (show 0 < l.length by omega) hs
  omega
 obtain ⟨g,o,e,hg,hc⟩:=h.2 hn
 exact ⟨g,o,e,hg,fun j u hj hu=>by rw [Nat.add_assoc];exact hc _ _ (by rw [flat_at f s hf l i hi j hj];exact hu)⟩
structure Vl where
 k:Int
 n:Int
 s:ByteArray
def vlC (v:Vl):List Value:=[.int .i64 v.k,.int .i64 v.n,.string v.s]
def sbC (n:Int):List Value:=[.int .u64 n]
def inC (n:Int):List Value:=[.int .i64 n]
def stC1 (s:ByteArray):List Value:=[.string s]
theorem vl_len (v:Vl):(vlC v).length = 3:=rfl
theorem sb_len (n:Int):(sbC n).length = 1:=rfl
theorem st_len (s:ByteArray):(stC1 s).length = 1:=rfl
structure Sn where
 status:Int
 moves:Int
 clock:Int
 seq:Int
 inn:Int
 past:List Int
 data:List Vl
 inner:List ByteArray
 outer:List ByteArray
 timers:List Tm
 event:ByteArray
 taken:List Int
 ent:Int
 out:List ByteArray
end Go.Proofs.YtfgpmcepppcmiaaGreatDoor
namespace Go.Proofs.YtfgpmcepppcmiaaGreatDoor
open Go.RowKit Go.ChangeShapes Go.WideShapes Go.Joins
section
variable {H:Type} {enc:TypeId × Value → H} {w:World} {base:Nat} {spare:Nat → Bool} {held:Bool}
end
abbrev snV (s:Sn) (pa:Option Addr) (pc:Nat) (da:Option Addr) (dc:Nat) (ia:Option Addr) (ic:Nat) (oa:Option Addr) (oc:Nat) (ta:Option Addr) (tc:Nat) (ka:Option Addr) (kc:Nat) (ua:Option Addr) (uc:Nat):Value :=
 .agg #[.int .i64 s.status,.int .i64 s.moves,.int .i64 s.clock,.int .i64 s.seq,.int .u64 s.inn,.slice pa s.past.length pc,.slice da s.data.length dc,.slice ia s.inner.length ic,.slice oa s.outer.length oc,.slice ta s.timers.length tc,.string s.event,.slice ka s.taken.length kc,.int .u64 s.ent,.slice ua s.out.length uc]
structure SnRd (w:World) (s:Sn) (pa:Option Addr) (pc:Nat) (da:Option Addr) (dc:Nat) (ia:Option Addr) (ic:Nat) (oa:Option Addr) (oc:Nat) (ta:Option Addr) (tc:Nat) (ka:Option Addr) (kc:Nat) (ua:Option Addr) (uc:Nat):Prop where
 past:SrcAt w pa pc (s.past.flatMap sbC)
 data:SrcAt w da dc (s.data.flatMap vlC)
 inner:SrcAt w ia ic (s.inner.flatMap stC1)
 outer:SrcAt w oa oc (s.outer.flatMap stC1)
 timers:SrcAt w ta tc (s.timers.flatMap tmC)
 taken:SrcAt w ka kc (s.taken.flatMap inC)
 out:SrcAt w ua uc (s.out.flatMap stC1)
section
variable {H:Type} {enc:TypeId × Value → H} {w:World} {base:Nat} {spare:Nat → Bool} {held:Bool}
end
end Go.Proofs.YtfgpmcepppcmiaaGreatDoor
namespace Go.Proofs.YtfgpmcepppcmiaaGreatDoor
open Go.RowKit
theorem vl_one (v:Vl):∀ u ∈ vlC v,u.oneCell' = true:=by
 intro u hu
 simp only [vlC,List.mem_cons,List.not_mem_nil,or_false] at hu
 rcases hu with rfl | rfl | rfl <;> rfl
theorem st_one (n:ByteArray):∀ u ∈ stC1 n,u.oneCell' = true:=by
 intro u hu
 simp only [stC1,List.mem_cons,List.not_mem_nil,or_false] at hu
 subst hu;rfl
theorem snRd_below {w w':World} {s:Sn} {pa:Option Addr} {pc:Nat} {da:Option Addr} {dc:Nat} {ia:Option Addr} {ic:Nat} {oa:Option Addr} {oc:Nat} {ta:Option Addr} {tc:Nat} {ka:Option Addr} {kc:Nat} {ua:Option Addr} {uc:Nat} (h:SnRd w s pa pc da dc ia ic oa oc ta tc ka kc ua uc) (hb:Below w.heap.size w w'):SnRd w' s pa pc da dc ia ic oa oc ta tc ka kc ua uc :=
 ⟨src_below h.past hb,src_below h.data hb,src_below h.inner hb,src_below h.outer hb,src_below h.timers hb,src_below h.taken hb,src_below h.out hb⟩
abbrev put14 (w:World) (b:Nat) (v0 v1 v2 v3 v4 v5 v6 v7 v8 v9 v10 v11 v12 v13:Value):World:=(((((((((((((w.setCell ⟨b,0,none⟩ v0).setCell ⟨b,1,none⟩ v1).setCell ⟨b,2,none⟩ v2).setCell ⟨b,3,none⟩ v3).setCell ⟨b,4,none⟩ v4).setCell ⟨b,5,none⟩ v5).setCell ⟨b,6,none⟩ v6).setCell ⟨b,7,none⟩ v7).setCell ⟨b,8,none⟩ v8).setCell ⟨b,9,none⟩ v9).setCell ⟨b,10,none⟩ v10).setCell ⟨b,11,none⟩ v11).setCell ⟨b,12,none⟩ v12).setCell ⟨b,13,none⟩ v13
theorem own_put14 {w:World} {B e sz n b:Nat} {v v0 v1 v2 v3 v4 v5 v6 v7 v8 v9 v10 v11 v12 v13:Value} {xs:List Value} {cs:Array Value} {t:TypeId} {fr:Nat × Nat} (h:w.ownsRow B e sz v n xs) (hb:w.heap[b]? = some (.cells cs t fr)) (hne:t ≠ e):(put14 w b v0 v1 v2 v3 v4 v5 v6 v7 v8 v9 v10 v11 v12 v13).ownsRow B e sz v n xs:=by
 have k:=own_ne h hb hne
 exact ownsRow_setCell_other (ownsRow_setCell_other (ownsRow_setCell_other (ownsRow_setCell_other (ownsRow_setCell_other (ownsRow_setCell_other (ownsRow_setCell_other (ownsRow_setCell_other (ownsRow_setCell_other (ownsRow_setCell_other (ownsRow_setCell_other (ownsRow_setCell_other (ownsRow_setCell_other (ownsRow_setCell_other h (a:=⟨b,0,none⟩) k v0) (a:=⟨b,1,none⟩) k v1) (a:=⟨b,2,none⟩) k v2) (a:=⟨b,3,none⟩) k v3) (a:=⟨b,4,none⟩) k v4) (a:=⟨b,5,none⟩) k v5) (a:=⟨b,6,none⟩) k v6) (a:=⟨b,7,none⟩) k v7) (a:=⟨b,8,none⟩) k v8) (a:=⟨b,9,none⟩) k v9) (a:=⟨b,10,none⟩) k v10) (a:=⟨b,11,none⟩) k v11) (a:=⟨b,12,none⟩) k v12) (a:=⟨b,13,none⟩) k v13
theorem below_put14 {B b:Nat} {a w:World} {v0 v1 v2 v3 v4 v5 v6 v7 v8 v9 v10 v11 v12 v13:Value} (h:Below B a w) (hb:B ≤ b):Below B a (put14 w b v0 v1 v2 v3 v4 v5 v6 v7 v8 v9 v10 v11 v12 v13) :=
 (((((((((((((h.setCell (p:=⟨b,0,none⟩) hb _).setCell (p:=⟨b,1,none⟩) hb _).setCell (p:=⟨b,2,none⟩) hb _).setCell (p:=⟨b,3,none⟩) hb _).setCell (p:=⟨b,4,none⟩) hb _).setCell (p:=⟨b,5,none⟩) hb _).setCell (p:=⟨b,6,none⟩) hb _).setCell (p:=⟨b,7,none⟩) hb _).setCell (p:=⟨b,8,none⟩) hb _).setCell (p:=⟨b,9,none⟩) hb _).setCell (p:=⟨b,10,none⟩) hb _).setCell (p:=⟨b,11,none⟩) hb _).setCell (p:=⟨b,12,none⟩) hb _).setCell (p:=⟨b,13,none⟩) hb _
end Go.Proofs.YtfgpmcepppcmiaaGreatDoor
