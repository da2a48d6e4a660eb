/- Several texts of this proof, joined: RF, RG, EB. -/
import Derived.Test.YtncmnhccmemagaaGreatDoorZ1
import Derived.WalkKit
import Derived.ProofKit
import Derived.OpenShut
import Derived.Handy
import Derived.BigQuiet
import Derived.Lib.Hide
import Derived.Deep.DeepCutAuto
import Derived.Lib.ItoaNum
import Derived.Lib.Strings
import Derived.WalkLawsBesides
import Derived.Lib.ParseIntB
import Derived.WalkSmall
import Derived.Test.YtncmnhccmemagaaGreatDoorShelf
import Derived.Lib.AppendIntMem
import Derived.Lib.AtoiErrMem
import Derived.Lib.ParseIntBTie
import Derived.Lib.LaidTab
import Derived.Stop.LaidErr
namespace Go.Proofs.YtncmnhccmemagaaGreatDoor
open Go.RowKit
def NoneIs (w:World) (e:Ending) (w':World):Prop:=∃ v,e = .returned (.tuple #[.int .i64 v,.bool false]) ∧ Below w.heap.size w w'
theorem NoneIs.out {w:World} {e:Ending} {w':World} (h:NoneIs w e w'):∃ v p,e = .returned (.tuple #[.int .i64 v,.bool false]) ∧ w' = G p w:=by
 obtain ⟨v,he,hb⟩:=h
 obtain ⟨p,hp⟩:=toG hb
 exact ⟨v,p,he,hp⟩
end Go.Proofs.YtncmnhccmemagaaGreatDoor
namespace Go.Proofs.YtncmnhccmemagaaGreatDoor
open Go.RowKit
def Errs (w:World):Prop:=(∃ t p,w.var? Tryz.prog "strconv.ErrSyntax" = some #[.iface t p]) ∧ ∃ t p,w.var? Tryz.prog "strconv.ErrRange" = some #[.iface t p]
theorem global_lt {w:World} {n:String} {g:Nat} {cs:Array Value} (hg:Tryz.prog.globalNamed n = some g) (h:w.var? Tryz.prog n = some cs):g < w.heap.size:=by
 rcases Nat.lt_or_ge g w.heap.size with h1 | h1
 ·exact h1
 ·unfold World.var? at h
  rw [hg] at h
  simp only [Option.bind_some] at h
  rw [Array.getElem?_eq_none h1] at h
  cases h
theorem errs_below {w w':World} (h:Errs w) (hb:Below w.heap.size w w'):Errs w':=by
 obtain ⟨⟨t1,p1,h1⟩,t2,p2,h2⟩:=h
 have g1:Tryz.prog.globalNamed "strconv.ErrSyntax" = some 7:=by kernel_rfl
 have g2:Tryz.prog.globalNamed "strconv.ErrRange" = some 8:=by kernel_rfl
 exact ⟨⟨t1,p1,var?_below hb g1 (global_lt g1 h1) h1⟩,t2,p2,var?_below hb g2 (global_lt g2 h2) h2⟩
def BadIs (w:World) (e:Ending) (w':World):Prop:=∃ x t n,e = .returned (.tuple #[.int .i64 x,.iface t (.pointer (some ⟨n,0,none⟩))]) ∧ Below w.heap.size w w'
theorem BadIs.out {w:World} {e:Ending} {w':World} (h:BadIs w e w'):∃ x t n p,e = .returned (.tuple #[.int .i64 x,.iface t (.pointer (some ⟨n,0,none⟩))]) ∧ w' = G p w:=by
 obtain ⟨x,t,n,he,hb⟩:=h
 obtain ⟨p,hp⟩:=toG hb
 exact ⟨x,t,n,p,he,hp⟩
theorem parse_ok (s:ByteArray) (hs:s.size ≤ 281474976710656) (v:Int) (h:Lib.parseIntB 64 s.data.toList = .ok v) (w:World):Calls Tryz.prog 146 #[.string s,.int .i64 10,.int .i64 64] w (Ret (.tuple #[.int .i64 v,.nilIface]) w) :=
 (Any.strconv_ParseInt_10_at64_ok Tryz.laysC174 s (by omega) v h w).mono fun _ _ ⟨he,hw⟩=>⟨he,by
  rcases hw with rfl | ⟨x,rfl⟩
  ·exact Below.refl _ _
  ·exact Lib.bytesWorld_below _ _ _⟩
theorem parse_bad (s:ByteArray) (hs:s.size ≤ 281474976710656) (h:∀ v,Lib.parseIntB 64 s.data.toList ≠ .ok v) (w:World) (hw:Errs w):Calls Tryz.prog 146 #[.string s,.int .i64 10,.int .i64 64] w (BadIs w):=by
 obtain ⟨⟨t1,p1,h1⟩,t2,p2,h2⟩:=hw
 rcases hp:Lib.parseIntB 64 s.data.toList with v | _ | _
 ·exact absurd hp (h v)
 ·exact (Any.strconv_ParseInt_10_at64_syntax_var Tryz.laysC174 s hs hp t1 p1 w h1).mono fun _ _ ⟨n,he,_,_,hb⟩=>⟨_,_,n,he,hb⟩
 ·exact (Any.strconv_ParseInt_10_at64_range_var Tryz.laysC174 s hs hp t2 p2 w h2).mono fun _ _ ⟨n,he,_,_,hb⟩=>⟨_,_,n,he,hb⟩
end Go.Proofs.YtncmnhccmemagaaGreatDoor
namespace Go.Proofs.YtncmnhccmemagaaGreatDoor
theorem star : "*" ++ "errors.errorString" = "*errors.errorString":=by decide
theorem err_row (u:TypeId) (h:Tryz.prog.typeName? 3 u = some "*errors.errorString"):u = 302 :=
 typeName_ptr_named (nm := "errors.errorString") (by rw [star];kernel_rfl) (by kernel_rfl) (by decide) u (by rw [star];exact h)
end Go.Proofs.YtncmnhccmemagaaGreatDoor
