/- Several texts of this proof, joined: DG, SH, RF, RG, EB. -/
import Derived.Test.YtfgpmcepppcmiaaGreatDoorZ1
import Derived.WalkKit
import Derived.ProofKit
import Derived.OpenShut
import Derived.Handy
import Derived.BigQuiet
import Derived.Lib.Hide
import Derived.Deep.DeepCutAuto
import Derived.Lib.ItoaNum
import Derived.Lib.Strings
import Derived.WalkLawsBesides
import Derived.Test.YtfgpmcepppcmiaaGreatDoorShelf
import Derived.Lib.AppendIntMem
import Derived.WalkSmall
import Derived.Lib.ParseIntB
import Derived.Lib.AtoiErrMem
import Derived.Lib.ParseIntBTie
import Derived.Lib.LaidTab
import Derived.Stop.LaidErr
namespace Go.Proofs.YtfgpmcepppcmiaaGreatDoor
open Go.RowKit
def itoaS (n:Int):ByteArray:=⟨(Lib.itoa n).toArray⟩
theorem nDigits_le:∀ (k u:Nat),u < 10 ^ (k + 1) → Lib.nDigits u ≤ k + 1
 | 0,u,h=>by rw [Lib.nDigits_small (by simpa using h)];omega
 | k + 1,u,h=>by
  by_cases hu:u < 10
  ·rw [Lib.nDigits_small hu];omega
  ·rw [Lib.nDigits_big hu]
   have:u / 10 < 10 ^ (k + 1):=by rw [Nat.div_lt_iff_lt_mul (by omega)];rw [Nat.pow_succ] at h;exact h
   have:=nDigits_le k (u / 10) this
   omega
theorem itoaS_size {n:Int} (h:I64 n):(itoaS n).size ≤ 20:=by
 have hb:n.natAbs < 10 ^ (18 + 1):=by (unfold I64 at h;have:(10:Nat) ^ (18 + 1) = 10000000000000000000:=(by decide);omega)
 have hl:=nDigits_le 18 n.natAbs hb
 have e:(itoaS n).size = (Lib.itoa n).length:=by simp [itoaS,ByteArray.size]
 rw [e]
 unfold Lib.itoa
 split
 ·rw [List.length_cons,Lib.decDigits_length];omega
 ·rw [Lib.decDigits_length,show n.toNat = n.natAbs by omega];omega
end Go.Proofs.YtfgpmcepppcmiaaGreatDoor
namespace Go.Proofs.YtfgpmcepppcmiaaGreatDoor
open Go.RowKit
def Tab (w:World):Prop:=Lib.TabIs Tryz.prog w "internal/strconv.uint64pow10" .u64 Lib.pow10Tab
theorem tab_below {w w':World} (h:Tab w) (hb:Below w.heap.size w w'):Tab w':=by
 have hg:Tryz.prog.globalNamed "internal/strconv.uint64pow10" = some 1:=by kernel_rfl
 have hlt:1 < w.heap.size:=by
  rcases Nat.lt_or_ge 1 w.heap.size with h1 | h1
  ·exact h1
  ·unfold Tab Lib.TabIs World.var? at h
   rw [hg] at h
   simp only [Option.bind_some] at h
   rw [Array.getElem?_eq_none h1] at h
   cases h
 exact var?_below hb hg hlt h
theorem fmt_any (n:Int) (hn:I64 n) (w:World) (ht:Tab w):Calls Tryz.prog 28 #[.int .i64 n,.int .i64 10] w (Ret (.string (itoaS n)) w) :=
 (Any.strconv_FormatInt_10 Tryz.laysM173 n hn.1 hn.2 w ht).mono fun _ _ ⟨he,k,os,hw⟩=>⟨he,hw ▸ Lib.below_grow _ _ (Nat.le_refl _) k os⟩
def boolS (b:Bool):ByteArray:=if b then ⟨#[116,114,117,101]⟩ else ⟨#[102,97,108,115,101]⟩
theorem fmtBool_any (b:Bool) (w:World):Calls Tryz.prog 63 #[.bool b] w (RetW (.string (boolS b)) w):=by
 cases b
 all_goals
  go_enter Tryz.func63,Tryz.ntmps63
  go_wp2
  go_returns
  exact ⟨rfl,rfl⟩
def showS (k n:Int) (s:ByteArray):ByteArray:=if k = 1 then itoaS n else if k = 2 then boolS (n == 1) else quote s
theorem show_n (n:Int) (s:ByteArray) (hn:I64 n) (w:World) (ht:Tab w):Calls Tryz.prog 29 #[.agg #[.int .i64 1,.int .i64 n,.string s]] w (Ret (.string (itoaS n)) w):=by
 have H:=fun wx (h:Tab wx)=>Lib.hid (fmt_any n hn wx h)
 have H:=Lib.hid H
 have T:=fun wx (h:Below w.heap.size w wx)=>Lib.hid (tab_below ht h)
 have T:=Lib.hid T
 clear ht hn
 generalize itoaS n = t at *
 go_enter Tryz.func29,Tryz.ntmps29
 go_wp2_with ((with_reducible refine ((H.out _ (T.out _ (by (first | exact gwT | exact lzT))).out).out).mono ?_);intro e w1 hr;obtain ⟨rfl,p,rfl⟩:=hr.out;clear hr;skip)
 go_returns
 exact ⟨rfl,by (first | exact gwT | exact lzT)⟩
theorem show_b (n:Int) (s:ByteArray) (hn:n = 0 ∨ n = 1) (w:World):Calls Tryz.prog 29 #[.agg #[.int .i64 2,.int .i64 n,.string s]] w (Ret (.string (boolS (n == 1))) w):=by
 have y0:=Lib.hid (show yesB 2 0 = false by decide)
 have y1:=Lib.hid (show yesB 2 1 = true by decide)
 rcases hn with rfl | rfl
 all_goals
  go_enter Tryz.func29,Tryz.ntmps29
  go_wp2_with (first | ((with_reducible refine (yes_any 2 0 _ _).mono ?_);intro e w1 hr;obtain ⟨rfl,p,rfl⟩:=hr.out;clear hr;rw [y0.out]) | ((with_reducible refine (yes_any 2 1 _ _).mono ?_);intro e w1 hr;obtain ⟨rfl,p,rfl⟩:=hr.out;clear hr;rw [y1.out]) | ((with_reducible refine (fmtBool_any _ _).mono ?_);rintro e w1 ⟨rfl,rfl⟩))
  go_returns
  exact ⟨rfl,by (first | exact gwT | exact lzT)⟩
theorem show_any (k n:Int) (s:ByteArray) (hr:rightB k n s = true) (hn:I64 n) (w:World) (ht:Tab w):Calls Tryz.prog 29 #[.agg #[.int .i64 k,.int .i64 n,.string s]] w (Ret (.string (showS k n s)) w):=by
 rcases right_cases k n s hr with ⟨rfl,_⟩ | ⟨rfl,_,h⟩ | ⟨rfl,_,_,h⟩
 ·exact show_n n s hn w ht
 ·exact show_b n s h w
 ·exact show_s n s w (by omega)
end Go.Proofs.YtfgpmcepppcmiaaGreatDoor
namespace Go.Proofs.YtfgpmcepppcmiaaGreatDoor
open Go.RowKit
def NoneIs (w:World) (e:Ending) (w':World):Prop:=∃ v,e = .returned (.tuple #[.int .i64 v,.bool false]) ∧ Below w.heap.size w w'
theorem NoneIs.out {w:World} {e:Ending} {w':World} (h:NoneIs w e w'):∃ v p,e = .returned (.tuple #[.int .i64 v,.bool false]) ∧ w' = G p w:=by
 obtain ⟨v,he,hb⟩:=h
 obtain ⟨p,hp⟩:=toG hb
 exact ⟨v,p,he,hp⟩
end Go.Proofs.YtfgpmcepppcmiaaGreatDoor
namespace Go.Proofs.YtfgpmcepppcmiaaGreatDoor
open Go.RowKit
def Errs (w:World):Prop:=(∃ t p,w.var? Tryz.prog "strconv.ErrSyntax" = some #[.iface t p]) ∧ ∃ t p,w.var? Tryz.prog "strconv.ErrRange" = some #[.iface t p]
theorem global_lt {w:World} {n:String} {g:Nat} {cs:Array Value} (hg:Tryz.prog.globalNamed n = some g) (h:w.var? Tryz.prog n = some cs):g < w.heap.size:=by
 rcases Nat.lt_or_ge g w.heap.size with h1 | h1
 ·exact h1
 ·unfold World.var? at h
  rw [hg] at h
  simp only [Option.bind_some] at h
  rw [Array.getElem?_eq_none h1] at h
  cases h
theorem errs_below {w w':World} (h:Errs w) (hb:Below w.heap.size w w'):Errs w':=by
 obtain ⟨⟨t1,p1,h1⟩,t2,p2,h2⟩:=h
 have g1:Tryz.prog.globalNamed "strconv.ErrSyntax" = some 10:=by kernel_rfl
 have g2:Tryz.prog.globalNamed "strconv.ErrRange" = some 11:=by kernel_rfl
 exact ⟨⟨t1,p1,var?_below hb g1 (global_lt g1 h1) h1⟩,t2,p2,var?_below hb g2 (global_lt g2 h2) h2⟩
def BadIs (w:World) (e:Ending) (w':World):Prop:=∃ x t n,e = .returned (.tuple #[.int .i64 x,.iface t (.pointer (some ⟨n,0,none⟩))]) ∧ Below w.heap.size w w'
theorem BadIs.out {w:World} {e:Ending} {w':World} (h:BadIs w e w'):∃ x t n p,e = .returned (.tuple #[.int .i64 x,.iface t (.pointer (some ⟨n,0,none⟩))]) ∧ w' = G p w:=by
 obtain ⟨x,t,n,he,hb⟩:=h
 obtain ⟨p,hp⟩:=toG hb
 exact ⟨x,t,n,p,he,hp⟩
theorem parse_ok (s:ByteArray) (hs:s.size ≤ 281474976710656) (v:Int) (h:Lib.parseIntB 64 s.data.toList = .ok v) (w:World):Calls Tryz.prog 196 #[.string s,.int .i64 10,.int .i64 64] w (Ret (.tuple #[.int .i64 v,.nilIface]) w) :=
 (Any.strconv_ParseInt_10_at64_ok Tryz.laysC174 s (by omega) v h w).mono fun _ _ ⟨he,hw⟩=>⟨he,by
  rcases hw with rfl | ⟨x,rfl⟩
  ·exact Below.refl _ _
  ·exact Lib.bytesWorld_below _ _ _⟩
theorem parse_bad (s:ByteArray) (hs:s.size ≤ 281474976710656) (h:∀ v,Lib.parseIntB 64 s.data.toList ≠ .ok v) (w:World) (hw:Errs w):Calls Tryz.prog 196 #[.string s,.int .i64 10,.int .i64 64] w (BadIs w):=by
 obtain ⟨⟨t1,p1,h1⟩,t2,p2,h2⟩:=hw
 rcases hp:Lib.parseIntB 64 s.data.toList with v | _ | _
 ·exact absurd hp (h v)
 ·exact (Any.strconv_ParseInt_10_at64_syntax_var Tryz.laysC174 s hs hp t1 p1 w h1).mono fun _ _ ⟨n,he,_,_,hb⟩=>⟨_,_,n,he,hb⟩
 ·exact (Any.strconv_ParseInt_10_at64_range_var Tryz.laysC174 s hs hp t2 p2 w h2).mono fun _ _ ⟨n,he,_,_,hb⟩=>⟨_,_,n,he,hb⟩
end Go.Proofs.YtfgpmcepppcmiaaGreatDoor
namespace Go.Proofs.YtfgpmcepppcmiaaGreatDoor
theorem star : "*" ++ "errors.errorString" = "*errors.errorString":=by decide
theorem err_row (u:TypeId) (h:Tryz.prog.typeName? 3 u = some "*errors.errorString"):u = 372 :=
 typeName_ptr_named (nm := "errors.errorString") (by rw [star];kernel_rfl) (by kernel_rfl) (by decide) u (by rw [star];exact h)
end Go.Proofs.YtfgpmcepppcmiaaGreatDoor
