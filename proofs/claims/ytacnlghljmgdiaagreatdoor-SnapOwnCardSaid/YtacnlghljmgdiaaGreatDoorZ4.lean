/- Several texts of this proof, joined: DG, SH, RF, RG, EB. -/
import Derived.Test.YtacnlghljmgdiaaGreatDoorZ1
import Derived.WalkKit
import Derived.ProofKit
import Derived.OpenShut
import Derived.Handy
import Derived.BigQuiet
import Derived.Lib.Hide
import Derived.Deep.DeepCutAuto
import Derived.Lib.ItoaNum
import Derived.Lib.Strings
import Derived.WalkLawsBesides
import Derived.Test.YtacnlghljmgdiaaGreatDoorShelf
import Derived.Lib.AppendIntMem
import Derived.WalkSmall
import Derived.Lib.ParseIntB
import Derived.Lib.AtoiErrMem
import Derived.Lib.ParseIntBTie
import Derived.Lib.LaidTab
import Derived.Stop.LaidErr
namespace Go.Proofs.YtacnlghljmgdiaaGreatDoor
open Go.RowKit
theorem y0o {a b:ByteArray} (h:a = b):Ending.returned (.string a) = .returned (.string b):=by rw [h]
def z4b (n:Int):ByteArray:=⟨(Lib.itoa n).toArray⟩
theorem q7v {n:Int} (h0:0 ≤ n) (h1:n < 10):z4b n = ⟨#[UInt8.ofNat (48 + n.toNat)]⟩:=by
 have h:¬ n < 0:=by omega
 simp only [z4b,Lib.itoa,h,if_false]
 rw [Lib.decDigits_one omT]
theorem q7u {n:Int} (h0:n < 0):z4b n = ⟨#[45]⟩ ++ z4b (-n):=by
 have h:¬ -n < 0:=by omega
 apply ByteArray.ext
 simp only [z4b,Lib.itoa,h0,h,if_true,if_false,ByteArray.data_append]
 have e:n.natAbs = (-n).toNat:=by omega
 rw [e];simp
theorem y2f {n:Int} (h0:10 ≤ n):z4b n = z4b (n / 10) ++ z4b (n % 10):=by
 have h:¬ n < 0:=by omega
 have h1:¬ n / 10 < 0:=by omega
 apply ByteArray.ext
 rw [ByteArray.data_append,q7v (n:=n % 10) omT omT]
 simp only [z4b,Lib.itoa,h,h1,if_false]
 rw [Lib.decDigits,dif_neg omT]
 have e1:n.toNat / 10 = (n / 10).toNat:=by omega
 have e2:n.toNat % 10 = (n % 10).toNat:=by omega
 rw [e1,e2];simp
theorem y4y {n:Int} (h0:n ≤ -10):z4b n = z4b (n.tdiv 10) ++ z4b (-(n.tmod 10)):=by
 have e1:n.tdiv 10 = -((-n) / 10):=by
  have:n = -(-n):=by omega
  rw [this,Int.neg_tdiv,Int.tdiv_eq_ediv_of_nonneg omT,Int.neg_neg]
 have e2:n.tmod 10 = -((-n) % 10):=by
  have:n = -(-n):=by omega
  rw [this,Int.neg_tmod,Int.tmod_eq_emod_of_nonneg omT,Int.neg_neg]
 rw [q7u (n:=n) omT,y2f (n := -n) omT,e1,e2,q7u (n := -((-n) / 10)) omT,Int.neg_neg,Int.neg_neg,ByteArray.append_assoc]
theorem k6m (W:World) (d:Int):(convert 150 9 (.slice (some ⟨W.heap.size,0,none⟩) 1 1)).run Tryz.prog (W.alloc (.cells #[.int .u8 d] 5)) =
  .ok (.string ⟨#[UInt8.ofNat d.toNat]⟩) (W.alloc (.cells #[.int .u8 d] 5)):=by
 rw [run_convert_bytes_string _ _ _ _ _ _ _ Tryz.underlying150 Tryz.underlying5 Tryz.underlying9]
 rw [run_bytesToString _ _ _ _ [d] (by simp [loadCells,go_sem])]
 rfl
set_option maxRecDepth 100000 in
theorem z5l (n:Int) (h0:0 ≤ n) (h1:n < 10) (w:World):Calls Tryz.prog 31 #[.int .i64 n] w (Ret (.string (z4b n)) w):=by
 have hs:=hiT (q7v h0 h1)
 have hc:n = 0 ∨ n = 1 ∨ n = 2 ∨ n = 3 ∨ n = 4 ∨ n = 5 ∨ n = 6 ∨ n = 7 ∨ n = 8 ∨ n = 9:=by omega
 have hk:=k6m
 clear h0 h1
 rcases hc with rfl | rfl | rfl | rfl | rfl | rfl | rfl | rfl | rfl | rfl
 all_goals
  go_enter Tryz.func31,Tryz.ntmps31
  go_wp2
  go_returns
  exact ⟨by rw [hs.out];rfl,gzT⟩
theorem j1l:∀ (k u:Nat),u < 10 ^ (k + 1) → Lib.nDigits u ≤ k + 1
 | 0,u,h=>by rw [Lib.nDigits_small (by simpa using h)];omega
 | k + 1,u,h=>by
  by_cases hu:u < 10
  ·rw [Lib.nDigits_small hu];omega
  ·rw [Lib.nDigits_big hu]
   have:u / 10 < 10 ^ (k + 1):=by rw [Nat.div_lt_iff_lt_mul omT];rw [Nat.pow_succ] at h;exact h
   have:=j1l k (u / 10) this
   omega
theorem z6h {n:Int} (h:I64 n):(z4b n).size ≤ 20:=by
 have hb:n.natAbs < 10 ^ (18 + 1):=by (unfold I64 at h;have:(10:Nat) ^ (18 + 1) = 10000000000000000000:=deT;omega)
 have hl:=j1l 18 n.natAbs hb
 have e:(z4b n).size = (Lib.itoa n).length:=by simp [z4b,ByteArray.size]
 rw [e]
 unfold Lib.itoa
 split
 ·rw [List.length_cons,Lib.decDigits_length];omega
 ·rw [Lib.decDigits_length,show n.toNat = n.natAbs by omega];omega
theorem x0a (n:Int) (h:n ≤ -10):n.tdiv 10 = -((-n) / 10) ∧ n.tmod 10 = -((-n) % 10):=by
 have e:n = -(-n):=by omega
 constructor
 ·conv=>lhs;rw [e]
  rw [Int.neg_tdiv,Int.tdiv_eq_ediv_of_nonneg omT]
 ·conv=>lhs;rw [e]
  rw [Int.neg_tmod,Int.tmod_eq_emod_of_nonneg omT]
set_option maxHeartbeats 1000000 in
theorem j0w (k:Nat):∀ (n:Int) (w:World),n.natAbs ≤ k → I64 n → Calls Tryz.prog 31 #[.int .i64 n] w (Ret (.string (z4b n)) w):=by
 induction k with
 | zero =>
  intro n w hk _
  obtain rfl:n = 0:=by omega
  exact z5l 0 omT omT w
 | succ k ih =>
  intro n w hk hn
  by_cases h0:0 ≤ n
  ·by_cases h1:n < 10
   ·exact z5l n h0 h1 w
   ·have e:=hiT (y2f (n:=n) omT)
    have z1:=z6h (n:=n / 10) (by unfold I64 at *;omega)
    have z2:=z6h (n:=n % 10) (by unfold I64 at *;omega)
    have c1:=fun wx=>hiT (ih (n / 10) wx omT (by unfold I64 at *;omega))
    have c1:=hiT c1
    have c2:=fun wx=>hiT (z5l (n % 10) omT omT wx)
    have c2:=hiT c2
    obtain ⟨n1,n2⟩:=hn
    clear ih hk
    generalize z4b (n / 10) = s1 at *
    generalize z4b (n % 10) = s2 at *
    generalize z4b n = s at *
    go_enter Tryz.func31,Tryz.ntmps31
    go_wp2_with (first | ((with_reducible refine ((c1.out _).out).mono ?_);intro e w1 hr;obtain ⟨rfl,p,rfl⟩:=hr.out;clear hr) | ((with_reducible refine ((c2.out _).out).mono ?_);intro e w1 hr;obtain ⟨rfl,p,rfl⟩:=hr.out;clear hr))
    go_returns
    exact ⟨y0o e.out.symm,gzT⟩
  ·by_cases h1:n ≤ -10
   ·have e:=hiT (y4y h1)
    obtain ⟨t1,t2⟩:=x0a n h1
    have b1:I64 (n.tdiv 10):=by rw [t1];unfold I64 at *;omega
    have b2:0 ≤ -(n.tmod 10):=by rw [t2];omega
    have b3 : -(n.tmod 10) < 10:=by rw [t2];omega
    have b4:(n.tdiv 10).natAbs ≤ k:=by rw [t1];omega
    have z1:=z6h b1
    have z2:=z6h (n := -(n.tmod 10)) (by unfold I64;omega)
    have c1:=fun wx=>hiT (ih (n.tdiv 10) wx b4 b1)
    have c1:=hiT c1
    have c2:=fun wx=>hiT (z5l (-(n.tmod 10)) b2 b3 wx)
    have c2:=hiT c2
    have b5 : -9 ≤ n.tmod 10:=by omega
    have b6:n.tmod 10 ≤ 0:=by omega
    obtain ⟨n1,n2⟩:=hn
    obtain ⟨b7,b8⟩:=b1
    clear ih hk t1 t2 b2 b3 b4
    generalize z4b (n.tdiv 10) = s1 at *
    generalize z4b (-(n.tmod 10)) = s2 at *
    generalize z4b n = s at *
    go_enter Tryz.func31,Tryz.ntmps31
    go_wp2_with (first | ((with_reducible refine ((c1.out _).out).mono ?_);intro e w1 hr;obtain ⟨rfl,p,rfl⟩:=hr.out;clear hr) | ((with_reducible refine ((c2.out _).out).mono ?_);intro e w1 hr;obtain ⟨rfl,p,rfl⟩:=hr.out;clear hr))
    go_returns
    exact ⟨y0o e.out.symm,gzT⟩
   ·have e:=hiT (q7u (n:=n) omT)
    have z1:=z6h (n := -n) (by unfold I64 at *;omega)
    have c1:=fun wx=>hiT (z5l (-n) omT omT wx)
    have c1:=hiT c1
    obtain ⟨n1,n2⟩:=hn
    clear ih hk
    generalize z4b (-n) = s1 at *
    generalize z4b n = s at *
    go_enter Tryz.func31,Tryz.ntmps31
    go_wp2_with (first | ((with_reducible refine ((c1.out _).out).mono ?_);intro e w1 hr;obtain ⟨rfl,p,rfl⟩:=hr.out;clear hr))
    go_returns
    exact ⟨y0o e.out.symm,gzT⟩
def Tab (w:World):Prop:=Lib.TabIs Tryz.prog w "internal/strconv.uint64pow10" .u64 Lib.pow10Tab
theorem q3v {w w':World} (h:Tab w) (hb:Below w.heap.size w w'):Tab w':=by
 have hg:Tryz.prog.globalNamed "internal/strconv.uint64pow10" = some 1:=by kernel_rfl
 have hlt:1 < w.heap.size:=by
  rcases Nat.lt_or_ge 1 w.heap.size with h1 | h1
  ·exact h1
  ·unfold Tab Lib.TabIs World.var? at h
   rw [hg] at h
   simp only [Option.bind_some] at h
   rw [Array.getElem?_eq_none h1] at h
   cases h
 exact var?_below hb hg hlt h
theorem k0d (n:Int) (hn:I64 n) (w:World) (ht:Tab w):Calls Tryz.prog 27 #[.int .i64 n,.int .i64 10] w (Ret (.string (z4b n)) w) :=
 (Any.strconv_FormatInt_10 Tryz.laysM173 n hn.1 hn.2 w ht).mono fun _ _ ⟨he,k,os,hw⟩=>⟨he,hw ▸ Lib.below_grow _ _ (Nat.le_refl _) k os⟩
def k6g (b:Bool):ByteArray:=if b then ⟨#[116,114,117,101]⟩ else ⟨#[102,97,108,115,101]⟩
theorem j9h (b:Bool) (w:World):Calls Tryz.prog 62 #[.bool b] w (z6k (.string (k6g b)) w):=by
 cases b
 all_goals
  go_enter Tryz.func62,Tryz.ntmps62
  go_wp2
  go_returns
  exact ⟨rfl,rfl⟩
def y0t (k n:Int) (s:ByteArray):ByteArray:=if k = 1 then z4b n else if k = 2 then k6g (n == 1) else quote s
theorem v9u (n:Int) (s:ByteArray) (hn:I64 n) (w:World) (ht:Tab w):Calls Tryz.prog 28 #[.agg #[.int .i64 1,.int .i64 n,.string s]] w (Ret (.string (z4b n)) w):=by
 have H:=fun wx (h:Tab wx)=>hiT (k0d n hn wx h)
 have H:=hiT H
 have T:=fun wx (h:Below w.heap.size w wx)=>hiT (q3v ht h)
 have T:=hiT T
 clear ht hn
 generalize z4b n = t at *
 go_enter Tryz.func28,Tryz.ntmps28
 go_wp2_with ((with_reducible refine ((H.out _ (T.out _ gzT).out).out).mono ?_);intro e w1 hr;obtain ⟨rfl,p,rfl⟩:=hr.out;clear hr;skip)
 go_returns
 exact ⟨rfl,gzT⟩
theorem v9t (n:Int) (s:ByteArray) (hn:n = 0 ∨ n = 1) (w:World):Calls Tryz.prog 28 #[.agg #[.int .i64 2,.int .i64 n,.string s]] w (Ret (.string (k6g (n == 1))) w):=by
 have y0:=hiT (show x1c 2 0 = false by decide)
 have y1:=hiT (show x1c 2 1 = true by decide)
 rcases hn with rfl | rfl
 all_goals
  go_enter Tryz.func28,Tryz.ntmps28
  go_wp2_with (first | ((with_reducible refine (k5b 2 0 _ _).mono ?_);intro e w1 hr;obtain ⟨rfl,p,rfl⟩:=hr.out;clear hr;rw [y0.out]) | ((with_reducible refine (k5b 2 1 _ _).mono ?_);intro e w1 hr;obtain ⟨rfl,p,rfl⟩:=hr.out;clear hr;rw [y1.out]) | ((with_reducible refine (j9h _ _).mono ?_);rintro e w1 ⟨rfl,rfl⟩))
  go_returns
  exact ⟨rfl,gzT⟩
theorem k9n (k n:Int) (s:ByteArray) (hr:z5n k n s = true) (hn:I64 n) (w:World) (ht:Tab w):Calls Tryz.prog 28 #[.agg #[.int .i64 k,.int .i64 n,.string s]] w (Ret (.string (y0t k n s)) w):=by
 rcases q8o k n s hr with ⟨rfl,_⟩ | ⟨rfl,_,h⟩ | ⟨rfl,_,_,h⟩
 ·exact v9u n s hn w ht
 ·exact v9t n s h w
 ·exact v9v n s w omT
theorem k3j (k n:Int) (s:ByteArray) (hr:z5n k n s = true) (hn:I64 n) (w:World):Calls Tryz.prog 35 #[.agg #[.int .i64 k,.int .i64 n,.string s]] w (Ret (.string (y0t k n s)) w):=by
 rcases q8o k n s hr with ⟨rfl,_⟩ | ⟨rfl,_,h⟩ | ⟨rfl,_,_,h⟩
 ·have H:=fun wx=>hiT (j0w n.natAbs n wx (Nat.le_refl _) hn)
  have H:=hiT H
  clear hn hr
  show Calls _ _ _ _ (Ret (.string (z4b n)) w)
  generalize z4b n = t at *
  go_enter Tryz.func35,Tryz.ntmps35
  go_wp2_with ((with_reducible refine ((H.out _).out).mono ?_);intro e w1 hr;obtain ⟨rfl,p,rfl⟩:=hr.out;clear hr)
  go_returns
  exact ⟨rfl,gzT⟩
 ·clear hr hn
  rcases h with rfl | rfl
  all_goals
   go_enter Tryz.func35,Tryz.ntmps35
   go_wp2
   go_returns
   exact ⟨rfl,gzT⟩
 ·clear hr hn
  have h':s.size ≤ 9223372036854775800:=by omega
  show Calls _ _ _ _ (Ret (.string (quote s)) w)
  go_enter Tryz.func35,Tryz.ntmps35
  go_wp2
  go_returns
  exact ⟨rfl,gzT⟩
def v1c (w:World) (e:Ending) (w':World):Prop:=∃ v,e = .returned (.tuple #[.int .i64 v,.bool false]) ∧ Below w.heap.size w w'
theorem v1c.out {w:World} {e:Ending} {w':World} (h:v1c w e w'):∃ v p,e = .returned (.tuple #[.int .i64 v,.bool false]) ∧ w' = G p w:=by
 obtain ⟨v,he,hb⟩:=h
 obtain ⟨p,hp⟩:=toG hb
 exact ⟨v,p,he,hp⟩
def Errs (w:World):Prop:=(∃ t p,w.var? Tryz.prog "strconv.ErrSyntax" = some #[.iface t p]) ∧ ∃ t p,w.var? Tryz.prog "strconv.ErrRange" = some #[.iface t p]
theorem z6o {w:World} {n:String} {g:Nat} {cs:Array Value} (hg:Tryz.prog.globalNamed n = some g) (h:w.var? Tryz.prog n = some cs):g < w.heap.size:=by
 rcases Nat.lt_or_ge g w.heap.size with h1 | h1
 ·exact h1
 ·unfold World.var? at h
  rw [hg] at h
  simp only [Option.bind_some] at h
  rw [Array.getElem?_eq_none h1] at h
  cases h
theorem j1a {w w':World} (h:Errs w) (hb:Below w.heap.size w w'):Errs w':=by
 obtain ⟨⟨t1,p1,h1⟩,t2,p2,h2⟩:=h
 have g1:Tryz.prog.globalNamed "strconv.ErrSyntax" = some 10:=by kernel_rfl
 have g2:Tryz.prog.globalNamed "strconv.ErrRange" = some 11:=by kernel_rfl
 exact ⟨⟨t1,p1,var?_below hb g1 (z6o g1 h1) h1⟩,t2,p2,var?_below hb g2 (z6o g2 h2) h2⟩
def v2i (w:World) (e:Ending) (w':World):Prop:=∃ x t n,e = .returned (.tuple #[.int .i64 x,.iface t (.pointer (some ⟨n,0,none⟩))]) ∧ Below w.heap.size w w'
theorem v2i.out {w:World} {e:Ending} {w':World} (h:v2i w e w'):∃ x t n p,e = .returned (.tuple #[.int .i64 x,.iface t (.pointer (some ⟨n,0,none⟩))]) ∧ w' = G p w:=by
 obtain ⟨x,t,n,he,hb⟩:=h
 obtain ⟨p,hp⟩:=toG hb
 exact ⟨x,t,n,p,he,hp⟩
theorem k8m (s:ByteArray) (hs:s.size ≤ 281474976710656) (v:Int) (h:Lib.parseIntB 64 s.data.toList = .ok v) (w:World):Calls Tryz.prog 195 #[.string s,.int .i64 10,.int .i64 64] w (Ret (.tuple #[.int .i64 v,.nilIface]) w) :=
 (Any.strconv_ParseInt_10_at64_ok Tryz.laysC174 s omT v h w).mono fun _ _ ⟨he,hw⟩=>⟨he,by
  rcases hw with rfl | ⟨x,rfl⟩
  ·exact Below.refl _ _
  ·exact Lib.bytesWorld_below _ _ _⟩
theorem k2j (s:ByteArray) (hs:s.size ≤ 281474976710656) (h:∀ v,Lib.parseIntB 64 s.data.toList ≠ .ok v) (w:World) (hw:Errs w):Calls Tryz.prog 195 #[.string s,.int .i64 10,.int .i64 64] w (v2i w):=by
 obtain ⟨⟨t1,p1,h1⟩,t2,p2,h2⟩:=hw
 rcases hp:Lib.parseIntB 64 s.data.toList with v | _ | _
 ·exact absurd hp (h v)
 ·exact (Any.strconv_ParseInt_10_at64_syntax_var Tryz.laysC174 s hs hp t1 p1 w h1).mono fun _ _ ⟨n,he,_,_,hb⟩=>⟨_,_,n,he,hb⟩
 ·exact (Any.strconv_ParseInt_10_at64_range_var Tryz.laysC174 s hs hp t2 p2 w h2).mono fun _ _ ⟨n,he,_,_,hb⟩=>⟨_,_,n,he,hb⟩
end Go.Proofs.YtacnlghljmgdiaaGreatDoor
namespace Go.Proofs.YtacnlghljmgdiaaGreatDoor
theorem star : "*" ++ "errors.errorString" = "*errors.errorString":=by decide
theorem q4g (u:TypeId) (h:Tryz.prog.typeName? 3 u = some "*errors.errorString"):u = 372 :=
 typeName_ptr_named (nm := "errors.errorString") (by rw [star];kernel_rfl) krT deT u (by rw [star];exact h)
end Go.Proofs.YtacnlghljmgdiaaGreatDoor
