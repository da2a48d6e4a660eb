/- Several texts of this proof, joined: LX, T0, SP, T1, T2. -/
import Derived.Test.YtfgpmcepppcmiaaGreatDoorZ1
import Derived.WalkKit
import Derived.Lib.Hide
import Derived.ProofKit
import Derived.OpenShut
import Derived.Handy
import Derived.BigQuiet
import Derived.WalkLawsBesides
import Derived.Lib.SplitLaws
import Derived.Test.YtfgpmcepppcmiaaGreatDoorZ4
import Derived.Test.YtfgpmcepppcmiaaGreatDoorShelf2
import Derived.WalkSmall
namespace Go.Proofs.YtfgpmcepppcmiaaGreatDoor
open Go.RowKit
def letB (c:UInt8):Bool:=decide (97 ≤ (c.toNat:Int)) && decide ((c.toNat:Int) ≤ 122)
def digB (c:UInt8):Bool:=decide (48 ≤ (c.toNat:Int)) && decide ((c.toNat:Int) ≤ 57)
def innB (c:UInt8):Bool:=letB c || digB c || (c.toNat:Int) == 95
def headL:List UInt8 → Bool
 | []=>false
 | c :: _=>letB c
def wordL:List UInt8 → Bool
 | []=>false
 | c :: r=>innB c || ((c.toNat:Int) == 46) && headL r
def digL:List UInt8 → Bool
 | []=>false
 | c :: _=>digB c
def blankL:List UInt8 → Bool
 | []=>false
 | c :: _=>(c.toNat:Int) == 32
def textL:List UInt8 → Bool
 | []=>false
 | c :: _ => !((c.toNat:Int) == 39)
def spanL (p:List UInt8 → Bool):List UInt8 → Nat
 | []=>0
 | c :: r=>if p (c :: r) then spanL p r + 1 else 0
def longL:Nat → List UInt8 → Bool
 | n,[]=>decide (16 < n)
 | n,c :: r=>if (c.toNat:Int) == 46 then decide (16 < n) || longL 0 r else longL (n + 1) r
def dotL (l:List UInt8):Bool:=l.any fun c=>(c.toNat:Int) == 46
def valL (l:List UInt8):Nat:=l.foldl (fun a c=>a * 10 + (c.toNat - 48)) 0
abbrev Tok:=Except Int (Int × List UInt8 × Int × Nat)
def wordT (l:List UInt8):Tok :=
 let t:=l.take (spanL wordL l)
 if decide (32 < t.length) || longL 0 t then .error 15 else .ok (if dotL t then 2 else 1,t,0,t.length)
def numT (l:List UInt8):Tok :=
 let t:=l.take (spanL digL l)
 if decide (1 < t.length) && t.head? == some 48 then .error 11 else if 9223372036854775807 < valL t then .error 21 else .ok (3,t,valL t,t.length)
def quoT (r:List UInt8):Tok :=
 let m:=spanL textL r
 if m = r.length then .error 14 else if 48 < m then .error 15 else if plainB (r.take m) then .ok (4,r.take m,0,m + 2) else .error 11
def twoB (c:UInt8):Bool:=(c.toNat:Int) == 60 || (c.toNat:Int) == 62 || (c.toNat:Int) == 33
def ones:List UInt8:=[40,41,59,58,43,45,42,47,37,60,62,61]
def eqL:List UInt8 → Bool
 | []=>false
 | c :: _=>(c.toNat:Int) == 61
def sgnT (c:UInt8) (r:List UInt8):Tok :=
 if twoB c && eqL r then .ok (5,[c,61],0,2) else if ones.contains c then .ok (5,[c],0,1) else .error 11
def tokT:List UInt8 → Tok
 | [] => .error 11
 | c :: r=>if letB c then wordT (c :: r) else if digB c then numT (c :: r) else if (c.toNat:Int) == 39 then quoT r else sgnT c r
structure Tk where
 k:Int
 s:List UInt8
 n:Int
 a:Nat
def lexT:Nat → Nat → List UInt8 → Except (Int × Nat) (List Tk)
 | 0,a,l =>
  match l.drop (spanL blankL l) with
  | [] => .ok []
  | _ :: _ => .error (13,a + spanL blankL l)
 | m + 1,a,l =>
  match l.drop (spanL blankL l) with
  | [] => .ok []
  | c :: r =>
   match tokT (c :: r) with
   | .error e => .error (e,a + spanL blankL l)
   | .ok (k,t,n,z) =>
    match lexT m (a + spanL blankL l + z) ((c :: r).drop z) with
    | .error x => .error x
    | .ok ts => .ok (⟨k,t,n,a + spanL blankL l⟩ :: ts)
def pre (ts:List Tk):Except (Int × Nat) (List Tk) → Except (Int × Nat) (List Tk)
 | .error x => .error x
 | .ok r => .ok (ts ++ r)
theorem pre_nil (x:Except (Int × Nat) (List Tk)):pre [] x = x:=by cases x <;> rfl
theorem pre_pre (a b:List Tk) (x:Except (Int × Nat) (List Tk)):pre a (pre b x) = pre (a ++ b) x:=by
 cases x with
 | error x=>rfl
 | ok r=>simp [pre]
theorem spanL_le (p:List UInt8 → Bool):∀ l,spanL p l ≤ l.length
 | []=>Nat.le_refl _
 | c :: r=>by
  rw [spanL]
  have:=spanL_le p r
  split
  ·simp;omega
  ·simp
theorem span_yes {p:List UInt8 → Bool} {c:UInt8} {r:List UInt8} (h:p (c :: r) = true):spanL p (c :: r) = spanL p r + 1:=by rw [spanL,if_pos h]
theorem span_no {p:List UInt8 → Bool} {c:UInt8} {r:List UInt8} (h:p (c :: r) = false):spanL p (c :: r) = 0:=by rw [spanL,h];rfl
theorem lexT_blank (m a:Nat) (c:UInt8) (r:List UInt8) (h:((c.toNat:Int) == 32) = true):lexT m a (c :: r) = lexT m (a + 1) r:=by
 have e:spanL blankL (c :: r) = spanL blankL r + 1:=span_yes (p:=blankL) h
 cases m with
 | zero=>rw [lexT,lexT,e,List.drop_succ_cons,show a + (spanL blankL r + 1) = a + 1 + spanL blankL r by omega]
 | succ m=>rw [lexT,lexT,e,List.drop_succ_cons,show a + (spanL blankL r + 1) = a + 1 + spanL blankL r by omega]
theorem lexT_end (m a:Nat):lexT m a [] = .ok []:=by cases m <;> rfl
theorem lexT_blanks (m a:Nat):∀ l,lexT m a l = lexT m (a + spanL blankL l) (l.drop (spanL blankL l)):=by
 intro l
 induction l generalizing a with
 | nil=>rfl
 | cons c r ih =>
  cases h:((c.toNat:Int) == 32)
  ·rw [span_no (p:=blankL) h];rfl
  ·rw [lexT_blank m a c r h,ih,span_yes (p:=blankL) h,List.drop_succ_cons,show a + (spanL blankL r + 1) = a + 1 + spanL blankL r by omega]
theorem lexT_many (a:Nat) (c:UInt8) (r:List UInt8) (h:((c.toNat:Int) == 32) = false):lexT 0 a (c :: r) = .error (13,a):=by
 rw [lexT,span_no (p:=blankL) h];rfl
theorem lexT_bad (m a:Nat) (c:UInt8) (r:List UInt8) (e:Int) (h:((c.toNat:Int) == 32) = false) (ht:tokT (c :: r) = .error e):lexT (m + 1) a (c :: r) = .error (e,a):=by
 rw [lexT,span_no (p:=blankL) h]
 simp only [List.drop_zero,ht,Nat.add_zero]
theorem lexT_tok (m a:Nat) (c:UInt8) (r:List UInt8) (k:Int) (t:List UInt8) (n:Int) (z:Nat) (h:((c.toNat:Int) == 32) = false) (ht:tokT (c :: r) = .ok (k,t,n,z)) :
  lexT (m + 1) a (c :: r) = pre [⟨k,t,n,a⟩] (lexT m (a + z) ((c :: r).drop z)):=by
 rw [lexT,span_no (p:=blankL) h]
 simp only [List.drop_zero,ht,Nat.add_zero]
 cases lexT m (a + z) ((c :: r).drop z) <;> rfl
end Go.Proofs.YtfgpmcepppcmiaaGreatDoor
namespace Go.Proofs.YtfgpmcepppcmiaaGreatDoor
open Go.RowKit
theorem dropK (t:ByteArray) (k:Nat) (h:k < t.size):t.data.toList.drop k = t[k] :: t.data.toList.drop (k + 1):=by
 rw [List.drop_eq_getElem_cons (by simpa using h)]
 rfl
theorem letter_any (c:UInt8) (w:World):Calls Tryz.prog 168 #[.int .u8 c.toNat] w (RetW (.bool (letB c)) w):=by
 by_cases h1:97 ≤ (c.toNat:Int) <;> by_cases h2:(c.toNat:Int) ≤ 122
 all_goals
  have e:letB c = (decide (97 ≤ (c.toNat:Int)) && decide ((c.toNat:Int) ≤ 122)):=rfl
  simp [h1,h2] at e
  replace e:=Lib.hid e
  go_enter Tryz.func168,Tryz.ntmps168
  go_wp2
  go_returns
  exact ⟨by rw [e.out];rfl,rfl⟩
theorem digit_any (c:UInt8) (w:World):Calls Tryz.prog 170 #[.int .u8 c.toNat] w (RetW (.bool (digB c)) w):=by
 by_cases h1:48 ≤ (c.toNat:Int) <;> by_cases h2:(c.toNat:Int) ≤ 57
 all_goals
  have e:digB c = (decide (48 ≤ (c.toNat:Int)) && decide ((c.toNat:Int) ≤ 57)):=rfl
  simp [h1,h2] at e
  replace e:=Lib.hid e
  go_enter Tryz.func170,Tryz.ntmps170
  go_wp2
  go_returns
  exact ⟨by rw [e.out];rfl,rfl⟩
theorem dot_any (s:ByteArray) (k:Nat) (hk:k < s.size) (hs:s.size ≤ 9223372036854775000) (w:World) :
  Calls Tryz.prog 193 #[.string s,.int .i64 k] w (RetW (.bool (((s[k].toNat:Int) == 46) && headL (s.data.toList.drop (k + 1)))) w):=by
 have L:=fun c wx=>Lib.hid (letter_any c wx)
 have L:=Lib.hid L
 rcases h1:((s[k].toNat:Int) == 46)
 ·go_enter Tryz.func193,Tryz.ntmps193
  go_wp2_with ((with_reducible refine ((L.out _ _).out).mono ?_);rintro e w1 ⟨rfl,rfl⟩)
  go_returns
  exact ⟨rfl,rfl⟩
 ·by_cases h2:k + 1 < s.size
  ·have e:headL (s.data.toList.drop (k + 1)) = letB s[k + 1]:=by rw [dropK s (k + 1) h2];rfl
   replace e:=Lib.hid e
   go_enter Tryz.func193,Tryz.ntmps193
   go_wp2_with ((with_reducible refine ((L.out _ _).out).mono ?_);rintro e w1 ⟨rfl,rfl⟩)
   go_returns
   exact ⟨by rw [e.out];rfl,rfl⟩
  ·have e:headL (s.data.toList.drop (k + 1)) = false:=by rw [List.drop_of_length_le (by simp;omega)];rfl
   replace e:=Lib.hid e
   go_enter Tryz.func193,Tryz.ntmps193
   go_wp2_with ((with_reducible refine ((L.out _ _).out).mono ?_);rintro e w1 ⟨rfl,rfl⟩)
   go_returns
   exact ⟨by rw [e.out];rfl,rfl⟩
theorem blank_c (s:ByteArray) (k:Nat) (hk:k < s.size) (_hs:s.size ≤ 9223372036854775000) (b:Nat) (w:World) (hb:w.cell? ⟨b,0,none⟩ = some (.string s)) :
  Calls Tryz.prog 167 #[.int .i64 k,.pointer (some ⟨b,0,none⟩)] w (RetW (.bool (blankL (s.data.toList.drop k))) w):=by
 have e:blankL (s.data.toList.drop k) = ((s[k].toNat:Int) == 32):=by rw [dropK s k hk];rfl
 replace e:=Lib.hid e
 go_enter Tryz.func167,Tryz.ntmps167
 go_wp2
 go_returns
 exact ⟨by rw [e.out];rfl,rfl⟩
theorem digit_c (s:ByteArray) (k:Nat) (hk:k < s.size) (_hs:s.size ≤ 9223372036854775000) (b:Nat) (w:World) (hb:w.cell? ⟨b,0,none⟩ = some (.string s)) :
  Calls Tryz.prog 195 #[.int .i64 k,.pointer (some ⟨b,0,none⟩)] w (RetW (.bool (digL (s.data.toList.drop k))) w):=by
 have e:digL (s.data.toList.drop k) = digB s[k]:=by rw [dropK s k hk];rfl
 replace e:=Lib.hid e
 go_enter Tryz.func195,Tryz.ntmps195
 go_wp2_with ((with_reducible refine (digit_any _ _).mono ?_);rintro e w1 ⟨rfl,rfl⟩)
 go_returns
 exact ⟨by rw [e.out];rfl,rfl⟩
theorem word_c (s:ByteArray) (k:Nat) (hk:k < s.size) (hs:s.size ≤ 9223372036854775000) (b:Nat) (w:World) (hb:w.cell? ⟨b,0,none⟩ = some (.string s)) :
  Calls Tryz.prog 192 #[.int .i64 k,.pointer (some ⟨b,0,none⟩)] w (RetW (.bool (wordL (s.data.toList.drop k))) w):=by
 have e:wordL (s.data.toList.drop k) = (letB s[k] || digB s[k] || (s[k].toNat:Int) == 95 || (((s[k].toNat:Int) == 46) && headL (s.data.toList.drop (k + 1)))):=by rw [dropK s k hk];rfl
 have D:=fun wx=>Lib.hid (dot_any s k hk hs wx)
 replace D:=Lib.hid D
 have L:=fun wx=>Lib.hid (letter_any s[k] wx)
 replace L:=Lib.hid L
 have I:=fun wx=>Lib.hid (digit_any s[k] wx)
 replace I:=Lib.hid I
 generalize (((s[k].toNat:Int) == 46) && headL (s.data.toList.drop (k + 1))) = d at *
 rcases h1:letB s[k] <;> rcases h2:digB s[k] <;> rcases h3:((s[k].toNat:Int) == 95)
 all_goals
  rw [h1] at L
  rw [h2] at I
  rw [h1,h2,h3] at e
  simp only [Bool.or_true,Bool.or_false,Bool.true_or,Bool.false_or] at e
  replace e:=Lib.hid e
  clear h1 h2
  go_enter Tryz.func192,Tryz.ntmps192
  go_wp2_with (first | ((with_reducible refine ((L.out _).out).mono ?_);rintro e w1 ⟨rfl,rfl⟩) | ((with_reducible refine ((I.out _).out).mono ?_);rintro e w1 ⟨rfl,rfl⟩) | ((with_reducible refine ((D.out _).out).mono ?_);rintro e w1 ⟨rfl,rfl⟩))
  go_returns
  exact ⟨by rw [e.out];rfl,rfl⟩
def SpanTo (p:List UInt8 → Bool) (s:ByteArray) (a k:Nat):Prop:=a + spanL p (s.data.toList.drop a) = k + spanL p (s.data.toList.drop k)
theorem span_step (p:List UInt8 → Bool) (s:ByteArray) (a k:Nat) (hk:k < s.size) (hp:p (s.data.toList.drop k) = true) (h:SpanTo p s a k):SpanTo p s a (k + 1):=by
 unfold SpanTo at *
 rw [h]
 rw [dropK s k hk] at hp ⊢
 rw [span_yes hp]
 omega
theorem span_stop (p:List UInt8 → Bool) (s:ByteArray) (a k:Nat) (hk:k < s.size) (hp:p (s.data.toList.drop k) = false) (h:SpanTo p s a k):a + spanL p (s.data.toList.drop a) = k:=by
 unfold SpanTo at *
 rw [h]
 rw [dropK s k hk] at hp ⊢
 rw [span_no hp]
 omega
theorem span_end (p:List UInt8 → Bool) (s:ByteArray) (a k:Nat) (hk:¬ k < s.size) (h:SpanTo p s a k):a + spanL p (s.data.toList.drop a) = k:=by
 unfold SpanTo at *
 rw [h,List.drop_of_length_le (by simp;omega)]
 rfl
theorem blank_b (s:ByteArray) (a z:Nat) (hz:a + spanL blankL (s.data.toList.drop a) = z) (ha:a ≤ s.size) (hs:s.size ≤ 9223372036854775000) (b:Nat) (w:World) (hb:w.cell? ⟨b,0,none⟩ = some (.string s)) :
  Calls Tryz.prog 166 #[.string s,.int .i64 a,.func (.func 167) #[] #[.pointer (some ⟨b,0,none⟩)]] w (RetW (.int .i64 z) w):=by
 have C:=fun k hk=>Lib.hid (blank_c s k hk hs b w hb)
 replace C:=Lib.hid C
 have S:=fun k hk hp=>Lib.hid (span_step blankL s a k hk hp)
 replace S:=Lib.hid S
 have T:=fun k hk hp=>Lib.hid (fun h=>hz.symm.trans (span_stop blankL s a k hk hp h))
 replace T:=Lib.hid T
 have U:=fun k hk=>Lib.hid (fun h=>hz.symm.trans (span_end blankL s a k hk h))
 replace U:=Lib.hid U
 clear hb hz
 go_enter Tryz.func166,Tryz.ntmps166
 go_wp2
 go_loop [1] (fun i=>∃ k:Nat,k ≤ s.size ∧ i = .int .i64 k ∧ SpanTo blankL s a k) (fun i=>s.size - (intOf i).toNat)
 case atStart=>exact ⟨a,ha,rfl,rfl⟩
 case round =>
  obtain ⟨k,hk,rfl,hr⟩:=hrel
  by_cases hlt:k < s.size
  ·have C:=C.out k hlt
   rcases hp:blankL (s.data.toList.drop k)
   ·have T:=(T.out k hlt hp).out hr
    rw [hp] at C
    go_wp2_with ((with_reducible refine (C.out).mono ?_);rintro e w1 ⟨rfl,rfl⟩)
    go_returns
    exact ⟨by rw [T];rfl,rfl⟩
   ·have S:=Lib.hid ((S.out k hlt hp).out hr)
    rw [hp] at C
    go_wp2_with ((with_reducible refine (C.out).mono ?_);rintro e w1 ⟨rfl,rfl⟩)
    go_round
    case rel=>exact ⟨k + 1,by omega,by go_num,S.out⟩
    case measure=>simp [intOf];omega
  ·have U:=Lib.hid ((U.out k hlt).out hr)
   go_wp2
   go_returns
   exact ⟨by rw [U.out];rfl,rfl⟩
theorem digit_b (s:ByteArray) (a z:Nat) (hz:a + spanL digL (s.data.toList.drop a) = z) (ha:a ≤ s.size) (hs:s.size ≤ 9223372036854775000) (b:Nat) (w:World) (hb:w.cell? ⟨b,0,none⟩ = some (.string s)) :
  Calls Tryz.prog 166 #[.string s,.int .i64 a,.func (.func 195) #[] #[.pointer (some ⟨b,0,none⟩)]] w (RetW (.int .i64 z) w):=by
 have C:=fun k hk=>Lib.hid (digit_c s k hk hs b w hb)
 replace C:=Lib.hid C
 have S:=fun k hk hp=>Lib.hid (span_step digL s a k hk hp)
 replace S:=Lib.hid S
 have T:=fun k hk hp=>Lib.hid (fun h=>hz.symm.trans (span_stop digL s a k hk hp h))
 replace T:=Lib.hid T
 have U:=fun k hk=>Lib.hid (fun h=>hz.symm.trans (span_end digL s a k hk h))
 replace U:=Lib.hid U
 clear hb hz
 go_enter Tryz.func166,Tryz.ntmps166
 go_wp2
 go_loop [1] (fun i=>∃ k:Nat,k ≤ s.size ∧ i = .int .i64 k ∧ SpanTo digL s a k) (fun i=>s.size - (intOf i).toNat)
 case atStart=>exact ⟨a,ha,rfl,rfl⟩
 case round =>
  obtain ⟨k,hk,rfl,hr⟩:=hrel
  by_cases hlt:k < s.size
  ·have C:=C.out k hlt
   rcases hp:digL (s.data.toList.drop k)
   ·have T:=(T.out k hlt hp).out hr
    rw [hp] at C
    go_wp2_with ((with_reducible refine (C.out).mono ?_);rintro e w1 ⟨rfl,rfl⟩)
    go_returns
    exact ⟨by rw [T];rfl,rfl⟩
   ·have S:=Lib.hid ((S.out k hlt hp).out hr)
    rw [hp] at C
    go_wp2_with ((with_reducible refine (C.out).mono ?_);rintro e w1 ⟨rfl,rfl⟩)
    go_round
    case rel=>exact ⟨k + 1,by omega,by go_num,S.out⟩
    case measure=>simp [intOf];omega
  ·have U:=Lib.hid ((U.out k hlt).out hr)
   go_wp2
   go_returns
   exact ⟨by rw [U.out];rfl,rfl⟩
theorem word_b (s:ByteArray) (a z:Nat) (hz:a + spanL wordL (s.data.toList.drop a) = z) (ha:a ≤ s.size) (hs:s.size ≤ 9223372036854775000) (b:Nat) (w:World) (hb:w.cell? ⟨b,0,none⟩ = some (.string s)) :
  Calls Tryz.prog 166 #[.string s,.int .i64 a,.func (.func 192) #[] #[.pointer (some ⟨b,0,none⟩)]] w (RetW (.int .i64 z) w):=by
 have C:=fun k hk=>Lib.hid (word_c s k hk hs b w hb)
 replace C:=Lib.hid C
 have S:=fun k hk hp=>Lib.hid (span_step wordL s a k hk hp)
 replace S:=Lib.hid S
 have T:=fun k hk hp=>Lib.hid (fun h=>hz.symm.trans (span_stop wordL s a k hk hp h))
 replace T:=Lib.hid T
 have U:=fun k hk=>Lib.hid (fun h=>hz.symm.trans (span_end wordL s a k hk h))
 replace U:=Lib.hid U
 clear hb hz
 go_enter Tryz.func166,Tryz.ntmps166
 go_wp2
 go_loop [1] (fun i=>∃ k:Nat,k ≤ s.size ∧ i = .int .i64 k ∧ SpanTo wordL s a k) (fun i=>s.size - (intOf i).toNat)
 case atStart=>exact ⟨a,ha,rfl,rfl⟩
 case round =>
  obtain ⟨k,hk,rfl,hr⟩:=hrel
  by_cases hlt:k < s.size
  ·have C:=C.out k hlt
   rcases hp:wordL (s.data.toList.drop k)
   ·have T:=(T.out k hlt hp).out hr
    rw [hp] at C
    go_wp2_with ((with_reducible refine (C.out).mono ?_);rintro e w1 ⟨rfl,rfl⟩)
    go_returns
    exact ⟨by rw [T];rfl,rfl⟩
   ·have S:=Lib.hid ((S.out k hlt hp).out hr)
    rw [hp] at C
    go_wp2_with ((with_reducible refine (C.out).mono ?_);rintro e w1 ⟨rfl,rfl⟩)
    go_round
    case rel=>exact ⟨k + 1,by omega,by go_num,S.out⟩
    case measure=>simp [intOf];omega
  ·have U:=Lib.hid ((U.out k hlt).out hr)
   go_wp2
   go_returns
   exact ⟨by rw [U.out];rfl,rfl⟩
theorem blanks_any (s:ByteArray) (a z:Nat) (hz:a + spanL blankL (s.data.toList.drop a) = z) (ha:a ≤ s.size) (hs:s.size ≤ 9223372036854775000) (w:World) :
  Calls Tryz.prog 139 #[.string s,.int .i64 a] w (Ret (.int .i64 z) w):=by
 have B:=fun b wx hb=>Lib.hid (blank_b s a z hz ha hs b wx hb)
 replace B:=Lib.hid B
 have hmf:∀ (fn:Fn) (first cap:Array Value) (w:World),(Instr.makeFunc fn first cap).run Tryz.prog w = .ok (.func fn first cap) w:=fun _ _ _ _=>rfl
 clear hz
 go_enter Tryz.func139,Tryz.ntmps139
 go_wp2_with ((with_reducible refine ((B.out _ _ (by simp [go_sem])).out).mono ?_);rintro e w1 ⟨rfl,rfl⟩)
 go_returns
 exact ⟨rfl,by (first | exact gwT | exact lzT)⟩
end Go.Proofs.YtfgpmcepppcmiaaGreatDoor
namespace Go.Proofs.YtfgpmcepppcmiaaGreatDoor
open Go.Lib
theorem byte_eq (c:UInt8) (d:Nat) (hd:d < 256):((c.toNat:Int) == (d:Int)) = (c == UInt8.ofNat d):=by
 rw [Bool.eq_iff_iff,beq_iff_eq,beq_iff_eq]
 constructor
 ·intro h
  apply UInt8.toNat_inj.1
  rw [UInt8.toNat_ofNat',Nat.mod_eq_of_lt hd]
  omega
 ·rintro rfl
  rw [UInt8.toNat_ofNat',Nat.mod_eq_of_lt hd]
theorem dot_eq (c:UInt8):((c.toNat:Int) == 46) = (c == 46):=byte_eq c 46 (by decide)
theorem quote_eq (c:UInt8):((c.toNat:Int) == 39) = (c == 39):=byte_eq c 39 (by decide)
theorem long_plain (l:List UInt8):∀ n,(∀ c ∈ l,c ≠ 46) → longL n l = decide (16 < n + l.length):=by
 induction l with
 | nil=>intro n _;rfl
 | cons c r ih =>
  intro n h
  have hc:((c.toNat:Int) == 46) = false:=by rw [dot_eq,beq_eq_false_iff_ne];exact h c (by simp)
  rw [longL,hc,if_neg (by decide),ih (n + 1) (fun d hd=>h d (by simp [hd])),List.length_cons]
  congr 1
  rw [eq_iff_iff]
  omega
theorem long_cut (l r:List UInt8):∀ n,(∀ c ∈ l,c ≠ 46) → longL n (l ++ 46 :: r) = (decide (16 < n + l.length) || longL 0 r):=by
 induction l with
 | nil=>intro n _;rw [List.nil_append,longL];rfl
 | cons c l ih =>
  intro n h
  have hc:((c.toNat:Int) == 46) = false:=by rw [dot_eq,beq_eq_false_iff_ne];exact h c (by simp)
  rw [List.cons_append,longL,hc,if_neg (by decide),ih (n + 1) (fun d hd=>h d (by simp [hd])),List.length_cons]
  congr 2
  rw [eq_iff_iff]
  omega
theorem dotL_eq (l:List UInt8):dotL l = l.contains 46:=by
 unfold dotL
 rw [List.contains_eq_any_beq]
 congr 1
 funext c
 rw [dot_eq,Bool.eq_iff_iff,beq_iff_eq,beq_iff_eq]
 exact ⟨Eq.symm,Eq.symm⟩
theorem occ_one (l:List UInt8) (c:UInt8) (j:Nat):occAt l [c] j = (l[j]? == some c):=by
 unfold occAt
 rw [← List.head?_drop]
 cases h:l.drop j with
 | nil=>rfl
 | cons d r =>
  rw [Bool.eq_iff_iff]
  simp [List.isPrefixOf]
  exact ⟨Eq.symm,Eq.symm⟩
theorem index_one (l:List UInt8) (c:UInt8):(index l [c] = -1 ∧ ∀ d ∈ l,d ≠ c) ∨ ∃ a r,l = a ++ c :: r ∧ index l [c] = a.length ∧ ∀ d ∈ a,d ≠ c:=by
 rcases index_spec l [c] with ⟨h,hn⟩ | ⟨i,h,hi,ho,hn⟩
 ·refine .inl ⟨h,fun d hd he=>?_⟩
  subst he
  obtain ⟨j,hj,hjd⟩:=List.getElem_of_mem hd
  have:=hn j (by omega)
  rw [occ_one,List.getElem?_eq_getElem hj,hjd] at this
  simp at this
 ·rw [occ_one,beq_iff_eq] at ho
  have hlt:i < l.length:=by
   rcases Nat.lt_or_ge i l.length with h1 | h1
   ·exact h1
   ·rw [List.getElem?_eq_none h1] at ho;cases ho
  have he:l[i] = c:=by rw [List.getElem?_eq_getElem hlt] at ho;exact Option.some.inj ho
  refine .inr ⟨l.take i,l.drop (i + 1),?_,?_,?_⟩
  ·rw [← he,← List.drop_eq_getElem_cons hlt,List.take_append_drop]
  ·rw [h,List.length_take,Nat.min_eq_left hi]
  ·intro d hd hdc
   subst hdc
   obtain ⟨j,hj,hjd⟩:=List.getElem_of_mem hd
   have hj':j < i:=by rw [List.length_take] at hj;omega
   have:=hn j hj'
   rw [occ_one,List.getElem?_eq_getElem (by omega),beq_eq_false_iff_ne] at this
   rw [List.getElem_take] at hjd
   exact this (by rw [hjd])
theorem pieces_list:∀ (k:Nat) (t:List UInt8),count t [46] = k → (splitK [46] 0 k t).any (fun p=>decide (16 < p.length)) = longL 0 t ∧ dotL t = decide (0 < k)
 | 0,t,hk=>by
  rcases index_one t 46 with ⟨h,hn⟩ | ⟨a,r,he,h,hn⟩
  ·refine ⟨?_,?_⟩
   ·rw [long_plain t 0 hn]
    simp [splitK]
   ·rw [dotL_eq]
    simp only [Nat.lt_irrefl,decide_false,List.contains_eq_mem,decide_eq_false_iff_not]
    exact fun h=>hn 46 h rfl
  ·rw [count_hit (i:=a.length) (by simp) h] at hk
   omega
 | k + 1,t,hk=>by
  rcases index_one t 46 with ⟨h,hn⟩ | ⟨a,r,he,h,hn⟩
  ·rw [count_miss h] at hk;omega
  ·have hd:t.drop (a.length + 1) = r:=by rw [he,List.drop_append,List.drop_of_length_le (by omega)];simp
   rw [count_hit (i:=a.length) (by simp) h] at hk
   have hk':count r [46] = k:=by
    have:count (t.drop (a.length + [(46:UInt8)].length)) [46] = k:=by omega
    rw [← hd];exact this
   have ih:=pieces_list k r hk'
   refine ⟨?_,?_⟩
   ·have hne:(index t [46] == -1) = false:=by rw [h,beq_eq_false_iff_ne];omega
    rw [splitK,hne,if_neg (by decide),h]
    simp only [Int.toNat_natCast,Nat.add_zero,List.any_cons,List.length_singleton]
    rw [hd,ih.1,he,long_cut a r 0 hn,List.take_left' rfl]
    simp
   ·rw [dotL_eq,he]
    simp
def pieces (t:ByteArray):List ByteArray:=splitB ⟨#[46]⟩ 0 (countB t ⟨#[46]⟩) t
theorem pieces_length (t:ByteArray):(pieces t).length = countB t ⟨#[46]⟩ + 1:=splitB_all _ (by decide) 0 _ t rfl
theorem pieces_any (t:ByteArray):(pieces t).any (fun p=>decide (16 < p.size)) = longL 0 t.data.toList ∧ dotL t.data.toList = decide (1 < (pieces t).length):=by
 have h:=pieces_list (countB t ⟨#[46]⟩) t.data.toList rfl
 have hd:(pieces t).map (·.data.toList) = splitK [46] 0 (countB t ⟨#[46]⟩) t.data.toList:=splitB_data _ _ _ _
 rw [← hd] at h
 refine ⟨?_,?_⟩
 ·rw [← h.1,List.any_map]
  congr 1
 ·rw [h.2,pieces_length]
  congr 1
  rw [eq_iff_iff]
  omega
theorem cut_one (l:List UInt8) (c:UInt8):((cut l [c]).2.2 = false ∧ ∀ d ∈ l,d ≠ c) ∨ ∃ a r,l = a ++ c :: r ∧ (cut l [c]).1 = a ∧ (cut l [c]).2.2 = true ∧ ∀ d ∈ a,d ≠ c:=by
 unfold cut
 rcases index_one l c with ⟨h,hn⟩ | ⟨a,r,he,h,hn⟩
 ·refine .inl ⟨?_,hn⟩
  simp [h]
 ·refine .inr ⟨a,r,he,?_,?_,hn⟩
  ·simp only [h]
   simp [he]
  ·simp only [h]
   simp
theorem span_text (l:List UInt8) (h:∀ d ∈ l,d ≠ 39):spanL textL l = l.length:=by
 induction l with
 | nil=>rfl
 | cons c r ih =>
  have hc:textL (c :: r) = true:=by
   show (!((c.toNat:Int) == 39)) = true
   rw [quote_eq,beq_eq_false_iff_ne.2 (h c (by simp))];rfl
  rw [span_yes hc,ih (fun d hd=>h d (by simp [hd])),List.length_cons]
theorem span_text_cut (a r:List UInt8) (h:∀ d ∈ a,d ≠ 39):spanL textL (a ++ 39 :: r) = a.length:=by
 induction a with
 | nil=>exact span_no (p:=textL) rfl
 | cons c a ih =>
  have hc:textL (c :: (a ++ 39 :: r)) = true:=by
   show (!((c.toNat:Int) == 39)) = true
   rw [quote_eq,beq_eq_false_iff_ne.2 (h c (by simp))];rfl
  rw [List.cons_append,span_yes hc,ih (fun d hd=>h d (by simp [hd])),List.length_cons]
end Go.Proofs.YtfgpmcepppcmiaaGreatDoor
namespace Go.Proofs.YtfgpmcepppcmiaaGreatDoor
open Go.RowKit
def MaxL (w:World):Prop:=∃ m,w.cell? ⟨6,0,none⟩ = some (.int .i64 m)
theorem maxl_below {w w':World} (h:MaxL w) (hb:Below w.heap.size w w'):MaxL w':=by
 obtain ⟨m,h⟩:=h
 exact ⟨m,(hb.cell (World.block_lt_of_cell? _ _ h)).trans h⟩
def rdV (a:Nat):Tok → Value
 | .ok (k,t,n,z) => .tuple #[.agg #[.int .i64 k,.string ⟨t.toArray⟩,.int .i64 n,.int .i64 0],.int .i64 ((a + z:Nat):Int),.int .i64 0]
 | .error x => .tuple #[.agg #[.int .i64 0,.string ⟨#[]⟩,.int .i64 0,.int .i64 0],.int .i64 0,.int .i64 x]
theorem slice_s (s:ByteArray) (a e:Nat) (hae:a ≤ e) (he:e ≤ s.size) (t:ByteArray) (ht:s.extract a e = t) (wx:World) :
  (Instr.slice 9 (.string s) (some (.int .i64 (a:Int))) (some (.int .i64 (e:Int))) none).run Tryz.prog wx = .ok (.string t) wx:=by
 have:=run_slice_string (P:=Tryz.prog) wx 9 s .i64 .i64 a e Tryz.underlying9 (by omega) (by omega) (by omega)
 rw [this,show ((a:Int).toNat) = a from rfl,show ((e:Int).toNat) = e from rfl,ht]
def SplitIs (ps:List ByteArray) (w:World) (e:Ending) (w':World):Prop:=∃ g:Nat,e = .returned (.slice (some ⟨g,0,none⟩) ps.length ps.length) ∧ g < w'.heap.size ∧
 (∀ i (h:i < ps.length),w'.cell? ⟨g,i,none⟩ = some (.string ps[i])) ∧ Below w.heap.size w w'
theorem split_any (t:ByteArray) (ht:t.size ≤ 2000000) (w:World) (hw:MaxL w):Calls Tryz.prog 194 #[.string t,.string ⟨#[46]⟩] w (SplitIs (pieces t) w):=by
 obtain ⟨m,hm⟩:=hw
 refine (Any.strings_Split Tryz.lays146 (by kernel_rfl) t ⟨#[46]⟩ m w (by omega) hm (by decide)).mono fun e w' ⟨he,hw⟩=>?_
 subst hw
 refine ⟨w.heap.size,?_,by simp,fun i h=>?_,?_⟩
 ·rw [he,pieces_length]
 ·rw [World.cell?_alloc_mark w _ _ (0,0) i]
  simp only [pieces] at h ⊢
  simp [List.getElem?_map,List.getElem?_eq_getElem h]
 ·exact (Below.refl _ w).alloc (Nat.le_refl _) _
theorem take_data (s:ByteArray) (a z:Nat):(s.extract a (a + z)).data.toList = (s.data.toList.drop a).take z:=by
 rw [Lib.extract_eq,Nat.add_sub_cancel_left]
theorem wordT_long (s:ByteArray) (a z:Nat) (hz:spanL wordL (s.data.toList.drop a) = z) (t:ByteArray) (ht:s.extract a (a + z) = t) (h:decide (32 < t.size) || longL 0 t.data.toList):wordT (s.data.toList.drop a) = .error 15:=by
 subst ht
 unfold wordT
 simp only [hz,← take_data,← Lib.size_eq]
 rw [if_pos h]
theorem wordT_ok (s:ByteArray) (a z:Nat) (hz:spanL wordL (s.data.toList.drop a) = z) (t:ByteArray) (ht:s.extract a (a + z) = t) (hl:t.size = z) (h:(decide (32 < t.size) || longL 0 t.data.toList) = false) (d:Bool) (hd:dotL t.data.toList = d) :
  rdV a (wordT (s.data.toList.drop a)) = .tuple #[.agg #[.int .i64 (if d then 2 else 1),.string t,.int .i64 0,.int .i64 0],.int .i64 ((a + z:Nat):Int),.int .i64 0]:=by
 subst ht
 unfold wordT
 simp only [hz,← take_data,← Lib.size_eq,hl]
 rw [hl] at h
 rw [h]
 simp only [Bool.false_eq_true,if_false,rdV,hd]
def wordA (n:Nat) (ps:List ByteArray) (i:Nat):Prop:=∀ j (h:j < ps.length),j < i → ps[j].size ≤ n
theorem wordA_end {n:Nat} {ps:List ByteArray} (h:wordA n ps ps.length):ps.any (fun p=>decide (n < p.size)) = false:=by
 rw [List.any_eq_false]
 intro p hp
 obtain ⟨j,hj,rfl⟩:=List.getElem_of_mem hp
 have:=h j hj hj
 simp;omega
theorem wordA_bad {n:Nat} {ps:List ByteArray} {i:Nat} (hi:i < ps.length) (h:n < ps[i].size):ps.any (fun p=>decide (n < p.size)) = true:=by
 rw [List.any_eq_true]
 exact ⟨ps[i],List.getElem_mem hi,by simpa using h⟩
theorem wordA_succ {n:Nat} {ps:List ByteArray} {i:Nat} (hi:i < ps.length) (h:ps[i].size ≤ n) (ha:wordA n ps i):wordA n ps (i + 1):=by
 intro j hj hji
 rcases Nat.lt_or_eq_of_le (Nat.le_of_lt_succ hji) with h1 | rfl
 ·exact ha j hj h1
 ·exact h
set_option maxRecDepth 100000 in
set_option maxHeartbeats 1000000 in
theorem tword_any (s:ByteArray) (a:Nat) (ha:a ≤ s.size) (hs:s.size ≤ 140737488351232) (w:World) (hw:MaxL w) :
  Calls Tryz.prog 169 #[.string s,.int .i64 a] w (Ret (rdV a (wordT (s.data.toList.drop a))) w):=by
 obtain ⟨z,hz⟩:∃ z,spanL wordL (s.data.toList.drop a) = z:=⟨_,rfl⟩
 have hle:a + z ≤ s.size:=by
  have:=spanL_le wordL (s.data.toList.drop a)
  rw [hz,List.length_drop] at this
  have e:s.data.toList.length = s.size:=by simp
  omega
 obtain ⟨t,ht⟩:∃ t,s.extract a (a + z) = t:=⟨_,rfl⟩
 have hl:t.size = z:=by rw [← ht,ByteArray.size_extract];omega
 obtain ⟨e,he⟩:∃ e,a + z = e:=⟨_,rfl⟩
 have B:=fun b wx hb=>Lib.hid (word_b s a e (by rw [hz];exact he) ha (by omega) b wx hb)
 replace B:=Lib.hid B
 have hsl:=slice_s s a e (by omega) (by omega) t (by rw [← he];exact ht)
 have hmf:∀ (fn:Fn) (first cap:Array Value) (w:World),(Instr.makeFunc fn first cap).run Tryz.prog w = .ok (.func fn first cap) w:=fun _ _ _ _=>rfl
 have S:=fun (h5:t.size ≤ 32) wx (h:Below w.heap.size w wx)=>Lib.hid (split_any t (by omega) wx (maxl_below hw h))
 by_cases h32:32 < t.size
 ·rw [wordT_long s a z hz t ht (by simp [h32])]
  clear hw hz ht he hl S
  unfold rdV
  go_enter Tryz.func169,Tryz.ntmps169
  go_wp2_with (first | ((with_reducible refine ((B.out _ _ (by simp [go_sem])).out).mono ?_);rintro e w1 ⟨rfl,rfl⟩))
  go_returns
  exact ⟨rfl,by (first | exact gwT | exact lzT)⟩
 ·replace S:=Lib.hid (S (by omega))
  obtain ⟨hany,hdot⟩:=pieces_any t
  have hbig:(pieces t).length ≤ 200000:=by
   have:=Lib.countB_le ⟨#[46]⟩ (by decide) t.size t (Nat.le_refl _)
   rw [pieces_length];omega
  have hone:1 ≤ (pieces t).length:=by rw [pieces_length];omega
  generalize pieces t = ps at *
  rcases hb:ps.any (fun p=>decide (16 < p.size))
  ·rw [hb] at hany
   have h32':decide (32 < t.size) = false:=by simpa using h32
   obtain ⟨d,hd⟩:∃ d,decide (1 < ps.length) = d:=⟨_,rfl⟩
   rw [wordT_ok s a z hz t ht hl (by rw [← hany,h32'];rfl) d (by rw [hdot];exact hd),he]
   have W:=fun i hi h=>Lib.hid (wordA_bad (n:=16) (ps:=ps) (i:=i) hi h)
   replace W:=Lib.hid W
   replace hb:=Lib.hid hb
   clear hw hz ht he hl hany hdot h32'
   rcases Nat.lt_or_ge 1 ps.length with hlen | hlen
   all_goals
    obtain rfl:d = _:=hd.symm.trans (by first | exact decide_eq_true hlen | exact decide_eq_false (Nat.not_lt.2 hlen))
    go_enter Tryz.func169,Tryz.ntmps169
    go_wp2_with (first | ((with_reducible refine ((B.out _ _ (by simp [go_sem])).out).mono ?_);rintro e w1 ⟨rfl,rfl⟩) | ((with_reducible refine ((S.out _ (by (first | exact gwT | exact lzT))).out).mono ?_);intro e w1 hr;obtain ⟨g,rfl,hg,hc,hb⟩:=hr;obtain ⟨q,rfl⟩:=toG hb;clear hb;skip))
    replace hc:=Lib.hid hc
    go_loop [28] (fun v=>∃ i:Nat,i ≤ ps.length ∧ v = .int .i64 i) (fun v=>ps.length - (intOf v).toNat)
    case atStart=>exact ⟨0,Nat.zero_le _,rfl⟩
    case round =>
     obtain ⟨i,hi,rfl⟩:=hrel
     by_cases hlt:i < ps.length
     ·have hcell:=hc.out i hlt
      have hshort:¬ 16 < ps[i].size:=fun h=>by
       have:=(W.out i hlt h).out
       rw [hb.out] at this
       cases this
      go_wp2
      go_round
      case rel=>exact ⟨i + 1,by omega,by go_num⟩
      case measure=>simp [intOf];omega
     ·obtain rfl:i = ps.length:=by omega
      go_wp2
      go_returns
      exact ⟨rfl,by (first | exact gwT | exact lzT)⟩
  ·rw [hb] at hany
   rw [wordT_long s a z hz t ht (by rw [← hany];simp)]
   have W:=fun h=>Lib.hid (wordA_end (n:=16) (ps:=ps) h)
   replace W:=Lib.hid W
   replace hb:=Lib.hid hb
   clear hw hz ht he hl hany hdot hone
   unfold rdV
   go_enter Tryz.func169,Tryz.ntmps169
   go_wp2_with (first | ((with_reducible refine ((B.out _ _ (by simp [go_sem])).out).mono ?_);rintro e w1 ⟨rfl,rfl⟩) | ((with_reducible refine ((S.out _ (by (first | exact gwT | exact lzT))).out).mono ?_);intro e w1 hr;obtain ⟨g,rfl,hg,hc,hb⟩:=hr;obtain ⟨q,rfl⟩:=toG hb;clear hb;skip))
   replace hc:=Lib.hid hc
   go_loop [28] (fun v=>∃ i:Nat,i ≤ ps.length ∧ v = .int .i64 i ∧ wordA 16 ps i) (fun v=>ps.length - (intOf v).toNat)
   case atStart=>exact ⟨0,Nat.zero_le _,rfl,fun j _ h=>absurd h (Nat.not_lt_zero _)⟩
   case round =>
    obtain ⟨i,hi,rfl,hall⟩:=hrel
    by_cases hlt:i < ps.length
    ·have hcell:=hc.out i hlt
     by_cases hlong:16 < ps[i].size
     ·go_wp2
      go_returns
      exact ⟨rfl,by (first | exact gwT | exact lzT)⟩
     ·have hnext:=Lib.hid (wordA_succ hlt (by omega) hall)
      go_wp2
      go_round
      case rel=>exact ⟨i + 1,by omega,by go_num,hnext.out⟩
      case measure=>simp [intOf];omega
    ·obtain rfl:i = ps.length:=by omega
     have:=(W.out hall).out
     rw [hb.out] at this
     cases this
end Go.Proofs.YtfgpmcepppcmiaaGreatDoor
namespace Go.Proofs.YtfgpmcepppcmiaaGreatDoor
open Go.RowKit
theorem dig_nat {c:UInt8} (h:digB c = true):48 ≤ c.toNat ∧ c.toNat ≤ 57:=by
 simp only [digB,Bool.and_eq_true,decide_eq_true_eq] at h
 omega
theorem span_digits:∀ l:List UInt8,∀ c ∈ l.take (spanL digL l),digB c = true
 | [],c,h=>by simp at h
 | d :: r,c,h=>by
  cases hd:digB d
  ·rw [span_no (p:=digL) hd] at h;simp at h
  ·rw [span_yes (p:=digL) hd,List.take_succ_cons,List.mem_cons] at h
   rcases h with rfl | h
   ·exact hd
   ·exact span_digits r c h
def valF (acc:Nat) (l:List UInt8):Nat:=l.foldl (fun a c=>a * 10 + (c.toNat - 48)) acc
theorem valF_ge:∀ (l:List UInt8) (acc:Nat),acc ≤ valF acc l
 | [],acc=>Nat.le_refl _
 | c :: r,acc=>by
  have:=valF_ge r (acc * 10 + (c.toNat - 48))
  show acc ≤ valF (acc * 10 + (c.toNat - 48)) r
  omega
theorem parse_fits:∀ (l:List UInt8) (acc:Nat),(∀ c ∈ l,digB c = true) → valF acc l ≤ 18446744073709551615 → Lib.parseUintM 18446744073709551615 acc l = .ok (valF acc l)
 | [],acc,_,_=>rfl
 | c :: r,acc,hd,h=>by
  have h1:=dig_nat (hd c (by simp))
  have h2:valF (acc * 10 + (c.toNat - 48)) r ≤ 18446744073709551615:=h
  have h3:=valF_ge r (acc * 10 + (c.toNat - 48))
  rw [Lib.parseUintM,if_pos h1,if_neg (by omega),if_neg (by omega),parse_fits r _ (fun d hd'=>hd d (by simp [hd'])) h2]
  rfl
theorem parse_only:∀ (l:List UInt8) (acc u:Nat),Lib.parseUintM 18446744073709551615 acc l = .ok u → u = valF acc l
 | [],acc,u,h=>by
  simp only [Lib.parseUintM] at h
  exact (Lib.NumEnd.ok.inj h).symm
 | c :: r,acc,u,h=>by
  rw [Lib.parseUintM] at h
  split at h
  ·split at h
   ·cases h
   ·split at h
    ·cases h
    ·exact parse_only r _ u h
  ·cases h
theorem parse_val (l:List UInt8) (hne:l ≠ []) (hd:∀ c ∈ l,digB c = true) (h:valL l ≤ 9223372036854775807):Lib.parseIntB 64 l = .ok (valL l:Int):=by
 obtain ⟨c,r,rfl⟩:∃ c r,l = c :: r:=by cases l with | nil=>exact absurd rfl hne | cons c r=>exact ⟨c,r,rfl⟩
 have h1:=dig_nat (hd c (by simp))
 have hu:Lib.parseUintB 64 (c :: r) = .ok (valL (c :: r)):=by
  unfold Lib.parseUintB
  rw [if_neg (by simp)]
  exact parse_fits (c :: r) 0 hd (Nat.le_trans h (by decide))
 rw [Lib.parseIntB_plain 64 c r (by omega) (by omega),hu]
 have h3:¬ 9223372036854775808 ≤ valL (c :: r):=by omega
 simp [Lib.signlessC,h3]
theorem parse_over (l:List UInt8) (hne:l ≠ []) (hd:∀ c ∈ l,digB c = true) (h:9223372036854775807 < valL l) (v:Int):Lib.parseIntB 64 l ≠ .ok v:=by
 obtain ⟨c,r,rfl⟩:∃ c r,l = c :: r:=by cases l with | nil=>exact absurd rfl hne | cons c r=>exact ⟨c,r,rfl⟩
 have h1:=dig_nat (hd c (by simp))
 rw [Lib.parseIntB_plain 64 c r (by omega) (by omega)]
 cases hu:Lib.parseUintB 64 (c :: r) with
 | ok u =>
  have:u = valL (c :: r):=by
   unfold Lib.parseUintB at hu
   rw [if_neg (by simp)] at hu
   exact parse_only _ _ _ hu
  subst this
  have h3:9223372036854775808 ≤ valL (c :: r):=by omega
  simp [Lib.signlessC,h3]
 | _=>simp [Lib.signlessC]
theorem byte48 (c:UInt8):((c.toNat:Int) == 48) = (c == 48):=byte_eq c 48 (by decide)
def leadB (t:ByteArray):Bool:=decide (1 < t.size) && t.data.toList.head? == some 48
theorem numT_lead (s:ByteArray) (a z:Nat) (hz:spanL digL (s.data.toList.drop a) = z) (t:ByteArray) (ht:s.extract a (a + z) = t) (h:leadB t = true):numT (s.data.toList.drop a) = .error 11:=by
 subst ht
 unfold numT
 simp only [hz,← take_data,← Lib.size_eq]
 unfold leadB at h
 rw [if_pos h]
theorem numT_over (s:ByteArray) (a z:Nat) (hz:spanL digL (s.data.toList.drop a) = z) (t:ByteArray) (ht:s.extract a (a + z) = t) (h:leadB t = false) (hv:9223372036854775807 < valL t.data.toList):numT (s.data.toList.drop a) = .error 21:=by
 subst ht
 unfold numT
 simp only [hz,← take_data,← Lib.size_eq]
 unfold leadB at h
 rw [h,if_neg (by decide),if_pos hv]
theorem numT_ok (s:ByteArray) (a z:Nat) (hz:spanL digL (s.data.toList.drop a) = z) (t:ByteArray) (ht:s.extract a (a + z) = t) (hl:t.size = z) (h:leadB t = false) (hv:¬ 9223372036854775807 < valL t.data.toList) :
  numT (s.data.toList.drop a) = .ok (3,t.data.toList,valL t.data.toList,z):=by
 subst ht
 unfold numT
 simp only [hz,← take_data,← Lib.size_eq,hl]
 unfold leadB at h
 rw [hl] at h
 rw [h,if_neg (by decide),if_neg hv]
set_option maxRecDepth 100000 in
set_option maxHeartbeats 1000000 in
theorem tnumber_any (s:ByteArray) (a:Nat) (ha:a < s.size) (hd:digB s[a] = true) (hs:s.size ≤ 140737488351232) (w:World) (hw:Errs w) :
  Calls Tryz.prog 171 #[.string s,.int .i64 a] w (Ret (rdV a (numT (s.data.toList.drop a))) w):=by
 obtain ⟨z,hz⟩:∃ z,spanL digL (s.data.toList.drop a) = z:=⟨_,rfl⟩
 have hz1:1 ≤ z:=by
  rw [← hz,dropK s a ha,span_yes (p:=digL) hd];omega
 have hle:a + z ≤ s.size:=by
  have:=spanL_le digL (s.data.toList.drop a)
  rw [hz,List.length_drop] at this
  have e:s.data.toList.length = s.size:=by simp
  omega
 obtain ⟨t,ht⟩:∃ t,s.extract a (a + z) = t:=⟨_,rfl⟩
 have hl:t.size = z:=by rw [← ht,ByteArray.size_extract];omega
 obtain ⟨e,he⟩:∃ e,a + z = e:=⟨_,rfl⟩
 have B:=fun b wx hb=>Lib.hid (digit_b s a e (by rw [hz];exact he) (by omega) (by omega) b wx hb)
 replace B:=Lib.hid B
 have hsl:=slice_s s a e (by omega) (by omega) t (by rw [← he];exact ht)
 have hmf:∀ (fn:Fn) (first cap:Array Value) (w:World),(Instr.makeFunc fn first cap).run Tryz.prog w = .ok (.func fn first cap) w:=fun _ _ _ _=>rfl
 have h0:0 < t.size:=by omega
 have hne:t.data.toList ≠ []:=by
  intro h;rw [Lib.size_eq,h] at h0;exact absurd h0 (by decide)
 have hall:∀ c ∈ t.data.toList,digB c = true:=by
  have:=span_digits (s.data.toList.drop a)
  rw [hz,← take_data,ht] at this
  exact this
 have hhead:t.data.toList.head? = some t[0]:=by
  have:=dropK t 0 h0
  rw [List.drop_zero] at this
  rw [this];rfl
 rcases hlead:leadB t
 ·have hg:t.size ≤ 1 ∨ ((t[0].toNat:Int) == 48) = false:=by
   unfold leadB at hlead
   rw [Bool.and_eq_false_iff] at hlead
   rcases hlead with h | h
   ·exact .inl (by simpa using h)
   ·refine .inr ?_
    rw [byte48,beq_eq_false_iff_ne]
    rw [hhead,beq_eq_false_iff_ne] at h
    exact fun hc=>h (by rw [hc])
  have hsz:1 < t.size ∨ ¬ 1 < t.size:=by omega
  by_cases hv:9223372036854775807 < valL t.data.toList
  ·rw [numT_over s a z hz t ht hlead hv]
   have P:=fun wx h=>Lib.hid (parse_bad t (by omega) (fun v=>parse_over _ hne hall hv v) wx (errs_below hw h))
   replace P:=Lib.hid P
   clear hz ht he hne hall hhead hlead hv hw hd
   unfold rdV
   rcases hg with hg | hg
   ·go_enter Tryz.func171,Tryz.ntmps171
    go_wp2_with (first | ((with_reducible refine ((B.out _ _ (by simp [go_sem])).out).mono ?_);rintro e w1 ⟨rfl,rfl⟩) | ((with_reducible refine ((P.out _ (by (first | exact gwT | exact lzT))).out).mono ?_);intro e w1 hr;obtain ⟨x,t,n,p,rfl,rfl⟩:=hr.out;clear hr;skip))
    go_returns
    exact ⟨rfl,by (first | exact gwT | exact lzT)⟩
   ·rcases hsz with hsz | hsz
    all_goals
     go_enter Tryz.func171,Tryz.ntmps171
     go_wp2_with (first | ((with_reducible refine ((B.out _ _ (by simp [go_sem])).out).mono ?_);rintro e w1 ⟨rfl,rfl⟩) | ((with_reducible refine ((P.out _ (by (first | exact gwT | exact lzT))).out).mono ?_);intro e w1 hr;obtain ⟨x,t,n,p,rfl,rfl⟩:=hr.out;clear hr;skip))
     go_returns
     exact ⟨rfl,by (first | exact gwT | exact lzT)⟩
  ·rw [numT_ok s a z hz t ht hl hlead hv]
   obtain ⟨v,hvv⟩:∃ v:Nat,valL t.data.toList = v:=⟨_,rfl⟩
   have P:=fun wx=>Lib.hid (parse_ok t (by omega) v (by rw [← hvv];exact parse_val _ hne hall (by omega)) wx)
   replace P:=Lib.hid P
   have hr:rdV a (.ok (3,t.data.toList,(valL t.data.toList:Int),z)) = .tuple #[.agg #[.int .i64 3,.string t,.int .i64 v,.int .i64 0],.int .i64 e,.int .i64 0]:=by
    rw [← he,← hvv];rfl
   rw [hr]
   clear hr hz ht he hne hall hhead hlead hv hvv hw hd
   rcases hg with hg | hg
   ·go_enter Tryz.func171,Tryz.ntmps171
    go_wp2_with (first | ((with_reducible refine ((B.out _ _ (by simp [go_sem])).out).mono ?_);rintro e w1 ⟨rfl,rfl⟩) | ((with_reducible refine ((P.out _).out).mono ?_);intro e w1 hr;obtain ⟨rfl,p,rfl⟩:=hr.out;clear hr))
    go_returns
    exact ⟨rfl,by (first | exact gwT | exact lzT)⟩
   ·rcases hsz with hsz | hsz
    all_goals
     go_enter Tryz.func171,Tryz.ntmps171
     go_wp2_with (first | ((with_reducible refine ((B.out _ _ (by simp [go_sem])).out).mono ?_);rintro e w1 ⟨rfl,rfl⟩) | ((with_reducible refine ((P.out _).out).mono ?_);intro e w1 hr;obtain ⟨rfl,p,rfl⟩:=hr.out;clear hr))
     go_returns
     exact ⟨rfl,by (first | exact gwT | exact lzT)⟩
 ·rw [numT_lead s a z hz t ht hlead]
  unfold leadB at hlead
  rw [Bool.and_eq_true,decide_eq_true_eq,hhead] at hlead
  have h1:1 < t.size:=hlead.1
  have hg:((t[0].toNat:Int) == 48) = true:=by
   rw [byte48,beq_iff_eq]
   have:=hlead.2
   rw [beq_iff_eq] at this
   exact Option.some.inj this
  clear hz ht he hne hall hhead hlead hw hd
  unfold rdV
  go_enter Tryz.func171,Tryz.ntmps171
  go_wp2_with (first | ((with_reducible refine ((B.out _ _ (by simp [go_sem])).out).mono ?_);rintro e w1 ⟨rfl,rfl⟩))
  go_returns
  exact ⟨rfl,by (first | exact gwT | exact lzT)⟩
def CutIs (l:List UInt8) (w:World) (e:Ending) (w':World):Prop:=∃ y,e = .returned (.tuple #[.string ⟨(Lib.cut l [39]).1.toArray⟩,.string y,.bool (Lib.cut l [39]).2.2]) ∧ Below w.heap.size w w'
theorem CutIs.out {l:List UInt8} {w:World} {e:Ending} {w':World} (h:CutIs l w e w'):∃ y p,e = .returned (.tuple #[.string ⟨(Lib.cut l [39]).1.toArray⟩,.string y,.bool (Lib.cut l [39]).2.2]) ∧ w' = G p w:=by
 obtain ⟨y,he,hb⟩:=h
 obtain ⟨p,hp⟩:=toG hb
 exact ⟨y,p,he,hp⟩
theorem index39_any (t:ByteArray) (w:World):Calls Tryz.prog 136 #[.string t,.string ⟨#[39]⟩] w (RetW (.int .i64 (Lib.indexB t ⟨#[39]⟩)) w) :=
 (Any.stringslite_Index_one Tryz.lays219 t 39 w).mono fun _ _ ⟨he,hw⟩=>⟨by rw [he,← Lib.index_one],hw.symm⟩
set_option maxRecDepth 100000 in
set_option maxHeartbeats 1000000 in
theorem cutl_any (t:ByteArray) (ht:t.size ≤ 140737488351232) (w:World):Calls Tryz.prog 217 #[.string t,.string ⟨#[39]⟩] w (CutIs t.data.toList w):=by
 have I:=fun wx=>index39_any t wx
 rcases Lib.indexB_cases t ⟨#[39]⟩ with hix | ⟨i,hix,hroom⟩
 ·obtain ⟨e1,e2,e3⟩:=Lib.cutB_miss t ⟨#[39]⟩ hix
  have hd:=Lib.hid (show CutIs t.data.toList w = fun e w'=>∃ y,e = .returned (.tuple #[.string t,.string y,.bool false]) ∧ Below w.heap.size w w' by
   funext e w'
   unfold CutIs
   rw [show (Lib.cut t.data.toList [39]).1 = (Lib.cut t.data.toList (⟨#[39]⟩:ByteArray).data.toList).1 from rfl,e1,show (Lib.cut t.data.toList [39]).2.2 = (Lib.cut t.data.toList (⟨#[39]⟩:ByteArray).data.toList).2.2 from rfl,e3])
  rw [hd.out]
  rw [hix] at I
  replace I:=Lib.hid I
  clear hd e1 e2 e3 hix
  go_enter Tryz.func217,Tryz.ntmps217
  go_wp2_with ((with_reducible refine (I.out _).mono ?_);rintro e w1 ⟨rfl,rfl⟩)
  go_returns
  exact ⟨_,rfl,by (first | exact gwT | exact lzT)⟩
 ·obtain ⟨e1,e2,e3⟩:=Lib.cutB_hit t ⟨#[39]⟩ i hix
  have hd:=Lib.hid (show CutIs t.data.toList w = fun e w'=>∃ y,e = .returned (.tuple #[.string (t.extract 0 i),.string y,.bool true]) ∧ Below w.heap.size w w' by
   funext e w'
   unfold CutIs
   rw [show (Lib.cut t.data.toList [39]).1 = (Lib.cut t.data.toList (⟨#[39]⟩:ByteArray).data.toList).1 from rfl,e1,show (Lib.cut t.data.toList [39]).2.2 = (Lib.cut t.data.toList (⟨#[39]⟩:ByteArray).data.toList).2.2 from rfl,e3])
  rw [hd.out]
  rw [hix] at I
  have hsz:(⟨#[39]⟩:ByteArray).size = 1:=rfl
  rw [hsz] at hroom
  replace I:=Lib.hid I
  have c2:(i:Int) ≤ (t.size:Int):=by omega
  have c4:(i:Int) + 1 ≤ (t.size:Int):=by omega
  have c5:IntKind.i64.wrap ((i:Int) + 1) = (i:Int) + 1:=by rw [IntKind.wrap_i64];omega
  have c6:wrap64 ((i:Int) + 1) = (i:Int) + 1:=by unfold wrap64;omega
  clear hd e1 e2 e3 hix
  go_enter Tryz.func217,Tryz.ntmps217
  go_wp2_with ((with_reducible refine (I.out _).mono ?_);rintro e w1 ⟨rfl,rfl⟩)
  (refine wp_region_G (by kernel_rfl) (by kernel_rfl) ?_;(repeat (go_big_quiet_step (fail)));refine wpQuiet_nil ?_;intro _ hw';obtain ⟨pg,hw''⟩:=hw';subst hw'')
  go_wp2
  go_returns
  exact ⟨_,rfl,by (first | exact gwT | exact lzT)⟩
theorem cut_any (t:ByteArray) (ht:t.size ≤ 140737488351232) (w:World) (_hw:MaxL w):Calls Tryz.prog 197 #[.string t,.string ⟨#[39]⟩] w (CutIs t.data.toList w):=by
 have C:=Lib.hid (fun wx=>cutl_any t ht wx)
 go_enter Tryz.func197,Tryz.ntmps197
 go_wp2_with fail
 refine (C.out _).mono ?_
 intro e w1 hr
 obtain ⟨y,rfl,hb⟩:=hr
 clear C
 go_wp2
 go_returns
 exact ⟨_,rfl,hb⟩
theorem quoT_none (r:List UInt8) (h:∀ d ∈ r,d ≠ 39):quoT r = .error 14:=by
 unfold quoT
 simp only [span_text r h,if_true]
theorem quoT_cut (x r:List UInt8) (h:∀ d ∈ x,d ≠ 39):quoT (x ++ 39 :: r) = if 48 < x.length then .error 15 else if plainB x then .ok (4,x,0,x.length + 2) else .error 11:=by
 unfold quoT
 have h1:¬ x.length = (x ++ 39 :: r).length:=by simp
 simp only [span_text_cut x r h,if_neg h1,List.take_left' rfl]
set_option maxRecDepth 100000 in
set_option maxHeartbeats 1000000 in
theorem tquote_any (s:ByteArray) (a:Nat) (ha:a < s.size) (hs:s.size ≤ 140737488351232) (w:World) (hw:MaxL w) :
  Calls Tryz.prog 172 #[.string s,.int .i64 a] w (Ret (rdV a (quoT (s.data.toList.drop (a + 1)))) w):=by
 obtain ⟨t,ht⟩:∃ t,s.extract (a + 1) s.size = t:=⟨_,rfl⟩
 have htl:t.data.toList = s.data.toList.drop (a + 1):=by
  rw [← ht,Lib.extract_eq]
  show ((s.data.toList.drop (a + 1)).take (s.size - (a + 1))) = _
  rw [List.take_of_length_le (by simp)]
 have hl:t.size ≤ s.size:=by rw [← ht,ByteArray.size_extract];omega
 have C:=fun wx h=>Lib.hid (cut_any t (by omega) wx (maxl_below hw h))
 replace C:=Lib.hid C
 have hsl:∀ wx,(Instr.slice 9 (.string s) (some (.int .i64 ((a:Int) + 1))) none none).run Tryz.prog wx = .ok (.string t) wx:=by
  intro wx
  have:=run_slice_string_l (P:=Tryz.prog) wx 9 s Tryz.underlying9 .i64 ((a:Int) + 1) (by omega) (by omega)
  rw [this,show ((a:Int) + 1).toNat = a + 1 by omega,ht]
 rw [← htl]
 clear ht htl hw
 rcases cut_one t.data.toList 39 with ⟨hb,hn⟩ | ⟨x,r,hx,h1,hb,hn⟩
 ·rw [quoT_none _ hn]
  unfold CutIs at C
  rw [hb] at C
  generalize (⟨(Lib.cut t.data.toList [39]).1.toArray⟩:ByteArray) = x at C
  clear hn hb
  unfold rdV
  go_enter Tryz.func172,Tryz.ntmps172
  go_wp2_with ((with_reducible refine ((C.out _ (by (first | exact gwT | exact lzT))).out).mono ?_);intro e w1 hr;obtain ⟨y,rfl,hb⟩:=hr;obtain ⟨p,rfl⟩:=toG hb;clear hb;skip)
  go_returns
  exact ⟨rfl,by (first | exact gwT | exact lzT)⟩
 ·rw [hx,quoT_cut x r hn]
  unfold CutIs at C
  rw [hb,h1] at C
  have hxl:x.length ≤ t.size:=by rw [Lib.size_eq,hx];simp
  obtain ⟨y,hy⟩:∃ y:ByteArray,y = ⟨x.toArray⟩:=⟨_,rfl⟩
  have hyl:y.size = x.length:=by rw [Lib.size_eq,hy]
  have hyx:y.data.toList = x:=by rw [hy]
  have P:=fun wx=>Lib.hid (plain_any y wx (by unfold maxLen;omega))
  replace P:=Lib.hid P
  rw [hyx] at P
  rw [← hy] at C
  by_cases h48:48 < x.length
  ·rw [if_pos h48]
   rw [← hyl] at h48
   clear hn hb h1 hx hy hyl hyx hxl
   unfold rdV
   go_enter Tryz.func172,Tryz.ntmps172
   go_wp2_with ((with_reducible refine ((C.out _ (by (first | exact gwT | exact lzT))).out).mono ?_);intro e w1 hr;obtain ⟨y,rfl,hb⟩:=hr;obtain ⟨p,rfl⟩:=toG hb;clear hb;skip)
   go_returns
   exact ⟨rfl,by (first | exact gwT | exact lzT)⟩
  ·rw [if_neg h48]
   rcases hp:plainB x
   ·rw [if_neg (by decide)]
    rw [hp] at P
    rw [← hyl] at h48
    clear hn hb h1 hx hy hyl hyx hxl
    unfold rdV
    go_enter Tryz.func172,Tryz.ntmps172
    go_wp2_with (first | ((with_reducible refine ((P.out _).out).mono ?_);rintro e w1 ⟨rfl,rfl⟩) | ((with_reducible refine ((C.out _ (by (first | exact gwT | exact lzT))).out).mono ?_);intro e w1 hr;obtain ⟨y,rfl,hb⟩:=hr;obtain ⟨p,rfl⟩:=toG hb;clear hb;skip))
    go_returns
    exact ⟨rfl,by (first | exact gwT | exact lzT)⟩
   ·rw [if_pos rfl]
    have hr:rdV a (.ok (4,x,0,x.length + 2)) = .tuple #[.agg #[.int .i64 4,.string y,.int .i64 0,.int .i64 0],.int .i64 ((a:Int) + y.size + 2),.int .i64 0]:=by
     rw [hyl,hy]
     show Value.tuple #[_,.int .i64 ((a + (x.length + 2):Nat):Int),_] = _
     congr 4
    rw [hr]
    rw [hp] at P
    rw [← hyl] at h48
    clear hr hn hb h1 hx hy hyx hyl hxl
    go_enter Tryz.func172,Tryz.ntmps172
    go_wp2_with (first | ((with_reducible refine ((P.out _).out).mono ?_);rintro e w1 ⟨rfl,rfl⟩) | ((with_reducible refine ((C.out _ (by (first | exact gwT | exact lzT))).out).mono ?_);intro e w1 hr;obtain ⟨y,rfl,hb⟩:=hr;obtain ⟨p,rfl⟩:=toG hb;clear hb;skip))
    go_returns
    exact ⟨rfl,by (first | exact gwT | exact lzT)⟩
end Go.Proofs.YtfgpmcepppcmiaaGreatDoor
