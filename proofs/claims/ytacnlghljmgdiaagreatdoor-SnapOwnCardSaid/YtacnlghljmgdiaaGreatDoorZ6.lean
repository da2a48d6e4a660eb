/- Several texts of this proof, joined: LX, T0, SP, T1, T2. -/
import Derived.Test.YtacnlghljmgdiaaGreatDoorZ1
import Derived.WalkKit
import Derived.Lib.Hide
import Derived.ProofKit
import Derived.OpenShut
import Derived.Handy
import Derived.BigQuiet
import Derived.WalkLawsBesides
import Derived.Lib.SplitLaws
import Derived.Test.YtacnlghljmgdiaaGreatDoorZ4
import Derived.Test.YtacnlghljmgdiaaGreatDoorShelf2
import Derived.WalkSmall
namespace Go.Proofs.YtacnlghljmgdiaaGreatDoor
open Go.RowKit
def y5g (c:UInt8):Bool:=decide (97 ≤ (c.toNat:Int)) && decide ((c.toNat:Int) ≤ 122)
def q9z (c:UInt8):Bool:=decide (48 ≤ (c.toNat:Int)) && decide ((c.toNat:Int) ≤ 57)
def x0q (c:UInt8):Bool:=y5g c || q9z c || (c.toNat:Int) == 95
def y4w:List UInt8 → Bool
 | []=>false
 | c :: _=>y5g c
def z4y:List UInt8 → Bool
 | []=>false
 | c :: r=>x0q c || ((c.toNat:Int) == 46) && y4w r
def q2w:List UInt8 → Bool
 | []=>false
 | c :: _=>q9z c
def z1y:List UInt8 → Bool
 | []=>false
 | c :: _=>(c.toNat:Int) == 32
def z8l:List UInt8 → Bool
 | []=>false
 | c :: _ => !((c.toNat:Int) == 39)
def z1k (p:List UInt8 → Bool):List UInt8 → Nat
 | []=>0
 | c :: r=>if p (c :: r) then z1k p r + 1 else 0
def q4j:Nat → List UInt8 → Bool
 | n,[]=>decide (16 < n)
 | n,c :: r=>if (c.toNat:Int) == 46 then decide (16 < n) || q4j 0 r else q4j (n + 1) r
def v7e (l:List UInt8):Bool:=l.any fun c=>(c.toNat:Int) == 46
def y1i (l:List UInt8):Nat:=l.foldl (fun a c=>a * 10 + (c.toNat - 48)) 0
abbrev Tok:=Except Int (Int × List UInt8 × Int × Nat)
def z9d (l:List UInt8):Tok :=
 let t:=l.take (z1k z4y l)
 if decide (32 < t.length) || q4j 0 t then .error 15 else .ok (if v7e t then 2 else 1,t,0,t.length)
def j0c (l:List UInt8):Tok :=
 let t:=l.take (z1k q2w l)
 if decide (1 < t.length) && t.head? == some 48 then .error 11 else if 9223372036854775807 < y1i t then .error 21 else .ok (3,t,y1i t,t.length)
def j0d (r:List UInt8):Tok :=
 let m:=z1k z8l r
 if m = r.length then .error 14 else if 48 < m then .error 15 else if z5c (r.take m) then .ok (4,r.take m,0,m + 2) else .error 11
def v6s (c:UInt8):Bool:=(c.toNat:Int) == 60 || (c.toNat:Int) == 62 || (c.toNat:Int) == 33
def ones:List UInt8:=[40,41,59,58,43,45,42,47,37,60,62,61]
def eqL:List UInt8 → Bool
 | []=>false
 | c :: _=>(c.toNat:Int) == 61
def q2m (c:UInt8) (r:List UInt8):Tok :=
 if v6s c && eqL r then .ok (5,[c,61],0,2) else if ones.contains c then .ok (5,[c],0,1) else .error 11
def z9b:List UInt8 → Tok
 | [] => .error 11
 | c :: r=>if y5g c then z9d (c :: r) else if q9z c then j0c (c :: r) else if (c.toNat:Int) == 39 then j0d r else q2m c r
structure Tk where
 k:Int
 s:List UInt8
 n:Int
 a:Nat
def z5b:Nat → Nat → List UInt8 → Except (Int × Nat) (List Tk)
 | 0,a,l =>
  match l.drop (z1k z1y l) with
  | [] => .ok []
  | _ :: _ => .error (13,a + z1k z1y l)
 | m + 1,a,l =>
  match l.drop (z1k z1y l) with
  | [] => .ok []
  | c :: r =>
   match z9b (c :: r) with
   | .error e => .error (e,a + z1k z1y l)
   | .ok (k,t,n,z) =>
    match z5b m (a + z1k z1y l + z) ((c :: r).drop z) with
    | .error x => .error x
    | .ok ts => .ok (⟨k,t,n,a + z1k z1y l⟩ :: ts)
def pre (ts:List Tk):Except (Int × Nat) (List Tk) → Except (Int × Nat) (List Tk)
 | .error x => .error x
 | .ok r => .ok (ts ++ r)
theorem v5v (x:Except (Int × Nat) (List Tk)):pre [] x = x:=by cases x <;> rfl
theorem v5w (a b:List Tk) (x:Except (Int × Nat) (List Tk)):pre a (pre b x) = pre (a ++ b) x:=by
 cases x with
 | error x=>rfl
 | ok r=>simp [pre]
theorem z3y (p:List UInt8 → Bool):∀ l,z1k p l ≤ l.length
 | []=>Nat.le_refl _
 | c :: r=>by
  rw [z1k]
  have:=z3y p r
  split
  ·simp;omega
  ·simp
theorem z2q {p:List UInt8 → Bool} {c:UInt8} {r:List UInt8} (h:p (c :: r) = true):z1k p (c :: r) = z1k p r + 1:=by rw [z1k,if_pos h]
theorem z4j {p:List UInt8 → Bool} {c:UInt8} {r:List UInt8} (h:p (c :: r) = false):z1k p (c :: r) = 0:=by rw [z1k,h];rfl
theorem y5i (m a:Nat) (c:UInt8) (r:List UInt8) (h:((c.toNat:Int) == 32) = true):z5b m a (c :: r) = z5b m (a + 1) r:=by
 have e:z1k z1y (c :: r) = z1k z1y r + 1:=z2q (p:=z1y) h
 cases m with
 | zero=>rw [z5b,z5b,e,List.drop_succ_cons,show a + (z1k z1y r + 1) = a + 1 + z1k z1y r by omega]
 | succ m=>rw [z5b,z5b,e,List.drop_succ_cons,show a + (z1k z1y r + 1) = a + 1 + z1k z1y r by omega]
theorem y2j (m a:Nat):z5b m a [] = .ok []:=by cases m <;> rfl
theorem j9t (m a:Nat):∀ l,z5b m a l = z5b m (a + z1k z1y l) (l.drop (z1k z1y l)):=by
 intro l
 induction l generalizing a with
 | nil=>rfl
 | cons c r ih =>
  cases h:((c.toNat:Int) == 32)
  ·rw [z4j (p:=z1y) h];rfl
  ·rw [y5i m a c r h,ih,z2q (p:=z1y) h,List.drop_succ_cons,show a + (z1k z1y r + 1) = a + 1 + z1k z1y r by omega]
theorem k1g (a:Nat) (c:UInt8) (r:List UInt8) (h:((c.toNat:Int) == 32) = false):z5b 0 a (c :: r) = .error (13,a):=by
 rw [z5b,z4j (p:=z1y) h];rfl
theorem k7n (m a:Nat) (c:UInt8) (r:List UInt8) (e:Int) (h:((c.toNat:Int) == 32) = false) (ht:z9b (c :: r) = .error e):z5b (m + 1) a (c :: r) = .error (e,a):=by
 rw [z5b,z4j (p:=z1y) h]
 simp only [List.drop_zero,ht,Nat.add_zero]
theorem y2k (m a:Nat) (c:UInt8) (r:List UInt8) (k:Int) (t:List UInt8) (n:Int) (z:Nat) (h:((c.toNat:Int) == 32) = false) (ht:z9b (c :: r) = .ok (k,t,n,z)) :
  z5b (m + 1) a (c :: r) = pre [⟨k,t,n,a⟩] (z5b m (a + z) ((c :: r).drop z)):=by
 rw [z5b,z4j (p:=z1y) h]
 simp only [List.drop_zero,ht,Nat.add_zero]
 cases z5b m (a + z) ((c :: r).drop z) <;> rfl
theorem q2x (t:ByteArray) (k:Nat) (h:k < t.size):t.data.toList.drop k = t[k] :: t.data.toList.drop (k + 1):=by
 rw [List.drop_eq_getElem_cons (by simpa using h)]
 rfl
theorem q4i (c:UInt8) (w:World):Calls Tryz.prog 167 #[.int .u8 c.toNat] w (z6k (.bool (y5g c)) w):=by
 by_cases h1:97 ≤ (c.toNat:Int) <;> by_cases h2:(c.toNat:Int) ≤ 122
 all_goals
  have e:y5g c = (decide (97 ≤ (c.toNat:Int)) && decide ((c.toNat:Int) ≤ 122)):=rfl
  simp [h1,h2] at e
  replace e:=hiT e
  go_enter Tryz.func167,Tryz.ntmps167
  go_wp2
  go_returns
  exact ⟨by rw [e.out];rfl,rfl⟩
theorem q7l (c:UInt8) (w:World):Calls Tryz.prog 169 #[.int .u8 c.toNat] w (z6k (.bool (q9z c)) w):=by
 by_cases h1:48 ≤ (c.toNat:Int) <;> by_cases h2:(c.toNat:Int) ≤ 57
 all_goals
  have e:q9z c = (decide (48 ≤ (c.toNat:Int)) && decide ((c.toNat:Int) ≤ 57)):=rfl
  simp [h1,h2] at e
  replace e:=hiT e
  go_enter Tryz.func169,Tryz.ntmps169
  go_wp2
  go_returns
  exact ⟨by rw [e.out];rfl,rfl⟩
theorem v3y (s:ByteArray) (k:Nat) (hk:k < s.size) (hs:s.size ≤ 9223372036854775000) (w:World) :
  Calls Tryz.prog 192 #[.string s,.int .i64 k] w (z6k (.bool (((s[k].toNat:Int) == 46) && y4w (s.data.toList.drop (k + 1)))) w):=by
 have L:=fun c wx=>hiT (q4i c wx)
 have L:=hiT L
 rcases h1:((s[k].toNat:Int) == 46)
 ·go_enter Tryz.func192,Tryz.ntmps192
  go_wp2_with ((with_reducible refine ((L.out _ _).out).mono ?_);rintro e w1 ⟨rfl,rfl⟩)
  go_returns
  exact ⟨rfl,rfl⟩
 ·by_cases h2:k + 1 < s.size
  ·have e:y4w (s.data.toList.drop (k + 1)) = y5g s[k + 1]:=by rw [q2x s (k + 1) h2];rfl
   replace e:=hiT e
   go_enter Tryz.func192,Tryz.ntmps192
   go_wp2_with ((with_reducible refine ((L.out _ _).out).mono ?_);rintro e w1 ⟨rfl,rfl⟩)
   go_returns
   exact ⟨by rw [e.out];rfl,rfl⟩
  ·have e:y4w (s.data.toList.drop (k + 1)) = false:=by rw [List.drop_of_length_le (by simp;omega)];rfl
   replace e:=hiT e
   go_enter Tryz.func192,Tryz.ntmps192
   go_wp2_with ((with_reducible refine ((L.out _ _).out).mono ?_);rintro e w1 ⟨rfl,rfl⟩)
   go_returns
   exact ⟨by rw [e.out];rfl,rfl⟩
theorem v3o (s:ByteArray) (k:Nat) (hk:k < s.size) (_hs:s.size ≤ 9223372036854775000) (b:Nat) (w:World) (hb:w.cell? ⟨b,0,none⟩ = some (.string s)) :
  Calls Tryz.prog 166 #[.int .i64 k,.pointer (some ⟨b,0,none⟩)] w (z6k (.bool (z1y (s.data.toList.drop k))) w):=by
 have e:z1y (s.data.toList.drop k) = ((s[k].toNat:Int) == 32):=by rw [q2x s k hk];rfl
 replace e:=hiT e
 go_enter Tryz.func166,Tryz.ntmps166
 go_wp2
 go_returns
 exact ⟨by rw [e.out];rfl,rfl⟩
theorem v3u (s:ByteArray) (k:Nat) (hk:k < s.size) (_hs:s.size ≤ 9223372036854775000) (b:Nat) (w:World) (hb:w.cell? ⟨b,0,none⟩ = some (.string s)) :
  Calls Tryz.prog 194 #[.int .i64 k,.pointer (some ⟨b,0,none⟩)] w (z6k (.bool (q2w (s.data.toList.drop k))) w):=by
 have e:q2w (s.data.toList.drop k) = q9z s[k]:=by rw [q2x s k hk];rfl
 replace e:=hiT e
 go_enter Tryz.func194,Tryz.ntmps194
 go_wp2_with ((with_reducible refine (q7l _ _).mono ?_);rintro e w1 ⟨rfl,rfl⟩)
 go_returns
 exact ⟨by rw [e.out];rfl,rfl⟩
theorem x0m (s:ByteArray) (k:Nat) (hk:k < s.size) (hs:s.size ≤ 9223372036854775000) (b:Nat) (w:World) (hb:w.cell? ⟨b,0,none⟩ = some (.string s)) :
  Calls Tryz.prog 191 #[.int .i64 k,.pointer (some ⟨b,0,none⟩)] w (z6k (.bool (z4y (s.data.toList.drop k))) w):=by
 have e:z4y (s.data.toList.drop k) = (y5g s[k] || q9z s[k] || (s[k].toNat:Int) == 95 || (((s[k].toNat:Int) == 46) && y4w (s.data.toList.drop (k + 1)))):=by rw [q2x s k hk];rfl
 have D:=fun wx=>hiT (v3y s k hk hs wx)
 replace D:=hiT D
 have L:=fun wx=>hiT (q4i s[k] wx)
 replace L:=hiT L
 have I:=fun wx=>hiT (q7l s[k] wx)
 replace I:=hiT I
 generalize (((s[k].toNat:Int) == 46) && y4w (s.data.toList.drop (k + 1))) = d at *
 rcases h1:y5g s[k] <;> rcases h2:q9z s[k] <;> rcases h3:((s[k].toNat:Int) == 95)
 all_goals
  rw [h1] at L
  rw [h2] at I
  rw [h1,h2,h3] at e
  simp only [Bool.or_true,Bool.or_false,Bool.true_or,Bool.false_or] at e
  replace e:=hiT e
  clear h1 h2
  go_enter Tryz.func191,Tryz.ntmps191
  go_wp2_with (first | ((with_reducible refine ((L.out _).out).mono ?_);rintro e w1 ⟨rfl,rfl⟩) | ((with_reducible refine ((I.out _).out).mono ?_);rintro e w1 ⟨rfl,rfl⟩) | ((with_reducible refine ((D.out _).out).mono ?_);rintro e w1 ⟨rfl,rfl⟩))
  go_returns
  exact ⟨by rw [e.out];rfl,rfl⟩
def q1o (p:List UInt8 → Bool) (s:ByteArray) (a k:Nat):Prop:=a + z1k p (s.data.toList.drop a) = k + z1k p (s.data.toList.drop k)
theorem q9a (p:List UInt8 → Bool) (s:ByteArray) (a k:Nat) (hk:k < s.size) (hp:p (s.data.toList.drop k) = true) (h:q1o p s a k):q1o p s a (k + 1):=by
 unfold q1o at *
 rw [h]
 rw [q2x s k hk] at hp ⊢
 rw [z2q hp]
 omega
theorem q9b (p:List UInt8 → Bool) (s:ByteArray) (a k:Nat) (hk:k < s.size) (hp:p (s.data.toList.drop k) = false) (h:q1o p s a k):a + z1k p (s.data.toList.drop a) = k:=by
 unfold q1o at *
 rw [h]
 rw [q2x s k hk] at hp ⊢
 rw [z4j hp]
 omega
theorem j4p (p:List UInt8 → Bool) (s:ByteArray) (a k:Nat) (hk:¬ k < s.size) (h:q1o p s a k):a + z1k p (s.data.toList.drop a) = k:=by
 unfold q1o at *
 rw [h,List.drop_of_length_le (by simp;omega)]
 rfl
theorem v3n (s:ByteArray) (a z:Nat) (hz:a + z1k z1y (s.data.toList.drop a) = z) (ha:a ≤ s.size) (hs:s.size ≤ 9223372036854775000) (b:Nat) (w:World) (hb:w.cell? ⟨b,0,none⟩ = some (.string s)) :
  Calls Tryz.prog 165 #[.string s,.int .i64 a,.func (.func 166) #[] #[.pointer (some ⟨b,0,none⟩)]] w (z6k (.int .i64 z) w):=by
 have C:=fun k hk=>hiT (v3o s k hk hs b w hb)
 replace C:=hiT C
 have S:=fun k hk hp=>hiT (q9a z1y s a k hk hp)
 replace S:=hiT S
 have T:=fun k hk hp=>hiT (fun h=>hz.symm.trans (q9b z1y s a k hk hp h))
 replace T:=hiT T
 have U:=fun k hk=>hiT (fun h=>hz.symm.trans (j4p z1y s a k hk h))
 replace U:=hiT U
 clear hb hz
 go_enter Tryz.func165,Tryz.ntmps165
 go_wp2
 go_loop [1] (fun i=>∃ k:Nat,k ≤ s.size ∧ i = .int .i64 k ∧ q1o z1y s a k) (fun i=>s.size - (intOf i).toNat)
 case atStart=>exact ⟨a,ha,rfl,rfl⟩
 case round =>
  obtain ⟨k,hk,rfl,hr⟩:=hrel
  by_cases hlt:k < s.size
  ·have C:=C.out k hlt
   rcases hp:z1y (s.data.toList.drop k)
   ·have T:=(T.out k hlt hp).out hr
    rw [hp] at C
    go_wp2_with ((with_reducible refine (C.out).mono ?_);rintro e w1 ⟨rfl,rfl⟩)
    go_returns
    exact ⟨by rw [T];rfl,rfl⟩
   ·have S:=hiT ((S.out k hlt hp).out hr)
    rw [hp] at C
    go_wp2_with ((with_reducible refine (C.out).mono ?_);rintro e w1 ⟨rfl,rfl⟩)
    go_round
    case rel=>exact ⟨k + 1,by omega,by go_num,S.out⟩
    case measure=>simp [intOf];omega
  ·have U:=hiT ((U.out k hlt).out hr)
   go_wp2
   go_returns
   exact ⟨by rw [U.out];rfl,rfl⟩
theorem v3t (s:ByteArray) (a z:Nat) (hz:a + z1k q2w (s.data.toList.drop a) = z) (ha:a ≤ s.size) (hs:s.size ≤ 9223372036854775000) (b:Nat) (w:World) (hb:w.cell? ⟨b,0,none⟩ = some (.string s)) :
  Calls Tryz.prog 165 #[.string s,.int .i64 a,.func (.func 194) #[] #[.pointer (some ⟨b,0,none⟩)]] w (z6k (.int .i64 z) w):=by
 have C:=fun k hk=>hiT (v3u s k hk hs b w hb)
 replace C:=hiT C
 have S:=fun k hk hp=>hiT (q9a q2w s a k hk hp)
 replace S:=hiT S
 have T:=fun k hk hp=>hiT (fun h=>hz.symm.trans (q9b q2w s a k hk hp h))
 replace T:=hiT T
 have U:=fun k hk=>hiT (fun h=>hz.symm.trans (j4p q2w s a k hk h))
 replace U:=hiT U
 clear hb hz
 go_enter Tryz.func165,Tryz.ntmps165
 go_wp2
 go_loop [1] (fun i=>∃ k:Nat,k ≤ s.size ∧ i = .int .i64 k ∧ q1o q2w s a k) (fun i=>s.size - (intOf i).toNat)
 case atStart=>exact ⟨a,ha,rfl,rfl⟩
 case round =>
  obtain ⟨k,hk,rfl,hr⟩:=hrel
  by_cases hlt:k < s.size
  ·have C:=C.out k hlt
   rcases hp:q2w (s.data.toList.drop k)
   ·have T:=(T.out k hlt hp).out hr
    rw [hp] at C
    go_wp2_with ((with_reducible refine (C.out).mono ?_);rintro e w1 ⟨rfl,rfl⟩)
    go_returns
    exact ⟨by rw [T];rfl,rfl⟩
   ·have S:=hiT ((S.out k hlt hp).out hr)
    rw [hp] at C
    go_wp2_with ((with_reducible refine (C.out).mono ?_);rintro e w1 ⟨rfl,rfl⟩)
    go_round
    case rel=>exact ⟨k + 1,by omega,by go_num,S.out⟩
    case measure=>simp [intOf];omega
  ·have U:=hiT ((U.out k hlt).out hr)
   go_wp2
   go_returns
   exact ⟨by rw [U.out];rfl,rfl⟩
theorem x0l (s:ByteArray) (a z:Nat) (hz:a + z1k z4y (s.data.toList.drop a) = z) (ha:a ≤ s.size) (hs:s.size ≤ 9223372036854775000) (b:Nat) (w:World) (hb:w.cell? ⟨b,0,none⟩ = some (.string s)) :
  Calls Tryz.prog 165 #[.string s,.int .i64 a,.func (.func 191) #[] #[.pointer (some ⟨b,0,none⟩)]] w (z6k (.int .i64 z) w):=by
 have C:=fun k hk=>hiT (x0m s k hk hs b w hb)
 replace C:=hiT C
 have S:=fun k hk hp=>hiT (q9a z4y s a k hk hp)
 replace S:=hiT S
 have T:=fun k hk hp=>hiT (fun h=>hz.symm.trans (q9b z4y s a k hk hp h))
 replace T:=hiT T
 have U:=fun k hk=>hiT (fun h=>hz.symm.trans (j4p z4y s a k hk h))
 replace U:=hiT U
 clear hb hz
 go_enter Tryz.func165,Tryz.ntmps165
 go_wp2
 go_loop [1] (fun i=>∃ k:Nat,k ≤ s.size ∧ i = .int .i64 k ∧ q1o z4y s a k) (fun i=>s.size - (intOf i).toNat)
 case atStart=>exact ⟨a,ha,rfl,rfl⟩
 case round =>
  obtain ⟨k,hk,rfl,hr⟩:=hrel
  by_cases hlt:k < s.size
  ·have C:=C.out k hlt
   rcases hp:z4y (s.data.toList.drop k)
   ·have T:=(T.out k hlt hp).out hr
    rw [hp] at C
    go_wp2_with ((with_reducible refine (C.out).mono ?_);rintro e w1 ⟨rfl,rfl⟩)
    go_returns
    exact ⟨by rw [T];rfl,rfl⟩
   ·have S:=hiT ((S.out k hlt hp).out hr)
    rw [hp] at C
    go_wp2_with ((with_reducible refine (C.out).mono ?_);rintro e w1 ⟨rfl,rfl⟩)
    go_round
    case rel=>exact ⟨k + 1,by omega,by go_num,S.out⟩
    case measure=>simp [intOf];omega
  ·have U:=hiT ((U.out k hlt).out hr)
   go_wp2
   go_returns
   exact ⟨by rw [U.out];rfl,rfl⟩
theorem j0s (s:ByteArray) (a z:Nat) (hz:a + z1k z1y (s.data.toList.drop a) = z) (ha:a ≤ s.size) (hs:s.size ≤ 9223372036854775000) (w:World) :
  Calls Tryz.prog 138 #[.string s,.int .i64 a] w (Ret (.int .i64 z) w):=by
 have B:=fun b wx hb=>hiT (v3n s a z hz ha hs b wx hb)
 replace B:=hiT B
 have hmf:∀ (fn:Fn) (first cap:Array Value) (w:World),(Instr.makeFunc fn first cap).run Tryz.prog w = .ok (.func fn first cap) w:=fun _ _ _ _=>rfl
 clear hz
 go_enter Tryz.func138,Tryz.ntmps138
 go_wp2_with ((with_reducible refine ((B.out _ _ (by simp [go_sem])).out).mono ?_);rintro e w1 ⟨rfl,rfl⟩)
 go_returns
 exact ⟨rfl,gzT⟩
end Go.Proofs.YtacnlghljmgdiaaGreatDoor
namespace Go.Proofs.YtacnlghljmgdiaaGreatDoor
open Go.Lib
theorem z5f (c:UInt8) (d:Nat) (hd:d < 256):((c.toNat:Int) == (d:Int)) = (c == UInt8.ofNat d):=by
 rw [Bool.eq_iff_iff,beq_iff_eq,beq_iff_eq]
 constructor
 ·intro h
  apply UInt8.toNat_inj.1
  rw [UInt8.toNat_ofNat',Nat.mod_eq_of_lt hd]
  omega
 ·rintro rfl
  rw [UInt8.toNat_ofNat',Nat.mod_eq_of_lt hd]
theorem y9u (c:UInt8):((c.toNat:Int) == 46) = (c == 46):=z5f c 46 deT
theorem q6k (c:UInt8):((c.toNat:Int) == 39) = (c == 39):=z5f c 39 deT
theorem y5s (l:List UInt8):∀ n,(∀ c ∈ l,c ≠ 46) → q4j n l = decide (16 < n + l.length):=by
 induction l with
 | nil=>intro n _;rfl
 | cons c r ih =>
  intro n h
  have hc:((c.toNat:Int) == 46) = false:=by rw [y9u,beq_eq_false_iff_ne];exact h c (by simp)
  rw [q4j,hc,if_neg deT,ih (n + 1) (fun d hd=>h d (by simp [hd])),List.length_cons]
  congr 1
  rw [eq_iff_iff]
  omega
theorem k7v (l r:List UInt8):∀ n,(∀ c ∈ l,c ≠ 46) → q4j n (l ++ 46 :: r) = (decide (16 < n + l.length) || q4j 0 r):=by
 induction l with
 | nil=>intro n _;rw [List.nil_append,q4j];rfl
 | cons c l ih =>
  intro n h
  have hc:((c.toNat:Int) == 46) = false:=by rw [y9u,beq_eq_false_iff_ne];exact h c (by simp)
  rw [List.cons_append,q4j,hc,if_neg deT,ih (n + 1) (fun d hd=>h d (by simp [hd])),List.length_cons]
  congr 2
  rw [eq_iff_iff]
  omega
theorem y9t (l:List UInt8):v7e l = l.contains 46:=by
 unfold v7e
 rw [List.contains_eq_any_beq]
 congr 1
 funext c
 rw [y9u,Bool.eq_iff_iff,beq_iff_eq,beq_iff_eq]
 exact ⟨Eq.symm,Eq.symm⟩
theorem y0a (l:List UInt8) (c:UInt8) (j:Nat):occAt l [c] j = (l[j]? == some c):=by
 unfold occAt
 rw [← List.head?_drop]
 cases h:l.drop j with
 | nil=>rfl
 | cons d r =>
  rw [Bool.eq_iff_iff]
  simp [List.isPrefixOf]
  exact ⟨Eq.symm,Eq.symm⟩
theorem index_one (l:List UInt8) (c:UInt8):(index l [c] = -1 ∧ ∀ d ∈ l,d ≠ c) ∨ ∃ a r,l = a ++ c :: r ∧ index l [c] = a.length ∧ ∀ d ∈ a,d ≠ c:=by
 rcases index_spec l [c] with ⟨h,hn⟩ | ⟨i,h,hi,ho,hn⟩
 ·refine .inl ⟨h,fun d hd he=>?_⟩
  subst he
  obtain ⟨j,hj,hjd⟩:=List.getElem_of_mem hd
  have:=hn j omT
  rw [y0a,List.getElem?_eq_getElem hj,hjd] at this
  simp at this
 ·rw [y0a,beq_iff_eq] at ho
  have hlt:i < l.length:=by
   rcases Nat.lt_or_ge i l.length with h1 | h1
   ·exact h1
   ·rw [List.getElem?_eq_none h1] at ho;cases ho
  have he:l[i] = c:=by rw [List.getElem?_eq_getElem hlt] at ho;exact Option.some.inj ho
  refine .inr ⟨l.take i,l.drop (i + 1),?_,?_,?_⟩
  ·rw [← he,← List.drop_eq_getElem_cons hlt,List.take_append_drop]
  ·rw [h,List.length_take,Nat.min_eq_left hi]
  ·intro d hd hdc
   subst hdc
   obtain ⟨j,hj,hjd⟩:=List.getElem_of_mem hd
   have hj':j < i:=by rw [List.length_take] at hj;omega
   have:=hn j hj'
   rw [y0a,List.getElem?_eq_getElem omT,beq_eq_false_iff_ne] at this
   rw [List.getElem_take] at hjd
   exact this (by rw [hjd])
theorem q8j:∀ (k:Nat) (t:List UInt8),count t [46] = k → (splitK [46] 0 k t).any (fun p=>decide (16 < p.length)) = q4j 0 t ∧ v7e t = decide (0 < k)
 | 0,t,hk=>by
  rcases index_one t 46 with ⟨h,hn⟩ | ⟨a,r,he,h,hn⟩
  ·refine ⟨?_,?_⟩
   ·rw [y5s t 0 hn]
    simp [splitK]
   ·rw [y9t]
    simp only [Nat.lt_irrefl,decide_false,List.contains_eq_mem,decide_eq_false_iff_not]
    exact fun h=>hn 46 h rfl
  ·rw [count_hit (i:=a.length) (by simp) h] at hk
   omega
 | k + 1,t,hk=>by
  rcases index_one t 46 with ⟨h,hn⟩ | ⟨a,r,he,h,hn⟩
  ·rw [count_miss h] at hk;omega
  ·have hd:t.drop (a.length + 1) = r:=by rw [he,List.drop_append,List.drop_of_length_le omT];simp
   rw [count_hit (i:=a.length) (by simp) h] at hk
   have hk':count r [46] = k:=by
    have:count (t.drop (a.length + [(46:UInt8)].length)) [46] = k:=by omega
    rw [← hd];exact this
   have ih:=q8j k r hk'
   refine ⟨?_,?_⟩
   ·have hne:(index t [46] == -1) = false:=by rw [h,beq_eq_false_iff_ne];omega
    rw [splitK,hne,if_neg deT,h]
    simp only [Int.toNat_natCast,Nat.add_zero,List.any_cons,List.length_singleton]
    rw [hd,ih.1,he,k7v a r 0 hn,List.take_left' rfl]
    simp
   ·rw [y9t,he]
    simp
def pieces (t:ByteArray):List ByteArray:=splitB ⟨#[46]⟩ 0 (countB t ⟨#[46]⟩) t
theorem z5y (t:ByteArray):(pieces t).length = countB t ⟨#[46]⟩ + 1:=splitB_all _ deT 0 _ t rfl
theorem y6j (t:ByteArray):(pieces t).any (fun p=>decide (16 < p.size)) = q4j 0 t.data.toList ∧ v7e t.data.toList = decide (1 < (pieces t).length):=by
 have h:=q8j (countB t ⟨#[46]⟩) t.data.toList rfl
 have hd:(pieces t).map (·.data.toList) = splitK [46] 0 (countB t ⟨#[46]⟩) t.data.toList:=splitB_data _ _ _ _
 rw [← hd] at h
 refine ⟨?_,?_⟩
 ·rw [← h.1,List.any_map]
  congr 1
 ·rw [h.2,z5y]
  congr 1
  rw [eq_iff_iff]
  omega
theorem v3s (l:List UInt8) (c:UInt8):((cut l [c]).2.2 = false ∧ ∀ d ∈ l,d ≠ c) ∨ ∃ a r,l = a ++ c :: r ∧ (cut l [c]).1 = a ∧ (cut l [c]).2.2 = true ∧ ∀ d ∈ a,d ≠ c:=by
 unfold cut
 rcases index_one l c with ⟨h,hn⟩ | ⟨a,r,he,h,hn⟩
 ·refine .inl ⟨?_,hn⟩
  simp [h]
 ·refine .inr ⟨a,r,he,?_,?_,hn⟩
  ·simp only [h]
   simp [he]
  ·simp only [h]
   simp
theorem k3s (l:List UInt8) (h:∀ d ∈ l,d ≠ 39):z1k z8l l = l.length:=by
 induction l with
 | nil=>rfl
 | cons c r ih =>
  have hc:z8l (c :: r) = true:=by
   show (!((c.toNat:Int) == 39)) = true
   rw [q6k,beq_eq_false_iff_ne.2 (h c (by simp))];rfl
  rw [z2q hc,ih (fun d hd=>h d (by simp [hd])),List.length_cons]
theorem j4q (a r:List UInt8) (h:∀ d ∈ a,d ≠ 39):z1k z8l (a ++ 39 :: r) = a.length:=by
 induction a with
 | nil=>exact z4j (p:=z8l) rfl
 | cons c a ih =>
  have hc:z8l (c :: (a ++ 39 :: r)) = true:=by
   show (!((c.toNat:Int) == 39)) = true
   rw [q6k,beq_eq_false_iff_ne.2 (h c (by simp))];rfl
  rw [List.cons_append,z2q hc,ih (fun d hd=>h d (by simp [hd])),List.length_cons]
end Go.Proofs.YtacnlghljmgdiaaGreatDoor
namespace Go.Proofs.YtacnlghljmgdiaaGreatDoor
open Go.RowKit
def v1a (w:World):Prop:=∃ m,w.cell? ⟨6,0,none⟩ = some (.int .i64 m)
theorem q4k {w w':World} (h:v1a w) (hb:Below w.heap.size w w'):v1a w':=by
 obtain ⟨m,h⟩:=h
 exact ⟨m,(hb.cell (World.block_lt_of_cell? _ _ h)).trans h⟩
def rdV (a:Nat):Tok → Value
 | .ok (k,t,n,z) => .tuple #[.agg #[.int .i64 k,.string ⟨t.toArray⟩,.int .i64 n,.int .i64 0],.int .i64 ((a + z:Nat):Int),.int .i64 0]
 | .error x => .tuple #[.agg #[.int .i64 0,.string ⟨#[]⟩,.int .i64 0,.int .i64 0],.int .i64 0,.int .i64 x]
theorem k3r (s:ByteArray) (a e:Nat) (hae:a ≤ e) (he:e ≤ s.size) (t:ByteArray) (ht:s.extract a e = t) (wx:World) :
  (Instr.slice 9 (.string s) (some (.int .i64 (a:Int))) (some (.int .i64 (e:Int))) none).run Tryz.prog wx = .ok (.string t) wx:=by
 have:=run_slice_string (P:=Tryz.prog) wx 9 s .i64 .i64 a e Tryz.underlying9 omT omT omT
 rw [this,show ((a:Int).toNat) = a from rfl,show ((e:Int).toNat) = e from rfl,ht]
def v2q (ps:List ByteArray) (w:World) (e:Ending) (w':World):Prop:=∃ g:Nat,e = .returned (.slice (some ⟨g,0,none⟩) ps.length ps.length) ∧ g < w'.heap.size ∧
 (∀ i (h:i < ps.length),w'.cell? ⟨g,i,none⟩ = some (.string ps[i])) ∧ Below w.heap.size w w'
theorem k3t (t:ByteArray) (ht:t.size ≤ 2000000) (w:World) (hw:v1a w):Calls Tryz.prog 193 #[.string t,.string ⟨#[46]⟩] w (v2q (pieces t) w):=by
 obtain ⟨m,hm⟩:=hw
 refine (Any.strings_Split Tryz.lays146 krT t ⟨#[46]⟩ m w omT hm deT).mono fun e w' ⟨he,hw⟩=>?_
 subst hw
 refine ⟨w.heap.size,?_,by simp,fun i h=>?_,?_⟩
 ·rw [he,z5y]
 ·rw [World.cell?_alloc_mark w _ _ (0,0) i]
  simp only [pieces] at h ⊢
  simp [List.getElem?_map,List.getElem?_eq_getElem h]
 ·exact (Below.refl _ w).alloc (Nat.le_refl _) _
theorem z8j (s:ByteArray) (a z:Nat):(s.extract a (a + z)).data.toList = (s.data.toList.drop a).take z:=by
 rw [Lib.extract_eq,Nat.add_sub_cancel_left]
theorem j2o (s:ByteArray) (a z:Nat) (hz:z1k z4y (s.data.toList.drop a) = z) (t:ByteArray) (ht:s.extract a (a + z) = t) (h:decide (32 < t.size) || q4j 0 t.data.toList):z9d (s.data.toList.drop a) = .error 15:=by
 subst ht
 unfold z9d
 simp only [hz,← z8j,← Lib.size_eq]
 rw [if_pos h]
theorem v0w (s:ByteArray) (a z:Nat) (hz:z1k z4y (s.data.toList.drop a) = z) (t:ByteArray) (ht:s.extract a (a + z) = t) (hl:t.size = z) (h:(decide (32 < t.size) || q4j 0 t.data.toList) = false) (d:Bool) (hd:v7e t.data.toList = d) :
  rdV a (z9d (s.data.toList.drop a)) = .tuple #[.agg #[.int .i64 (if d then 2 else 1),.string t,.int .i64 0,.int .i64 0],.int .i64 ((a + z:Nat):Int),.int .i64 0]:=by
 subst ht
 unfold z9d
 simp only [hz,← z8j,← Lib.size_eq,hl]
 rw [hl] at h
 rw [h]
 simp only [Bool.false_eq_true,if_false,rdV,hd]
def v0v (n:Nat) (ps:List ByteArray) (i:Nat):Prop:=∀ j (h:j < ps.length),j < i → ps[j].size ≤ n
theorem k4y {n:Nat} {ps:List ByteArray} (h:v0v n ps ps.length):ps.any (fun p=>decide (n < p.size)) = false:=by
 rw [List.any_eq_false]
 intro p hp
 obtain ⟨j,hj,rfl⟩:=List.getElem_of_mem hp
 have:=h j hj hj
 simp;omega
theorem k4x {n:Nat} {ps:List ByteArray} {i:Nat} (hi:i < ps.length) (h:n < ps[i].size):ps.any (fun p=>decide (n < p.size)) = true:=by
 rw [List.any_eq_true]
 exact ⟨ps[i],List.getElem_mem hi,by simpa using h⟩
theorem y8i {n:Nat} {ps:List ByteArray} {i:Nat} (hi:i < ps.length) (h:ps[i].size ≤ n) (ha:v0v n ps i):v0v n ps (i + 1):=by
 intro j hj hji
 rcases Nat.lt_or_eq_of_le (Nat.le_of_lt_succ hji) with h1 | rfl
 ·exact ha j hj h1
 ·exact h
set_option maxRecDepth 100000 in
set_option maxHeartbeats 1000000 in
theorem k4o (s:ByteArray) (a:Nat) (ha:a ≤ s.size) (hs:s.size ≤ 140737488351232) (w:World) (hw:v1a w) :
  Calls Tryz.prog 168 #[.string s,.int .i64 a] w (Ret (rdV a (z9d (s.data.toList.drop a))) w):=by
 obtain ⟨z,hz⟩:∃ z,z1k z4y (s.data.toList.drop a) = z:=⟨_,rfl⟩
 have hle:a + z ≤ s.size:=by
  have:=z3y z4y (s.data.toList.drop a)
  rw [hz,List.length_drop] at this
  have e:s.data.toList.length = s.size:=by simp
  omega
 obtain ⟨t,ht⟩:∃ t,s.extract a (a + z) = t:=⟨_,rfl⟩
 have hl:t.size = z:=by rw [← ht,ByteArray.size_extract];omega
 obtain ⟨e,he⟩:∃ e,a + z = e:=⟨_,rfl⟩
 have B:=fun b wx hb=>hiT (x0l s a e (by rw [hz];exact he) ha omT b wx hb)
 replace B:=hiT B
 have hsl:=k3r s a e omT omT t (by rw [← he];exact ht)
 have hmf:∀ (fn:Fn) (first cap:Array Value) (w:World),(Instr.makeFunc fn first cap).run Tryz.prog w = .ok (.func fn first cap) w:=fun _ _ _ _=>rfl
 have S:=fun (h5:t.size ≤ 32) wx (h:Below w.heap.size w wx)=>hiT (k3t t omT wx (q4k hw h))
 by_cases h32:32 < t.size
 ·rw [j2o s a z hz t ht (by simp [h32])]
  clear hw hz ht he hl S
  unfold rdV
  go_enter Tryz.func168,Tryz.ntmps168
  go_wp2_with (first | ((with_reducible refine ((B.out _ _ (by simp [go_sem])).out).mono ?_);rintro e w1 ⟨rfl,rfl⟩))
  go_returns
  exact ⟨rfl,gzT⟩
 ·replace S:=hiT (S omT)
  obtain ⟨hany,hdot⟩:=y6j t
  have hbig:(pieces t).length ≤ 200000:=by
   have:=Lib.countB_le ⟨#[46]⟩ deT t.size t (Nat.le_refl _)
   rw [z5y];omega
  have hone:1 ≤ (pieces t).length:=by rw [z5y];omega
  generalize pieces t = ps at *
  rcases hb:ps.any (fun p=>decide (16 < p.size))
  ·rw [hb] at hany
   have h32':decide (32 < t.size) = false:=by simpa using h32
   obtain ⟨d,hd⟩:∃ d,decide (1 < ps.length) = d:=⟨_,rfl⟩
   rw [v0w s a z hz t ht hl (by rw [← hany,h32'];rfl) d (by rw [hdot];exact hd),he]
   have W:=fun i hi h=>hiT (k4x (n:=16) (ps:=ps) (i:=i) hi h)
   replace W:=hiT W
   replace hb:=hiT hb
   clear hw hz ht he hl hany hdot h32'
   rcases Nat.lt_or_ge 1 ps.length with hlen | hlen
   all_goals
    obtain rfl:d = _:=hd.symm.trans (by first | exact decide_eq_true hlen | exact decide_eq_false (Nat.not_lt.2 hlen))
    go_enter Tryz.func168,Tryz.ntmps168
    go_wp2_with (first | ((with_reducible refine ((B.out _ _ (by simp [go_sem])).out).mono ?_);rintro e w1 ⟨rfl,rfl⟩) | ((with_reducible refine ((S.out _ gzT).out).mono ?_);intro e w1 hr;obtain ⟨g,rfl,hg,hc,hb⟩:=hr;obtain ⟨q,rfl⟩:=toG hb;clear hb;skip))
    replace hc:=hiT hc
    go_loop [28] (fun v=>∃ i:Nat,i ≤ ps.length ∧ v = .int .i64 i) (fun v=>ps.length - (intOf v).toNat)
    case atStart=>exact ⟨0,Nat.zero_le _,rfl⟩
    case round =>
     obtain ⟨i,hi,rfl⟩:=hrel
     by_cases hlt:i < ps.length
     ·have hcell:=hc.out i hlt
      have hshort:¬ 16 < ps[i].size:=fun h=>by
       have:=(W.out i hlt h).out
       rw [hb.out] at this
       cases this
      go_wp2
      go_round
      case rel=>exact ⟨i + 1,by omega,by go_num⟩
      case measure=>simp [intOf];omega
     ·obtain rfl:i = ps.length:=by omega
      go_wp2
      go_returns
      exact ⟨rfl,gzT⟩
  ·rw [hb] at hany
   rw [j2o s a z hz t ht (by rw [← hany];simp)]
   have W:=fun h=>hiT (k4y (n:=16) (ps:=ps) h)
   replace W:=hiT W
   replace hb:=hiT hb
   clear hw hz ht he hl hany hdot hone
   unfold rdV
   go_enter Tryz.func168,Tryz.ntmps168
   go_wp2_with (first | ((with_reducible refine ((B.out _ _ (by simp [go_sem])).out).mono ?_);rintro e w1 ⟨rfl,rfl⟩) | ((with_reducible refine ((S.out _ gzT).out).mono ?_);intro e w1 hr;obtain ⟨g,rfl,hg,hc,hb⟩:=hr;obtain ⟨q,rfl⟩:=toG hb;clear hb;skip))
   replace hc:=hiT hc
   go_loop [28] (fun v=>∃ i:Nat,i ≤ ps.length ∧ v = .int .i64 i ∧ v0v 16 ps i) (fun v=>ps.length - (intOf v).toNat)
   case atStart=>exact ⟨0,Nat.zero_le _,rfl,fun j _ h=>absurd h (Nat.not_lt_zero _)⟩
   case round =>
    obtain ⟨i,hi,rfl,hall⟩:=hrel
    by_cases hlt:i < ps.length
    ·have hcell:=hc.out i hlt
     by_cases hlong:16 < ps[i].size
     ·go_wp2
      go_returns
      exact ⟨rfl,gzT⟩
     ·have hnext:=hiT (y8i hlt omT hall)
      go_wp2
      go_round
      case rel=>exact ⟨i + 1,by omega,by go_num,hnext.out⟩
      case measure=>simp [intOf];omega
    ·obtain rfl:i = ps.length:=by omega
     have:=(W.out hall).out
     rw [hb.out] at this
     cases this
theorem j9g {c:UInt8} (h:q9z c = true):48 ≤ c.toNat ∧ c.toNat ≤ 57:=by
 simp only [q9z,Bool.and_eq_true,decide_eq_true_eq] at h
 omega
theorem q8z:∀ l:List UInt8,∀ c ∈ l.take (z1k q2w l),q9z c = true
 | [],c,h=>by simp at h
 | d :: r,c,h=>by
  cases hd:q9z d
  ·rw [z4j (p:=q2w) hd] at h;simp at h
  ·rw [z2q (p:=q2w) hd,List.take_succ_cons,List.mem_cons] at h
   rcases h with rfl | h
   ·exact hd
   ·exact q8z r c h
def v7j (acc:Nat) (l:List UInt8):Nat:=l.foldl (fun a c=>a * 10 + (c.toNat - 48)) acc
theorem k4p:∀ (l:List UInt8) (acc:Nat),acc ≤ v7j acc l
 | [],acc=>Nat.le_refl _
 | c :: r,acc=>by
  have:=k4p r (acc * 10 + (c.toNat - 48))
  show acc ≤ v7j (acc * 10 + (c.toNat - 48)) r
  omega
theorem j1o:∀ (l:List UInt8) (acc:Nat),(∀ c ∈ l,q9z c = true) → v7j acc l ≤ 18446744073709551615 → Lib.parseUintM 18446744073709551615 acc l = .ok (v7j acc l)
 | [],acc,_,_=>rfl
 | c :: r,acc,hd,h=>by
  have h1:=j9g (hd c (by simp))
  have h2:v7j (acc * 10 + (c.toNat - 48)) r ≤ 18446744073709551615:=h
  have h3:=k4p r (acc * 10 + (c.toNat - 48))
  rw [Lib.parseUintM,if_pos h1,if_neg omT,if_neg omT,j1o r _ (fun d hd'=>hd d (by simp [hd'])) h2]
  rfl
theorem j1p:∀ (l:List UInt8) (acc u:Nat),Lib.parseUintM 18446744073709551615 acc l = .ok u → u = v7j acc l
 | [],acc,u,h=>by
  simp only [Lib.parseUintM] at h
  exact (Lib.NumEnd.ok.inj h).symm
 | c :: r,acc,u,h=>by
  rw [Lib.parseUintM] at h
  split at h
  ·split at h
   ·cases h
   ·split at h
    ·cases h
    ·exact j1p r _ u h
  ·cases h
theorem k2k (l:List UInt8) (hne:l ≠ []) (hd:∀ c ∈ l,q9z c = true) (h:y1i l ≤ 9223372036854775807):Lib.parseIntB 64 l = .ok (y1i l:Int):=by
 obtain ⟨c,r,rfl⟩:∃ c r,l = c :: r:=by cases l with | nil=>exact absurd rfl hne | cons c r=>exact ⟨c,r,rfl⟩
 have h1:=j9g (hd c (by simp))
 have hu:Lib.parseUintB 64 (c :: r) = .ok (y1i (c :: r)):=by
  unfold Lib.parseUintB
  rw [if_neg (by simp)]
  exact j1o (c :: r) 0 hd (Nat.le_trans h deT)
 rw [Lib.parseIntB_plain 64 c r omT omT,hu]
 have h3:¬ 9223372036854775808 ≤ y1i (c :: r):=by omega
 simp [Lib.signlessC,h3]
theorem y6h (l:List UInt8) (hne:l ≠ []) (hd:∀ c ∈ l,q9z c = true) (h:9223372036854775807 < y1i l) (v:Int):Lib.parseIntB 64 l ≠ .ok v:=by
 obtain ⟨c,r,rfl⟩:∃ c r,l = c :: r:=by cases l with | nil=>exact absurd rfl hne | cons c r=>exact ⟨c,r,rfl⟩
 have h1:=j9g (hd c (by simp))
 rw [Lib.parseIntB_plain 64 c r omT omT]
 cases hu:Lib.parseUintB 64 (c :: r) with
 | ok u =>
  have:u = y1i (c :: r):=by
   unfold Lib.parseUintB at hu
   rw [if_neg (by simp)] at hu
   exact j1p _ _ _ hu
  subst this
  have h3:9223372036854775808 ≤ y1i (c :: r):=by omega
  simp [Lib.signlessC,h3]
 | _=>simp [Lib.signlessC]
theorem v1h (c:UInt8):((c.toNat:Int) == 48) = (c == 48):=z5f c 48 deT
def j3l (t:ByteArray):Bool:=decide (1 < t.size) && t.data.toList.head? == some 48
theorem k1z (s:ByteArray) (a z:Nat) (hz:z1k q2w (s.data.toList.drop a) = z) (t:ByteArray) (ht:s.extract a (a + z) = t) (h:j3l t = true):j0c (s.data.toList.drop a) = .error 11:=by
 subst ht
 unfold j0c
 simp only [hz,← z8j,← Lib.size_eq]
 unfold j3l at h
 rw [if_pos h]
theorem k2a (s:ByteArray) (a z:Nat) (hz:z1k q2w (s.data.toList.drop a) = z) (t:ByteArray) (ht:s.extract a (a + z) = t) (h:j3l t = false) (hv:9223372036854775807 < y1i t.data.toList):j0c (s.data.toList.drop a) = .error 21:=by
 subst ht
 unfold j0c
 simp only [hz,← z8j,← Lib.size_eq]
 unfold j3l at h
 rw [h,if_neg deT,if_pos hv]
theorem v5j (s:ByteArray) (a z:Nat) (hz:z1k q2w (s.data.toList.drop a) = z) (t:ByteArray) (ht:s.extract a (a + z) = t) (hl:t.size = z) (h:j3l t = false) (hv:¬ 9223372036854775807 < y1i t.data.toList) :
  j0c (s.data.toList.drop a) = .ok (3,t.data.toList,y1i t.data.toList,z):=by
 subst ht
 unfold j0c
 simp only [hz,← z8j,← Lib.size_eq,hl]
 unfold j3l at h
 rw [hl] at h
 rw [h,if_neg deT,if_neg hv]
set_option maxRecDepth 100000 in
set_option maxHeartbeats 1000000 in
theorem y1d (s:ByteArray) (a:Nat) (ha:a < s.size) (hd:q9z s[a] = true) (hs:s.size ≤ 140737488351232) (w:World) (hw:Errs w) :
  Calls Tryz.prog 170 #[.string s,.int .i64 a] w (Ret (rdV a (j0c (s.data.toList.drop a))) w):=by
 obtain ⟨z,hz⟩:∃ z,z1k q2w (s.data.toList.drop a) = z:=⟨_,rfl⟩
 have hz1:1 ≤ z:=by
  rw [← hz,q2x s a ha,z2q (p:=q2w) hd];omega
 have hle:a + z ≤ s.size:=by
  have:=z3y q2w (s.data.toList.drop a)
  rw [hz,List.length_drop] at this
  have e:s.data.toList.length = s.size:=by simp
  omega
 obtain ⟨t,ht⟩:∃ t,s.extract a (a + z) = t:=⟨_,rfl⟩
 have hl:t.size = z:=by rw [← ht,ByteArray.size_extract];omega
 obtain ⟨e,he⟩:∃ e,a + z = e:=⟨_,rfl⟩
 have B:=fun b wx hb=>hiT (v3t s a e (by rw [hz];exact he) omT omT b wx hb)
 replace B:=hiT B
 have hsl:=k3r s a e omT omT t (by rw [← he];exact ht)
 have hmf:∀ (fn:Fn) (first cap:Array Value) (w:World),(Instr.makeFunc fn first cap).run Tryz.prog w = .ok (.func fn first cap) w:=fun _ _ _ _=>rfl
 have h0:0 < t.size:=by omega
 have hne:t.data.toList ≠ []:=by
  intro h;rw [Lib.size_eq,h] at h0;exact absurd h0 deT
 have hall:∀ c ∈ t.data.toList,q9z c = true:=by
  have:=q8z (s.data.toList.drop a)
  rw [hz,← z8j,ht] at this
  exact this
 have hhead:t.data.toList.head? = some t[0]:=by
  have:=q2x t 0 h0
  rw [List.drop_zero] at this
  rw [this];rfl
 rcases hlead:j3l t
 ·have hg:t.size ≤ 1 ∨ ((t[0].toNat:Int) == 48) = false:=by
   unfold j3l at hlead
   rw [Bool.and_eq_false_iff] at hlead
   rcases hlead with h | h
   ·exact .inl (by simpa using h)
   ·refine .inr ?_
    rw [v1h,beq_eq_false_iff_ne]
    rw [hhead,beq_eq_false_iff_ne] at h
    exact fun hc=>h (by rw [hc])
  have hsz:1 < t.size ∨ ¬ 1 < t.size:=by omega
  by_cases hv:9223372036854775807 < y1i t.data.toList
  ·rw [k2a s a z hz t ht hlead hv]
   have P:=fun wx h=>hiT (k2j t omT (fun v=>y6h _ hne hall hv v) wx (j1a hw h))
   replace P:=hiT P
   clear hz ht he hne hall hhead hlead hv hw hd
   unfold rdV
   rcases hg with hg | hg
   ·go_enter Tryz.func170,Tryz.ntmps170
    go_wp2_with (first | ((with_reducible refine ((B.out _ _ (by simp [go_sem])).out).mono ?_);rintro e w1 ⟨rfl,rfl⟩) | ((with_reducible refine ((P.out _ gzT).out).mono ?_);intro e w1 hr;obtain ⟨x,t,n,p,rfl,rfl⟩:=hr.out;clear hr;skip))
    go_returns
    exact ⟨rfl,gzT⟩
   ·rcases hsz with hsz | hsz
    all_goals
     go_enter Tryz.func170,Tryz.ntmps170
     go_wp2_with (first | ((with_reducible refine ((B.out _ _ (by simp [go_sem])).out).mono ?_);rintro e w1 ⟨rfl,rfl⟩) | ((with_reducible refine ((P.out _ gzT).out).mono ?_);intro e w1 hr;obtain ⟨x,t,n,p,rfl,rfl⟩:=hr.out;clear hr;skip))
     go_returns
     exact ⟨rfl,gzT⟩
  ·rw [v5j s a z hz t ht hl hlead hv]
   obtain ⟨v,hvv⟩:∃ v:Nat,y1i t.data.toList = v:=⟨_,rfl⟩
   have P:=fun wx=>hiT (k8m t omT v (by rw [← hvv];exact k2k _ hne hall omT) wx)
   replace P:=hiT P
   have hr:rdV a (.ok (3,t.data.toList,(y1i t.data.toList:Int),z)) = .tuple #[.agg #[.int .i64 3,.string t,.int .i64 v,.int .i64 0],.int .i64 e,.int .i64 0]:=by
    rw [← he,← hvv];rfl
   rw [hr]
   clear hr hz ht he hne hall hhead hlead hv hvv hw hd
   rcases hg with hg | hg
   ·go_enter Tryz.func170,Tryz.ntmps170
    go_wp2_with (first | ((with_reducible refine ((B.out _ _ (by simp [go_sem])).out).mono ?_);rintro e w1 ⟨rfl,rfl⟩) | ((with_reducible refine ((P.out _).out).mono ?_);intro e w1 hr;obtain ⟨rfl,p,rfl⟩:=hr.out;clear hr))
    go_returns
    exact ⟨rfl,gzT⟩
   ·rcases hsz with hsz | hsz
    all_goals
     go_enter Tryz.func170,Tryz.ntmps170
     go_wp2_with (first | ((with_reducible refine ((B.out _ _ (by simp [go_sem])).out).mono ?_);rintro e w1 ⟨rfl,rfl⟩) | ((with_reducible refine ((P.out _).out).mono ?_);intro e w1 hr;obtain ⟨rfl,p,rfl⟩:=hr.out;clear hr))
     go_returns
     exact ⟨rfl,gzT⟩
 ·rw [k1z s a z hz t ht hlead]
  unfold j3l at hlead
  rw [Bool.and_eq_true,decide_eq_true_eq,hhead] at hlead
  have h1:1 < t.size:=hlead.1
  have hg:((t[0].toNat:Int) == 48) = true:=by
   rw [v1h,beq_iff_eq]
   have:=hlead.2
   rw [beq_iff_eq] at this
   exact Option.some.inj this
  clear hz ht he hne hall hhead hlead hw hd
  unfold rdV
  go_enter Tryz.func170,Tryz.ntmps170
  go_wp2_with (first | ((with_reducible refine ((B.out _ _ (by simp [go_sem])).out).mono ?_);rintro e w1 ⟨rfl,rfl⟩))
  go_returns
  exact ⟨rfl,gzT⟩
def q9x (l:List UInt8) (w:World) (e:Ending) (w':World):Prop:=∃ y,e = .returned (.tuple #[.string ⟨(Lib.cut l [39]).1.toArray⟩,.string y,.bool (Lib.cut l [39]).2.2]) ∧ Below w.heap.size w w'
theorem q9x.out {l:List UInt8} {w:World} {e:Ending} {w':World} (h:q9x l w e w'):∃ y p,e = .returned (.tuple #[.string ⟨(Lib.cut l [39]).1.toArray⟩,.string y,.bool (Lib.cut l [39]).2.2]) ∧ w' = G p w:=by
 obtain ⟨y,he,hb⟩:=h
 obtain ⟨p,hp⟩:=toG hb
 exact ⟨y,p,he,hp⟩
theorem j9n (t:ByteArray) (w:World):Calls Tryz.prog 135 #[.string t,.string ⟨#[39]⟩] w (z6k (.int .i64 (Lib.indexB t ⟨#[39]⟩)) w) :=
 (Any.stringslite_Index_one Tryz.lays219 t 39 w).mono fun _ _ ⟨he,hw⟩=>⟨by rw [he,← Lib.index_one],hw.symm⟩
set_option maxRecDepth 100000 in
set_option maxHeartbeats 1000000 in
theorem k6n (t:ByteArray) (ht:t.size ≤ 140737488351232) (w:World):Calls Tryz.prog 216 #[.string t,.string ⟨#[39]⟩] w (q9x t.data.toList w):=by
 have I:=fun wx=>j9n t wx
 rcases Lib.indexB_cases t ⟨#[39]⟩ with hix | ⟨i,hix,hroom⟩
 ·obtain ⟨e1,e2,e3⟩:=Lib.cutB_miss t ⟨#[39]⟩ hix
  have hd:=hiT (show q9x t.data.toList w = fun e w'=>∃ y,e = .returned (.tuple #[.string t,.string y,.bool false]) ∧ Below w.heap.size w w' by
   funext e w'
   unfold q9x
   rw [show (Lib.cut t.data.toList [39]).1 = (Lib.cut t.data.toList (⟨#[39]⟩:ByteArray).data.toList).1 from rfl,e1,show (Lib.cut t.data.toList [39]).2.2 = (Lib.cut t.data.toList (⟨#[39]⟩:ByteArray).data.toList).2.2 from rfl,e3])
  rw [hd.out]
  rw [hix] at I
  replace I:=hiT I
  clear hd e1 e2 e3 hix
  go_enter Tryz.func216,Tryz.ntmps216
  go_wp2_with ((with_reducible refine (I.out _).mono ?_);rintro e w1 ⟨rfl,rfl⟩)
  go_returns
  exact ⟨_,rfl,gzT⟩
 ·obtain ⟨e1,e2,e3⟩:=Lib.cutB_hit t ⟨#[39]⟩ i hix
  have hd:=hiT (show q9x t.data.toList w = fun e w'=>∃ y,e = .returned (.tuple #[.string (t.extract 0 i),.string y,.bool true]) ∧ Below w.heap.size w w' by
   funext e w'
   unfold q9x
   rw [show (Lib.cut t.data.toList [39]).1 = (Lib.cut t.data.toList (⟨#[39]⟩:ByteArray).data.toList).1 from rfl,e1,show (Lib.cut t.data.toList [39]).2.2 = (Lib.cut t.data.toList (⟨#[39]⟩:ByteArray).data.toList).2.2 from rfl,e3])
  rw [hd.out]
  rw [hix] at I
  have hsz:(⟨#[39]⟩:ByteArray).size = 1:=rfl
  rw [hsz] at hroom
  replace I:=hiT I
  have c2:(i:Int) ≤ (t.size:Int):=by omega
  have c4:(i:Int) + 1 ≤ (t.size:Int):=by omega
  have c5:IntKind.i64.wrap ((i:Int) + 1) = (i:Int) + 1:=by rw [IntKind.wrap_i64];omega
  have c6:wrap64 ((i:Int) + 1) = (i:Int) + 1:=by unfold wrap64;omega
  clear hd e1 e2 e3 hix
  go_enter Tryz.func216,Tryz.ntmps216
  go_wp2_with ((with_reducible refine (I.out _).mono ?_);rintro e w1 ⟨rfl,rfl⟩)
  (refine z0d krT krT ?_;(repeat (go_big_quiet_step (fail)));refine wpQuiet_nil ?_;intro _ hw';obtain ⟨pg,hw''⟩:=hw';subst hw'')
  go_wp2
  go_returns
  exact ⟨_,rfl,gzT⟩
theorem v3r (t:ByteArray) (ht:t.size ≤ 140737488351232) (w:World) (_hw:v1a w):Calls Tryz.prog 196 #[.string t,.string ⟨#[39]⟩] w (q9x t.data.toList w):=by
 have C:=hiT (fun wx=>k6n t ht wx)
 go_enter Tryz.func196,Tryz.ntmps196
 go_wp2_with fail
 refine (C.out _).mono ?_
 intro e w1 hr
 obtain ⟨y,rfl,hb⟩:=hr
 clear C
 go_wp2
 go_returns
 exact ⟨_,rfl,hb⟩
theorem k2s (r:List UInt8) (h:∀ d ∈ r,d ≠ 39):j0d r = .error 14:=by
 unfold j0d
 simp only [k3s r h,if_true]
theorem y3a (x r:List UInt8) (h:∀ d ∈ x,d ≠ 39):j0d (x ++ 39 :: r) = if 48 < x.length then .error 15 else if z5c x then .ok (4,x,0,x.length + 2) else .error 11:=by
 unfold j0d
 have h1:¬ x.length = (x ++ 39 :: r).length:=by simp
 simp only [j4q x r h,if_neg h1,List.take_left' rfl]
set_option maxRecDepth 100000 in
set_option maxHeartbeats 1000000 in
theorem y7y (s:ByteArray) (a:Nat) (ha:a < s.size) (hs:s.size ≤ 140737488351232) (w:World) (hw:v1a w) :
  Calls Tryz.prog 171 #[.string s,.int .i64 a] w (Ret (rdV a (j0d (s.data.toList.drop (a + 1)))) w):=by
 obtain ⟨t,ht⟩:∃ t,s.extract (a + 1) s.size = t:=⟨_,rfl⟩
 have htl:t.data.toList = s.data.toList.drop (a + 1):=by
  rw [← ht,Lib.extract_eq]
  show ((s.data.toList.drop (a + 1)).take (s.size - (a + 1))) = _
  rw [List.take_of_length_le (by simp)]
 have hl:t.size ≤ s.size:=by rw [← ht,ByteArray.size_extract];omega
 have C:=fun wx h=>hiT (v3r t omT wx (q4k hw h))
 replace C:=hiT C
 have hsl:∀ wx,(Instr.slice 9 (.string s) (some (.int .i64 ((a:Int) + 1))) none none).run Tryz.prog wx = .ok (.string t) wx:=by
  intro wx
  have:=run_slice_string_l (P:=Tryz.prog) wx 9 s Tryz.underlying9 .i64 ((a:Int) + 1) omT omT
  rw [this,show ((a:Int) + 1).toNat = a + 1 by omega,ht]
 rw [← htl]
 clear ht htl hw
 rcases v3s t.data.toList 39 with ⟨hb,hn⟩ | ⟨x,r,hx,h1,hb,hn⟩
 ·rw [k2s _ hn]
  unfold q9x at C
  rw [hb] at C
  generalize (⟨(Lib.cut t.data.toList [39]).1.toArray⟩:ByteArray) = x at C
  clear hn hb
  unfold rdV
  go_enter Tryz.func171,Tryz.ntmps171
  go_wp2_with ((with_reducible refine ((C.out _ gzT).out).mono ?_);intro e w1 hr;obtain ⟨y,rfl,hb⟩:=hr;obtain ⟨p,rfl⟩:=toG hb;clear hb;skip)
  go_returns
  exact ⟨rfl,gzT⟩
 ·rw [hx,y3a x r hn]
  unfold q9x at C
  rw [hb,h1] at C
  have hxl:x.length ≤ t.size:=by rw [Lib.size_eq,hx];simp
  obtain ⟨y,hy⟩:∃ y:ByteArray,y = ⟨x.toArray⟩:=⟨_,rfl⟩
  have hyl:y.size = x.length:=by rw [Lib.size_eq,hy]
  have hyx:y.data.toList = x:=by rw [hy]
  have P:=fun wx=>hiT (j7f y wx (by unfold maxLen;omega))
  replace P:=hiT P
  rw [hyx] at P
  rw [← hy] at C
  by_cases h48:48 < x.length
  ·rw [if_pos h48]
   rw [← hyl] at h48
   clear hn hb h1 hx hy hyl hyx hxl
   unfold rdV
   go_enter Tryz.func171,Tryz.ntmps171
   go_wp2_with ((with_reducible refine ((C.out _ gzT).out).mono ?_);intro e w1 hr;obtain ⟨y,rfl,hb⟩:=hr;obtain ⟨p,rfl⟩:=toG hb;clear hb;skip)
   go_returns
   exact ⟨rfl,gzT⟩
  ·rw [if_neg h48]
   rcases hp:z5c x
   ·rw [if_neg deT]
    rw [hp] at P
    rw [← hyl] at h48
    clear hn hb h1 hx hy hyl hyx hxl
    unfold rdV
    go_enter Tryz.func171,Tryz.ntmps171
    go_wp2_with (first | ((with_reducible refine ((P.out _).out).mono ?_);rintro e w1 ⟨rfl,rfl⟩) | ((with_reducible refine ((C.out _ gzT).out).mono ?_);intro e w1 hr;obtain ⟨y,rfl,hb⟩:=hr;obtain ⟨p,rfl⟩:=toG hb;clear hb;skip))
    go_returns
    exact ⟨rfl,gzT⟩
   ·rw [if_pos rfl]
    have hr:rdV a (.ok (4,x,0,x.length + 2)) = .tuple #[.agg #[.int .i64 4,.string y,.int .i64 0,.int .i64 0],.int .i64 ((a:Int) + y.size + 2),.int .i64 0]:=by
     rw [hyl,hy]
     show Value.tuple #[_,.int .i64 ((a + (x.length + 2):Nat):Int),_] = _
     congr 4
    rw [hr]
    rw [hp] at P
    rw [← hyl] at h48
    clear hr hn hb h1 hx hy hyx hyl hxl
    go_enter Tryz.func171,Tryz.ntmps171
    go_wp2_with (first | ((with_reducible refine ((P.out _).out).mono ?_);rintro e w1 ⟨rfl,rfl⟩) | ((with_reducible refine ((C.out _ gzT).out).mono ?_);intro e w1 hr;obtain ⟨y,rfl,hb⟩:=hr;obtain ⟨p,rfl⟩:=toG hb;clear hb;skip))
    go_returns
    exact ⟨rfl,gzT⟩
end Go.Proofs.YtacnlghljmgdiaaGreatDoor
