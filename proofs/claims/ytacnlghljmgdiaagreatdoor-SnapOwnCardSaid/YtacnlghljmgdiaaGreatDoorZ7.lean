/- Several texts of this proof, joined: T3, T4, V0, PL, LB, JN, LA. -/
import Derived.Test.YtacnlghljmgdiaaGreatDoorZ6
import Derived.WalkKit
import Derived.ProofKit
import Derived.OpenShut
import Derived.Handy
import Derived.BigQuiet
import Derived.Lib.Hide
import Derived.WalkSmall
import Derived.Deep.MidRow
import Derived.WalkLawsBesides
import Derived.Test.YtacnlghljmgdiaaGreatDoorO1
import Derived.OwnWalk
import Derived.Deep.AppendLies
import Derived.Test.YtacnlghljmgdiaaGreatDoorZ4
import Derived.Lib.LaidTab
import Derived.Stop.LaidErr
import Derived.Shelf.Vars
namespace Go.Proofs.YtacnlghljmgdiaaGreatDoor
open Go.RowKit
def z2r:List (List UInt8):=[[60,61],[62,61],[33,61],[40],[41],[59],[58],[43],[45],[42],[47],[37],[60],[62],[61]]
def j7p:Array Value:=(z2r.map fun l=>Value.string ⟨l.toArray⟩).toArray
def Sg (w:World):Prop:=w.var? Tryz.prog "whirligig/tok.signs" = some j7p
theorem z8f:Tryz.prog.globalNamed "whirligig/tok.signs" = some 8:=by kernel_rfl
theorem y3f {w w':World} (h:Sg w) (hb:Below w.heap.size w w'):Sg w':=var?_below hb z8f (z6o z8f h) h
theorem k9k {w:World} (h:Sg w):w.rangeAt 8 0 j7p.toList:=by
 intro j v hv
 rw [Nat.zero_add,World.var?_cell z8f h j]
 simpa using hv
theorem y6k (t p:ByteArray) (w:World):Calls Tryz.prog 198 #[.string t,.string p] w (z6k (.bool (Lib.hasPrefix t.data.toList p.data.toList)) w) :=
 (Any.strings_HasPrefix Tryz.lays99 t p w).mono fun _ _ ⟨he,hw⟩=>⟨he,hw.symm⟩
theorem k3p (i:Nat) (hi:i < 15) (wx:World):(Instr.index 312 (.agg j7p) (.int .i64 (i:Int))).run Tryz.prog wx = .ok (.string ⟨(z2r.getD i []).toArray⟩) wx:=by
 have h:∀ k,k < 15 → k = 0 ∨ k = 1 ∨ k = 2 ∨ k = 3 ∨ k = 4 ∨ k = 5 ∨ k = 6 ∨ k = 7 ∨ k = 8 ∨ k = 9 ∨ k = 10 ∨ k = 11 ∨ k = 12 ∨ k = 13 ∨ k = 14:=by omega
 have hu:=Tryz.underlying312
 rcases h i hi with rfl | rfl | rfl | rfl | rfl | rfl | rfl | rfl | rfl | rfl | rfl | rfl | rfl | rfl | rfl <;> (simp [Instr.index,run_underlying hu,asIntOf,go_sem,j7p,z2r])
theorem v6e (c:UInt8) (r:List UInt8) (i:Nat) (hi:i < 15) (h:(z2r.getD i []).isPrefixOf (c :: r) = true) (hn:∀ j,j < i → (z2r.getD j []).isPrefixOf (c :: r) = false) :
  q2m c r = .ok (5,z2r.getD i [],0,(z2r.getD i []).length):=by
 have e:∀ d:UInt8,v6s d = (d == 60 || d == 62 || d == 33):=fun d=>by
  unfold v6s
  rw [show ((d.toNat:Int) == 60) = (d == 60) from z5f d 60 deT,show ((d.toNat:Int) == 62) = (d == 62) from z5f d 62 deT,show ((d.toNat:Int) == 33) = (d == 33) from z5f d 33 deT]
 have f:∀ (d:UInt8) (l:List UInt8),eqL (d :: l) = (d == 61):=fun d l=>z5f d 61 deT
 have hk:∀ k,k < 15 → k = 0 ∨ k = 1 ∨ k = 2 ∨ k = 3 ∨ k = 4 ∨ k = 5 ∨ k = 6 ∨ k = 7 ∨ k = 8 ∨ k = 9 ∨ k = 10 ∨ k = 11 ∨ k = 12 ∨ k = 13 ∨ k = 14:=by omega
 rcases hk i hi with rfl | rfl | rfl | rfl | rfl | rfl | rfl | rfl | rfl | rfl | rfl | rfl | rfl | rfl | rfl
 all_goals
  have h0:=hn 0
  have h1:=hn 1
  have h2:=hn 2
  clear hn hk
  cases r with
  | nil =>
   simp [z2r,List.isPrefixOf] at h
   try (subst h;simp [z2r,q2m,e,ones,eqL])
  | cons d r =>
   simp [z2r,List.isPrefixOf] at h h0 h1 h2
   first
    | (obtain ⟨rfl,rfl⟩:=h;simp [z2r,q2m,e,f,ones];done)
    | (subst h;simp at h0 h1 h2;simp [z2r,q2m,e,f,ones];done)
    | (subst h;simp at h0 h1 h2;simp [z2r,q2m,e,f,ones,Ne.symm h0];done)
    | (subst h;simp at h0 h1 h2;simp [z2r,q2m,e,f,ones,Ne.symm h1];done)
    | (subst h;simp [z2r,q2m,e,f,ones];done)
theorem v1z (a:Nat) (k:Int) (t:List UInt8) (n:Int) (z:Nat):rdV a (.ok (k,t,n,z)) = .tuple #[.agg #[.int .i64 k,.string ⟨t.toArray⟩,.int .i64 n,.int .i64 0],.int .i64 ((a + z:Nat):Int),.int .i64 0]:=rfl
theorem k2v (a:Nat) (x:Int):rdV a (.error x) = .tuple #[.agg #[.int .i64 0,.string ⟨#[]⟩,.int .i64 0,.int .i64 0],.int .i64 0,.int .i64 x]:=rfl
theorem k9m (c:UInt8) (r:List UInt8) (hn:∀ j,j < 15 → (z2r.getD j []).isPrefixOf (c :: r) = false):q2m c r = .error 11:=by
 have e:∀ d:UInt8,v6s d = (d == 60 || d == 62 || d == 33):=fun d=>by
  unfold v6s
  rw [show ((d.toNat:Int) == 60) = (d == 60) from z5f d 60 deT,show ((d.toNat:Int) == 62) = (d == 62) from z5f d 62 deT,show ((d.toNat:Int) == 33) = (d == 33) from z5f d 33 deT]
 have o:ones.contains c = false:=by
  rw [← Bool.not_eq_true,List.contains_iff_mem]
  intro hm
  have hk:∀ j,j < 12 → ones[j]? = some c → False:=by
   intro j hj hc
   have:=hn (j + 3) omT
   have h:∀ k,k < 12 → k = 0 ∨ k = 1 ∨ k = 2 ∨ k = 3 ∨ k = 4 ∨ k = 5 ∨ k = 6 ∨ k = 7 ∨ k = 8 ∨ k = 9 ∨ k = 10 ∨ k = 11:=by omega
   rcases h j hj with rfl | rfl | rfl | rfl | rfl | rfl | rfl | rfl | rfl | rfl | rfl | rfl <;> (simp [ones] at hc;subst hc;simp [z2r,List.isPrefixOf] at this)
  obtain ⟨j,hj,hc⟩:=List.getElem_of_mem hm
  exact hk j hj (by rw [List.getElem?_eq_getElem hj,hc])
 have two:(v6s c && eqL r) = false:=by
  rw [← Bool.not_eq_true,Bool.and_eq_true,e]
  rintro ⟨h4,h5⟩
  have h1:=hn 12 omT
  have h2:=hn 13 omT
  have h3:=hn 2 omT
  simp only [Bool.or_eq_true,beq_iff_eq] at h4
  rcases h4 with (rfl | rfl) | rfl
  ·simp [z2r,List.isPrefixOf] at h1
  ·simp [z2r,List.isPrefixOf] at h2
  ·cases r with
   | nil=>cases h5
   | cons d r =>
    have h6:(d == 61) = true:=by rw [← show eqL (d :: r) = (d == 61) from z5f d 61 deT];exact h5
    rw [beq_iff_eq] at h6
    subst h6
    simp [z2r,List.isPrefixOf] at h3
 unfold q2m
 rw [two,o]
 rfl
set_option maxRecDepth 100000 in
set_option maxHeartbeats 1000000 in
theorem k4l (s:ByteArray) (a:Nat) (ha:a < s.size) (hs:s.size ≤ 140737488351232) (w:World) (hw:Sg w) :
  Calls Tryz.prog 172 #[.string s,.int .i64 a] w (Ret (rdV a (q2m s[a] (s.data.toList.drop (a + 1)))) w):=by
 obtain ⟨t,ht⟩:∃ t,s.extract a s.size = t:=⟨_,rfl⟩
 have htl:t.data.toList = s[a] :: s.data.toList.drop (a + 1):=by
  rw [← q2x s a ha,← ht,Lib.extract_eq]
  show ((s.data.toList.drop a).take (s.size - a)) = _
  rw [List.take_of_length_le (by simp)]
 generalize s[a] = c at *
 generalize s.data.toList.drop (a + 1) = r at *
 have hsl:∀ wx,(Instr.slice 9 (.string s) (some (.int .i64 (a:Int))) none none).run Tryz.prog wx = .ok (.string t) wx:=by
  intro wx
  have:=run_slice_string_l (P:=Tryz.prog) wx 9 s Tryz.underlying9 .i64 (a:Int) omT omT
  rw [this,show (a:Int).toNat = a from rfl,ht]
 have P:=fun i wx=>hiT (y6k t ⟨(z2r.getD i []).toArray⟩ wx)
 rw [htl] at P
 replace P:=hiT P
 have X:=hiT k3p
 have H:=fun i hi h hn=>hiT (v6e c r i hi h hn)
 replace H:=hiT H
 have N:=fun hn=>hiT (k9m c r hn)
 replace N:=hiT N
 have R:=fun wx (h:Below w.heap.size w wx)=>hiT (k9k (y3f hw h))
 replace R:=hiT R
 have hu:=Tryz.underlying312
 clear ht htl hw
 go_enter Tryz.func172,Tryz.ntmps172
 go_wp2_with (refine wpList_load_mid rfl 312 (.global 8) rfl 8 0 rfl j7p.toList _ ((R.out _ gzT).out) hu rfl krT ?_)
 go_loop [10] (fun v=>∃ i:Nat,i ≤ 15 ∧ v = .int .i64 i ∧ ∀ j,j < i → (z2r.getD j []).isPrefixOf (c :: r) = false) (fun v=>15 - (intOf v).toNat)
 case atStart=>exact ⟨0,Nat.zero_le _,rfl,fun j h=>absurd h (Nat.not_lt_zero _)⟩
 case round =>
  obtain ⟨i,hi,rfl,hall⟩:=hrel
  by_cases hlt:i < 15
  ·have Xi:=X.out i hlt
   have P:=P.out i
   replace P:=hiT P
   unfold Lib.hasPrefix at P
   have hsz:(⟨(z2r.getD i []).toArray⟩:ByteArray).size = (z2r.getD i []).length:=by rw [Lib.size_eq]
   have hle:(z2r.getD i []).length ≤ 2:=by
    have h:∀ k,k < 15 → k = 0 ∨ k = 1 ∨ k = 2 ∨ k = 3 ∨ k = 4 ∨ k = 5 ∨ k = 6 ∨ k = 7 ∨ k = 8 ∨ k = 9 ∨ k = 10 ∨ k = 11 ∨ k = 12 ∨ k = 13 ∨ k = 14:=by omega
    rcases h i hlt with rfl | rfl | rfl | rfl | rfl | rfl | rfl | rfl | rfl | rfl | rfl | rfl | rfl | rfl | rfl <;> decide
   rcases hp:(z2r.getD i []).isPrefixOf (c :: r)
   ·rw [hp] at P
    have hnext:=hiT (show ∀ j,j < i + 1 → (z2r.getD j []).isPrefixOf (c :: r) = false from fun j hj=>by
     rcases Nat.lt_or_eq_of_le (Nat.le_of_lt_succ hj) with h1 | rfl
     ·exact hall j h1
     ·exact hp)
    clear hp hall
    generalize (z2r.getD i []) = y at *
    go_wp2_with ((with_reducible refine ((P.out _).out).mono ?_);rintro e w1 ⟨rfl,rfl⟩)
    go_round
    case rel=>exact ⟨i + 1,by omega,by go_num,hnext.out⟩
    case measure=>simp [intOf];omega
   ·rw [hp] at P
    obtain ⟨q,hq⟩:∃ q:ByteArray,q = ⟨(z2r.getD i []).toArray⟩:=⟨_,rfl⟩
    have hres:=hiT (show rdV a (q2m c r) = .tuple #[.agg #[.int .i64 5,.string q,.int .i64 0,.int .i64 0],.int .i64 ((a:Int) + q.size),.int .i64 0] from by
     rw [(H.out i hlt hp hall).out,v1z,hq,hsz]
     rfl)
    rw [← hsz,← hq] at hle
    rw [← hq] at P Xi
    clear hp hall H hq hsz
    go_wp2_with ((with_reducible refine ((P.out _).out).mono ?_);rintro e w1 ⟨rfl,rfl⟩)
    go_returns
    exact ⟨by rw [hres.out],gzT⟩
  ·obtain rfl:i = 15:=by omega
   have hres:=hiT (show rdV a (q2m c r) = _ from by rw [(N.out hall).out,k2v])
   go_wp2
   go_returns
   exact ⟨by rw [hres.out],gzT⟩
def Lb (w:World):Prop:=v1a w ∧ Errs w ∧ Sg w
theorem z1v {w w':World} (h:Lb w) (hb:Below w.heap.size w w'):Lb w':=⟨q4k h.1 hb,j1a h.2.1 hb,y3f h.2.2 hb⟩
theorem q6l (a:Nat) (x:Tok):∃ (k:Int) (t:ByteArray) (n e y:Int),rdV a x = .tuple #[.agg #[.int .i64 k,.string t,.int .i64 n,.int .i64 0],.int .i64 e,.int .i64 y]:=by
 cases x with
 | error x=>exact ⟨_,_,_,_,_,rfl⟩
 | ok x=>exact ⟨_,_,_,_,_,rfl⟩
set_option maxHeartbeats 1000000 in
theorem k4k (s:ByteArray) (a:Nat) (ha:a < s.size) (hs:s.size ≤ 140737488351232) (w:World) (hw:Lb w) :
  Calls Tryz.prog 139 #[.string s,.int .i64 a] w (Ret (rdV a (z9b (s.data.toList.drop a))) w):=by
 have L:=fun wx=>hiT (q4i s[a] wx)
 replace L:=hiT L
 have D:=fun wx=>hiT (q7l s[a] wx)
 replace D:=hiT D
 rcases h1:y5g s[a]
 ·rcases h2:q9z s[a]
  ·rcases h3:((s[a].toNat:Int) == 39)
   ·have e:z9b (s.data.toList.drop a) = q2m s[a] (s.data.toList.drop (a + 1)):=by rw [q2x s a ha,z9b,h1,h2,h3];rfl
    have T:=fun wx h=>hiT (k4l s a ha hs wx (z1v hw h).2.2)
    replace T:=hiT T
    rw [e]
    rw [h1] at L
    rw [h2] at D
    obtain ⟨k,t,n,z,y,hr⟩:=q6l a (q2m s[a] (s.data.toList.drop (a + 1)))
    rw [hr] at T ⊢
    clear hr e h1 h2 hw
    go_enter Tryz.func139,Tryz.ntmps139
    go_wp2_with (first | ((with_reducible refine ((L.out _).out).mono ?_);rintro e w1 ⟨rfl,rfl⟩) | ((with_reducible refine ((D.out _).out).mono ?_);rintro e w1 ⟨rfl,rfl⟩) | ((with_reducible refine ((T.out _ gzT).out).mono ?_);intro e w1 hr;obtain ⟨rfl,p,rfl⟩:=hr.out;clear hr))
    go_returns
    exact ⟨rfl,gzT⟩
   ·have e:z9b (s.data.toList.drop a) = j0d (s.data.toList.drop (a + 1)):=by rw [q2x s a ha,z9b,h1,h2,h3];rfl
    have T:=fun wx h=>hiT (y7y s a ha hs wx (z1v hw h).1)
    replace T:=hiT T
    rw [e]
    rw [h1] at L
    rw [h2] at D
    obtain ⟨k,t,n,z,y,hr⟩:=q6l a (j0d (s.data.toList.drop (a + 1)))
    rw [hr] at T ⊢
    clear hr e h1 h2 hw
    go_enter Tryz.func139,Tryz.ntmps139
    go_wp2_with (first | ((with_reducible refine ((L.out _).out).mono ?_);rintro e w1 ⟨rfl,rfl⟩) | ((with_reducible refine ((D.out _).out).mono ?_);rintro e w1 ⟨rfl,rfl⟩) | ((with_reducible refine ((T.out _ gzT).out).mono ?_);intro e w1 hr;obtain ⟨rfl,p,rfl⟩:=hr.out;clear hr))
    go_returns
    exact ⟨rfl,gzT⟩
  ·have e:z9b (s.data.toList.drop a) = j0c (s.data.toList.drop a):=by rw [q2x s a ha,z9b,h1,h2];rfl
   have T:=fun wx h=>hiT (y1d s a ha h2 hs wx (z1v hw h).2.1)
   replace T:=hiT T
   rw [e]
   rw [h1] at L
   rw [h2] at D
   obtain ⟨k,t,n,z,y,hr⟩:=q6l a (j0c (s.data.toList.drop a))
   rw [hr] at T ⊢
   clear hr e h1 h2 hw
   go_enter Tryz.func139,Tryz.ntmps139
   go_wp2_with (first | ((with_reducible refine ((L.out _).out).mono ?_);rintro e w1 ⟨rfl,rfl⟩) | ((with_reducible refine ((D.out _).out).mono ?_);rintro e w1 ⟨rfl,rfl⟩) | ((with_reducible refine ((T.out _ gzT).out).mono ?_);intro e w1 hr;obtain ⟨rfl,p,rfl⟩:=hr.out;clear hr))
   go_returns
   exact ⟨rfl,gzT⟩
 ·have e:z9b (s.data.toList.drop a) = z9d (s.data.toList.drop a):=by rw [q2x s a ha,z9b,h1];rfl
  have T:=fun wx h=>hiT (k4o s a (Nat.le_of_lt ha) hs wx (z1v hw h).1)
  replace T:=hiT T
  rw [e]
  rw [h1] at L
  obtain ⟨k,t,n,z,y,hr⟩:=q6l a (z9d (s.data.toList.drop a))
  rw [hr] at T ⊢
  clear hr e h1 hw
  go_enter Tryz.func139,Tryz.ntmps139
  go_wp2_with (first | ((with_reducible refine ((L.out _).out).mono ?_);rintro e w1 ⟨rfl,rfl⟩) | ((with_reducible refine ((D.out _).out).mono ?_);rintro e w1 ⟨rfl,rfl⟩) | ((with_reducible refine ((T.out _ gzT).out).mono ?_);intro e w1 hr;obtain ⟨rfl,p,rfl⟩:=hr.out;clear hr))
  go_returns
  exact ⟨rfl,gzT⟩
def tkC (t:Tk):List Value:=[.int .i64 t.k,.string ⟨t.s.toArray⟩,.int .i64 t.n,.int .i64 (t.a:Int)]
def y8n (ts:List Tk):List Value:=ts.flatMap tkC
theorem k4g (ts:List Tk) (t:Tk):y8n (ts ++ [t]) = y8n ts ++ tkC t:=by simp [y8n]
def j5h (ty:TypeId) (l:List UInt8) (w:World) (e:Ending) (w':World):Prop :=
 match z5b 120 0 l with
 | .ok ts=>∃ v,e = .returned (.tuple #[v,.int .i64 0,.int .i64 0]) ∧ w'.ownsRow w.heap.size ty 4 v ts.length (y8n ts) ∧ Below w.heap.size w w'
 | .error (x,p)=>e = .returned (.tuple #[.slice none 0 0,.int .i64 x,.int .i64 (p:Int)]) ∧ Below w.heap.size w w'
theorem y2i {ty:TypeId} {l:List UInt8} {w:World} {e:Ending} {w':World} {ts:List Tk} (h:z5b 120 0 l = .ok ts) :
  j5h ty l w e w' = ∃ v,e = .returned (.tuple #[v,.int .i64 0,.int .i64 0]) ∧ w'.ownsRow w.heap.size ty 4 v ts.length (y8n ts) ∧ Below w.heap.size w w':=by unfold j5h;rw [h]
theorem q3c {ty:TypeId} {l:List UInt8} {w:World} {e:Ending} {w':World} {x:Int} {p:Nat} (h:z5b 120 0 l = .error (x,p)) :
  j5h ty l w e w' = (e = .returned (.tuple #[.slice none 0 0,.int .i64 x,.int .i64 (p:Int)]) ∧ Below w.heap.size w w'):=by unfold j5h;rw [h]
def AtL (l:List UInt8) (ts:List Tk) (p:Nat):Prop:=ts.length ≤ 120 ∧ z5b 120 0 l = pre ts (z5b (120 - ts.length) p (l.drop p))
theorem k5x (l:List UInt8):AtL l [] 0:=⟨by simp,by rw [v5v];rfl⟩
theorem j0o {l:List UInt8} {ts:List Tk} {p z:Nat} (hz:p + z1k z1y (l.drop p) = z) (h:AtL l ts p):AtL l ts z:=by
 refine ⟨h.1,?_⟩
 rw [h.2,j9t,hz,List.drop_drop,hz]
theorem v3a {l:List UInt8} {ts:List Tk} {p:Nat} (hp:l.length ≤ p) (h:AtL l ts p):z5b 120 0 l = .ok ts:=by
 rw [h.2,List.drop_of_length_le hp,y2j]
 simp [pre]
theorem k5w {l:List UInt8} {ts:List Tk} {p:Nat} {c:UInt8} {r:List UInt8} (hl:l.drop p = c :: r) (hb:((c.toNat:Int) == 32) = false) (hn:ts.length = 120) (h:AtL l ts p):z5b 120 0 l = .error (13,p):=by
 rw [h.2,hl,hn,Nat.sub_self,k1g _ _ _ hb]
 rfl
theorem v2z {l:List UInt8} {ts:List Tk} {p:Nat} {c:UInt8} {r:List UInt8} {x:Int} (hl:l.drop p = c :: r) (hb:((c.toNat:Int) == 32) = false) (hn:ts.length < 120) (ht:z9b (c :: r) = .error x) (h:AtL l ts p):z5b 120 0 l = .error (x,p):=by
 obtain ⟨m,hm⟩:∃ m,120 - ts.length = m + 1:=⟨120 - ts.length - 1,by omega⟩
 rw [h.2,hl,hm,k7n _ _ _ _ _ hb ht]
 rfl
theorem v3b {l:List UInt8} {ts:List Tk} {p:Nat} {c:UInt8} {r:List UInt8} {k:Int} {t:List UInt8} {n:Int} {z:Nat} (hl:l.drop p = c :: r) (hb:((c.toNat:Int) == 32) = false) (hn:ts.length < 120) (ht:z9b (c :: r) = .ok (k,t,n,z)) (h:AtL l ts p):AtL l (ts ++ [⟨k,t,n,p⟩]) (p + z):=by
 obtain ⟨m,hm⟩:∃ m,120 - ts.length = m + 1:=⟨120 - ts.length - 1,by omega⟩
 refine ⟨by simp;omega,?_⟩
 rw [h.2,hl,hm,y2k _ _ _ _ _ _ _ _ hb ht,v5w]
 rw [← hl,List.drop_drop]
 congr 2
 simp;omega
theorem j1z (p:List UInt8 → Bool):∀ l:List UInt8,z1k p (l.drop (z1k p l)) = 0
 | []=>rfl
 | c :: r=>by
  cases h:p (c :: r)
  ·rw [z4j h,List.drop_zero,z4j h]
  ·rw [z2q h,List.drop_succ_cons,j1z p r]
theorem q7e (s:ByteArray) (p z:Nat) (hp:p ≤ s.size) (hz:p + z1k z1y (s.data.toList.drop p) = z):z ≤ s.size ∧ p ≤ z ∧ z1k z1y (s.data.toList.drop z) = 0:=by
 have h:=z3y z1y (s.data.toList.drop p)
 have e:s.data.toList.length = s.size:=by simp
 rw [List.length_drop] at h
 refine ⟨by omega,by omega,?_⟩
 rw [← hz,← List.drop_drop,j1z]
theorem k4z {c:UInt8} {r:List UInt8} {k:Int} {t:List UInt8} {n:Int} {z:Nat} (hc:y5g c = true) (h:z9d (c :: r) = .ok (k,t,n,z)):1 ≤ z ∧ z ≤ (c :: r).length ∧ t.length ≤ z:=by
 have hw:z4y (c :: r) = true:=by simp [z4y,x0q,hc]
 have hs:=z3y z4y (c :: r)
 have h1:=z2q hw
 unfold z9d at h
 simp only at h
 split at h
 ·cases h
 ·simp only [Except.ok.injEq,Prod.mk.injEq] at h
  obtain ⟨_,rfl,_,rfl⟩:=h
  rw [List.length_take]
  omega
theorem k8a {c:UInt8} {r:List UInt8} {k:Int} {t:List UInt8} {n:Int} {z:Nat} (hc:q9z c = true) (h:j0c (c :: r) = .ok (k,t,n,z)):1 ≤ z ∧ z ≤ (c :: r).length ∧ t.length ≤ z:=by
 have hs:=z3y q2w (c :: r)
 have h1:=z2q (p:=q2w) (c:=c) (r:=r) hc
 unfold j0c at h
 simp only at h
 split at h
 ·cases h
 ·split at h
  ·cases h
  ·simp only [Except.ok.injEq,Prod.mk.injEq] at h
   obtain ⟨_,rfl,_,rfl⟩:=h
   rw [List.length_take]
   omega
theorem k8t {c:UInt8} {r:List UInt8} {k:Int} {t:List UInt8} {n:Int} {z:Nat} (h:j0d r = .ok (k,t,n,z)):1 ≤ z ∧ z ≤ (c :: r).length ∧ t.length ≤ z:=by
 have hs:=z3y z8l r
 unfold j0d at h
 simp only at h
 split at h
 ·cases h
 ·split at h
  ·cases h
  ·split at h
   ·simp only [Except.ok.injEq,Prod.mk.injEq] at h
    obtain ⟨_,rfl,_,rfl⟩:=h
    rw [List.length_take,List.length_cons]
    omega
   ·cases h
theorem k9l {c:UInt8} {r:List UInt8} {k:Int} {t:List UInt8} {n:Int} {z:Nat} (h:q2m c r = .ok (k,t,n,z)):1 ≤ z ∧ z ≤ (c :: r).length ∧ t.length ≤ z:=by
 unfold q2m at h
 split at h
 ·rename_i h2
  simp only [Except.ok.injEq,Prod.mk.injEq] at h
  obtain ⟨_,rfl,_,rfl⟩:=h
  cases r with
  | nil=>simp [eqL] at h2
  | cons d r=>simp
 ·split at h
  ·simp only [Except.ok.injEq,Prod.mk.injEq] at h
   obtain ⟨_,rfl,_,rfl⟩:=h
   simp
  ·cases h
theorem j4w {l:List UInt8} {k:Int} {t:List UInt8} {n:Int} {z:Nat} (h:z9b l = .ok (k,t,n,z)):1 ≤ z ∧ z ≤ l.length ∧ t.length ≤ z:=by
 cases l with
 | nil=>cases h
 | cons c r =>
  rw [z9b] at h
  split at h
  ·exact k4z ‹_› h
  ·split at h
   ·exact k8a ‹_› h
   ·split at h
    ·exact k8t h
    ·exact k9l h
theorem j4v {l:List UInt8} {x:Int} (h:z9b l = .error x):(x == 0) = false:=by
 rw [beq_eq_false_iff_ne]
 rintro rfl
 cases l with
 | nil=>cases h
 | cons c r =>
  simp only [z9b,z9d,j0c,j0d,q2m] at h
  repeat (first | (split at h) | (cases h))
theorem y9o (t:ByteArray) (ht:t.size ≤ 140737488351232) (w:World):Calls Tryz.prog 140 #[.string t] w (Ret (.string t) w):=by
 have C:=fun wx=>hiT (show Calls Tryz.prog 173 #[.string t] wx (Ret (.string t) wx) from Any.stringslite_Clone Tryz.laysM316 t wx omT)
 replace C:=hiT C
 go_enter Tryz.func140,Tryz.ntmps140
 go_wp2_with ((with_reducible refine ((C.out _).out).mono ?_);intro e w1 hr;obtain ⟨rfl,p,rfl⟩:=hr.out;clear hr)
 go_returns
 exact ⟨rfl,gzT⟩
theorem Tryz.infoTok:(Tryz.prog.info? 254).map (fun i=>(i.zero,i.size,i.bytes)) = some (some (.agg #[.int .i64 0,.string ⟨#[]⟩,.int .i64 0,.int .i64 0]),4,40):=by kernel_rfl
set_option maxRecDepth 100000 in
set_option maxHeartbeats 2000000 in
theorem q6q (s:ByteArray) (hs:s.size ≤ 140737488351232) (w:World) (hw:Lb w) :
  Calls Tryz.prog 107 #[.string s] w (j5h 254 s.data.toList w):=by
 have hlen:s.data.toList.length = s.size:=by simp
 have R:=fun a ha wx h=>hiT (k4k s a ha hs wx (z1v hw h))
 replace R:=hiT R
 have B:=fun a z hz ha wx=>hiT (j0s s a z hz ha omT wx)
 replace B:=hiT B
 obtain ⟨z0,hz0⟩:∃ z,0 + z1k z1y (s.data.toList.drop 0) = z:=⟨_,rfl⟩
 have B0:=hiT (show ∀ wx,Calls Tryz.prog 138 #[.string s,.int .i64 0] wx (Ret (.int .i64 z0) wx) from fun wx=>j0s s 0 z0 hz0 (Nat.zero_le _) omT wx)
 obtain ⟨i0,hi,hz1,hz2,hz3⟩:=info_parts Tryz.infoTok
 replace hw:=hiT hw
 go_enter Tryz.func107,Tryz.ntmps107
 go_wp2_with ((with_reducible refine (B0.out _).mono ?_);intro e w1 hr;obtain ⟨rfl,p,rfl⟩:=hr.out;clear hr)
 go_loopw [5,6] (fun v x wr=>∃ (ts:List Tk) (p:Nat) (ao:Option Addr) (cap:Nat),v = .slice ao ts.length cap ∧ x = .int .i64 p ∧ p ≤ s.size ∧ wr.ownsRow w.heap.size 254 4 (.slice ao ts.length cap) ts.length (y8n ts) ∧
   AtL s.data.toList ts p ∧ z1k z1y (s.data.toList.drop p) = 0 ∧ Below w.heap.size w wr) (fun _ x _=>s.size - (intOf x).toNat)
 case atStart =>
  refine ⟨[],z0,none,0,rfl,rfl,?_,World.ownsRow_nil _ _ _ _,j0o hz0 (k5x _),?_,gzT⟩
  ·exact (q7e s 0 z0 (Nat.zero_le _) hz0).1
  ·exact (q7e s 0 z0 (Nat.zero_le _) hz0).2.2
 case round =>
  obtain ⟨ts,j,ao,cap,rfl,rfl,hj,hown,hat,hsp,hb⟩:=hrel
  rename World=>wr
  have hwz:=hb.size
  by_cases hlt:j < s.size
  ·have hd:=q2x s j hlt
   have hnb:((s[j].toNat:Int) == 32) = false:=by
    rw [← Bool.not_eq_true]
    intro h
    rw [hd,z2q (p:=z1y) h] at hsp
    omega
   by_cases hm:ts.length = 120
   ·have hres:=hiT (k5w hd hnb hm hat)
    clear hnb hd hsp hat
    go_wp2
    go_returns
    rw [q3c hres.out]
    exact ⟨rfl,gzT⟩
   ·have hm':ts.length < 120:=by have:=hat.1;omega
    rcases ht:z9b (s[j] :: s.data.toList.drop (j + 1)) with x | ⟨k,t,n,z⟩
    ·have hres:=hiT (v2z hd hnb hm' ht hat)
     have hx:=j4v ht
     have R:=R.out j hlt
     rw [hd,ht,k2v] at R
     replace R:=hiT R
     clear hnb hd hsp hat ht
     go_wp2_with ((with_reducible refine ((R.out _ gzT).out).mono ?_);intro e w1 hr;obtain ⟨rfl,p,rfl⟩:=hr.out;clear hr)
     go_returns
     rw [q3c hres.out]
     exact ⟨rfl,gzT⟩
    ·obtain ⟨l1,l2,l3⟩:=j4w ht
     rw [← hd,List.length_drop] at l2
     have hnext:=hiT (v3b hd hnb hm' ht hat)
     obtain ⟨z2,hy2⟩:∃ z2,j + z + z1k z1y (s.data.toList.drop (j + z)) = z2:=⟨_,rfl⟩
     have hy2':=q7e s (j + z) z2 omT hy2
     obtain ⟨q,hq⟩:∃ q:ByteArray,q = ⟨t.toArray⟩:=⟨_,rfl⟩
     have hqt:q.size = t.length:=by rw [hq,Lib.size_eq]
     have hql:q.size ≤ 140737488351232:=by omega
     have R:=R.out j hlt
     rw [hd,ht,v1z,← hq] at R
     replace R:=hiT R
     have C:=fun wx=>hiT (y9o q hql wx)
     replace C:=hiT C
     obtain ⟨e,he⟩:∃ e,j + z = e:=⟨_,rfl⟩
     rw [he] at R
     have B:=fun wx=>(B.out e z2 (by rw [← he];exact hy2) omT wx)
     replace B:=hiT B
     replace hq:=hiT hq
     replace hy2':=hiT hy2'
     replace hy2:=hiT (j0o hy2 hnext.out)
     clear hqt hlen he hnext
     clear hnb hd hsp hat ht
     go_wp2_with (first | ((with_reducible refine ((R.out _ gzT).out).mono ?_);intro e w1 hr;obtain ⟨rfl,p,rfl⟩:=hr.out;clear hr) | ((with_reducible refine ((C.out _).out).mono ?_);intro e w1 hr;obtain ⟨rfl,p,rfl⟩:=hr.out;clear hr) | (at_builtin;refine wpList_append_lies _ rfl _ _ 217 rfl w.heap.size 254 i0 _ 4 40 Tryz.underlying217 hi hz1 hz2 hz3 rfl deT _ ts.length (y8n ts) rfl (z0a hown ?b0) ⟨_,0,none⟩ 1 1 [.int .i64 k,.string q,.int .i64 n,(.int .i64 (j:Int))] rfl rfl ?c1 ?c2 deT ?c3 ?c4 ?c5 _ rfl ?_) | ((with_reducible refine ((B.out _).out).mono ?_);intro e w1 hr;obtain ⟨rfl,p,rfl⟩:=hr.out;clear hr))
     case b0=>exact gzT
     case c1 =>
      intro j' u hj'
      match j',hj' with
      | 0,h=>simp at h;subst h;simp [go_sem,Addr.add]
      | 1,h=>simp at h;subst h;simp [go_sem,Addr.add]
      | 2,h=>simp at h;subst h;simp [go_sem,Addr.add]
      | 3,h=>simp at h;subst h;simp [go_sem,Addr.add]
     case c2=>intro u hu;simp at hu;rcases hu with rfl | rfl | rfl | rfl <;> rfl
     case c3=>unfold maxLen;omega
     case c4=>omega
     case c5=>exact gzT
     intro g cap' w1 hown1 hgrow hat1 hg1
     have hb1:Below w.heap.size w w1:=Below.grown gzT hgrow gzT (fun k hk=>(hown.lt k hk).1)
     have hown2:w1.ownsRow w.heap.size 254 4 (.slice (some ⟨g,0,none⟩) (ts ++ [(⟨k,t,n,j⟩:Tk)]).length cap') (ts ++ [(⟨k,t,n,j⟩:Tk)]).length (y8n (ts ++ [⟨k,t,n,j⟩])):=by
      rw [k4g,show (ts ++ [(⟨k,t,n,j⟩:Tk)]).length = ts.length + 1 by simp]
      rw [hq.out] at hown1
      exact hown1
     replace hown2:=hiT hown2
     have hlen2:=hiT (show (ts ++ [(⟨k,t,n,j⟩:Tk)]).length = ts.length + 1 by simp)
     have hw1:=hb1.size
     clear hown1 hgrow hat1 hg1 hown hq hb R C
     go_wp2_with ((with_reducible refine ((B.out _).out).mono ?_);intro e w1 hr;obtain ⟨rfl,p,rfl⟩:=hr.out;clear hr)
     go_roundw
     case rel=>exact ⟨ts ++ [⟨k,t,n,j⟩],z2,some ⟨g,0,none⟩,cap',by rw [hlen2.out],rfl,hy2'.out.1,z0a hown2.out (z1e _ _),hy2.out,hy2'.out.2.2,gzT⟩
     case measure=>have:=hy2'.out;simp [intOf];omega
  ·have hres:=hiT (v3a omT hat)
   clear hsp hat
   go_wp2
   go_returns
   rw [y2i hres.out]
   exact ⟨_,rfl,hown,gzT⟩
def Toks (w:World) (g:Nat) (ts:List Tk):Prop:=∀ i (h:i < ts.length),w.cell? ⟨g,i * 4,none⟩ = some (.int .i64 ts[i].k) ∧ w.cell? ⟨g,i * 4 + 1,none⟩ = some (.string ⟨ts[i].s.toArray⟩) ∧
 w.cell? ⟨g,i * 4 + 2,none⟩ = some (.int .i64 ts[i].n) ∧ w.cell? ⟨g,i * 4 + 3,none⟩ = some (.int .i64 (ts[i].a:Int))
theorem q9n:∀ (ts:List Tk) (i:Nat) (h:i < ts.length) (j:Nat),j < 4 → (y8n ts)[i * 4 + j]? = (tkC ts[i])[j]?
 | [],i,h,_,_=>absurd h (Nat.not_lt_zero _)
 | t :: r,0,_,j,hj=>by
  unfold y8n
  rw [List.flatMap_cons,Nat.zero_mul,Nat.zero_add,List.getElem?_append_left (by simpa [tkC] using hj)]
  rfl
 | t :: r,i + 1,h,j,hj=>by
  have ih:=q9n r i (by simpa using h) j hj
  unfold y8n at *
  rw [List.flatMap_cons,List.getElem?_append_right (by simp [tkC];omega),show (i + 1) * 4 + j - (tkC t).length = i * 4 + j by simp [tkC];omega,ih]
  rfl
theorem k2h {w:World} {b e:Nat} {v:Value} {ts:List Tk} (h:w.ownsRow b e 4 v ts.length (y8n ts)) :
  (v = .slice none 0 0 ∧ ts = []) ∨ ∃ g cap,v = .slice (some ⟨g,0,none⟩) ts.length cap ∧ b ≤ g ∧ g < w.heap.size ∧ Toks w g ts:=by
 rcases h.2 with ⟨hv,hn⟩ | ⟨g,cap,cur,hv,hb,hg,_⟩
 ·exact .inl ⟨hv,List.eq_nil_of_length_eq_zero hn⟩
 ·refine .inr ⟨g,cap,hv,hb,(Array.getElem?_eq_some_iff.1 hg).1,?_⟩
  have hc:=h.cells (g:=g) (by rw [hv];rfl)
  have hadd:∀ j,(⟨g,0,none⟩:Addr).add j = ⟨g,j,none⟩:=fun j=>by unfold Addr.add;split <;> simp_all
  intro i hi
  refine ⟨?_,?_,?_,?_⟩
  ·rw [← hadd];exact hc _ _ ((q9n ts i hi 0 deT).trans rfl)
  ·rw [← hadd];exact hc _ _ ((q9n ts i hi 1 deT).trans rfl)
  ·rw [← hadd];exact hc _ _ ((q9n ts i hi 2 deT).trans rfl)
  ·rw [← hadd];exact hc _ _ ((q9n ts i hi 3 deT).trans rfl)
theorem q4w {w w':World} {g:Nat} {ts:List Tk} (h:Toks w g ts) (hg:g < w.heap.size) (hb:Below w.heap.size w w'):Toks w' g ts:=by
 intro i hi
 obtain ⟨h1,h2,h3,h4⟩:=h i hi
 exact ⟨(hb.cell (p:=⟨g,_,none⟩) hg).trans h1,(hb.cell (p:=⟨g,_,none⟩) hg).trans h2,(hb.cell (p:=⟨g,_,none⟩) hg).trans h3,(hb.cell (p:=⟨g,_,none⟩) hg).trans h4⟩
def Sl (w:World) (ao:Option Addr) (ts:List Tk):Prop:=0 < ts.length → ∃ g,ao = some ⟨g,0,none⟩ ∧ g < w.heap.size ∧ Toks w g ts
theorem z4g {w w':World} {ao:Option Addr} {ts:List Tk} (h:Sl w ao ts) (hb:Below w.heap.size w w'):Sl w' ao ts:=fun h0=>by
 obtain ⟨g,hg,hgl,ht⟩:=h h0
 exact ⟨g,hg,Nat.lt_of_lt_of_le hgl hb.size,q4w ht hgl hb⟩
def x2w (ts:List Tk) (w:World) (e:Ending) (w':World):Prop:=∃ ao cap,e = .returned (.tuple #[.slice ao ts.length cap,.int .i64 0,.int .i64 0]) ∧ (0 < ts.length → ∃ g,ao = some ⟨g,0,none⟩ ∧ g < w'.heap.size ∧ Toks w' g ts) ∧ Below w.heap.size w w'
theorem k1i {ty:TypeId} {l:List UInt8} {w:World} {e:Ending} {w':World} {ts:List Tk} (h:z5b 120 0 l = .ok ts) (hr:j5h ty l w e w'):x2w ts w e w':=by
 obtain ⟨v,he,hown,hb⟩:=(y2i h).mp hr
 rcases k2h hown with ⟨rfl,rfl⟩ | ⟨g,cap,rfl,hg,hgl,ht⟩
 ·exact ⟨none,0,he,fun h=>absurd h (Nat.lt_irrefl _),hb⟩
 ·exact ⟨_,cap,he,fun _=>⟨g,rfl,hgl,ht⟩,hb⟩
theorem y5j {m a:Nat} {l:List UInt8} {ts:List Tk} (h:z5b m a l = .ok ts):ts.length ≤ m:=by
 induction m generalizing a l ts with
 | zero =>
  rw [z5b] at h
  split at h
  ·cases h;exact Nat.le_refl _
  ·cases h
 | succ m ih =>
  rw [z5b] at h
  split at h
  ·cases h;simp
  ·split at h
   ·cases h
   ·split at h
    ·cases h
    ·rename_i h2
     cases h
     have:=ih h2
     simp;omega
theorem k7o {m a:Nat} {l:List UInt8} {x:Int} {j:Nat} (h:z5b m a l = .error (x,j)):(x == 0) = false:=by
 induction m generalizing a l with
 | zero =>
  rw [z5b] at h
  split at h
  ·cases h
  ·cases h;decide
 | succ m ih =>
  rw [z5b] at h
  split at h
  ·cases h
  ·split at h
   ·rename_i h2
    cases h
    exact j4v h2
   ·split at h
    ·rename_i h2
     cases h
     exact ih h2
    ·cases h
end Go.Proofs.YtacnlghljmgdiaaGreatDoor
namespace Go.Proofs.YtacnlghljmgdiaaGreatDoor
def z5q (k:Int) (s:List UInt8):List UInt8:=if k = 4 then 39 :: (s ++ [39]) else s
def v1f (l:List UInt8):Prop:=∀ c ∈ l,((c.toNat:Int) == 32) = true
theorem q0o {l:List UInt8} {k:Int} {t:List UInt8} {n:Int} {z:Nat} (h:z9d l = .ok (k,t,n,z)):(k = 1 ∨ k = 2) ∧ n = 0 ∧ l.take z = t ∧ z = t.length:=by
 unfold z9d at h
 simp only at h
 split at h
 ·cases h
 ·simp only [Except.ok.injEq,Prod.mk.injEq] at h
  obtain ⟨rfl,rfl,rfl,rfl⟩:=h
  refine ⟨?_,rfl,?_,rfl⟩
  ·split <;> simp
  ·rw [List.length_take,Nat.min_eq_left (z3y _ _)]
theorem q3k {l:List UInt8} {k:Int} {t:List UInt8} {n:Int} {z:Nat} (h:j0c l = .ok (k,t,n,z)):k = 3 ∧ l.take z = t ∧ z = t.length:=by
 unfold j0c at h
 simp only at h
 split at h
 ·cases h
 ·split at h
  ·cases h
  ·simp only [Except.ok.injEq,Prod.mk.injEq] at h
   obtain ⟨rfl,rfl,_,rfl⟩:=h
   refine ⟨rfl,?_,rfl⟩
   rw [List.length_take,Nat.min_eq_left (z3y _ _)]
theorem q5p:∀ (l:List UInt8),z1k z8l l ≠ l.length → ∃ q,l.drop (z1k z8l l) = 39 :: q
 | [],h=>absurd rfl h
 | c :: r,h=>by
  cases hc:((c.toNat:Int) == 39)
  ·have ht:z8l (c :: r) = true:=by show (!((c.toNat:Int) == 39)) = true;rw [hc];rfl
   rw [z2q ht,List.length_cons] at h
   rw [z2q ht,List.drop_succ_cons]
   exact q5p r omT
  ·have ht:z8l (c :: r) = false:=by show (!((c.toNat:Int) == 39)) = false;rw [hc];rfl
   rw [z4j ht,List.drop_zero]
   rw [q6k,beq_iff_eq] at hc
   exact ⟨r,by rw [hc]⟩
theorem y3b {c:UInt8} {r:List UInt8} {k:Int} {t:List UInt8} {n:Int} {z:Nat} (hc:((c.toNat:Int) == 39) = true) (h:j0d r = .ok (k,t,n,z)):k = 4 ∧ n = 0 ∧ (c :: r).take z = 39 :: (t ++ [39]) ∧ z = t.length + 2:=by
 rw [q6k,beq_iff_eq] at hc
 subst hc
 have hs:=z3y z8l r
 unfold j0d at h
 simp only at h
 split at h
 ·cases h
 ·split at h
  ·cases h
  ·split at h
   ·rename_i h1 _ _
    simp only [Except.ok.injEq,Prod.mk.injEq] at h
    obtain ⟨rfl,rfl,rfl,rfl⟩:=h
    obtain ⟨q,hq⟩:=q5p r h1
    refine ⟨rfl,rfl,?_,?_⟩
    ·rw [show z1k z8l r + 2 = (z1k z8l r + 1) + 1 by omega,List.take_succ_cons,List.take_add,hq]
     rfl
    ·rw [List.length_take,Nat.min_eq_left hs]
   ·cases h
theorem y3g {c:UInt8} {r:List UInt8} {k:Int} {t:List UInt8} {n:Int} {z:Nat} (h:q2m c r = .ok (k,t,n,z)):k = 5 ∧ n = 0 ∧ (c :: r).take z = t ∧ z = t.length:=by
 unfold q2m at h
 split at h
 ·rename_i h2
  simp only [Except.ok.injEq,Prod.mk.injEq] at h
  obtain ⟨rfl,rfl,rfl,rfl⟩:=h
  rw [Bool.and_eq_true] at h2
  refine ⟨rfl,rfl,?_,rfl⟩
  cases r with
  | nil=>cases h2.2
  | cons d q =>
   have:d = 61:=by
    have h3:((d.toNat:Int) == 61) = true:=h2.2
    rw [show ((d.toNat:Int) == 61) = (d == 61) from z5f d 61 deT,beq_iff_eq] at h3
    exact h3
   subst this
   rfl
 ·split at h
  ·simp only [Except.ok.injEq,Prod.mk.injEq] at h
   obtain ⟨rfl,rfl,rfl,rfl⟩:=h
   exact ⟨rfl,rfl,rfl,rfl⟩
  ·cases h
theorem v0g {l:List UInt8} {k:Int} {t:List UInt8} {n:Int} {z:Nat} (h:z9b l = .ok (k,t,n,z)):l.take z = z5q k t ∧ z = (z5q k t).length:=by
 cases l with
 | nil=>cases h
 | cons c r =>
  rw [z9b] at h
  split at h
  ·obtain ⟨hk,_,h1,h2⟩:=q0o h
   have:z5q k t = t:=by unfold z5q;rw [if_neg omT]
   rw [this];exact ⟨h1,h2⟩
  ·split at h
   ·obtain ⟨rfl,h1,h2⟩:=q3k h
    exact ⟨h1,h2⟩
   ·split at h
    ·obtain ⟨rfl,_,h1,h2⟩:=y3b ‹_› h
     refine ⟨h1,?_⟩
     rw [h2];simp [z5q]
    ·obtain ⟨rfl,_,h1,h2⟩:=y3g h
     exact ⟨h1,h2⟩
def y8q (l:List UInt8):Nat → List Tk → Prop
 | p,[]=>v1f (l.drop p)
 | p,t :: r=>p ≤ t.a ∧ v1f ((l.drop p).take (t.a - p)) ∧ (l.drop t.a).take (z5q t.k t.s).length = z5q t.k t.s ∧ t.a + (z5q t.k t.s).length ≤ l.length ∧ y8q l (t.a + (z5q t.k t.s).length) r
end Go.Proofs.YtacnlghljmgdiaaGreatDoor
namespace Go.Proofs.YtacnlghljmgdiaaGreatDoor
open Go.RowKit Go.Lib
def v2f {H:Type} (ls:List (List UInt8)):DataW H := .agg (ls.map fun l => .lit (.string l))
theorem z1o {H:Type} {enc:TypeId × Value → H} {P:Program} {w:World} {base:Nat} {sp:Nat → Bool} {held:Bool} {fuel:Nat} {t e:TypeId} {n:Nat} {cs:List Value} {ls:List (List UInt8)} {p:List MemPlace}
  (ht:P.underlying t = some (.array n e)) (he:P.underlying e = some .string) (hce:P.cellsOf e = 1) (hct:P.cellsOf t = n)
  (h:DataW.trod enc P w base sp held fuel t cs = some (v2f ls,p)):cs = ls.map fun l=>Value.string ⟨l.toArray⟩:=by
 cases fuel with
 | zero=>simp [DataW.trod] at h
 | succ fuel =>
  simp only [DataW.trod,ht,hce,hct,Nat.mul_one] at h
  split at h
  ·rename_i hl
   obtain ⟨xs,hm,hx⟩:=Option.map_eq_some_iff.1 h
   have hxs:xs.map (·.1) = ls.map fun l=>(DataW.lit (.string l):DataW H):=by
    have:=congrArg Prod.fst hx
    simpa [v2f] using this
   have hxl:xs.length = n:=by simpa using mapM_length hm
   have hll:ls.length = n:=by
    have:=congrArg List.length hxs
    simp at this
    omega
   refine List.ext_getElem? fun i=>?_
   rcases Nat.lt_or_ge i n with hi | hi
   ·obtain ⟨b,hb,hf⟩:=mapM_at hm i i (by simp [hi])
    obtain ⟨z,hc,rfl,_⟩:=DataW.trod_string he hf
    have h1:cs[i]? = some (.string z):=by
     have:=congrArg (·[0]?) hc
     simpa [List.getElem?_take,List.getElem?_drop] using this
    have h2:(ls.map fun l=>(DataW.lit (.string l):DataW H))[i]? = some (DataW.lit (.string z.data.toList)):=by rw [← hxs];simp [hb]
    rw [List.getElem?_map] at h2
    obtain ⟨l,hl',he'⟩:=Option.map_eq_some_iff.1 h2
    simp only [DataW.lit.injEq,Lit.string.injEq] at he'
    rw [h1,List.getElem?_map,hl',he']
    rfl
   ·rw [List.getElem?_eq_none omT,List.getElem?_eq_none (by simp;omega)]
  ·cases h
theorem j9v {W:World} (h:W.ShapedOpen Tryz.prog):v1a W :=
 cell_of_shapedOpen_int (P:=Tryz.prog) (g:=6) (t:=3) (zero:=#[.int .i64 0]) h (of_decide_eq_true krT) krT rfl krT krT Tryz.underlying3
end Go.Proofs.YtacnlghljmgdiaaGreatDoor
namespace Go.Proofs.YtacnlghljmgdiaaGreatDoor
def Behind (r:List UInt8):Prop:=r = [] ∨ ∃ q,r = 32 :: q
theorem q9t {r:List UInt8} (h:Behind r):z1k z4y r = 0:=by
 rcases h with rfl | ⟨q,rfl⟩
 ·rfl
 ·exact z4j (p:=z4y) (by simp [z4y,x0q,y5g,q9z])
theorem q5g {r:List UInt8} (h:Behind r):z1k q2w r = 0:=by
 rcases h with rfl | ⟨q,rfl⟩
 ·rfl
 ·exact z4j (p:=q2w) rfl
theorem j2p {r:List UInt8} (h:Behind r):∀ l:List UInt8,z1k z4y (l.take (z1k z4y l) ++ r) = z1k z4y l
 | []=>q9t h
 | c :: q=>by
  cases hw:z4y (c :: q)
  ·rw [z4j hw]
   exact q9t h
  ·rw [z2q hw,List.take_succ_cons,List.cons_append]
   have hw':z4y (c :: (q.take (z1k z4y q) ++ r)) = true:=by
    rw [z4y,Bool.or_eq_true,Bool.and_eq_true] at hw ⊢
    rcases hw with hi | ⟨hd,hh⟩
    ·exact .inl hi
    ·refine .inr ⟨hd,?_⟩
     cases q with
     | nil=>cases hh
     | cons d s =>
      have:z4y (d :: s) = true:=by
       have hl:y5g d = true:=hh
       rw [z4y,x0q,hl];rfl
      rw [z2q this,List.take_succ_cons]
      exact hh
   rw [z2q hw',j2p h q]
theorem q7k {r:List UInt8} (h:Behind r):∀ l:List UInt8,z1k q2w (l.take (z1k q2w l) ++ r) = z1k q2w l
 | []=>q5g h
 | c :: q=>by
  cases hw:q2w (c :: q)
  ·rw [z4j hw]
   exact q5g h
  ·rw [z2q hw,List.take_succ_cons,List.cons_append]
   have hw':q2w (c :: (q.take (z1k q2w q) ++ r)) = true:=hw
   rw [z2q hw',q7k h q]
theorem y1l {l r:List UInt8} {k:Int} {t:List UInt8} {n:Int} {z:Nat} (hr:Behind r) (h:z9d l = .ok (k,t,n,z)):z9d (t ++ r) = .ok (k,t,n,t.length):=by
 obtain ⟨_,_,ht,hz⟩:=q0o h
 unfold z9d at h
 simp only at h
 split at h
 ·cases h
 ·rename_i hc
  simp only [Except.ok.injEq,Prod.mk.injEq] at h
  obtain ⟨hk,ht2,hn,hz2⟩:=h
  have hs:z1k z4y (t ++ r) = t.length:=by
   have:=j2p hr l
   rw [ht2] at this
   rw [this,← hz,← hz2,List.length_take,Nat.min_eq_left (z3y _ _)]
  unfold z9d
  simp only [hs,List.take_left' rfl]
  rw [ht2] at hc hk
  rw [if_neg hc,hk,hn]
theorem y6c {l r:List UInt8} {k:Int} {t:List UInt8} {n:Int} {z:Nat} (hr:Behind r) (h:j0c l = .ok (k,t,n,z)):j0c (t ++ r) = .ok (k,t,n,t.length):=by
 obtain ⟨_,ht,hz⟩:=q3k h
 unfold j0c at h
 simp only at h
 split at h
 ·cases h
 ·rename_i hc
  split at h
  ·cases h
  ·rename_i hv
   simp only [Except.ok.injEq,Prod.mk.injEq] at h
   obtain ⟨hk,ht2,hn,hz2⟩:=h
   have hs:z1k q2w (t ++ r) = t.length:=by
    have:=q7k hr l
    rw [ht2] at this
    rw [this,← hz,← hz2,List.length_take,Nat.min_eq_left (z3y _ _)]
   unfold j0c
   simp only [hs,List.take_left' rfl]
   rw [ht2] at hc hv hn
   rw [if_neg hc,if_neg hv,← hk,hn]
theorem j7y:∀ (l:List UInt8),∀ d ∈ l.take (z1k z8l l),d ≠ 39
 | [],d,h=>by simp at h
 | c :: r,d,h=>by
  cases hc:z8l (c :: r)
  ·rw [z4j hc] at h;simp at h
  ·rw [z2q hc,List.take_succ_cons] at h
   rcases List.mem_cons.1 h with rfl | h
   ·intro he
    subst he
    cases hc
   ·exact j7y r d h
theorem y6n {l r:List UInt8} {k:Int} {t:List UInt8} {n:Int} {z:Nat} (h:j0d l = .ok (k,t,n,z)):j0d (t ++ 39 :: r) = .ok (k,t,n,t.length + 2):=by
 unfold j0d at h
 simp only at h
 split at h
 ·cases h
 ·split at h
  ·cases h
  ·rename_i h48
   split at h
   ·rename_i hp
    simp only [Except.ok.injEq,Prod.mk.injEq] at h
    obtain ⟨hk,rfl,hn,_⟩:=h
    have hl:(l.take (z1k z8l l)).length = z1k z8l l:=by rw [List.length_take,Nat.min_eq_left (z3y _ _)]
    rw [y3a _ _ (j7y l),hl,if_neg h48,if_pos hp,← hk,← hn]
   ·cases h
theorem y7h {c:UInt8} {q r:List UInt8} {k:Int} {t:List UInt8} {n:Int} {z:Nat} (hr:Behind r) (h:q2m c q = .ok (k,t,n,z)):∃ p,t ++ r = c :: p ∧ q2m c p = .ok (k,t,n,t.length):=by
 unfold q2m at h
 split at h
 ·rename_i h2
  simp only [Except.ok.injEq,Prod.mk.injEq] at h
  obtain ⟨rfl,rfl,rfl,rfl⟩:=h
  rw [Bool.and_eq_true] at h2
  refine ⟨61 :: r,rfl,?_⟩
  unfold q2m
  rw [if_pos (by rw [h2.1];rfl)]
  rfl
 ·split at h
  ·rename_i h3
   simp only [Except.ok.injEq,Prod.mk.injEq] at h
   obtain ⟨rfl,rfl,rfl,rfl⟩:=h
   refine ⟨r,rfl,?_⟩
   unfold q2m
   have he:eqL r = false:=by
    rcases hr with rfl | ⟨q,rfl⟩ <;> rfl
   rw [he,Bool.and_false,if_neg deT,if_pos h3]
   rfl
  ·cases h
theorem y7v {l r:List UInt8} {k:Int} {t:List UInt8} {n:Int} {z:Nat} (hr:Behind r) (h:z9b l = .ok (k,t,n,z)):z9b (z5q k t ++ r) = .ok (k,t,n,(z5q k t).length):=by
 obtain ⟨f1,f2⟩:=v0g h
 obtain ⟨z1,_,_⟩:=j4w h
 cases l with
 | nil=>cases h
 | cons c q =>
  obtain ⟨m,hm⟩:∃ m,z = m + 1:=⟨z - 1,by omega⟩
  have hhead:∃ p,z5q k t = c :: p:=⟨q.take m,by rw [← f1,hm,List.take_succ_cons]⟩
  obtain ⟨p,hp⟩:=hhead
  rw [z9b] at h
  split at h
  ·rename_i h1
   have hk:=(q0o h).1
   have hf:z5q k t = t:=by unfold z5q;rw [if_neg omT]
   rw [hf] at hp ⊢
   have:=y1l hr h
   rw [hp,List.cons_append] at this ⊢
   rw [z9b,if_pos h1]
   exact this
  ·rename_i h1
   split at h
   ·rename_i h2
    have hk:=(q3k h).1
    have hf:z5q k t = t:=by unfold z5q;rw [if_neg omT]
    rw [hf] at hp ⊢
    have:=y6c hr h
    rw [hp,List.cons_append] at this ⊢
    rw [z9b,if_neg h1,if_pos h2]
    exact this
   ·rename_i h2
    split at h
    ·rename_i h3
     have hk:=(y3b h3 h).1
     have hf:z5q k t = 39 :: (t ++ [39]):=by unfold z5q;rw [if_pos hk]
     have hc:c = 39:=by
      rw [hf] at hp
      exact (List.cons.inj hp).1.symm
     subst hc
     have:=y6n (r:=r) h
     rw [hf,List.cons_append,List.append_assoc]
     rw [z9b,if_neg h1,if_neg h2,if_pos h3]
     show j0d (t ++ 39 :: r) = _
     rw [this]
     simp
    ·rename_i h3
     have hk:=(y3g h).1
     have hf:z5q k t = t:=by unfold z5q;rw [if_neg omT]
     rw [hf] at hp ⊢
     obtain ⟨p',h4,h5⟩:=y7h hr h
     rw [h4,z9b,if_neg h1,if_neg h2,if_neg h3]
     exact h5
def x1h (ts:List Tk):Prop:=∀ t ∈ ts,∃ l z,z9b l = .ok (t.k,t.s,t.n,z)
theorem k1f {m a:Nat} {l:List UInt8} {ts:List Tk} (h:z5b m a l = .ok ts):x1h ts:=by
 induction m generalizing a l ts with
 | zero =>
  rw [z5b] at h
  split at h
  ·cases h;intro t ht;cases ht
  ·cases h
 | succ m ih =>
  rw [z5b] at h
  split at h
  ·cases h;intro t ht;cases ht
  ·split at h
   ·cases h
   ·split at h
    ·cases h
    ·rename_i h1 _ _ h2
     cases h
     intro t ht
     rcases List.mem_cons.1 ht with rfl | ht
     ·exact ⟨_,_,h1⟩
     ·exact ih h2 t ht
def k0x:List Tk → List UInt8
 | []=>[]
 | [t]=>z5q t.k t.s
 | t :: r=>z5q t.k t.s ++ 32 :: k0x r
theorem y7w (r:List UInt8):z9b (32 :: r) = .error 11:=by
 rw [z9b,if_neg deT,if_neg deT,if_neg deT]
 unfold q2m
 rw [show v6s 32 = false from by decide,Bool.false_and,if_neg deT,if_neg deT]
theorem join_length:∀ (l:List UInt8) (p:Nat) (ts:List Tk),p ≤ l.length → y8q l p ts → (k0x ts).length + p ≤ l.length + ts.length
 | l,p,[],hp,_=>by simp [k0x];exact hp
 | l,p,[t],hp,h=>by
  obtain ⟨h1,_,_,h4,_⟩:=h
  simp [k0x];omega
 | l,p,t :: u :: r,hp,h=>by
  obtain ⟨h1,_,_,h4,h5⟩:=h
  have ih:=join_length l _ (u :: r) h4 h5
  show (z5q t.k t.s ++ 32 :: k0x (u :: r)).length + p ≤ _
  rw [List.length_append,List.length_cons,List.length_cons]
  omega
def v2j (r:List UInt8):Prop:=r = [] ∨ ∃ c q,r = c :: q ∧ (c = 32 ∨ c = 41)
theorem Behind.p {r:List UInt8} (h:Behind r):v2j r:=by
 rcases h with rfl | ⟨q,rfl⟩
 ·exact .inl rfl
 ·exact .inr ⟨_,_,rfl,.inl rfl⟩
end Go.Proofs.YtacnlghljmgdiaaGreatDoor
