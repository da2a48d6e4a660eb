/- Several texts of this proof, joined: T3, T4, V0, PL, LB, JN, LA. -/
import Derived.Test.YtfgpmcepppcmiaaGreatDoorZ6
import Derived.WalkKit
import Derived.ProofKit
import Derived.OpenShut
import Derived.Handy
import Derived.BigQuiet
import Derived.Lib.Hide
import Derived.WalkSmall
import Derived.Deep.MidRow
import Derived.WalkLawsBesides
import Derived.Test.YtfgpmcepppcmiaaGreatDoorO1
import Derived.OwnWalk
import Derived.Deep.AppendLies
import Derived.Test.YtfgpmcepppcmiaaGreatDoorZ4
import Derived.Lib.LaidTab
import Derived.Stop.LaidErr
import Derived.Shelf.Vars
namespace Go.Proofs.YtfgpmcepppcmiaaGreatDoor
open Go.RowKit
def signsL:List (List UInt8):=[[60,61],[62,61],[33,61],[40],[41],[59],[58],[43],[45],[42],[47],[37],[60],[62],[61]]
def signsV:Array Value:=(signsL.map fun l=>Value.string ⟨l.toArray⟩).toArray
def Sg (w:World):Prop:=w.var? Tryz.prog "whirligig/tok.signs" = some signsV
theorem sg_global:Tryz.prog.globalNamed "whirligig/tok.signs" = some 8:=by kernel_rfl
theorem sg_below {w w':World} (h:Sg w) (hb:Below w.heap.size w w'):Sg w':=var?_below hb sg_global (global_lt sg_global h) h
theorem sg_range {w:World} (h:Sg w):w.rangeAt 8 0 signsV.toList:=by
 intro j v hv
 rw [Nat.zero_add,World.var?_cell sg_global h j]
 simpa using hv
theorem prefix_any (t p:ByteArray) (w:World):Calls Tryz.prog 199 #[.string t,.string p] w (RetW (.bool (Lib.hasPrefix t.data.toList p.data.toList)) w) :=
 (Any.strings_HasPrefix Tryz.lays99 t p w).mono fun _ _ ⟨he,hw⟩=>⟨he,hw.symm⟩
theorem sgn_index (i:Nat) (hi:i < 15) (wx:World):(Instr.index 312 (.agg signsV) (.int .i64 (i:Int))).run Tryz.prog wx = .ok (.string ⟨(signsL.getD i []).toArray⟩) wx:=by
 have h:∀ k,k < 15 → k = 0 ∨ k = 1 ∨ k = 2 ∨ k = 3 ∨ k = 4 ∨ k = 5 ∨ k = 6 ∨ k = 7 ∨ k = 8 ∨ k = 9 ∨ k = 10 ∨ k = 11 ∨ k = 12 ∨ k = 13 ∨ k = 14:=by omega
 have hu:=Tryz.underlying312
 rcases h i hi with rfl | rfl | rfl | rfl | rfl | rfl | rfl | rfl | rfl | rfl | rfl | rfl | rfl | rfl | rfl <;> (simp [Instr.index,run_underlying hu,asIntOf,go_sem,signsV,signsL])
theorem sgn_hit (c:UInt8) (r:List UInt8) (i:Nat) (hi:i < 15) (h:(signsL.getD i []).isPrefixOf (c :: r) = true) (hn:∀ j,j < i → (signsL.getD j []).isPrefixOf (c :: r) = false) :
  sgnT c r = .ok (5,signsL.getD i [],0,(signsL.getD i []).length):=by
 have e:∀ d:UInt8,twoB d = (d == 60 || d == 62 || d == 33):=fun d=>by
  unfold twoB
  rw [show ((d.toNat:Int) == 60) = (d == 60) from byte_eq d 60 (by decide),show ((d.toNat:Int) == 62) = (d == 62) from byte_eq d 62 (by decide),show ((d.toNat:Int) == 33) = (d == 33) from byte_eq d 33 (by decide)]
 have f:∀ (d:UInt8) (l:List UInt8),eqL (d :: l) = (d == 61):=fun d l=>byte_eq d 61 (by decide)
 have hk:∀ k,k < 15 → k = 0 ∨ k = 1 ∨ k = 2 ∨ k = 3 ∨ k = 4 ∨ k = 5 ∨ k = 6 ∨ k = 7 ∨ k = 8 ∨ k = 9 ∨ k = 10 ∨ k = 11 ∨ k = 12 ∨ k = 13 ∨ k = 14:=by omega
 rcases hk i hi with rfl | rfl | rfl | rfl | rfl | rfl | rfl | rfl | rfl | rfl | rfl | rfl | rfl | rfl | rfl
 all_goals
  have h0:=hn 0
  have h1:=hn 1
  have h2:=hn 2
  clear hn hk
  cases r with
  | nil =>
   simp [signsL,List.isPrefixOf] at h
   try (subst h;simp [signsL,sgnT,e,ones,eqL])
  | cons d r =>
   simp [signsL,List.isPrefixOf] at h h0 h1 h2
   first
    | (obtain ⟨rfl,rfl⟩:=h;simp [signsL,sgnT,e,f,ones];done)
    | (subst h;simp at h0 h1 h2;simp [signsL,sgnT,e,f,ones];done)
    | (subst h;simp at h0 h1 h2;simp [signsL,sgnT,e,f,ones,Ne.symm h0];done)
    | (subst h;simp at h0 h1 h2;simp [signsL,sgnT,e,f,ones,Ne.symm h1];done)
    | (subst h;simp [signsL,sgnT,e,f,ones];done)
theorem rdV_ok (a:Nat) (k:Int) (t:List UInt8) (n:Int) (z:Nat):rdV a (.ok (k,t,n,z)) = .tuple #[.agg #[.int .i64 k,.string ⟨t.toArray⟩,.int .i64 n,.int .i64 0],.int .i64 ((a + z:Nat):Int),.int .i64 0]:=rfl
theorem rdV_err (a:Nat) (x:Int):rdV a (.error x) = .tuple #[.agg #[.int .i64 0,.string ⟨#[]⟩,.int .i64 0,.int .i64 0],.int .i64 0,.int .i64 x]:=rfl
theorem sgn_none (c:UInt8) (r:List UInt8) (hn:∀ j,j < 15 → (signsL.getD j []).isPrefixOf (c :: r) = false):sgnT c r = .error 11:=by
 have e:∀ d:UInt8,twoB d = (d == 60 || d == 62 || d == 33):=fun d=>by
  unfold twoB
  rw [show ((d.toNat:Int) == 60) = (d == 60) from byte_eq d 60 (by decide),show ((d.toNat:Int) == 62) = (d == 62) from byte_eq d 62 (by decide),show ((d.toNat:Int) == 33) = (d == 33) from byte_eq d 33 (by decide)]
 have o:ones.contains c = false:=by
  rw [← Bool.not_eq_true,List.contains_iff_mem]
  intro hm
  have hk:∀ j,j < 12 → ones[j]? = some c → False:=by
   intro j hj hc
   have:=hn (j + 3) (by omega)
   have h:∀ k,k < 12 → k = 0 ∨ k = 1 ∨ k = 2 ∨ k = 3 ∨ k = 4 ∨ k = 5 ∨ k = 6 ∨ k = 7 ∨ k = 8 ∨ k = 9 ∨ k = 10 ∨ k = 11:=by omega
   rcases h j hj with rfl | rfl | rfl | rfl | rfl | rfl | rfl | rfl | rfl | rfl | rfl | rfl <;> (simp [ones] at hc;subst hc;simp [signsL,List.isPrefixOf] at this)
  obtain ⟨j,hj,hc⟩:=List.getElem_of_mem hm
  exact hk j hj (by rw [List.getElem?_eq_getElem hj,hc])
 have two:(twoB c && eqL r) = false:=by
  rw [← Bool.not_eq_true,Bool.and_eq_true,e]
  rintro ⟨h4,h5⟩
  have h1:=hn 12 (by omega)
  have h2:=hn 13 (by omega)
  have h3:=hn 2 (by omega)
  simp only [Bool.or_eq_true,beq_iff_eq] at h4
  rcases h4 with (rfl | rfl) | rfl
  ·simp [signsL,List.isPrefixOf] at h1
  ·simp [signsL,List.isPrefixOf] at h2
  ·cases r with
   | nil=>cases h5
   | cons d r =>
    have h6:(d == 61) = true:=by rw [← show eqL (d :: r) = (d == 61) from byte_eq d 61 (by decide)];exact h5
    rw [beq_iff_eq] at h6
    subst h6
    simp [signsL,List.isPrefixOf] at h3
 unfold sgnT
 rw [two,o]
 rfl
set_option maxRecDepth 100000 in
set_option maxHeartbeats 1000000 in
theorem tsign_any (s:ByteArray) (a:Nat) (ha:a < s.size) (hs:s.size ≤ 140737488351232) (w:World) (hw:Sg w) :
  Calls Tryz.prog 173 #[.string s,.int .i64 a] w (Ret (rdV a (sgnT s[a] (s.data.toList.drop (a + 1)))) w):=by
 obtain ⟨t,ht⟩:∃ t,s.extract a s.size = t:=⟨_,rfl⟩
 have htl:t.data.toList = s[a] :: s.data.toList.drop (a + 1):=by
  rw [← dropK s a ha,← ht,Lib.extract_eq]
  show ((s.data.toList.drop a).take (s.size - a)) = _
  rw [List.take_of_length_le (by simp)]
 generalize s[a] = c at *
 generalize s.data.toList.drop (a + 1) = r at *
 have hsl:∀ wx,(Instr.slice 9 (.string s) (some (.int .i64 (a:Int))) none none).run Tryz.prog wx = .ok (.string t) wx:=by
  intro wx
  have:=run_slice_string_l (P:=Tryz.prog) wx 9 s Tryz.underlying9 .i64 (a:Int) (by omega) (by omega)
  rw [this,show (a:Int).toNat = a from rfl,ht]
 have P:=fun i wx=>Lib.hid (prefix_any t ⟨(signsL.getD i []).toArray⟩ wx)
 rw [htl] at P
 replace P:=Lib.hid P
 have X:=Lib.hid sgn_index
 have H:=fun i hi h hn=>Lib.hid (sgn_hit c r i hi h hn)
 replace H:=Lib.hid H
 have N:=fun hn=>Lib.hid (sgn_none c r hn)
 replace N:=Lib.hid N
 have R:=fun wx (h:Below w.heap.size w wx)=>Lib.hid (sg_range (sg_below hw h))
 replace R:=Lib.hid R
 have hu:=Tryz.underlying312
 clear ht htl hw
 go_enter Tryz.func173,Tryz.ntmps173
 go_wp2_with (refine wpList_load_mid rfl 312 (.global 8) rfl 8 0 rfl signsV.toList _ ((R.out _ (by (first | exact gwT | exact lzT))).out) hu rfl (by kernel_rfl) ?_)
 go_loop [10] (fun v=>∃ i:Nat,i ≤ 15 ∧ v = .int .i64 i ∧ ∀ j,j < i → (signsL.getD j []).isPrefixOf (c :: r) = false) (fun v=>15 - (intOf v).toNat)
 case atStart=>exact ⟨0,Nat.zero_le _,rfl,fun j h=>absurd h (Nat.not_lt_zero _)⟩
 case round =>
  obtain ⟨i,hi,rfl,hall⟩:=hrel
  by_cases hlt:i < 15
  ·have Xi:=X.out i hlt
   have P:=P.out i
   replace P:=Lib.hid P
   unfold Lib.hasPrefix at P
   have hsz:(⟨(signsL.getD i []).toArray⟩:ByteArray).size = (signsL.getD i []).length:=by rw [Lib.size_eq]
   have hle:(signsL.getD i []).length ≤ 2:=by
    have h:∀ k,k < 15 → k = 0 ∨ k = 1 ∨ k = 2 ∨ k = 3 ∨ k = 4 ∨ k = 5 ∨ k = 6 ∨ k = 7 ∨ k = 8 ∨ k = 9 ∨ k = 10 ∨ k = 11 ∨ k = 12 ∨ k = 13 ∨ k = 14:=by omega
    rcases h i hlt with rfl | rfl | rfl | rfl | rfl | rfl | rfl | rfl | rfl | rfl | rfl | rfl | rfl | rfl | rfl <;> decide
   rcases hp:(signsL.getD i []).isPrefixOf (c :: r)
   ·rw [hp] at P
    have hnext:=Lib.hid (show ∀ j,j < i + 1 → (signsL.getD j []).isPrefixOf (c :: r) = false from fun j hj=>by
     rcases Nat.lt_or_eq_of_le (Nat.le_of_lt_succ hj) with h1 | rfl
     ·exact hall j h1
     ·exact hp)
    clear hp hall
    generalize (signsL.getD i []) = y at *
    go_wp2_with ((with_reducible refine ((P.out _).out).mono ?_);rintro e w1 ⟨rfl,rfl⟩)
    go_round
    case rel=>exact ⟨i + 1,by omega,by go_num,hnext.out⟩
    case measure=>simp [intOf];omega
   ·rw [hp] at P
    obtain ⟨q,hq⟩:∃ q:ByteArray,q = ⟨(signsL.getD i []).toArray⟩:=⟨_,rfl⟩
    have hres:=Lib.hid (show rdV a (sgnT c r) = .tuple #[.agg #[.int .i64 5,.string q,.int .i64 0,.int .i64 0],.int .i64 ((a:Int) + q.size),.int .i64 0] from by
     rw [(H.out i hlt hp hall).out,rdV_ok,hq,hsz]
     rfl)
    rw [← hsz,← hq] at hle
    rw [← hq] at P Xi
    clear hp hall H hq hsz
    go_wp2_with ((with_reducible refine ((P.out _).out).mono ?_);rintro e w1 ⟨rfl,rfl⟩)
    go_returns
    exact ⟨by rw [hres.out],by (first | exact gwT | exact lzT)⟩
  ·obtain rfl:i = 15:=by omega
   have hres:=Lib.hid (show rdV a (sgnT c r) = _ from by rw [(N.out hall).out,rdV_err])
   go_wp2
   go_returns
   exact ⟨by rw [hres.out],by (first | exact gwT | exact lzT)⟩
def Lb (w:World):Prop:=MaxL w ∧ Errs w ∧ Sg w
theorem lb_below {w w':World} (h:Lb w) (hb:Below w.heap.size w w'):Lb w':=⟨maxl_below h.1 hb,errs_below h.2.1 hb,sg_below h.2.2 hb⟩
theorem rdV_form (a:Nat) (x:Tok):∃ (k:Int) (t:ByteArray) (n e y:Int),rdV a x = .tuple #[.agg #[.int .i64 k,.string t,.int .i64 n,.int .i64 0],.int .i64 e,.int .i64 y]:=by
 cases x with
 | error x=>exact ⟨_,_,_,_,_,rfl⟩
 | ok x=>exact ⟨_,_,_,_,_,rfl⟩
set_option maxHeartbeats 1000000 in
theorem tread_any (s:ByteArray) (a:Nat) (ha:a < s.size) (hs:s.size ≤ 140737488351232) (w:World) (hw:Lb w) :
  Calls Tryz.prog 140 #[.string s,.int .i64 a] w (Ret (rdV a (tokT (s.data.toList.drop a))) w):=by
 have L:=fun wx=>Lib.hid (letter_any s[a] wx)
 replace L:=Lib.hid L
 have D:=fun wx=>Lib.hid (digit_any s[a] wx)
 replace D:=Lib.hid D
 rcases h1:letB s[a]
 ·rcases h2:digB s[a]
  ·rcases h3:((s[a].toNat:Int) == 39)
   ·have e:tokT (s.data.toList.drop a) = sgnT s[a] (s.data.toList.drop (a + 1)):=by rw [dropK s a ha,tokT,h1,h2,h3];rfl
    have T:=fun wx h=>Lib.hid (tsign_any s a ha hs wx (lb_below hw h).2.2)
    replace T:=Lib.hid T
    rw [e]
    rw [h1] at L
    rw [h2] at D
    obtain ⟨k,t,n,z,y,hr⟩:=rdV_form a (sgnT s[a] (s.data.toList.drop (a + 1)))
    rw [hr] at T ⊢
    clear hr e h1 h2 hw
    go_enter Tryz.func140,Tryz.ntmps140
    go_wp2_with (first | ((with_reducible refine ((L.out _).out).mono ?_);rintro e w1 ⟨rfl,rfl⟩) | ((with_reducible refine ((D.out _).out).mono ?_);rintro e w1 ⟨rfl,rfl⟩) | ((with_reducible refine ((T.out _ (by (first | exact gwT | exact lzT))).out).mono ?_);intro e w1 hr;obtain ⟨rfl,p,rfl⟩:=hr.out;clear hr))
    go_returns
    exact ⟨rfl,by (first | exact gwT | exact lzT)⟩
   ·have e:tokT (s.data.toList.drop a) = quoT (s.data.toList.drop (a + 1)):=by rw [dropK s a ha,tokT,h1,h2,h3];rfl
    have T:=fun wx h=>Lib.hid (tquote_any s a ha hs wx (lb_below hw h).1)
    replace T:=Lib.hid T
    rw [e]
    rw [h1] at L
    rw [h2] at D
    obtain ⟨k,t,n,z,y,hr⟩:=rdV_form a (quoT (s.data.toList.drop (a + 1)))
    rw [hr] at T ⊢
    clear hr e h1 h2 hw
    go_enter Tryz.func140,Tryz.ntmps140
    go_wp2_with (first | ((with_reducible refine ((L.out _).out).mono ?_);rintro e w1 ⟨rfl,rfl⟩) | ((with_reducible refine ((D.out _).out).mono ?_);rintro e w1 ⟨rfl,rfl⟩) | ((with_reducible refine ((T.out _ (by (first | exact gwT | exact lzT))).out).mono ?_);intro e w1 hr;obtain ⟨rfl,p,rfl⟩:=hr.out;clear hr))
    go_returns
    exact ⟨rfl,by (first | exact gwT | exact lzT)⟩
  ·have e:tokT (s.data.toList.drop a) = numT (s.data.toList.drop a):=by rw [dropK s a ha,tokT,h1,h2];rfl
   have T:=fun wx h=>Lib.hid (tnumber_any s a ha h2 hs wx (lb_below hw h).2.1)
   replace T:=Lib.hid T
   rw [e]
   rw [h1] at L
   rw [h2] at D
   obtain ⟨k,t,n,z,y,hr⟩:=rdV_form a (numT (s.data.toList.drop a))
   rw [hr] at T ⊢
   clear hr e h1 h2 hw
   go_enter Tryz.func140,Tryz.ntmps140
   go_wp2_with (first | ((with_reducible refine ((L.out _).out).mono ?_);rintro e w1 ⟨rfl,rfl⟩) | ((with_reducible refine ((D.out _).out).mono ?_);rintro e w1 ⟨rfl,rfl⟩) | ((with_reducible refine ((T.out _ (by (first | exact gwT | exact lzT))).out).mono ?_);intro e w1 hr;obtain ⟨rfl,p,rfl⟩:=hr.out;clear hr))
   go_returns
   exact ⟨rfl,by (first | exact gwT | exact lzT)⟩
 ·have e:tokT (s.data.toList.drop a) = wordT (s.data.toList.drop a):=by rw [dropK s a ha,tokT,h1];rfl
  have T:=fun wx h=>Lib.hid (tword_any s a (Nat.le_of_lt ha) hs wx (lb_below hw h).1)
  replace T:=Lib.hid T
  rw [e]
  rw [h1] at L
  obtain ⟨k,t,n,z,y,hr⟩:=rdV_form a (wordT (s.data.toList.drop a))
  rw [hr] at T ⊢
  clear hr e h1 hw
  go_enter Tryz.func140,Tryz.ntmps140
  go_wp2_with (first | ((with_reducible refine ((L.out _).out).mono ?_);rintro e w1 ⟨rfl,rfl⟩) | ((with_reducible refine ((D.out _).out).mono ?_);rintro e w1 ⟨rfl,rfl⟩) | ((with_reducible refine ((T.out _ (by (first | exact gwT | exact lzT))).out).mono ?_);intro e w1 hr;obtain ⟨rfl,p,rfl⟩:=hr.out;clear hr))
  go_returns
  exact ⟨rfl,by (first | exact gwT | exact lzT)⟩
end Go.Proofs.YtfgpmcepppcmiaaGreatDoor
namespace Go.Proofs.YtfgpmcepppcmiaaGreatDoor
open Go.RowKit
def tkC (t:Tk):List Value:=[.int .i64 t.k,.string ⟨t.s.toArray⟩,.int .i64 t.n,.int .i64 (t.a:Int)]
def tksC (ts:List Tk):List Value:=ts.flatMap tkC
theorem tksC_snoc (ts:List Tk) (t:Tk):tksC (ts ++ [t]) = tksC ts ++ tkC t:=by simp [tksC]
def LexIs (ty:TypeId) (l:List UInt8) (w:World) (e:Ending) (w':World):Prop :=
 match lexT 120 0 l with
 | .ok ts=>∃ v,e = .returned (.tuple #[v,.int .i64 0,.int .i64 0]) ∧ w'.ownsRow w.heap.size ty 4 v ts.length (tksC ts) ∧ Below w.heap.size w w'
 | .error (x,p)=>e = .returned (.tuple #[.slice none 0 0,.int .i64 x,.int .i64 (p:Int)]) ∧ Below w.heap.size w w'
theorem lexIs_ok {ty:TypeId} {l:List UInt8} {w:World} {e:Ending} {w':World} {ts:List Tk} (h:lexT 120 0 l = .ok ts) :
  LexIs ty l w e w' = ∃ v,e = .returned (.tuple #[v,.int .i64 0,.int .i64 0]) ∧ w'.ownsRow w.heap.size ty 4 v ts.length (tksC ts) ∧ Below w.heap.size w w':=by unfold LexIs;rw [h]
theorem lexIs_err {ty:TypeId} {l:List UInt8} {w:World} {e:Ending} {w':World} {x:Int} {p:Nat} (h:lexT 120 0 l = .error (x,p)) :
  LexIs ty l w e w' = (e = .returned (.tuple #[.slice none 0 0,.int .i64 x,.int .i64 (p:Int)]) ∧ Below w.heap.size w w'):=by unfold LexIs;rw [h]
def AtL (l:List UInt8) (ts:List Tk) (p:Nat):Prop:=ts.length ≤ 120 ∧ lexT 120 0 l = pre ts (lexT (120 - ts.length) p (l.drop p))
theorem atL_zero (l:List UInt8):AtL l [] 0:=⟨by simp,by rw [pre_nil];rfl⟩
theorem atL_blanks {l:List UInt8} {ts:List Tk} {p z:Nat} (hz:p + spanL blankL (l.drop p) = z) (h:AtL l ts p):AtL l ts z:=by
 refine ⟨h.1,?_⟩
 rw [h.2,lexT_blanks,hz,List.drop_drop,hz]
theorem atL_end {l:List UInt8} {ts:List Tk} {p:Nat} (hp:l.length ≤ p) (h:AtL l ts p):lexT 120 0 l = .ok ts:=by
 rw [h.2,List.drop_of_length_le hp,lexT_end]
 simp [pre]
theorem atL_many {l:List UInt8} {ts:List Tk} {p:Nat} {c:UInt8} {r:List UInt8} (hl:l.drop p = c :: r) (hb:((c.toNat:Int) == 32) = false) (hn:ts.length = 120) (h:AtL l ts p):lexT 120 0 l = .error (13,p):=by
 rw [h.2,hl,hn,Nat.sub_self,lexT_many _ _ _ hb]
 rfl
theorem atL_bad {l:List UInt8} {ts:List Tk} {p:Nat} {c:UInt8} {r:List UInt8} {x:Int} (hl:l.drop p = c :: r) (hb:((c.toNat:Int) == 32) = false) (hn:ts.length < 120) (ht:tokT (c :: r) = .error x) (h:AtL l ts p):lexT 120 0 l = .error (x,p):=by
 obtain ⟨m,hm⟩:∃ m,120 - ts.length = m + 1:=⟨120 - ts.length - 1,by omega⟩
 rw [h.2,hl,hm,lexT_bad _ _ _ _ _ hb ht]
 rfl
theorem atL_tok {l:List UInt8} {ts:List Tk} {p:Nat} {c:UInt8} {r:List UInt8} {k:Int} {t:List UInt8} {n:Int} {z:Nat} (hl:l.drop p = c :: r) (hb:((c.toNat:Int) == 32) = false) (hn:ts.length < 120) (ht:tokT (c :: r) = .ok (k,t,n,z)) (h:AtL l ts p):AtL l (ts ++ [⟨k,t,n,p⟩]) (p + z):=by
 obtain ⟨m,hm⟩:∃ m,120 - ts.length = m + 1:=⟨120 - ts.length - 1,by omega⟩
 refine ⟨by simp;omega,?_⟩
 rw [h.2,hl,hm,lexT_tok _ _ _ _ _ _ _ _ hb ht,pre_pre]
 rw [← hl,List.drop_drop]
 congr 2
 simp;omega
theorem span_again (p:List UInt8 → Bool):∀ l:List UInt8,spanL p (l.drop (spanL p l)) = 0
 | []=>rfl
 | c :: r=>by
  cases h:p (c :: r)
  ·rw [span_no h,List.drop_zero,span_no h]
  ·rw [span_yes h,List.drop_succ_cons,span_again p r]
theorem blanks_le (s:ByteArray) (p z:Nat) (hp:p ≤ s.size) (hz:p + spanL blankL (s.data.toList.drop p) = z):z ≤ s.size ∧ p ≤ z ∧ spanL blankL (s.data.toList.drop z) = 0:=by
 have h:=spanL_le blankL (s.data.toList.drop p)
 have e:s.data.toList.length = s.size:=by simp
 rw [List.length_drop] at h
 refine ⟨by omega,by omega,?_⟩
 rw [← hz,← List.drop_drop,span_again]
theorem wordT_len {c:UInt8} {r:List UInt8} {k:Int} {t:List UInt8} {n:Int} {z:Nat} (hc:letB c = true) (h:wordT (c :: r) = .ok (k,t,n,z)):1 ≤ z ∧ z ≤ (c :: r).length ∧ t.length ≤ z:=by
 have hw:wordL (c :: r) = true:=by simp [wordL,innB,hc]
 have hs:=spanL_le wordL (c :: r)
 have h1:=span_yes hw
 unfold wordT at h
 simp only at h
 split at h
 ·cases h
 ·simp only [Except.ok.injEq,Prod.mk.injEq] at h
  obtain ⟨_,rfl,_,rfl⟩:=h
  rw [List.length_take]
  omega
theorem numT_len {c:UInt8} {r:List UInt8} {k:Int} {t:List UInt8} {n:Int} {z:Nat} (hc:digB c = true) (h:numT (c :: r) = .ok (k,t,n,z)):1 ≤ z ∧ z ≤ (c :: r).length ∧ t.length ≤ z:=by
 have hs:=spanL_le digL (c :: r)
 have h1:=span_yes (p:=digL) (c:=c) (r:=r) hc
 unfold numT at h
 simp only at h
 split at h
 ·cases h
 ·split at h
  ·cases h
  ·simp only [Except.ok.injEq,Prod.mk.injEq] at h
   obtain ⟨_,rfl,_,rfl⟩:=h
   rw [List.length_take]
   omega
theorem quoT_len {c:UInt8} {r:List UInt8} {k:Int} {t:List UInt8} {n:Int} {z:Nat} (h:quoT r = .ok (k,t,n,z)):1 ≤ z ∧ z ≤ (c :: r).length ∧ t.length ≤ z:=by
 have hs:=spanL_le textL r
 unfold quoT at h
 simp only at h
 split at h
 ·cases h
 ·split at h
  ·cases h
  ·split at h
   ·simp only [Except.ok.injEq,Prod.mk.injEq] at h
    obtain ⟨_,rfl,_,rfl⟩:=h
    rw [List.length_take,List.length_cons]
    omega
   ·cases h
theorem sgnT_len {c:UInt8} {r:List UInt8} {k:Int} {t:List UInt8} {n:Int} {z:Nat} (h:sgnT c r = .ok (k,t,n,z)):1 ≤ z ∧ z ≤ (c :: r).length ∧ t.length ≤ z:=by
 unfold sgnT at h
 split at h
 ·rename_i h2
  simp only [Except.ok.injEq,Prod.mk.injEq] at h
  obtain ⟨_,rfl,_,rfl⟩:=h
  cases r with
  | nil=>simp [eqL] at h2
  | cons d r=>simp
 ·split at h
  ·simp only [Except.ok.injEq,Prod.mk.injEq] at h
   obtain ⟨_,rfl,_,rfl⟩:=h
   simp
  ·cases h
theorem tokT_len {l:List UInt8} {k:Int} {t:List UInt8} {n:Int} {z:Nat} (h:tokT l = .ok (k,t,n,z)):1 ≤ z ∧ z ≤ l.length ∧ t.length ≤ z:=by
 cases l with
 | nil=>cases h
 | cons c r =>
  rw [tokT] at h
  split at h
  ·exact wordT_len ‹_› h
  ·split at h
   ·exact numT_len ‹_› h
   ·split at h
    ·exact quoT_len h
    ·exact sgnT_len h
theorem tokT_err {l:List UInt8} {x:Int} (h:tokT l = .error x):(x == 0) = false:=by
 rw [beq_eq_false_iff_ne]
 rintro rfl
 cases l with
 | nil=>cases h
 | cons c r =>
  simp only [tokT,wordT,numT,quoT,sgnT] at h
  repeat (first | (split at h) | (cases h))
theorem clone_any (t:ByteArray) (ht:t.size ≤ 140737488351232) (w:World):Calls Tryz.prog 141 #[.string t] w (Ret (.string t) w):=by
 have C:=fun wx=>Lib.hid (show Calls Tryz.prog 174 #[.string t] wx (Ret (.string t) wx) from Any.stringslite_Clone Tryz.laysM316 t wx (by omega))
 replace C:=Lib.hid C
 go_enter Tryz.func141,Tryz.ntmps141
 go_wp2_with ((with_reducible refine ((C.out _).out).mono ?_);intro e w1 hr;obtain ⟨rfl,p,rfl⟩:=hr.out;clear hr)
 go_returns
 exact ⟨rfl,by (first | exact gwT | exact lzT)⟩
theorem Tryz.infoTok:(Tryz.prog.info? 254).map (fun i=>(i.zero,i.size,i.bytes)) = some (some (.agg #[.int .i64 0,.string ⟨#[]⟩,.int .i64 0,.int .i64 0]),4,40):=by kernel_rfl
set_option maxRecDepth 100000 in
set_option maxHeartbeats 2000000 in
theorem tlex_any (s:ByteArray) (hs:s.size ≤ 140737488351232) (w:World) (hw:Lb w) :
  Calls Tryz.prog 108 #[.string s] w (LexIs 254 s.data.toList w):=by
 have hlen:s.data.toList.length = s.size:=by simp
 have R:=fun a ha wx h=>Lib.hid (tread_any s a ha hs wx (lb_below hw h))
 replace R:=Lib.hid R
 have B:=fun a z hz ha wx=>Lib.hid (blanks_any s a z hz ha (by omega) wx)
 replace B:=Lib.hid B
 obtain ⟨z0,hz0⟩:∃ z,0 + spanL blankL (s.data.toList.drop 0) = z:=⟨_,rfl⟩
 have B0:=Lib.hid (show ∀ wx,Calls Tryz.prog 139 #[.string s,.int .i64 0] wx (Ret (.int .i64 z0) wx) from fun wx=>blanks_any s 0 z0 hz0 (Nat.zero_le _) (by omega) wx)
 obtain ⟨i0,hi,hz1,hz2,hz3⟩:=info_parts Tryz.infoTok
 replace hw:=Lib.hid hw
 go_enter Tryz.func108,Tryz.ntmps108
 go_wp2_with ((with_reducible refine (B0.out _).mono ?_);intro e w1 hr;obtain ⟨rfl,p,rfl⟩:=hr.out;clear hr)
 go_loopw [5,6] (fun v x wr=>∃ (ts:List Tk) (p:Nat) (ao:Option Addr) (cap:Nat),v = .slice ao ts.length cap ∧ x = .int .i64 p ∧ p ≤ s.size ∧ wr.ownsRow w.heap.size 254 4 (.slice ao ts.length cap) ts.length (tksC ts) ∧
   AtL s.data.toList ts p ∧ spanL blankL (s.data.toList.drop p) = 0 ∧ Below w.heap.size w wr) (fun _ x _=>s.size - (intOf x).toNat)
 case atStart =>
  refine ⟨[],z0,none,0,rfl,rfl,?_,World.ownsRow_nil _ _ _ _,atL_blanks hz0 (atL_zero _),?_,by (first | exact gwT | exact lzT)⟩
  ·exact (blanks_le s 0 z0 (Nat.zero_le _) hz0).1
  ·exact (blanks_le s 0 z0 (Nat.zero_le _) hz0).2.2
 case round =>
  obtain ⟨ts,j,ao,cap,rfl,rfl,hj,hown,hat,hsp,hb⟩:=hrel
  rename World=>wr
  have hwz:=hb.size
  by_cases hlt:j < s.size
  ·have hd:=dropK s j hlt
   have hnb:((s[j].toNat:Int) == 32) = false:=by
    rw [← Bool.not_eq_true]
    intro h
    rw [hd,span_yes (p:=blankL) h] at hsp
    omega
   by_cases hm:ts.length = 120
   ·have hres:=Lib.hid (atL_many hd hnb hm hat)
    clear hnb hd hsp hat
    go_wp2
    go_returns
    rw [lexIs_err hres.out]
    exact ⟨rfl,by (first | exact gwT | exact lzT)⟩
   ·have hm':ts.length < 120:=by have:=hat.1;omega
    rcases ht:tokT (s[j] :: s.data.toList.drop (j + 1)) with x | ⟨k,t,n,z⟩
    ·have hres:=Lib.hid (atL_bad hd hnb hm' ht hat)
     have hx:=tokT_err ht
     have R:=R.out j hlt
     rw [hd,ht,rdV_err] at R
     replace R:=Lib.hid R
     clear hnb hd hsp hat ht
     go_wp2_with ((with_reducible refine ((R.out _ (by (first | exact gwT | exact lzT))).out).mono ?_);intro e w1 hr;obtain ⟨rfl,p,rfl⟩:=hr.out;clear hr)
     go_returns
     rw [lexIs_err hres.out]
     exact ⟨rfl,by (first | exact gwT | exact lzT)⟩
    ·obtain ⟨l1,l2,l3⟩:=tokT_len ht
     rw [← hd,List.length_drop] at l2
     have hnext:=Lib.hid (atL_tok hd hnb hm' ht hat)
     obtain ⟨z2,hy2⟩:∃ z2,j + z + spanL blankL (s.data.toList.drop (j + z)) = z2:=⟨_,rfl⟩
     have hy2':=blanks_le s (j + z) z2 (by omega) hy2
     obtain ⟨q,hq⟩:∃ q:ByteArray,q = ⟨t.toArray⟩:=⟨_,rfl⟩
     have hqt:q.size = t.length:=by rw [hq,Lib.size_eq]
     have hql:q.size ≤ 140737488351232:=by omega
     have R:=R.out j hlt
     rw [hd,ht,rdV_ok,← hq] at R
     replace R:=Lib.hid R
     have C:=fun wx=>Lib.hid (clone_any q hql wx)
     replace C:=Lib.hid C
     obtain ⟨e,he⟩:∃ e,j + z = e:=⟨_,rfl⟩
     rw [he] at R
     have B:=fun wx=>(B.out e z2 (by rw [← he];exact hy2) (by omega) wx)
     replace B:=Lib.hid B
     replace hq:=Lib.hid hq
     replace hy2':=Lib.hid hy2'
     replace hy2:=Lib.hid (atL_blanks hy2 hnext.out)
     clear hqt hlen he hnext
     clear hnb hd hsp hat ht
     go_wp2_with (first | ((with_reducible refine ((R.out _ (by (first | exact gwT | exact lzT))).out).mono ?_);intro e w1 hr;obtain ⟨rfl,p,rfl⟩:=hr.out;clear hr) | ((with_reducible refine ((C.out _).out).mono ?_);intro e w1 hr;obtain ⟨rfl,p,rfl⟩:=hr.out;clear hr) | (at_builtin;refine wpList_append_lies _ rfl _ _ 217 rfl w.heap.size 254 i0 _ 4 40 Tryz.underlying217 hi hz1 hz2 hz3 rfl (by decide) _ ts.length (tksC ts) rfl (owns_below hown ?b0) ⟨_,0,none⟩ 1 1 [.int .i64 k,.string q,.int .i64 n,(.int .i64 (j:Int))] rfl rfl ?c1 ?c2 (by decide) ?c3 ?c4 ?c5 _ rfl ?_) | ((with_reducible refine ((B.out _).out).mono ?_);intro e w1 hr;obtain ⟨rfl,p,rfl⟩:=hr.out;clear hr))
     case b0=>(first | exact gwT | exact lzT)
     case c1 =>
      intro j' u hj'
      match j',hj' with
      | 0,h=>simp at h;subst h;simp [go_sem,Addr.add]
      | 1,h=>simp at h;subst h;simp [go_sem,Addr.add]
      | 2,h=>simp at h;subst h;simp [go_sem,Addr.add]
      | 3,h=>simp at h;subst h;simp [go_sem,Addr.add]
     case c2=>intro u hu;simp at hu;rcases hu with rfl | rfl | rfl | rfl <;> rfl
     case c3=>unfold maxLen;omega
     case c4=>omega
     case c5=>(first | exact gwT | exact lzT)
     intro g cap' w1 hown1 hgrow hat1 hg1
     have hb1:Below w.heap.size w w1:=Below.grown (by (first | exact gwT | exact lzT)) hgrow (by (first | exact gwT | exact lzT)) (fun k hk=>(hown.lt k hk).1)
     have hown2:w1.ownsRow w.heap.size 254 4 (.slice (some ⟨g,0,none⟩) (ts ++ [(⟨k,t,n,j⟩:Tk)]).length cap') (ts ++ [(⟨k,t,n,j⟩:Tk)]).length (tksC (ts ++ [⟨k,t,n,j⟩])):=by
      rw [tksC_snoc,show (ts ++ [(⟨k,t,n,j⟩:Tk)]).length = ts.length + 1 by simp]
      rw [hq.out] at hown1
      exact hown1
     replace hown2:=Lib.hid hown2
     have hlen2:=Lib.hid (show (ts ++ [(⟨k,t,n,j⟩:Tk)]).length = ts.length + 1 by simp)
     have hw1:=hb1.size
     clear hown1 hgrow hat1 hg1 hown hq hb R C
     go_wp2_with ((with_reducible refine ((B.out _).out).mono ?_);intro e w1 hr;obtain ⟨rfl,p,rfl⟩:=hr.out;clear hr)
     go_roundw
     case rel=>exact ⟨ts ++ [⟨k,t,n,j⟩],z2,some ⟨g,0,none⟩,cap',by rw [hlen2.out],rfl,hy2'.out.1,owns_below hown2.out (belowG0 _ _),hy2.out,hy2'.out.2.2,by (first | exact gwT | exact lzT)⟩
     case measure=>have:=hy2'.out;simp [intOf];omega
  ·have hres:=Lib.hid (atL_end (by omega) hat)
   clear hsp hat
   go_wp2
   go_returns
   rw [lexIs_ok hres.out]
   exact ⟨_,rfl,hown,by (first | exact gwT | exact lzT)⟩
end Go.Proofs.YtfgpmcepppcmiaaGreatDoor
namespace Go.Proofs.YtfgpmcepppcmiaaGreatDoor
open Go.RowKit
def Toks (w:World) (g:Nat) (ts:List Tk):Prop:=∀ i (h:i < ts.length),w.cell? ⟨g,i * 4,none⟩ = some (.int .i64 ts[i].k) ∧ w.cell? ⟨g,i * 4 + 1,none⟩ = some (.string ⟨ts[i].s.toArray⟩) ∧
 w.cell? ⟨g,i * 4 + 2,none⟩ = some (.int .i64 ts[i].n) ∧ w.cell? ⟨g,i * 4 + 3,none⟩ = some (.int .i64 (ts[i].a:Int))
theorem tksC_at:∀ (ts:List Tk) (i:Nat) (h:i < ts.length) (j:Nat),j < 4 → (tksC ts)[i * 4 + j]? = (tkC ts[i])[j]?
 | [],i,h,_,_=>absurd h (Nat.not_lt_zero _)
 | t :: r,0,_,j,hj=>by
  unfold tksC
  rw [List.flatMap_cons,Nat.zero_mul,Nat.zero_add,List.getElem?_append_left (by simpa [tkC] using hj)]
  rfl
 | t :: r,i + 1,h,j,hj=>by
  have ih:=tksC_at r i (by simpa using h) j hj
  unfold tksC at *
  rw [List.flatMap_cons,List.getElem?_append_right (by simp [tkC];omega),show (i + 1) * 4 + j - (tkC t).length = i * 4 + j by simp [tkC];omega,ih]
  rfl
theorem owns_head {w:World} {b e:Nat} {v:Value} {ts:List Tk} (h:w.ownsRow b e 4 v ts.length (tksC ts)) :
  (v = .slice none 0 0 ∧ ts = []) ∨ ∃ g cap,v = .slice (some ⟨g,0,none⟩) ts.length cap ∧ b ≤ g ∧ g < w.heap.size ∧ Toks w g ts:=by
 rcases h.2 with ⟨hv,hn⟩ | ⟨g,cap,cur,hv,hb,hg,_⟩
 ·exact .inl ⟨hv,List.eq_nil_of_length_eq_zero hn⟩
 ·refine .inr ⟨g,cap,hv,hb,(Array.getElem?_eq_some_iff.1 hg).1,?_⟩
  have hc:=h.cells (g:=g) (by rw [hv];rfl)
  have hadd:∀ j,(⟨g,0,none⟩:Addr).add j = ⟨g,j,none⟩:=fun j=>by unfold Addr.add;split <;> simp_all
  intro i hi
  refine ⟨?_,?_,?_,?_⟩
  ·rw [← hadd];exact hc _ _ ((tksC_at ts i hi 0 (by decide)).trans rfl)
  ·rw [← hadd];exact hc _ _ ((tksC_at ts i hi 1 (by decide)).trans rfl)
  ·rw [← hadd];exact hc _ _ ((tksC_at ts i hi 2 (by decide)).trans rfl)
  ·rw [← hadd];exact hc _ _ ((tksC_at ts i hi 3 (by decide)).trans rfl)
theorem toks_below {w w':World} {g:Nat} {ts:List Tk} (h:Toks w g ts) (hg:g < w.heap.size) (hb:Below w.heap.size w w'):Toks w' g ts:=by
 intro i hi
 obtain ⟨h1,h2,h3,h4⟩:=h i hi
 exact ⟨(hb.cell (p:=⟨g,_,none⟩) hg).trans h1,(hb.cell (p:=⟨g,_,none⟩) hg).trans h2,(hb.cell (p:=⟨g,_,none⟩) hg).trans h3,(hb.cell (p:=⟨g,_,none⟩) hg).trans h4⟩
def Sl (w:World) (ao:Option Addr) (ts:List Tk):Prop:=0 < ts.length → ∃ g,ao = some ⟨g,0,none⟩ ∧ g < w.heap.size ∧ Toks w g ts
theorem sl_below {w w':World} {ao:Option Addr} {ts:List Tk} (h:Sl w ao ts) (hb:Below w.heap.size w w'):Sl w' ao ts:=fun h0=>by
 obtain ⟨g,hg,hgl,ht⟩:=h h0
 exact ⟨g,hg,Nat.lt_of_lt_of_le hgl hb.size,toks_below ht hgl hb⟩
def SlIs (ts:List Tk) (w:World) (e:Ending) (w':World):Prop:=∃ ao cap,e = .returned (.tuple #[.slice ao ts.length cap,.int .i64 0,.int .i64 0]) ∧ (0 < ts.length → ∃ g,ao = some ⟨g,0,none⟩ ∧ g < w'.heap.size ∧ Toks w' g ts) ∧ Below w.heap.size w w'
theorem lex_sl {ty:TypeId} {l:List UInt8} {w:World} {e:Ending} {w':World} {ts:List Tk} (h:lexT 120 0 l = .ok ts) (hr:LexIs ty l w e w'):SlIs ts w e w':=by
 obtain ⟨v,he,hown,hb⟩:=(lexIs_ok h).mp hr
 rcases owns_head hown with ⟨rfl,rfl⟩ | ⟨g,cap,rfl,hg,hgl,ht⟩
 ·exact ⟨none,0,he,fun h=>absurd h (Nat.lt_irrefl _),hb⟩
 ·exact ⟨_,cap,he,fun _=>⟨g,rfl,hgl,ht⟩,hb⟩
theorem lexT_count {m a:Nat} {l:List UInt8} {ts:List Tk} (h:lexT m a l = .ok ts):ts.length ≤ m:=by
 induction m generalizing a l ts with
 | zero =>
  rw [lexT] at h
  split at h
  ·cases h;exact Nat.le_refl _
  ·cases h
 | succ m ih =>
  rw [lexT] at h
  split at h
  ·cases h;simp
  ·split at h
   ·cases h
   ·split at h
    ·cases h
    ·rename_i h2
     cases h
     have:=ih h2
     simp;omega
theorem lexT_err {m a:Nat} {l:List UInt8} {x:Int} {j:Nat} (h:lexT m a l = .error (x,j)):(x == 0) = false:=by
 induction m generalizing a l with
 | zero =>
  rw [lexT] at h
  split at h
  ·cases h
  ·cases h;decide
 | succ m ih =>
  rw [lexT] at h
  split at h
  ·cases h
  ·split at h
   ·rename_i h2
    cases h
    exact tokT_err h2
   ·split at h
    ·rename_i h2
     cases h
     exact ih h2
    ·cases h
end Go.Proofs.YtfgpmcepppcmiaaGreatDoor
namespace Go.Proofs.YtfgpmcepppcmiaaGreatDoor
def fullT (k:Int) (s:List UInt8):List UInt8:=if k = 4 then 39 :: (s ++ [39]) else s
def blankT (l:List UInt8):Prop:=∀ c ∈ l,((c.toNat:Int) == 32) = true
theorem word_full {l:List UInt8} {k:Int} {t:List UInt8} {n:Int} {z:Nat} (h:wordT l = .ok (k,t,n,z)):(k = 1 ∨ k = 2) ∧ n = 0 ∧ l.take z = t ∧ z = t.length:=by
 unfold wordT at h
 simp only at h
 split at h
 ·cases h
 ·simp only [Except.ok.injEq,Prod.mk.injEq] at h
  obtain ⟨rfl,rfl,rfl,rfl⟩:=h
  refine ⟨?_,rfl,?_,rfl⟩
  ·split <;> simp
  ·rw [List.length_take,Nat.min_eq_left (spanL_le _ _)]
theorem num_full {l:List UInt8} {k:Int} {t:List UInt8} {n:Int} {z:Nat} (h:numT l = .ok (k,t,n,z)):k = 3 ∧ l.take z = t ∧ z = t.length:=by
 unfold numT at h
 simp only at h
 split at h
 ·cases h
 ·split at h
  ·cases h
  ·simp only [Except.ok.injEq,Prod.mk.injEq] at h
   obtain ⟨rfl,rfl,_,rfl⟩:=h
   refine ⟨rfl,?_,rfl⟩
   rw [List.length_take,Nat.min_eq_left (spanL_le _ _)]
theorem span_text_at:∀ (l:List UInt8),spanL textL l ≠ l.length → ∃ q,l.drop (spanL textL l) = 39 :: q
 | [],h=>absurd rfl h
 | c :: r,h=>by
  cases hc:((c.toNat:Int) == 39)
  ·have ht:textL (c :: r) = true:=by show (!((c.toNat:Int) == 39)) = true;rw [hc];rfl
   rw [span_yes ht,List.length_cons] at h
   rw [span_yes ht,List.drop_succ_cons]
   exact span_text_at r (by omega)
  ·have ht:textL (c :: r) = false:=by show (!((c.toNat:Int) == 39)) = false;rw [hc];rfl
   rw [span_no ht,List.drop_zero]
   rw [quote_eq,beq_iff_eq] at hc
   exact ⟨r,by rw [hc]⟩
theorem quo_full {c:UInt8} {r:List UInt8} {k:Int} {t:List UInt8} {n:Int} {z:Nat} (hc:((c.toNat:Int) == 39) = true) (h:quoT r = .ok (k,t,n,z)):k = 4 ∧ n = 0 ∧ (c :: r).take z = 39 :: (t ++ [39]) ∧ z = t.length + 2:=by
 rw [quote_eq,beq_iff_eq] at hc
 subst hc
 have hs:=spanL_le textL r
 unfold quoT at h
 simp only at h
 split at h
 ·cases h
 ·split at h
  ·cases h
  ·split at h
   ·rename_i h1 _ _
    simp only [Except.ok.injEq,Prod.mk.injEq] at h
    obtain ⟨rfl,rfl,rfl,rfl⟩:=h
    obtain ⟨q,hq⟩:=span_text_at r h1
    refine ⟨rfl,rfl,?_,?_⟩
    ·rw [show spanL textL r + 2 = (spanL textL r + 1) + 1 by omega,List.take_succ_cons,List.take_add,hq]
     rfl
    ·rw [List.length_take,Nat.min_eq_left hs]
   ·cases h
theorem sgn_full {c:UInt8} {r:List UInt8} {k:Int} {t:List UInt8} {n:Int} {z:Nat} (h:sgnT c r = .ok (k,t,n,z)):k = 5 ∧ n = 0 ∧ (c :: r).take z = t ∧ z = t.length:=by
 unfold sgnT at h
 split at h
 ·rename_i h2
  simp only [Except.ok.injEq,Prod.mk.injEq] at h
  obtain ⟨rfl,rfl,rfl,rfl⟩:=h
  rw [Bool.and_eq_true] at h2
  refine ⟨rfl,rfl,?_,rfl⟩
  cases r with
  | nil=>cases h2.2
  | cons d q =>
   have:d = 61:=by
    have h3:((d.toNat:Int) == 61) = true:=h2.2
    rw [show ((d.toNat:Int) == 61) = (d == 61) from byte_eq d 61 (by decide),beq_iff_eq] at h3
    exact h3
   subst this
   rfl
 ·split at h
  ·simp only [Except.ok.injEq,Prod.mk.injEq] at h
   obtain ⟨rfl,rfl,rfl,rfl⟩:=h
   exact ⟨rfl,rfl,rfl,rfl⟩
  ·cases h
theorem tok_full {l:List UInt8} {k:Int} {t:List UInt8} {n:Int} {z:Nat} (h:tokT l = .ok (k,t,n,z)):l.take z = fullT k t ∧ z = (fullT k t).length:=by
 cases l with
 | nil=>cases h
 | cons c r =>
  rw [tokT] at h
  split at h
  ·obtain ⟨hk,_,h1,h2⟩:=word_full h
   have:fullT k t = t:=by unfold fullT;rw [if_neg (by omega)]
   rw [this];exact ⟨h1,h2⟩
  ·split at h
   ·obtain ⟨rfl,h1,h2⟩:=num_full h
    exact ⟨h1,h2⟩
   ·split at h
    ·obtain ⟨rfl,_,h1,h2⟩:=quo_full ‹_› h
     refine ⟨h1,?_⟩
     rw [h2];simp [fullT]
    ·obtain ⟨rfl,_,h1,h2⟩:=sgn_full h
     exact ⟨h1,h2⟩
def PlacesT (l:List UInt8):Nat → List Tk → Prop
 | p,[]=>blankT (l.drop p)
 | p,t :: r=>p ≤ t.a ∧ blankT ((l.drop p).take (t.a - p)) ∧ (l.drop t.a).take (fullT t.k t.s).length = fullT t.k t.s ∧ t.a + (fullT t.k t.s).length ≤ l.length ∧ PlacesT l (t.a + (fullT t.k t.s).length) r
end Go.Proofs.YtfgpmcepppcmiaaGreatDoor
namespace Go.Proofs.YtfgpmcepppcmiaaGreatDoor
open Go.RowKit Go.Lib
def textsD {H:Type} (ls:List (List UInt8)):DataW H := .agg (ls.map fun l => .lit (.string l))
theorem cells_of_texts {H:Type} {enc:TypeId × Value → H} {P:Program} {w:World} {base:Nat} {sp:Nat → Bool} {held:Bool} {fuel:Nat} {t e:TypeId} {n:Nat} {cs:List Value} {ls:List (List UInt8)} {p:List MemPlace}
  (ht:P.underlying t = some (.array n e)) (he:P.underlying e = some .string) (hce:P.cellsOf e = 1) (hct:P.cellsOf t = n)
  (h:DataW.trod enc P w base sp held fuel t cs = some (textsD ls,p)):cs = ls.map fun l=>Value.string ⟨l.toArray⟩:=by
 cases fuel with
 | zero=>simp [DataW.trod] at h
 | succ fuel =>
  simp only [DataW.trod,ht,hce,hct,Nat.mul_one] at h
  split at h
  ·rename_i hl
   obtain ⟨xs,hm,hx⟩:=Option.map_eq_some_iff.1 h
   have hxs:xs.map (·.1) = ls.map fun l=>(DataW.lit (.string l):DataW H):=by
    have:=congrArg Prod.fst hx
    simpa [textsD] using this
   have hxl:xs.length = n:=by simpa using mapM_length hm
   have hll:ls.length = n:=by
    have:=congrArg List.length hxs
    simp at this
    omega
   refine List.ext_getElem? fun i=>?_
   rcases Nat.lt_or_ge i n with hi | hi
   ·obtain ⟨b,hb,hf⟩:=mapM_at hm i i (by simp [hi])
    obtain ⟨z,hc,rfl,_⟩:=DataW.trod_string he hf
    have h1:cs[i]? = some (.string z):=by
     have:=congrArg (·[0]?) hc
     simpa [List.getElem?_take,List.getElem?_drop] using this
    have h2:(ls.map fun l=>(DataW.lit (.string l):DataW H))[i]? = some (DataW.lit (.string z.data.toList)):=by rw [← hxs];simp [hb]
    rw [List.getElem?_map] at h2
    obtain ⟨l,hl',he'⟩:=Option.map_eq_some_iff.1 h2
    simp only [DataW.lit.injEq,Lit.string.injEq] at he'
    rw [h1,List.getElem?_map,hl',he']
    rfl
   ·rw [List.getElem?_eq_none (by omega),List.getElem?_eq_none (by simp;omega)]
  ·cases h
theorem maxl_of {W:World} (h:W.ShapedOpen Tryz.prog):MaxL W :=
 cell_of_shapedOpen_int (P:=Tryz.prog) (g:=6) (t:=3) (zero:=#[.int .i64 0]) h (of_decide_eq_true (by kernel_rfl)) (by kernel_rfl) rfl (by kernel_rfl) (by kernel_rfl) Tryz.underlying3
end Go.Proofs.YtfgpmcepppcmiaaGreatDoor
namespace Go.Proofs.YtfgpmcepppcmiaaGreatDoor
def Behind (r:List UInt8):Prop:=r = [] ∨ ∃ q,r = 32 :: q
theorem word_behind {r:List UInt8} (h:Behind r):spanL wordL r = 0:=by
 rcases h with rfl | ⟨q,rfl⟩
 ·rfl
 ·exact span_no (p:=wordL) (by simp [wordL,innB,letB,digB])
theorem digit_behind {r:List UInt8} (h:Behind r):spanL digL r = 0:=by
 rcases h with rfl | ⟨q,rfl⟩
 ·rfl
 ·exact span_no (p:=digL) rfl
theorem word_again {r:List UInt8} (h:Behind r):∀ l:List UInt8,spanL wordL (l.take (spanL wordL l) ++ r) = spanL wordL l
 | []=>word_behind h
 | c :: q=>by
  cases hw:wordL (c :: q)
  ·rw [span_no hw]
   exact word_behind h
  ·rw [span_yes hw,List.take_succ_cons,List.cons_append]
   have hw':wordL (c :: (q.take (spanL wordL q) ++ r)) = true:=by
    rw [wordL,Bool.or_eq_true,Bool.and_eq_true] at hw ⊢
    rcases hw with hi | ⟨hd,hh⟩
    ·exact .inl hi
    ·refine .inr ⟨hd,?_⟩
     cases q with
     | nil=>cases hh
     | cons d s =>
      have:wordL (d :: s) = true:=by
       have hl:letB d = true:=hh
       rw [wordL,innB,hl];rfl
      rw [span_yes this,List.take_succ_cons]
      exact hh
   rw [span_yes hw',word_again h q]
theorem digit_again {r:List UInt8} (h:Behind r):∀ l:List UInt8,spanL digL (l.take (spanL digL l) ++ r) = spanL digL l
 | []=>digit_behind h
 | c :: q=>by
  cases hw:digL (c :: q)
  ·rw [span_no hw]
   exact digit_behind h
  ·rw [span_yes hw,List.take_succ_cons,List.cons_append]
   have hw':digL (c :: (q.take (spanL digL q) ++ r)) = true:=hw
   rw [span_yes hw',digit_again h q]
theorem wordT_again {l r:List UInt8} {k:Int} {t:List UInt8} {n:Int} {z:Nat} (hr:Behind r) (h:wordT l = .ok (k,t,n,z)):wordT (t ++ r) = .ok (k,t,n,t.length):=by
 obtain ⟨_,_,ht,hz⟩:=word_full h
 unfold wordT at h
 simp only at h
 split at h
 ·cases h
 ·rename_i hc
  simp only [Except.ok.injEq,Prod.mk.injEq] at h
  obtain ⟨hk,ht2,hn,hz2⟩:=h
  have hs:spanL wordL (t ++ r) = t.length:=by
   have:=word_again hr l
   rw [ht2] at this
   rw [this,← hz,← hz2,List.length_take,Nat.min_eq_left (spanL_le _ _)]
  unfold wordT
  simp only [hs,List.take_left' rfl]
  rw [ht2] at hc hk
  rw [if_neg hc,hk,hn]
theorem numT_again {l r:List UInt8} {k:Int} {t:List UInt8} {n:Int} {z:Nat} (hr:Behind r) (h:numT l = .ok (k,t,n,z)):numT (t ++ r) = .ok (k,t,n,t.length):=by
 obtain ⟨_,ht,hz⟩:=num_full h
 unfold numT at h
 simp only at h
 split at h
 ·cases h
 ·rename_i hc
  split at h
  ·cases h
  ·rename_i hv
   simp only [Except.ok.injEq,Prod.mk.injEq] at h
   obtain ⟨hk,ht2,hn,hz2⟩:=h
   have hs:spanL digL (t ++ r) = t.length:=by
    have:=digit_again hr l
    rw [ht2] at this
    rw [this,← hz,← hz2,List.length_take,Nat.min_eq_left (spanL_le _ _)]
   unfold numT
   simp only [hs,List.take_left' rfl]
   rw [ht2] at hc hv hn
   rw [if_neg hc,if_neg hv,← hk,hn]
theorem text_none:∀ (l:List UInt8),∀ d ∈ l.take (spanL textL l),d ≠ 39
 | [],d,h=>by simp at h
 | c :: r,d,h=>by
  cases hc:textL (c :: r)
  ·rw [span_no hc] at h;simp at h
  ·rw [span_yes hc,List.take_succ_cons] at h
   rcases List.mem_cons.1 h with rfl | h
   ·intro he
    subst he
    cases hc
   ·exact text_none r d h
theorem quoT_again {l r:List UInt8} {k:Int} {t:List UInt8} {n:Int} {z:Nat} (h:quoT l = .ok (k,t,n,z)):quoT (t ++ 39 :: r) = .ok (k,t,n,t.length + 2):=by
 unfold quoT at h
 simp only at h
 split at h
 ·cases h
 ·split at h
  ·cases h
  ·rename_i h48
   split at h
   ·rename_i hp
    simp only [Except.ok.injEq,Prod.mk.injEq] at h
    obtain ⟨hk,rfl,hn,_⟩:=h
    have hl:(l.take (spanL textL l)).length = spanL textL l:=by rw [List.length_take,Nat.min_eq_left (spanL_le _ _)]
    rw [quoT_cut _ _ (text_none l),hl,if_neg h48,if_pos hp,← hk,← hn]
   ·cases h
theorem sgnT_again {c:UInt8} {q r:List UInt8} {k:Int} {t:List UInt8} {n:Int} {z:Nat} (hr:Behind r) (h:sgnT c q = .ok (k,t,n,z)):∃ p,t ++ r = c :: p ∧ sgnT c p = .ok (k,t,n,t.length):=by
 unfold sgnT at h
 split at h
 ·rename_i h2
  simp only [Except.ok.injEq,Prod.mk.injEq] at h
  obtain ⟨rfl,rfl,rfl,rfl⟩:=h
  rw [Bool.and_eq_true] at h2
  refine ⟨61 :: r,rfl,?_⟩
  unfold sgnT
  rw [if_pos (by rw [h2.1];rfl)]
  rfl
 ·split at h
  ·rename_i h3
   simp only [Except.ok.injEq,Prod.mk.injEq] at h
   obtain ⟨rfl,rfl,rfl,rfl⟩:=h
   refine ⟨r,rfl,?_⟩
   unfold sgnT
   have he:eqL r = false:=by
    rcases hr with rfl | ⟨q,rfl⟩ <;> rfl
   rw [he,Bool.and_false,if_neg (by decide),if_pos h3]
   rfl
  ·cases h
theorem tokT_again {l r:List UInt8} {k:Int} {t:List UInt8} {n:Int} {z:Nat} (hr:Behind r) (h:tokT l = .ok (k,t,n,z)):tokT (fullT k t ++ r) = .ok (k,t,n,(fullT k t).length):=by
 obtain ⟨f1,f2⟩:=tok_full h
 obtain ⟨z1,_,_⟩:=tokT_len h
 cases l with
 | nil=>cases h
 | cons c q =>
  obtain ⟨m,hm⟩:∃ m,z = m + 1:=⟨z - 1,by omega⟩
  have hhead:∃ p,fullT k t = c :: p:=⟨q.take m,by rw [← f1,hm,List.take_succ_cons]⟩
  obtain ⟨p,hp⟩:=hhead
  rw [tokT] at h
  split at h
  ·rename_i h1
   have hk:=(word_full h).1
   have hf:fullT k t = t:=by unfold fullT;rw [if_neg (by omega)]
   rw [hf] at hp ⊢
   have:=wordT_again hr h
   rw [hp,List.cons_append] at this ⊢
   rw [tokT,if_pos h1]
   exact this
  ·rename_i h1
   split at h
   ·rename_i h2
    have hk:=(num_full h).1
    have hf:fullT k t = t:=by unfold fullT;rw [if_neg (by omega)]
    rw [hf] at hp ⊢
    have:=numT_again hr h
    rw [hp,List.cons_append] at this ⊢
    rw [tokT,if_neg h1,if_pos h2]
    exact this
   ·rename_i h2
    split at h
    ·rename_i h3
     have hk:=(quo_full h3 h).1
     have hf:fullT k t = 39 :: (t ++ [39]):=by unfold fullT;rw [if_pos hk]
     have hc:c = 39:=by
      rw [hf] at hp
      exact (List.cons.inj hp).1.symm
     subst hc
     have:=quoT_again (r:=r) h
     rw [hf,List.cons_append,List.append_assoc]
     rw [tokT,if_neg h1,if_neg h2,if_pos h3]
     show quoT (t ++ 39 :: r) = _
     rw [this]
     simp
    ·rename_i h3
     have hk:=(sgn_full h).1
     have hf:fullT k t = t:=by unfold fullT;rw [if_neg (by omega)]
     rw [hf] at hp ⊢
     obtain ⟨p',h4,h5⟩:=sgnT_again hr h
     rw [h4,tokT,if_neg h1,if_neg h2,if_neg h3]
     exact h5
def GoodT (ts:List Tk):Prop:=∀ t ∈ ts,∃ l z,tokT l = .ok (t.k,t.s,t.n,z)
theorem lexT_good {m a:Nat} {l:List UInt8} {ts:List Tk} (h:lexT m a l = .ok ts):GoodT ts:=by
 induction m generalizing a l ts with
 | zero =>
  rw [lexT] at h
  split at h
  ·cases h;intro t ht;cases ht
  ·cases h
 | succ m ih =>
  rw [lexT] at h
  split at h
  ·cases h;intro t ht;cases ht
  ·split at h
   ·cases h
   ·split at h
    ·cases h
    ·rename_i h1 _ _ h2
     cases h
     intro t ht
     rcases List.mem_cons.1 ht with rfl | ht
     ·exact ⟨_,_,h1⟩
     ·exact ih h2 t ht
def joinT:List Tk → List UInt8
 | []=>[]
 | [t]=>fullT t.k t.s
 | t :: r=>fullT t.k t.s ++ 32 :: joinT r
theorem tokT_blank (r:List UInt8):tokT (32 :: r) = .error 11:=by
 rw [tokT,if_neg (by decide),if_neg (by decide),if_neg (by decide)]
 unfold sgnT
 rw [show twoB 32 = false from by decide,Bool.false_and,if_neg (by decide),if_neg (by decide)]
theorem join_length:∀ (l:List UInt8) (p:Nat) (ts:List Tk),p ≤ l.length → PlacesT l p ts → (joinT ts).length + p ≤ l.length + ts.length
 | l,p,[],hp,_=>by simp [joinT];exact hp
 | l,p,[t],hp,h=>by
  obtain ⟨h1,_,_,h4,_⟩:=h
  simp [joinT];omega
 | l,p,t :: u :: r,hp,h=>by
  obtain ⟨h1,_,_,h4,h5⟩:=h
  have ih:=join_length l _ (u :: r) h4 h5
  show (fullT t.k t.s ++ 32 :: joinT (u :: r)).length + p ≤ _
  rw [List.length_append,List.length_cons,List.length_cons]
  omega
end Go.Proofs.YtfgpmcepppcmiaaGreatDoor
namespace Go.Proofs.YtfgpmcepppcmiaaGreatDoor
def BehindP (r:List UInt8):Prop:=r = [] ∨ ∃ c q,r = c :: q ∧ (c = 32 ∨ c = 41)
theorem Behind.p {r:List UInt8} (h:Behind r):BehindP r:=by
 rcases h with rfl | ⟨q,rfl⟩
 ·exact .inl rfl
 ·exact .inr ⟨_,_,rfl,.inl rfl⟩
end Go.Proofs.YtfgpmcepppcmiaaGreatDoor
