/- Several texts of this proof, joined: KA, KB, KC. -/
import Derived.Test.YtacnlghljmgdiaaGreatDoorY6
import Derived.Test.YtacnlghljmgdiaaGreatDoorO1
import Derived.Test.YtacnlghljmgdiaaGreatDoorChecked
import Derived.Test.YtacnlghljmgdiaaGreatDoorY1
import Derived.Test.YtacnlghljmgdiaaGreatDoorZ7
import Derived.WalkKit
import Derived.ProofKit
import Derived.OpenShut
import Derived.Handy
import Derived.BigQuiet
import Derived.Lib.Hide
import Derived.WalkSmall
import Derived.WalkLawsBesides
import Derived.SliceStrings
import Derived.Lib.SmallJoins
import Derived.Test.YtacnlghljmgdiaaGreatDoorY9
import Derived.OwnWalk
import Derived.Laws.MakeOwn
import Derived.Laws.OwnMore
namespace Go.Proofs.YtacnlghljmgdiaaGreatDoor
open Go.RowKit
theorem k3z {w:World} {ao:Option Addr} {ss:List ByteArray} (h:q2o w ao ss):Txts w ao ss:=by
 intro i hi
 obtain ⟨g,o,rfl,_,hc⟩:=h omT
 exact ⟨_,rfl,by rw [z9n];exact hc i hi⟩
def j7t (ss:List ByteArray) (x:ByteArray):Value := .tuple #[.int .i64 (if j3i ss x then 2 else 0),.int .i64 (if j3i ss x then 0 else 24)]
def j3q (vs:List (ByteArray × Int)) (x:ByteArray):Value :=
 match z8u vs x with
 | some k => .tuple #[.int .i64 k,.int .i64 0]
 | none => .tuple #[.int .i64 0,.int .i64 24]
theorem y5e (va:Option Addr) (vn vc:Nat) (sa:Option Addr) (sc:Nat) (ss:List ByteArray) (x:ByteArray) (hn:ss.length ≤ 1000) (w:World) (h:q2o w sa ss) :
  Calls Tryz.prog 245 #[.agg #[.slice va vn vc,.slice sa ss.length sc],.string x] w (Ret (j7t ss x) w):=by
 have C:=hiT (fun wx hb=>q5f sa ss sc x hn wx (j2k (w':=wx) (k3z h) hb))
 unfold j7t
 generalize j3i ss x = b at *
 clear h
 cases b
 all_goals
  go_enter Tryz.func245,Tryz.ntmps245
  go_wp2_with ((with_reducible refine (C.out _ gzT).mono ?_);rintro e w1 ⟨rfl,rfl⟩)
  go_returns
  exact ⟨rfl,gzT⟩
theorem x2t (s:ByteArray) (k:Int) (x:ByteArray) (b:Nat) (w:World) (hb:w.cell? ⟨b,0,none⟩ = some (.string x)) :
  Calls Tryz.prog 265 #[.agg #[.string s,.int .i64 k],.pointer (some ⟨b,0,none⟩)] w (Ret (.bool (s.toList == x.toList)) w):=by
 have i1:InW b w:=⟨World.block_lt_of_cell? _ _ hb⟩
 go_enter Tryz.func265,Tryz.ntmps265
 go_wp2
 go_returns
 exact ⟨rfl,gzT⟩
def x3v (vs:List (ByteArray × Int)) (x:ByteArray) (w:World) (e:Ending) (w':World):Prop :=
 ((e = .returned (.int .i64 (-1)) ∧ z8u vs x = none) ∨ ∃ (i:Nat) (h:i < vs.length),e = .returned (.int .i64 (i:Int)) ∧ z8u vs x = some vs[i].2) ∧ Below w.heap.size w w'
set_option maxRecDepth 100000 in
set_option maxHeartbeats 1000000 in
theorem v0p (ao:Option Addr) (cap:Nat) (vs:List (ByteArray × Int)) (x:ByteArray) (hn:vs.length ≤ 1000000) (b:Nat) (w:World) (h:q2p w ao vs) (hb:w.cell? ⟨b,0,none⟩ = some (.string x)) :
  Calls Tryz.prog 264 #[.slice ao vs.length cap,.func (.func 265) #[] #[.pointer (some ⟨b,0,none⟩)]] w (x3v vs x w):=by
 have H:=hiT (fun wx hk=>z3m (w':=wx) h hk)
 have hlt:=World.block_lt_of_cell? _ _ hb
 have C:=fun s k wx (hk:Below w.heap.size w wx)=>hiT (x2t s k x b wx ((hk.cell (p:=⟨b,0,none⟩) hlt).trans hb))
 replace C:=hiT C
 have hit:=hiT (fun i hi he hp=>k0a (vs:=vs) (x:=x) (i:=i) hi he hp)
 have skip:=hiT (fun i hi he hp=>y4o (vs:=vs) (x:=x) (i:=i) hi he hp)
 clear h hb hlt
 go_enter Tryz.func264,Tryz.ntmps264
 go_wp2
 go_loopw [8] (fun v wr=>∃ i:Nat,v = .int .i64 (i:Int) ∧ i ≤ vs.length ∧ z8u vs x = z8u (vs.drop i) x ∧ Below w.heap.size w wr) (fun v _=>vs.length - (intOf v).toNat)
 case atStart=>exact ⟨0,rfl,Nat.zero_le _,rfl,gzT⟩
 case round =>
  obtain ⟨i,rfl,hi,hp,hk⟩:=hrel
  rename World=>wr
  have hwz:=hk.size
  by_cases hlt:i < vs.length
  ·obtain ⟨g,o,rfl,hg,hc⟩:=H.out wr hk omT
   obtain ⟨c1,c2⟩:=hc i hlt
   have hI:(i:Int) < (vs.length:Int):=by omega
   have i1:InW g wr:=⟨hg⟩
   have C1:=hiT (fun wx (hx:Below wr.heap.size wr wx)=>(C.out vs[i].1 vs[i].2 wx (hk.trans (hx.mono hwz))).out)
   rcases he:(vs[i].1.toList == x.toList)
   ·have hs:=hiT (skip.out i hlt he hp)
    rw [he] at C1
    generalize vs[i] = v at *
    clear hp he hc C
    go_wp2_with ((with_reducible refine (C1.out _ gzT).mono ?_);intro e w1 hr;obtain ⟨rfl,p,rfl⟩:=hr.out;clear hr)
    go_roundw
    case rel=>exact ⟨i + 1,by go_num,by omega,hs.out,gzT⟩
    case measure=>simp [intOf];omega
   ·have hs:=hiT (hit.out i hlt he hp)
    rw [he] at C1
    obtain ⟨v,hv⟩:∃ v,vs[i] = v:=⟨_,rfl⟩
    rw [hv] at C1 c1 c2
    clear hp he hc C hv
    go_wp2_with ((with_reducible refine (C1.out _ gzT).mono ?_);intro e w1 hr;obtain ⟨rfl,p,rfl⟩:=hr.out;clear hr)
    go_returns
    exact ⟨.inr ⟨i,hlt,rfl,hs.out⟩,gzT⟩
  ·have hge:¬ (i:Int) < (vs.length:Int):=by omega
   have hno:z8u vs x = none:=by rw [hp,List.drop_of_length_le omT];rfl
   have hnK:=hiT hno
   clear hp hno
   go_wp2
   go_returns
   exact ⟨.inl ⟨rfl,hnK.out⟩,gzT⟩
set_option maxRecDepth 100000 in
set_option maxHeartbeats 1000000 in
theorem k7j (va:Option Addr) (vc:Nat) (vs:List (ByteArray × Int)) (sa:Option Addr) (sn sc:Nat) (x:ByteArray) (hn:vs.length ≤ 1000000) (w:World) (h:q2p w va vs) :
  Calls Tryz.prog 244 #[.agg #[.slice va vs.length vc,.slice sa sn sc],.string x] w (Ret (j3q vs x) w):=by
 have H:=hiT (fun wx hk=>z3m (w':=wx) h hk)
 have I:=fun b wx hk hb=>hiT (v0p va vc vs x hn b wx (z3m h hk) hb)
 replace I:=hiT I
 have hmf:∀ (fn:Fn) (first cap:Array Value) (w:World),(Instr.makeFunc fn first cap).run Tryz.prog w = .ok (.func fn first cap) w:=fun _ _ _ _=>rfl
 clear h
 go_enter Tryz.func244,Tryz.ntmps244
 go_wp2_with fail
 refine ((I.out _ _ gzT (by simp [go_sem])).out).mono ?_
 intro e w1 hr
 obtain ⟨hr,hb⟩:=hr
 obtain ⟨p,rfl⟩:=toG hb
 clear hb I
 rcases hr with ⟨rfl,hf⟩ | ⟨i,hi,rfl,hf⟩
 ·have hv:=hiT (show j3q vs x = .tuple #[.int .i64 0,.int .i64 24] by unfold j3q;rw [hf])
  clear hf
  go_wp2
  go_returns
  exact ⟨by rw [hv.out];rfl,gzT⟩
 ·have hv:=hiT (show j3q vs x = .tuple #[.int .i64 vs[i].2,.int .i64 0] by unfold j3q;rw [hf])
  obtain ⟨g,o,rfl,hg,hc⟩:=H.out w (Below.refl _ _) omT
  obtain ⟨c1,c2⟩:=hc i hi
  have hI:(i:Int) < (vs.length:Int):=by omega
  have i1:InW g w:=⟨hg⟩
  generalize vs[i] = v at *
  clear hf hc
  go_wp2
  go_returns
  exact ⟨by rw [hv.out];rfl,gzT⟩
theorem k3y {i:Nat} {op op':List Nat} {n:Nd} (h:j7v i op n = some op') (hc:n.op = 1 ∨ n.op = 2):n.r = 0:=by
 unfold j7v at h
 split at h
 ·cases h
 ·split at h
  ·rename_i hr
   unfold nright at hr
   rw [if_neg omT,if_neg omT,if_pos omT] at hr
   simp only [Bool.and_eq_true,beq_iff_eq] at hr
   have e:cnt n.op = 1:=by unfold cnt;rw [if_pos hc]
   rw [hr.2,e,List.getD_eq_getElem?_getD,List.getElem?_eq_none (by rw [List.length_map,List.length_reverse,List.length_take];omega),Option.getD_none]
  ·cases h
theorem j2b:∀ (ns:List Nd) (i:Nat) (op st:List Nat),q3t i op ns = some st → ∀ j (h:j < ns.length),(ns[j].op = 1 ∨ ns[j].op = 2) → ns[j].r = 0
 | [],_,_,_,_,j,hj=>absurd hj (Nat.not_lt_zero _)
 | n :: r,i,op,st,h,j,hj=>by
  rw [q3t] at h
  split at h
  ·rename_i op' hs
   cases j with
   | zero=>exact k3y hs
   | succ j=>exact j2b r (i + 1) op' st h j (by simpa using hj)
  ·cases h
theorem y6w {ns:List Nd} (h:z5t ns = true):∀ j (hj:j < ns.length),(ns[j].op = 1 ∨ ns[j].op = 2) → ns[j].r = 0:=by
 unfold z5t at h
 split at h
 ·cases h
 ·rw [z7k] at h
  split at h
  ·rename_i st hs
   exact j2b ns 0 [] st hs
  ·cases h
theorem k3b {ns:List Nd} (h:z5t ns = true):0 < ns.length ∧ ns.length ≤ 32:=by
 refine ⟨(j4x h).1,?_⟩
 unfold z5t at h
 split at h
 ·cases h
 ·rename_i hs
  have h0:z7d ns = 0:=Decidable.not_not.1 hs
  unfold z7d at h0
  split at h0
  ·cases h0
  ·omega
theorem y7r (op:Int):q3w op 0 = false:=by
 unfold q3w
 repeat' split
 all_goals rfl
theorem j7l (op a b:Int):(j1s op a b = 0) ↔ q9w op a b = false:=by
 constructor
 ·intro h
  rcases hr:q9w op a b
  ·rfl
  ·exfalso
   have ht:=y6q hr
   have ha:a ≠ 0:=by rintro rfl;rw [y7r] at ht;cases ht
   unfold j1s at h
   rw [hr,if_pos rfl] at h
   split at h
   ·exact ha h
   ·cases h
 ·exact k2w
theorem k8w {op a b c:Int} (h:op = 1 ∨ op = 2):q9w op a b = q9w op a c:=by
 unfold q9w
 have:q1p op = true:=by unfold q1p;rcases h with rfl | rfl <;> rfl
 rw [this,Bool.true_or,Bool.true_or]
theorem k8x {op a b c:Int} (h:op = 1 ∨ op = 2):j1s op a b = j1s op a c:=by
 unfold j1s
 rw [k8w (c:=c) h]
def j9x:Except Int Int → Value
 | .ok k => .tuple #[.int .i64 k,.int .i64 0]
 | .error x => .tuple #[.int .i64 0,.int .i64 x]
theorem v9i {vs:List (ByteArray × Int)} {ss:List ByteArray} {n:Nd} {a b:Int} (h1:1 ≤ n.op) (h2:n.op ≤ 15):j9x (y0g vs ss n a b) = .tuple #[.int .i64 (if q9w n.op a b then j1s n.op a b else 0),.int .i64 (if q9w n.op a b then 0 else 20)]:=by
 unfold y0g
 rw [if_neg omT,if_neg omT,if_neg omT]
 have e1:j1s n.op a (if n.op ≤ 2 then 0 else b) = j1s n.op a b:=by
  split
  ·exact k8x omT
  ·rfl
 rw [e1]
 rcases hr:q9w n.op a b
 ·rw [if_pos ((j7l _ _ _).2 hr)]
  rfl
 ·rw [if_neg (fun h=>by rw [(j7l _ _ _).1 h] at hr;cases hr)]
  rfl
def v2l (w:World) (kb N:Nat) (ks:List Int):Prop:=∃ cs:Array Value,w.heap[kb]? = some (.cells cs 3 (0,0)) ∧ cs.size = N ∧ (∀ j (h:j < ks.length),cs[j]? = some (.int .i64 ks[j])) ∧ ∀ j,j < N → ∃ x:Int,cs[j]? = some (.int .i64 x)
theorem v4u {w w':World} {kb N:Nat} {ks:List Int} (h:v2l w kb N ks) (hb:Below w.heap.size w w'):v2l w' kb N ks:=by
 obtain ⟨cs,h1,h2⟩:=h
 exact ⟨cs,(hb.block kb (lt_of_block h1)).trans h1,h2⟩
theorem v8r {w:World} {kb N:Nat} {ks:List Int} (h:v2l w kb N ks) (hl:ks.length < N) (k:Int):v2l (w.setCell ⟨kb,ks.length,none⟩ (.int .i64 k)) kb N (ks ++ [k]):=by
 obtain ⟨cs,h1,h2,h3,h4⟩:=h
 refine ⟨_,z0l h1,by rw [Array.size_setIfInBounds];exact h2,fun j hj=>?_,fun j hj=>?_⟩
 ·rw [List.length_append,List.length_singleton] at hj
  rcases Nat.lt_or_ge j ks.length with hlt | hge
  ·rw [Array.getElem?_setIfInBounds_ne omT,List.getElem_append_left hlt]
   exact h3 j hlt
  ·obtain rfl:j = ks.length:=by omega
   rw [Array.getElem?_setIfInBounds_self_of_lt omT]
   simp
 ·by_cases he:ks.length = j
  ·subst he
   exact ⟨k,Array.getElem?_setIfInBounds_self_of_lt omT⟩
  ·rw [Array.getElem?_setIfInBounds_ne he]
   exact h4 j hj
theorem v4t {w:World} {kb N:Nat} {ks:List Int} (h:v2l w kb N ks):kb < w.heap.size ∧ (∀ j,j < ks.length → w.cell? ⟨kb,j,none⟩ = some (.int .i64 (ks.getD j 0))) ∧ (∀ j,j < N → ∃ x:Int,w.cell? ⟨kb,j,none⟩ = some (.int .i64 x)) ∧ ∀ j,w.frozen? ⟨kb,j,none⟩ = false:=by
 obtain ⟨cs,h1,h2,h3,h4⟩:=h
 refine ⟨lt_of_block h1,fun j hj=>?_,fun j hj=>?_,fun j=>frozen_of_row w kb j _ _ h1⟩
 ·rw [cell_of_row w kb _ _ _ _ h1,List.getD_eq_getElem?_getD,List.getElem?_eq_getElem hj]
  exact h3 j hj
 ·obtain ⟨x,hx⟩:=h4 j hj
  exact ⟨x,by rw [cell_of_row w kb _ _ _ _ h1];exact hx⟩
theorem k7p {own:Nd → Int → Int → Except Int Int} {ks:List Int} {n:Nd} {r:List Nd} {x:Int} (h:own n (ks.getD n.l.toNat 0) (ks.getD n.r.toNat 0) = .error x):k1k own ks (n :: r) = .error (x,ks.length):=by rw [k1k,h]
theorem v4w {own:Nd → Int → Int → Except Int Int} {ks:List Int} {n:Nd} {r:List Nd} {k:Int} (h:own n (ks.getD n.l.toNat 0) (ks.getD n.r.toNat 0) = .ok k):k1k own ks (n :: r) = k1k own (ks ++ [k]) r:=by rw [k1k,h]
def ofK (x:Except (Int × Nat) (List Int)) (n:Nat):Value :=
 match x with
 | .error (x,_) => .tuple #[.int .i64 0,.int .i64 x]
 | .ok ks => .tuple #[.int .i64 (ks.getD (n - 1) 0),.int .i64 0]
section
variable (va:Option Addr) (vc:Nat) (vs:List (ByteArray × Int)) (sa:Option Addr) (sc:Nat) (ss:List ByteArray)
theorem y5d (kv:Value) (n:Nd) (a b:Int) (hc:n.op = 0 ∨ n.op = 16 ∨ n.op = 17) (hvn:vs.length ≤ 1000000) (hsn:ss.length ≤ 1000) (w:World) (hv:q2p w va vs) (hs:q2o w sa ss) :
  Calls Tryz.prog 226 #[.agg #[.slice va vs.length vc,.slice sa ss.length sc],ndV n,kv] w (Ret (j9x (y0g vs ss n a b)) w):=by
 have V:=hiT (fun wx hb=>k7j va vc vs sa ss.length sc ⟨n.name.toArray⟩ hvn wx (z3m (w':=wx) hv hb))
 have S:=hiT (fun wx hb=>y5e va vs.length vc sa sc ss ⟨n.name.toArray⟩ hsn wx (z5i (w':=wx) hs hb))
 have e:j9x (y0g vs ss n a b) = if n.op = 0 then .tuple #[.int .i64 n.k,.int .i64 0] else if n.op = 16 then j3q vs ⟨n.name.toArray⟩ else j7t ss ⟨n.name.toArray⟩:=by
  unfold y0g
  rcases hc with h | h | h
  ·rw [if_pos h,if_pos h];rfl
  ·have h0:¬ n.op = 0:=by omega
   simp only [if_neg h0,if_pos h]
   unfold j3q
   cases z8u vs ⟨n.name.toArray⟩ <;> rfl
  ·have h0:¬ n.op = 0:=by omega
   have h16:¬ n.op = 16:=by omega
   simp only [if_neg h0,if_neg h16,if_pos h]
   unfold j7t
   cases j3i ss ⟨n.name.toArray⟩ <;> rfl
 rw [e]
 unfold ndV
 obtain ⟨op,k,nn,s,name,l,r⟩:=n
 simp only at hc V S ⊢
 clear hv hs e
 have hl:∃ x y:Int,j3q vs ⟨name.toArray⟩ = .tuple #[.int .i64 x,.int .i64 y]:=by
  unfold j3q
  cases z8u vs ⟨name.toArray⟩ <;> exact ⟨_,_,rfl⟩
 obtain ⟨x,y,hl⟩:=hl
 have hst:∃ x y:Int,j7t ss ⟨name.toArray⟩ = .tuple #[.int .i64 x,.int .i64 y]:=⟨_,_,rfl⟩
 obtain ⟨x2,y2,hst⟩:=hst
 rw [hl] at V ⊢
 rw [hst] at S ⊢
 clear hl hst
 rcases hc with rfl | rfl | rfl
 all_goals
  go_enter Tryz.func226,Tryz.ntmps226
  go_wp2_with (first | ((with_reducible refine (V.out _ gzT).mono ?_);intro e w1 hr;obtain ⟨rfl,p,rfl⟩:=hr.out;clear hr) | ((with_reducible refine (S.out _ gzT).mono ?_);intro e w1 hr;obtain ⟨rfl,p,rfl⟩:=hr.out;clear hr))
  go_returns
  exact ⟨rfl,gzT⟩
set_option maxRecDepth 100000 in
set_option maxHeartbeats 1000000 in
theorem k7h (n:Nd) (a b N:Nat) (x y:Int) (kb:Nat) (h1:1 ≤ n.op) (h2:n.op ≤ 15) (hl:n.l = (a:Int)) (hr:n.r = (b:Int)) (ha:a < N) (hb:b < N) (w:World)
  (ca:w.cell? ⟨kb,a,none⟩ = some (.int .i64 x)) (cb:w.cell? ⟨kb,b,none⟩ = some (.int .i64 y)) :
  Calls Tryz.prog 226 #[.agg #[.slice va vs.length vc,.slice sa ss.length sc],ndV n,.slice (some ⟨kb,0,none⟩) N N] w (Ret (j9x (y0g vs ss n x y)) w):=by
 rw [v9i h1 h2]
 have R:=hiT (fun wx=>y6t n.op x y wx)
 generalize q9w n.op x y = ok at *
 generalize j1s n.op x y = k at *
 unfold ndV
 obtain ⟨op,k0,nn,s,name,l,r⟩:=n
 simp only at h1 h2 hl hr R ⊢
 subst hl hr
 have i1:InW kb w:=⟨World.block_lt_of_cell? _ _ ca⟩
 have o0:(op == 0) = false:=beq_eq_false_iff_ne.mpr omT
 have o16:(op == 16) = false:=beq_eq_false_iff_ne.mpr omT
 have o17:(op == 17) = false:=beq_eq_false_iff_ne.mpr omT
 have haI:(a:Int) < (N:Int):=by omega
 have hbI:(b:Int) < (N:Int):=by omega
 clear h1 h2
 cases ok
 all_goals
  go_enter Tryz.func226,Tryz.ntmps226
  go_wp2_with fail
  (refine z0d krT krT ?_;(repeat (go_big_quiet_step (exact j4f ((R.out _)))));refine wpQuiet_nil ?_;intro _ hw';obtain ⟨pg,hw''⟩:=hw';subst hw'')
  go_wp2
  go_returns
  exact ⟨rfl,gzT⟩
end
def q9v (n:Nat):Array Value:=madeCells #[.int .i64 0] n
theorem v8q (w:World) (n:Nat):v2l (w.alloc (.cells (q9v n) 3)) w.heap.size n []:=by
 refine ⟨_,z2k _ _,size_madeCells _ _,fun j h=>absurd h (Nat.not_lt_zero _),fun j hj=>⟨0,?_⟩⟩
 unfold q9v
 rw [← Array.getElem?_toList,toList_madeCells_one,List.getElem?_replicate,if_pos hj]
theorem k1s (n:Nat) (hn:n ≤ 32) (wx:World):(Instr.makeSlice 40 (.int .i64 (n:Int)) (.int .i64 (n:Int))).run Tryz.prog wx = .ok (.slice (some ⟨wx.heap.size,0,none⟩) n n) (wx.alloc (.cells (q9v n) 3)):=by
 obtain ⟨i0,hi,hz1,hz2,hz3⟩:=info_parts Tryz.infoInt
 have:=run_make (P:=Tryz.prog) wx 40 3 i0 (.int .i64 0) Tryz.underlying40 hi hz1 .i64 .i64 (n:Int) (n:Int) omT (Int.le_refl _) (by rw [hz3];omega) omT
 rw [this,hz2]
 simp [q9v,Value.cells]
section
variable (va:Option Addr) (vc:Nat) (vs:List (ByteArray × Int)) (sa:Option Addr) (sc:Nat) (ss:List ByteArray)
theorem v8p (ao:Option Addr) (cap:Nat) (ns:List Nd) (w:World) (vn sn:Nat) (R:∀ wx,Below w.heap.size w wx → Calls Tryz.prog 225 #[.slice ao ns.length cap] wx (Ret (.bool false) wx)) :
  Calls Tryz.prog 209 #[.slice ao ns.length cap,.agg #[.slice va vn vc,.slice sa sn sc]] w (Ret (.tuple #[.int .i64 0,.int .i64 11]) w):=by
 replace R:=hiT R
 go_enter Tryz.func209,Tryz.ntmps209
 go_wp2_with ((with_reducible refine (R.out _ gzT).mono ?_);intro e w1 hr;obtain ⟨rfl,p,rfl⟩:=hr.out;clear hr)
 go_returns
 exact ⟨rfl,gzT⟩
set_option maxRecDepth 100000 in
set_option maxHeartbeats 4000000 in
theorem v4s (ao:Option Addr) (cap:Nat) (ns:List Nd) (hr:z5t ns = true) (hvn:vs.length ≤ 1000000) (hsn:ss.length ≤ 1000) (w:World) (h:q1i w ao ns) (hv:q2p w va vs) (hs:q2o w sa ss)
  (R:∀ wx,Below w.heap.size w wx → Calls Tryz.prog 225 #[.slice ao ns.length cap] wx (Ret (.bool true) wx)) :
  Calls Tryz.prog 209 #[.slice ao ns.length cap,.agg #[.slice va vs.length vc,.slice sa ss.length sc]] w (Ret (ofK (k1k (y0g vs ss) [] ns) ns.length) w):=by
 obtain ⟨h0,h32⟩:=k3b hr
 have hah:=hiT (y0p hr)
 have hrz:=hiT (y6w hr)
 have hmk:=fun wx=>k1s ns.length h32 wx
 replace R:=hiT R
 have H:=hiT (fun wx hb=>z1t (w':=wx) h hb)
 have NL:=hiT (fun kv n a b hc wx (hb:Below w.heap.size w wx)=>y5d va vc vs sa sc ss kv n a b hc hvn hsn wx (z3m hv hb) (z5i hs hb))
 have NO:=hiT (fun n a b x y kb h1 h2 hl hr ha hb wx ca cb=>k7h va vc vs sa sc ss n a b ns.length x y kb h1 h2 hl hr ha hb wx ca cb)
 clear h hv hs hr
 go_enter Tryz.func209,Tryz.ntmps209
 go_wp2_with fail
 refine (R.out _ gzT).mono ?_
 intro e w1 hr
 obtain ⟨rfl,hb1⟩:=hr
 have hz1:=hb1.size
 rw [World.size_alloc] at hz1
 have b0:=(hb1.cell (p:=⟨w.heap.size,0,none⟩) (by simp)).trans (show _ = some (Value.slice va vs.length vc) by simp [go_sem])
 have b1:=(hb1.cell (p:=⟨w.heap.size,1,none⟩) (by simp)).trans (show _ = some (Value.slice sa ss.length sc) by simp [go_sem])
 have hbw:Below w.heap.size w w1:=Below.trans gzT (hb1.mono (by simp))
 have hK0:=hiT (v8q w1 ns.length)
 obtain ⟨zr,hzr⟩:∃ zr,q9v ns.length = zr:=⟨_,rfl⟩
 rw [hzr] at hmk hK0
 clear hb1 R hzr
 go_wp2
 go_loopw [19] (fun v wr=>∃ ks:List Int,v = .int .i64 (ks.length:Int) ∧ ks.length ≤ ns.length ∧ v2l wr w1.heap.size ns.length ks ∧ k1k (y0g vs ss) [] ns = k1k (y0g vs ss) ks (ns.drop ks.length) ∧ Below w1.heap.size w1 wr) (fun v _=>ns.length - (intOf v).toNat)
 case atStart=>exact ⟨[],rfl,Nat.zero_le _,hK0.out,rfl,gzT⟩
 case round =>
  obtain ⟨ks,rfl,hle,hK,hR,hb⟩:=hrel
  rename World=>wr
  have hwz:=hb.size
  clear hK0 hmk
  have hbr:Below w.heap.size w wr:=hbw.trans (hb.mono omT)
  have d0:=(hb.cell (p:=⟨w.heap.size,0,none⟩) (by show w.heap.size < _;omega)).trans b0
  have d1:=(hb.cell (p:=⟨w.heap.size,1,none⟩) (by show w.heap.size < _;omega)).trans b1
  obtain ⟨k1,k2,k3,k4⟩:=v4t hK
  have i0:InW w.heap.size wr:=⟨by omega⟩
  have i1:InW w1.heap.size wr:=⟨k1⟩
  by_cases hlt:ks.length < ns.length
  ·obtain ⟨g,o,rfl,hg,hc⟩:=H.out wr hbr omT
   obtain ⟨n1,n2,n3,n4,n5,n6,n7⟩:=hc ks.length hlt
   have i2:InW g wr:=⟨hg⟩
   have hI:(ks.length:Int) < (ns.length:Int):=by omega
   rw [List.drop_eq_getElem_cons hlt] at hR
   have ha:=hah.out ks.length hlt
   have hz:=hrz.out ks.length hlt
   generalize ns[ks.length] = n at *
   have NN:∀ wx,Below wr.heap.size wr wx → Calls Tryz.prog 226 #[.agg #[.slice va vs.length vc,.slice sa ss.length sc],ndV n,.slice (some ⟨w1.heap.size,0,none⟩) ns.length ns.length] wx (Ret (j9x (y0g vs ss n (ks.getD n.l.toNat 0) (ks.getD n.r.toNat 0))) wx):=by
    intro wx hx
    have hcell:∀ j,j < ks.length → wx.cell? ⟨w1.heap.size,j,none⟩ = some (.int .i64 (ks.getD j 0)):=fun j hj=>(hx.cell (p:=⟨w1.heap.size,j,none⟩) k1).trans (k2 j hj)
    rcases ha.range with hc | hc | hc
    ·exact NL.out _ n _ _ (.inl hc) wx (hbr.trans (hx.mono hbr.size))
    ·obtain ⟨a,el,hal⟩:=ha.l hc.1 hc.2
     have hrr:∃ b:Nat,n.r = (b:Int) ∧ b < ks.length:=by
      by_cases h3:3 ≤ n.op
      ·exact ha.r h3 hc.2
      ·exact ⟨0,by rw [hz omT];rfl,by omega⟩
     obtain ⟨b,er,hbl⟩:=hrr
     rw [el,er,Int.toNat_natCast,Int.toNat_natCast]
     exact NO.out n a b _ _ w1.heap.size hc.1 hc.2 el er omT omT wx (hcell a hal) (hcell b hbl)
    ·exact NL.out _ n _ _ (.inr hc) wx (hbr.trans (hx.mono hbr.size))
   have hKK:=hiT hK
   have hst:=k3 ks.length hlt
   have hfr:=k4 ks.length
   clear hc ha hz hK k2 k3 k4 NL NO hah hrz
   obtain ⟨r,hrr⟩:∃ r,y0g vs ss n (ks.getD n.l.toNat 0) (ks.getD n.r.toNat 0) = r:=⟨_,rfl⟩
   rw [hrr] at NN
   unfold ndV at NN
   cases r with
   | error x =>
    have hx:=k8j hrr
    have hres:=hiT (hR.trans (k7p hrr))
    have NN:=hiT NN
    clear hrr hR
    have hx0:(x == 0) = false:=by rw [beq_eq_false_iff_ne];omega
    have hx1:(x != 0) = true:=by rw [bne,hx0];rfl
    simp only [j9x] at NN
    clear hx
    go_wp2_with ((with_reducible refine (NN.out _ gzT).mono ?_);intro e w1 hr;obtain ⟨rfl,p,rfl⟩:=hr.out;clear hr)
    go_returns
    exact ⟨by rw [hres.out];rfl,gzT⟩
   | ok k =>
    have hnext:=hiT (hR.trans (v4w hrr))
    have NN:=hiT NN
    clear hrr hR
    simp only [j9x] at NN
    obtain ⟨xo,hxo⟩:=hst
    go_wp2_with ((with_reducible refine (NN.out _ gzT).mono ?_);intro e w1 hr;obtain ⟨rfl,p,rfl⟩:=hr.out;clear hr)
    have hlen:=hiT (show (ks ++ [k]).length = ks.length + 1 by simp)
    go_roundw
    case rel=>exact ⟨ks ++ [k],by rw [hlen.out];go_num,by rw [hlen.out];omega,v4u (v8r hKK.out hlt k) gzT,by rw [hlen.out];exact hnext.out,gzT⟩
    case measure=>simp [intOf];omega
  ·have he:ns.length = ks.length:=by omega
   have hdr:ns.drop ks.length = []:=List.drop_of_length_le omT
   rw [hdr] at hR
   have hres:=hiT hR
   have hlast:=k2 (ns.length - 1) omT
   obtain ⟨last,hlst⟩:∃ x,ks.getD (ns.length - 1) 0 = x:=⟨_,rfl⟩
   rw [hlst] at hlast
   have hlK:=hiT hlst
   obtain ⟨m,hm⟩:∃ m,ns.length = m + 1:=⟨ns.length - 1,by omega⟩
   have hge:¬ ((ks.length:Int) < (ns.length:Int)):=by omega
   have hidx:((ns.length:Int) - 1).toNat = ns.length - 1:=by omega
   clear hR hdr he k2 k3 k4 hlst hm
   go_wp2
   go_returns
   exact ⟨by rw [hres.out,← hlK.out];rfl,gzT⟩
def isI (a x k:Int):Int:=if x = 0 then (if a = k then 0 else 20) else x
theorem v4r (ev:Value) (a x k:Int) (w:World) (vn sn:Nat) (O:∀ wx,Below w.heap.size w wx → Calls Tryz.prog 209 #[ev,.agg #[.slice va vn vc,.slice sa sn sc]] wx (Ret (.tuple #[.int .i64 a,.int .i64 x]) wx)) :
  Calls Tryz.prog 210 #[ev,.agg #[.slice va vn vc,.slice sa sn sc],.int .i64 k] w (Ret (.int .i64 (isI a x k)) w):=by
 replace O:=hiT O
 unfold isI
 by_cases hx:x = 0
 ·subst hx
  rw [if_pos rfl]
  by_cases hk:a = k
  ·subst hk
   rw [if_pos rfl]
   go_enter Tryz.func210,Tryz.ntmps210
   go_wp2_with ((with_reducible refine (O.out _ gzT).mono ?_);intro e w1 hr;obtain ⟨rfl,p,rfl⟩:=hr.out;clear hr)
   go_returns
   exact ⟨rfl,gzT⟩
  ·rw [if_neg hk]
   have h0:(a == k) = false:=beq_eq_false_iff_ne.mpr hk
   have h1:(a != k) = true:=by rw [bne,h0];rfl
   clear hk
   go_enter Tryz.func210,Tryz.ntmps210
   go_wp2_with ((with_reducible refine (O.out _ gzT).mono ?_);intro e w1 hr;obtain ⟨rfl,p,rfl⟩:=hr.out;clear hr)
   go_returns
   exact ⟨rfl,gzT⟩
 ·rw [if_neg hx]
  have h0:(x == 0) = false:=beq_eq_false_iff_ne.mpr hx
  have h1:(x != 0) = true:=by rw [bne,h0];rfl
  clear hx
  go_enter Tryz.func210,Tryz.ntmps210
  go_wp2_with ((with_reducible refine (O.out _ gzT).mono ?_);intro e w1 hr;obtain ⟨rfl,p,rfl⟩:=hr.out;clear hr)
  go_returns
  exact ⟨rfl,gzT⟩
end
end Go.Proofs.YtacnlghljmgdiaaGreatDoor
