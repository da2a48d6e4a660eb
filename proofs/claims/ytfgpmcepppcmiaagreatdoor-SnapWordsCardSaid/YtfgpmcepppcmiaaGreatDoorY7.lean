/- Several texts of this proof, joined: KA, KB, KC. -/
import Derived.Test.YtfgpmcepppcmiaaGreatDoorY6
import Derived.Test.YtfgpmcepppcmiaaGreatDoorO1
import Derived.Test.YtfgpmcepppcmiaaGreatDoorChecked
import Derived.Test.YtfgpmcepppcmiaaGreatDoorY1
import Derived.Test.YtfgpmcepppcmiaaGreatDoorZ7
import Derived.WalkKit
import Derived.ProofKit
import Derived.OpenShut
import Derived.Handy
import Derived.BigQuiet
import Derived.Lib.Hide
import Derived.WalkSmall
import Derived.WalkLawsBesides
import Derived.SliceStrings
import Derived.Lib.SmallJoins
import Derived.Test.YtfgpmcepppcmiaaGreatDoorY9
import Derived.OwnWalk
import Derived.Laws.MakeOwn
import Derived.Laws.OwnMore
namespace Go.Proofs.YtfgpmcepppcmiaaGreatDoor
open Go.RowKit
theorem strs_txts {w:World} {ao:Option Addr} {ss:List ByteArray} (h:StrsAt w ao ss):Txts w ao ss:=by
 intro i hi
 obtain ⟨g,o,rfl,_,hc⟩:=h (by omega)
 exact ⟨_,rfl,by rw [add_plain];exact hc i hi⟩
def stateV (ss:List ByteArray) (x:ByteArray):Value := .tuple #[.int .i64 (if hasB ss x then 2 else 0),.int .i64 (if hasB ss x then 0 else 24)]
def lookV (vs:List (ByteArray × Int)) (x:ByteArray):Value :=
 match findV vs x with
 | some k => .tuple #[.int .i64 k,.int .i64 0]
 | none => .tuple #[.int .i64 0,.int .i64 24]
theorem kstate_any (va:Option Addr) (vn vc:Nat) (sa:Option Addr) (sc:Nat) (ss:List ByteArray) (x:ByteArray) (hn:ss.length ≤ 1000) (w:World) (h:StrsAt w sa ss) :
  Calls Tryz.prog 246 #[.agg #[.slice va vn vc,.slice sa ss.length sc],.string x] w (Ret (stateV ss x) w):=by
 have C:=Lib.hid (fun wx hb=>contains_any sa ss sc x hn wx (txts_below (w':=wx) (strs_txts h) hb))
 unfold stateV
 generalize hasB ss x = b at *
 clear h
 cases b
 all_goals
  go_enter Tryz.func246,Tryz.ntmps246
  go_wp2_with ((with_reducible refine (C.out _ (by (first | exact gwT | exact lzT))).mono ?_);rintro e w1 ⟨rfl,rfl⟩)
  go_returns
  exact ⟨rfl,by (first | exact gwT | exact lzT)⟩
theorem var_c (s:ByteArray) (k:Int) (x:ByteArray) (b:Nat) (w:World) (hb:w.cell? ⟨b,0,none⟩ = some (.string x)) :
  Calls Tryz.prog 266 #[.agg #[.string s,.int .i64 k],.pointer (some ⟨b,0,none⟩)] w (Ret (.bool (s.toList == x.toList)) w):=by
 have i1:InW b w:=⟨World.block_lt_of_cell? _ _ hb⟩
 go_enter Tryz.func266,Tryz.ntmps266
 go_wp2
 go_returns
 exact ⟨rfl,by (first | exact gwT | exact lzT)⟩
def VIdx (vs:List (ByteArray × Int)) (x:ByteArray) (w:World) (e:Ending) (w':World):Prop :=
 ((e = .returned (.int .i64 (-1)) ∧ findV vs x = none) ∨ ∃ (i:Nat) (h:i < vs.length),e = .returned (.int .i64 (i:Int)) ∧ findV vs x = some vs[i].2) ∧ Below w.heap.size w w'
set_option maxRecDepth 100000 in
set_option maxHeartbeats 1000000 in
theorem vidx_any (ao:Option Addr) (cap:Nat) (vs:List (ByteArray × Int)) (x:ByteArray) (hn:vs.length ≤ 1000000) (b:Nat) (w:World) (h:VarsAt w ao vs) (hb:w.cell? ⟨b,0,none⟩ = some (.string x)) :
  Calls Tryz.prog 265 #[.slice ao vs.length cap,.func (.func 266) #[] #[.pointer (some ⟨b,0,none⟩)]] w (VIdx vs x w):=by
 have H:=Lib.hid (fun wx hk=>vars_below (w':=wx) h hk)
 have hlt:=World.block_lt_of_cell? _ _ hb
 have C:=fun s k wx (hk:Below w.heap.size w wx)=>Lib.hid (var_c s k x b wx ((hk.cell (p:=⟨b,0,none⟩) hlt).trans hb))
 replace C:=Lib.hid C
 have hit:=Lib.hid (fun i hi he hp=>findV_hit (vs:=vs) (x:=x) (i:=i) hi he hp)
 have skip:=Lib.hid (fun i hi he hp=>findV_skip (vs:=vs) (x:=x) (i:=i) hi he hp)
 clear h hb hlt
 go_enter Tryz.func265,Tryz.ntmps265
 go_wp2
 go_loopw [8] (fun v wr=>∃ i:Nat,v = .int .i64 (i:Int) ∧ i ≤ vs.length ∧ findV vs x = findV (vs.drop i) x ∧ Below w.heap.size w wr) (fun v _=>vs.length - (intOf v).toNat)
 case atStart=>exact ⟨0,rfl,Nat.zero_le _,rfl,by (first | exact gwT | exact lzT)⟩
 case round =>
  obtain ⟨i,rfl,hi,hp,hk⟩:=hrel
  rename World=>wr
  have hwz:=hk.size
  by_cases hlt:i < vs.length
  ·obtain ⟨g,o,rfl,hg,hc⟩:=H.out wr hk (by omega)
   obtain ⟨c1,c2⟩:=hc i hlt
   have hI:(i:Int) < (vs.length:Int):=by omega
   have i1:InW g wr:=⟨hg⟩
   have C1:=Lib.hid (fun wx (hx:Below wr.heap.size wr wx)=>(C.out vs[i].1 vs[i].2 wx (hk.trans (hx.mono hwz))).out)
   rcases he:(vs[i].1.toList == x.toList)
   ·have hs:=Lib.hid (skip.out i hlt he hp)
    rw [he] at C1
    generalize vs[i] = v at *
    clear hp he hc C
    go_wp2_with ((with_reducible refine (C1.out _ (by (first | exact gwT | exact lzT))).mono ?_);intro e w1 hr;obtain ⟨rfl,p,rfl⟩:=hr.out;clear hr)
    go_roundw
    case rel=>exact ⟨i + 1,by go_num,by omega,hs.out,by (first | exact gwT | exact lzT)⟩
    case measure=>simp [intOf];omega
   ·have hs:=Lib.hid (hit.out i hlt he hp)
    rw [he] at C1
    obtain ⟨v,hv⟩:∃ v,vs[i] = v:=⟨_,rfl⟩
    rw [hv] at C1 c1 c2
    clear hp he hc C hv
    go_wp2_with ((with_reducible refine (C1.out _ (by (first | exact gwT | exact lzT))).mono ?_);intro e w1 hr;obtain ⟨rfl,p,rfl⟩:=hr.out;clear hr)
    go_returns
    exact ⟨.inr ⟨i,hlt,rfl,hs.out⟩,by (first | exact gwT | exact lzT)⟩
  ·have hge:¬ (i:Int) < (vs.length:Int):=by omega
   have hno:findV vs x = none:=by rw [hp,List.drop_of_length_le (by omega)];rfl
   have hnK:=Lib.hid hno
   clear hp hno
   go_wp2
   go_returns
   exact ⟨.inl ⟨rfl,hnK.out⟩,by (first | exact gwT | exact lzT)⟩
set_option maxRecDepth 100000 in
set_option maxHeartbeats 1000000 in
theorem kvar_any (va:Option Addr) (vc:Nat) (vs:List (ByteArray × Int)) (sa:Option Addr) (sn sc:Nat) (x:ByteArray) (hn:vs.length ≤ 1000000) (w:World) (h:VarsAt w va vs) :
  Calls Tryz.prog 245 #[.agg #[.slice va vs.length vc,.slice sa sn sc],.string x] w (Ret (lookV vs x) w):=by
 have H:=Lib.hid (fun wx hk=>vars_below (w':=wx) h hk)
 have I:=fun b wx hk hb=>Lib.hid (vidx_any va vc vs x hn b wx (vars_below h hk) hb)
 replace I:=Lib.hid I
 have hmf:∀ (fn:Fn) (first cap:Array Value) (w:World),(Instr.makeFunc fn first cap).run Tryz.prog w = .ok (.func fn first cap) w:=fun _ _ _ _=>rfl
 clear h
 go_enter Tryz.func245,Tryz.ntmps245
 go_wp2_with fail
 refine ((I.out _ _ (by (first | exact gwT | exact lzT)) (by simp [go_sem])).out).mono ?_
 intro e w1 hr
 obtain ⟨hr,hb⟩:=hr
 obtain ⟨p,rfl⟩:=toG hb
 clear hb I
 rcases hr with ⟨rfl,hf⟩ | ⟨i,hi,rfl,hf⟩
 ·have hv:=Lib.hid (show lookV vs x = .tuple #[.int .i64 0,.int .i64 24] by unfold lookV;rw [hf])
  clear hf
  go_wp2
  go_returns
  exact ⟨by rw [hv.out];rfl,by (first | exact gwT | exact lzT)⟩
 ·have hv:=Lib.hid (show lookV vs x = .tuple #[.int .i64 vs[i].2,.int .i64 0] by unfold lookV;rw [hf])
  obtain ⟨g,o,rfl,hg,hc⟩:=H.out w (Below.refl _ _) (by omega)
  obtain ⟨c1,c2⟩:=hc i hi
  have hI:(i:Int) < (vs.length:Int):=by omega
  have i1:InW g w:=⟨hg⟩
  generalize vs[i] = v at *
  clear hf hc
  go_wp2
  go_returns
  exact ⟨by rw [hv.out];rfl,by (first | exact gwT | exact lzT)⟩
end Go.Proofs.YtfgpmcepppcmiaaGreatDoor
namespace Go.Proofs.YtfgpmcepppcmiaaGreatDoor
open Go.RowKit
theorem step_zero {i:Nat} {op op':List Nat} {n:Nd} (h:stepR i op n = some op') (hc:n.op = 1 ∨ n.op = 2):n.r = 0:=by
 unfold stepR at h
 split at h
 ·cases h
 ·split at h
  ·rename_i hr
   unfold nright at hr
   rw [if_neg (by omega),if_neg (by omega),if_pos (by omega)] at hr
   simp only [Bool.and_eq_true,beq_iff_eq] at hr
   have e:cnt n.op = 1:=by unfold cnt;rw [if_pos hc]
   rw [hr.2,e,List.getD_eq_getElem?_getD,List.getElem?_eq_none (by rw [List.length_map,List.length_reverse,List.length_take];omega),Option.getD_none]
  ·cases h
theorem stack_zero:∀ (ns:List Nd) (i:Nat) (op st:List Nat),stackL i op ns = some st → ∀ j (h:j < ns.length),(ns[j].op = 1 ∨ ns[j].op = 2) → ns[j].r = 0
 | [],_,_,_,_,j,hj=>absurd hj (Nat.not_lt_zero _)
 | n :: r,i,op,st,h,j,hj=>by
  rw [stackL] at h
  split at h
  ·rename_i op' hs
   cases j with
   | zero=>exact step_zero hs
   | succ j=>exact stack_zero r (i + 1) op' st h j (by simpa using hj)
  ·cases h
theorem right_zero {ns:List Nd} (h:rightT ns = true):∀ j (hj:j < ns.length),(ns[j].op = 1 ∨ ns[j].op = 2) → ns[j].r = 0:=by
 unfold rightT at h
 split at h
 ·cases h
 ·rw [rightL_stack] at h
  split at h
  ·rename_i st hs
   exact stack_zero ns 0 [] st hs
  ·cases h
theorem right_few {ns:List Nd} (h:rightT ns = true):0 < ns.length ∧ ns.length ≤ 32:=by
 refine ⟨(tree_of_right h).1,?_⟩
 unfold rightT at h
 split at h
 ·cases h
 ·rename_i hs
  have h0:sizeT ns = 0:=Decidable.not_not.1 hs
  unfold sizeT at h0
  split at h0
  ·cases h0
  ·omega
theorem takes_zero (op:Int):takesB op 0 = false:=by
 unfold takesB
 repeat' split
 all_goals rfl
theorem resK_zero (op a b:Int):(resK op a b = 0) ↔ resB op a b = false:=by
 constructor
 ·intro h
  rcases hr:resB op a b
  ·rfl
  ·exfalso
   have ht:=resB_takes hr
   have ha:a ≠ 0:=by rintro rfl;rw [takes_zero] at ht;cases ht
   unfold resK at h
   rw [hr,if_pos rfl] at h
   split at h
   ·exact ha h
   ·cases h
 ·exact resK_f
theorem resB_one {op a b c:Int} (h:op = 1 ∨ op = 2):resB op a b = resB op a c:=by
 unfold resB
 have:aloneB op = true:=by unfold aloneB;rcases h with rfl | rfl <;> rfl
 rw [this,Bool.true_or,Bool.true_or]
theorem resK_one {op a b c:Int} (h:op = 1 ∨ op = 2):resK op a b = resK op a c:=by
 unfold resK
 rw [resB_one (c:=c) h]
def nodeV:Except Int Int → Value
 | .ok k => .tuple #[.int .i64 k,.int .i64 0]
 | .error x => .tuple #[.int .i64 0,.int .i64 x]
theorem own_op {vs:List (ByteArray × Int)} {ss:List ByteArray} {n:Nd} {a b:Int} (h1:1 ≤ n.op) (h2:n.op ≤ 15):nodeV (ownR vs ss n a b) = .tuple #[.int .i64 (if resB n.op a b then resK n.op a b else 0),.int .i64 (if resB n.op a b then 0 else 20)]:=by
 unfold ownR
 rw [if_neg (by omega),if_neg (by omega),if_neg (by omega)]
 have e1:resK n.op a (if n.op ≤ 2 then 0 else b) = resK n.op a b:=by
  split
  ·exact resK_one (by omega)
  ·rfl
 rw [e1]
 rcases hr:resB n.op a b
 ·rw [if_pos ((resK_zero _ _ _).2 hr)]
  rfl
 ·rw [if_neg (fun h=>by rw [(resK_zero _ _ _).1 h] at hr;cases hr)]
  rfl
def KsAt (w:World) (kb N:Nat) (ks:List Int):Prop:=∃ cs:Array Value,w.heap[kb]? = some (.cells cs 3 (0,0)) ∧ cs.size = N ∧ (∀ j (h:j < ks.length),cs[j]? = some (.int .i64 ks[j])) ∧ ∀ j,j < N → ∃ x:Int,cs[j]? = some (.int .i64 x)
theorem ks_keep {w w':World} {kb N:Nat} {ks:List Int} (h:KsAt w kb N ks) (hb:Below w.heap.size w w'):KsAt w' kb N ks:=by
 obtain ⟨cs,h1,h2⟩:=h
 exact ⟨cs,(hb.block kb (lt_of_block h1)).trans h1,h2⟩
theorem ks_set {w:World} {kb N:Nat} {ks:List Int} (h:KsAt w kb N ks) (hl:ks.length < N) (k:Int):KsAt (w.setCell ⟨kb,ks.length,none⟩ (.int .i64 k)) kb N (ks ++ [k]):=by
 obtain ⟨cs,h1,h2,h3,h4⟩:=h
 refine ⟨_,blk_set h1,by rw [Array.size_setIfInBounds];exact h2,fun j hj=>?_,fun j hj=>?_⟩
 ·rw [List.length_append,List.length_singleton] at hj
  rcases Nat.lt_or_ge j ks.length with hlt | hge
  ·rw [Array.getElem?_setIfInBounds_ne (by omega),List.getElem_append_left hlt]
   exact h3 j hlt
  ·obtain rfl:j = ks.length:=by omega
   rw [Array.getElem?_setIfInBounds_self_of_lt (by omega)]
   simp
 ·by_cases he:ks.length = j
  ·subst he
   exact ⟨k,Array.getElem?_setIfInBounds_self_of_lt (by omega)⟩
  ·rw [Array.getElem?_setIfInBounds_ne he]
   exact h4 j hj
theorem ks_cell {w:World} {kb N:Nat} {ks:List Int} (h:KsAt w kb N ks):kb < w.heap.size ∧ (∀ j,j < ks.length → w.cell? ⟨kb,j,none⟩ = some (.int .i64 (ks.getD j 0))) ∧ (∀ j,j < N → ∃ x:Int,w.cell? ⟨kb,j,none⟩ = some (.int .i64 x)) ∧ ∀ j,w.frozen? ⟨kb,j,none⟩ = false:=by
 obtain ⟨cs,h1,h2,h3,h4⟩:=h
 refine ⟨lt_of_block h1,fun j hj=>?_,fun j hj=>?_,fun j=>frozen_of_row w kb j _ _ h1⟩
 ·rw [cell_of_row w kb _ _ _ _ h1,List.getD_eq_getElem?_getD,List.getElem?_eq_getElem hj]
  exact h3 j hj
 ·obtain ⟨x,hx⟩:=h4 j hj
  exact ⟨x,by rw [cell_of_row w kb _ _ _ _ h1];exact hx⟩
theorem linK_err {own:Nd → Int → Int → Except Int Int} {ks:List Int} {n:Nd} {r:List Nd} {x:Int} (h:own n (ks.getD n.l.toNat 0) (ks.getD n.r.toNat 0) = .error x):linK own ks (n :: r) = .error (x,ks.length):=by rw [linK,h]
theorem linK_ok {own:Nd → Int → Int → Except Int Int} {ks:List Int} {n:Nd} {r:List Nd} {k:Int} (h:own n (ks.getD n.l.toNat 0) (ks.getD n.r.toNat 0) = .ok k):linK own ks (n :: r) = linK own (ks ++ [k]) r:=by rw [linK,h]
def ofK (x:Except (Int × Nat) (List Int)) (n:Nat):Value :=
 match x with
 | .error (x,_) => .tuple #[.int .i64 0,.int .i64 x]
 | .ok ks => .tuple #[.int .i64 (ks.getD (n - 1) 0),.int .i64 0]
section
variable (va:Option Addr) (vc:Nat) (vs:List (ByteArray × Int)) (sa:Option Addr) (sc:Nat) (ss:List ByteArray)
theorem knode_leaf (kv:Value) (n:Nd) (a b:Int) (hc:n.op = 0 ∨ n.op = 16 ∨ n.op = 17) (hvn:vs.length ≤ 1000000) (hsn:ss.length ≤ 1000) (w:World) (hv:VarsAt w va vs) (hs:StrsAt w sa ss) :
  Calls Tryz.prog 227 #[.agg #[.slice va vs.length vc,.slice sa ss.length sc],ndV n,kv] w (Ret (nodeV (ownR vs ss n a b)) w):=by
 have V:=Lib.hid (fun wx hb=>kvar_any va vc vs sa ss.length sc ⟨n.name.toArray⟩ hvn wx (vars_below (w':=wx) hv hb))
 have S:=Lib.hid (fun wx hb=>kstate_any va vs.length vc sa sc ss ⟨n.name.toArray⟩ hsn wx (strs_below (w':=wx) hs hb))
 have e:nodeV (ownR vs ss n a b) = if n.op = 0 then .tuple #[.int .i64 n.k,.int .i64 0] else if n.op = 16 then lookV vs ⟨n.name.toArray⟩ else stateV ss ⟨n.name.toArray⟩:=by
  unfold ownR
  rcases hc with h | h | h
  ·rw [if_pos h,if_pos h];rfl
  ·have h0:¬ n.op = 0:=by omega
   simp only [if_neg h0,if_pos h]
   unfold lookV
   cases findV vs ⟨n.name.toArray⟩ <;> rfl
  ·have h0:¬ n.op = 0:=by omega
   have h16:¬ n.op = 16:=by omega
   simp only [if_neg h0,if_neg h16,if_pos h]
   unfold stateV
   cases hasB ss ⟨n.name.toArray⟩ <;> rfl
 rw [e]
 unfold ndV
 obtain ⟨op,k,nn,s,name,l,r⟩:=n
 simp only at hc V S ⊢
 clear hv hs e
 have hl:∃ x y:Int,lookV vs ⟨name.toArray⟩ = .tuple #[.int .i64 x,.int .i64 y]:=by
  unfold lookV
  cases findV vs ⟨name.toArray⟩ <;> exact ⟨_,_,rfl⟩
 obtain ⟨x,y,hl⟩:=hl
 have hst:∃ x y:Int,stateV ss ⟨name.toArray⟩ = .tuple #[.int .i64 x,.int .i64 y]:=⟨_,_,rfl⟩
 obtain ⟨x2,y2,hst⟩:=hst
 rw [hl] at V ⊢
 rw [hst] at S ⊢
 clear hl hst
 rcases hc with rfl | rfl | rfl
 all_goals
  go_enter Tryz.func227,Tryz.ntmps227
  go_wp2_with (first | ((with_reducible refine (V.out _ (by (first | exact gwT | exact lzT))).mono ?_);intro e w1 hr;obtain ⟨rfl,p,rfl⟩:=hr.out;clear hr) | ((with_reducible refine (S.out _ (by (first | exact gwT | exact lzT))).mono ?_);intro e w1 hr;obtain ⟨rfl,p,rfl⟩:=hr.out;clear hr))
  go_returns
  exact ⟨rfl,by (first | exact gwT | exact lzT)⟩
set_option maxRecDepth 100000 in
set_option maxHeartbeats 1000000 in
theorem knode_op (n:Nd) (a b N:Nat) (x y:Int) (kb:Nat) (h1:1 ≤ n.op) (h2:n.op ≤ 15) (hl:n.l = (a:Int)) (hr:n.r = (b:Int)) (ha:a < N) (hb:b < N) (w:World)
  (ca:w.cell? ⟨kb,a,none⟩ = some (.int .i64 x)) (cb:w.cell? ⟨kb,b,none⟩ = some (.int .i64 y)) :
  Calls Tryz.prog 227 #[.agg #[.slice va vs.length vc,.slice sa ss.length sc],ndV n,.slice (some ⟨kb,0,none⟩) N N] w (Ret (nodeV (ownR vs ss n x y)) w):=by
 rw [own_op h1 h2]
 have R:=Lib.hid (fun wx=>result_any n.op x y wx)
 generalize resB n.op x y = ok at *
 generalize resK n.op x y = k at *
 unfold ndV
 obtain ⟨op,k0,nn,s,name,l,r⟩:=n
 simp only at h1 h2 hl hr R ⊢
 subst hl hr
 have i1:InW kb w:=⟨World.block_lt_of_cell? _ _ ca⟩
 have o0:(op == 0) = false:=beq_eq_false_iff_ne.mpr (by omega)
 have o16:(op == 16) = false:=beq_eq_false_iff_ne.mpr (by omega)
 have o17:(op == 17) = false:=beq_eq_false_iff_ne.mpr (by omega)
 have haI:(a:Int) < (N:Int):=by omega
 have hbI:(b:Int) < (N:Int):=by omega
 clear h1 h2
 cases ok
 all_goals
  go_enter Tryz.func227,Tryz.ntmps227
  go_wp2_with fail
  (refine wp_region_G (by kernel_rfl) (by kernel_rfl) ?_;(repeat (go_big_quiet_step (exact quietGW ((R.out _)))));refine wpQuiet_nil ?_;intro _ hw';obtain ⟨pg,hw''⟩:=hw';subst hw'')
  go_wp2
  go_returns
  exact ⟨rfl,by (first | exact gwT | exact lzT)⟩
end
end Go.Proofs.YtfgpmcepppcmiaaGreatDoor
namespace Go.Proofs.YtfgpmcepppcmiaaGreatDoor
open Go.RowKit
def zeroRow (n:Nat):Array Value:=madeCells #[.int .i64 0] n
theorem ks_new (w:World) (n:Nat):KsAt (w.alloc (.cells (zeroRow n) 3)) w.heap.size n []:=by
 refine ⟨_,new_block _ _,size_madeCells _ _,fun j h=>absurd h (Nat.not_lt_zero _),fun j hj=>⟨0,?_⟩⟩
 unfold zeroRow
 rw [← Array.getElem?_toList,toList_madeCells_one,List.getElem?_replicate,if_pos hj]
theorem make_ints (n:Nat) (hn:n ≤ 32) (wx:World):(Instr.makeSlice 40 (.int .i64 (n:Int)) (.int .i64 (n:Int))).run Tryz.prog wx = .ok (.slice (some ⟨wx.heap.size,0,none⟩) n n) (wx.alloc (.cells (zeroRow n) 3)):=by
 obtain ⟨i0,hi,hz1,hz2,hz3⟩:=info_parts Tryz.infoInt
 have:=run_make (P:=Tryz.prog) wx 40 3 i0 (.int .i64 0) Tryz.underlying40 hi hz1 .i64 .i64 (n:Int) (n:Int) (by omega) (Int.le_refl _) (by rw [hz3];omega) (by omega)
 rw [this,hz2]
 simp [zeroRow,Value.cells]
section
variable (va:Option Addr) (vc:Nat) (vs:List (ByteArray × Int)) (sa:Option Addr) (sc:Nat) (ss:List ByteArray)
theorem kof_no (ao:Option Addr) (cap:Nat) (ns:List Nd) (w:World) (vn sn:Nat) (R:∀ wx,Below w.heap.size w wx → Calls Tryz.prog 226 #[.slice ao ns.length cap] wx (Ret (.bool false) wx)) :
  Calls Tryz.prog 210 #[.slice ao ns.length cap,.agg #[.slice va vn vc,.slice sa sn sc]] w (Ret (.tuple #[.int .i64 0,.int .i64 11]) w):=by
 replace R:=Lib.hid R
 go_enter Tryz.func210,Tryz.ntmps210
 go_wp2_with ((with_reducible refine (R.out _ (by (first | exact gwT | exact lzT))).mono ?_);intro e w1 hr;obtain ⟨rfl,p,rfl⟩:=hr.out;clear hr)
 go_returns
 exact ⟨rfl,by (first | exact gwT | exact lzT)⟩
set_option maxRecDepth 100000 in
set_option maxHeartbeats 4000000 in
theorem kof_any (ao:Option Addr) (cap:Nat) (ns:List Nd) (hr:rightT ns = true) (hvn:vs.length ≤ 1000000) (hsn:ss.length ≤ 1000) (w:World) (h:NdsAt w ao ns) (hv:VarsAt w va vs) (hs:StrsAt w sa ss)
  (R:∀ wx,Below w.heap.size w wx → Calls Tryz.prog 226 #[.slice ao ns.length cap] wx (Ret (.bool true) wx)) :
  Calls Tryz.prog 210 #[.slice ao ns.length cap,.agg #[.slice va vs.length vc,.slice sa ss.length sc]] w (Ret (ofK (linK (ownR vs ss) [] ns) ns.length) w):=by
 obtain ⟨h0,h32⟩:=right_few hr
 have hah:=Lib.hid (right_ahead hr)
 have hrz:=Lib.hid (right_zero hr)
 have hmk:=fun wx=>make_ints ns.length h32 wx
 replace R:=Lib.hid R
 have H:=Lib.hid (fun wx hb=>nds_below (w':=wx) h hb)
 have NL:=Lib.hid (fun kv n a b hc wx (hb:Below w.heap.size w wx)=>knode_leaf va vc vs sa sc ss kv n a b hc hvn hsn wx (vars_below hv hb) (strs_below hs hb))
 have NO:=Lib.hid (fun n a b x y kb h1 h2 hl hr ha hb wx ca cb=>knode_op va vc vs sa sc ss n a b ns.length x y kb h1 h2 hl hr ha hb wx ca cb)
 clear h hv hs hr
 go_enter Tryz.func210,Tryz.ntmps210
 go_wp2_with fail
 refine (R.out _ (by (first | exact gwT | exact lzT))).mono ?_
 intro e w1 hr
 obtain ⟨rfl,hb1⟩:=hr
 have hz1:=hb1.size
 rw [World.size_alloc] at hz1
 have b0:=(hb1.cell (p:=⟨w.heap.size,0,none⟩) (by simp)).trans (show _ = some (Value.slice va vs.length vc) by simp [go_sem])
 have b1:=(hb1.cell (p:=⟨w.heap.size,1,none⟩) (by simp)).trans (show _ = some (Value.slice sa ss.length sc) by simp [go_sem])
 have hbw:Below w.heap.size w w1:=Below.trans (by (first | exact gwT | exact lzT)) (hb1.mono (by simp))
 have hK0:=Lib.hid (ks_new w1 ns.length)
 obtain ⟨zr,hzr⟩:∃ zr,zeroRow ns.length = zr:=⟨_,rfl⟩
 rw [hzr] at hmk hK0
 clear hb1 R hzr
 go_wp2
 go_loopw [19] (fun v wr=>∃ ks:List Int,v = .int .i64 (ks.length:Int) ∧ ks.length ≤ ns.length ∧ KsAt wr w1.heap.size ns.length ks ∧ linK (ownR vs ss) [] ns = linK (ownR vs ss) ks (ns.drop ks.length) ∧ Below w1.heap.size w1 wr) (fun v _=>ns.length - (intOf v).toNat)
 case atStart=>exact ⟨[],rfl,Nat.zero_le _,hK0.out,rfl,by (first | exact gwT | exact lzT)⟩
 case round =>
  obtain ⟨ks,rfl,hle,hK,hR,hb⟩:=hrel
  rename World=>wr
  have hwz:=hb.size
  clear hK0 hmk
  have hbr:Below w.heap.size w wr:=hbw.trans (hb.mono (by omega))
  have d0:=(hb.cell (p:=⟨w.heap.size,0,none⟩) (by show w.heap.size < _;omega)).trans b0
  have d1:=(hb.cell (p:=⟨w.heap.size,1,none⟩) (by show w.heap.size < _;omega)).trans b1
  obtain ⟨k1,k2,k3,k4⟩:=ks_cell hK
  have i0:InW w.heap.size wr:=⟨by omega⟩
  have i1:InW w1.heap.size wr:=⟨k1⟩
  by_cases hlt:ks.length < ns.length
  ·obtain ⟨g,o,rfl,hg,hc⟩:=H.out wr hbr (by omega)
   obtain ⟨n1,n2,n3,n4,n5,n6,n7⟩:=hc ks.length hlt
   have i2:InW g wr:=⟨hg⟩
   have hI:(ks.length:Int) < (ns.length:Int):=by omega
   rw [List.drop_eq_getElem_cons hlt] at hR
   have ha:=hah.out ks.length hlt
   have hz:=hrz.out ks.length hlt
   generalize ns[ks.length] = n at *
   have NN:∀ wx,Below wr.heap.size wr wx → Calls Tryz.prog 227 #[.agg #[.slice va vs.length vc,.slice sa ss.length sc],ndV n,.slice (some ⟨w1.heap.size,0,none⟩) ns.length ns.length] wx (Ret (nodeV (ownR vs ss n (ks.getD n.l.toNat 0) (ks.getD n.r.toNat 0))) wx):=by
    intro wx hx
    have hcell:∀ j,j < ks.length → wx.cell? ⟨w1.heap.size,j,none⟩ = some (.int .i64 (ks.getD j 0)):=fun j hj=>(hx.cell (p:=⟨w1.heap.size,j,none⟩) k1).trans (k2 j hj)
    rcases ha.range with hc | hc | hc
    ·exact NL.out _ n _ _ (.inl hc) wx (hbr.trans (hx.mono hbr.size))
    ·obtain ⟨a,el,hal⟩:=ha.l hc.1 hc.2
     have hrr:∃ b:Nat,n.r = (b:Int) ∧ b < ks.length:=by
      by_cases h3:3 ≤ n.op
      ·exact ha.r h3 hc.2
      ·exact ⟨0,by rw [hz (by omega)];rfl,by omega⟩
     obtain ⟨b,er,hbl⟩:=hrr
     rw [el,er,Int.toNat_natCast,Int.toNat_natCast]
     exact NO.out n a b _ _ w1.heap.size hc.1 hc.2 el er (by omega) (by omega) wx (hcell a hal) (hcell b hbl)
    ·exact NL.out _ n _ _ (.inr hc) wx (hbr.trans (hx.mono hbr.size))
   have hKK:=Lib.hid hK
   have hst:=k3 ks.length hlt
   have hfr:=k4 ks.length
   clear hc ha hz hK k2 k3 k4 NL NO hah hrz
   obtain ⟨r,hrr⟩:∃ r,ownR vs ss n (ks.getD n.l.toNat 0) (ks.getD n.r.toNat 0) = r:=⟨_,rfl⟩
   rw [hrr] at NN
   unfold ndV at NN
   cases r with
   | error x =>
    have hx:=ownR_err hrr
    have hres:=Lib.hid (hR.trans (linK_err hrr))
    have NN:=Lib.hid NN
    clear hrr hR
    have hx0:(x == 0) = false:=by rw [beq_eq_false_iff_ne];omega
    have hx1:(x != 0) = true:=by rw [bne,hx0];rfl
    simp only [nodeV] at NN
    clear hx
    go_wp2_with ((with_reducible refine (NN.out _ (by (first | exact gwT | exact lzT))).mono ?_);intro e w1 hr;obtain ⟨rfl,p,rfl⟩:=hr.out;clear hr)
    go_returns
    exact ⟨by rw [hres.out];rfl,by (first | exact gwT | exact lzT)⟩
   | ok k =>
    have hnext:=Lib.hid (hR.trans (linK_ok hrr))
    have NN:=Lib.hid NN
    clear hrr hR
    simp only [nodeV] at NN
    obtain ⟨xo,hxo⟩:=hst
    go_wp2_with ((with_reducible refine (NN.out _ (by (first | exact gwT | exact lzT))).mono ?_);intro e w1 hr;obtain ⟨rfl,p,rfl⟩:=hr.out;clear hr)
    have hlen:=Lib.hid (show (ks ++ [k]).length = ks.length + 1 by simp)
    go_roundw
    case rel=>exact ⟨ks ++ [k],by rw [hlen.out];go_num,by rw [hlen.out];omega,ks_keep (ks_set hKK.out hlt k) (by (first | exact gwT | exact lzT)),by rw [hlen.out];exact hnext.out,by (first | exact gwT | exact lzT)⟩
    case measure=>simp [intOf];omega
  ·have he:ns.length = ks.length:=by omega
   have hdr:ns.drop ks.length = []:=List.drop_of_length_le (by omega)
   rw [hdr] at hR
   have hres:=Lib.hid hR
   have hlast:=k2 (ns.length - 1) (by omega)
   obtain ⟨last,hlst⟩:∃ x,ks.getD (ns.length - 1) 0 = x:=⟨_,rfl⟩
   rw [hlst] at hlast
   have hlK:=Lib.hid hlst
   obtain ⟨m,hm⟩:∃ m,ns.length = m + 1:=⟨ns.length - 1,by omega⟩
   have hge:¬ ((ks.length:Int) < (ns.length:Int)):=by omega
   have hidx:((ns.length:Int) - 1).toNat = ns.length - 1:=by omega
   clear hR hdr he k2 k3 k4 hlst hm
   go_wp2
   go_returns
   exact ⟨by rw [hres.out,← hlK.out];rfl,by (first | exact gwT | exact lzT)⟩
def isI (a x k:Int):Int:=if x = 0 then (if a = k then 0 else 20) else x
theorem kis_any (ev:Value) (a x k:Int) (w:World) (vn sn:Nat) (O:∀ wx,Below w.heap.size w wx → Calls Tryz.prog 210 #[ev,.agg #[.slice va vn vc,.slice sa sn sc]] wx (Ret (.tuple #[.int .i64 a,.int .i64 x]) wx)) :
  Calls Tryz.prog 211 #[ev,.agg #[.slice va vn vc,.slice sa sn sc],.int .i64 k] w (Ret (.int .i64 (isI a x k)) w):=by
 replace O:=Lib.hid O
 unfold isI
 by_cases hx:x = 0
 ·subst hx
  rw [if_pos rfl]
  by_cases hk:a = k
  ·subst hk
   rw [if_pos rfl]
   go_enter Tryz.func211,Tryz.ntmps211
   go_wp2_with ((with_reducible refine (O.out _ (by (first | exact gwT | exact lzT))).mono ?_);intro e w1 hr;obtain ⟨rfl,p,rfl⟩:=hr.out;clear hr)
   go_returns
   exact ⟨rfl,by (first | exact gwT | exact lzT)⟩
  ·rw [if_neg hk]
   have h0:(a == k) = false:=beq_eq_false_iff_ne.mpr hk
   have h1:(a != k) = true:=by rw [bne,h0];rfl
   clear hk
   go_enter Tryz.func211,Tryz.ntmps211
   go_wp2_with ((with_reducible refine (O.out _ (by (first | exact gwT | exact lzT))).mono ?_);intro e w1 hr;obtain ⟨rfl,p,rfl⟩:=hr.out;clear hr)
   go_returns
   exact ⟨rfl,by (first | exact gwT | exact lzT)⟩
 ·rw [if_neg hx]
  have h0:(x == 0) = false:=beq_eq_false_iff_ne.mpr hx
  have h1:(x != 0) = true:=by rw [bne,h0];rfl
  clear hx
  go_enter Tryz.func211,Tryz.ntmps211
  go_wp2_with ((with_reducible refine (O.out _ (by (first | exact gwT | exact lzT))).mono ?_);intro e w1 hr;obtain ⟨rfl,p,rfl⟩:=hr.out;clear hr)
  go_returns
  exact ⟨rfl,by (first | exact gwT | exact lzT)⟩
end
end Go.Proofs.YtfgpmcepppcmiaaGreatDoor
