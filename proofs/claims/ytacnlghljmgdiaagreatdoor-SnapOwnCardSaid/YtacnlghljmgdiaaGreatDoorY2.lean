/- Several texts of this proof, joined: X1, X2, X3, X4. -/
import Derived.Test.YtacnlghljmgdiaaGreatDoorO1
import Derived.Test.YtacnlghljmgdiaaGreatDoorY1
import Derived.Test.YtacnlghljmgdiaaGreatDoorZ7
import Derived.WalkKit
import Derived.ProofKit
import Derived.OpenShut
import Derived.Handy
import Derived.BigQuiet
import Derived.OwnWalk
import Derived.OneCell
import Derived.Deep.AppendLies
import Derived.Lib.Hide
import Derived.WalkSmall
import Derived.WalkLawsBesides
import Derived.Deep.RegionHeld3
import Derived.Deep.RegionLaw
namespace Go.Proofs.YtacnlghljmgdiaaGreatDoor
open Go.RowKit
def ndV (n:Nd):Value := .agg #[.int .i64 n.op,.int .i64 n.k,.int .i64 n.n,.string ⟨n.s.toArray⟩,.string ⟨n.name.toArray⟩,.int .i64 n.l,.int .i64 n.r]
def ndC (n:Nd):List Value:=[.int .i64 n.op,.int .i64 n.k,.int .i64 n.n,.string ⟨n.s.toArray⟩,.string ⟨n.name.toArray⟩,.int .i64 n.l,.int .i64 n.r]
def z9j (ns:List Nd):List Value:=ns.flatMap ndC
def z1h (l:List Nat):List Value:=l.map fun (p:Nat) => .int .i64 (p:Int)
def q1k (l:List Int):List Value:=l.map fun p => .int .i64 p
theorem j6u (ts:List Nd) (t:Nd):z9j (ts ++ [t]) = z9j ts ++ ndC t:=by simp [z9j]
structure RdIs (B rb:Nat) (lv:Value) (r:Rd) (nv pv wv:Value) (w:World):Prop where
 blk:w.heap[rb]? = some (.cells #[lv,.int .i64 (r.at_:Int),nv,pv,wv,.int .i64 (r.within:Int)] 336 (0,0))
 nodes:w.ownsRow B 239 7 nv r.nodes.length (z9j r.nodes)
 parts:w.ownsRow B 3 1 pv r.parts.length (z1h r.parts.reverse)
 wait:w.ownsRow B 3 1 wv r.wait.length (q1k r.wait.reverse)
 apart:pv.ownBlock = none ∨ pv.ownBlock ≠ wv.ownBlock
 base:B ≤ rb
def q4c (B rb:Nat) (lv:Value) (r:Rd) (w:World):Prop:=∃ nv pv wv,RdIs B rb lv r nv pv wv w
theorem z0n {w:World} {B rb s n:Nat} {e t:TypeId} {v:Value} {xs:List Value} {cs:Array Value} {fr:Nat × Nat} (h:w.ownsRow B e s v n xs) (hb:w.heap[rb]? = some (.cells cs t fr)) (ht:t ≠ e):v.ownBlock ≠ some rb:=by
 rcases h.2 with ⟨rfl,_⟩ | ⟨g,cap,cur,rfl,_,hg,_⟩
 ·intro h;cases h
 ·intro h
  simp only [Value.ownBlock,Option.some.injEq] at h
  subst h
  rw [hb] at hg
  cases hg
  exact ht rfl
theorem z1a {w:World} {B B' s s' n n':Nat} {e t:TypeId} {v u:Value} {xs ys:List Value} (h:w.ownsRow B e s v n xs) (k:w.ownsRow B' t s' u n' ys) (ht:e ≠ t):v.ownBlock = none ∨ v.ownBlock ≠ u.ownBlock:=by
 rcases k.2 with ⟨rfl,_⟩ | ⟨g,cap,cur,rfl,_,hg,_⟩
 ·cases hv:v.ownBlock with
  | none=>exact .inl rfl
  | some k=>exact .inr fun h=>by cases h
 ·exact .inr (z0n h hg (Ne.symm ht))
theorem z4c {B rb:Nat} {lv nv pv wv:Value} {r:Rd} {w w':World} (h:RdIs B rb lv r nv pv wv w) (hb:Below w.heap.size w w'):RdIs B rb lv r nv pv wv w' :=
 ⟨(hb.block rb (lt_of_block h.blk)).trans h.blk,z0a h.nodes hb,z0a h.parts hb,z0a h.wait hb,h.apart,h.base⟩
theorem z2c {B rb:Nat} {lv:Value} {r:Rd} {w w':World} (h:q4c B rb lv r w) (hb:Below w.heap.size w w'):q4c B rb lv r w':=by
 obtain ⟨nv,pv,wv,h⟩:=h
 exact ⟨nv,pv,wv,z4c h hb⟩
theorem z0l {w:World} {b i:Nat} {cs:Array Value} {u:Value} {t:TypeId} (h:w.heap[b]? = some (.cells cs t (0,0))):(w.setCell ⟨b,i,none⟩ u).heap[b]? = some (.cells (cs.setIfInBounds i u) t (0,0)):=by
 have hlt:=lt_of_block h
 have h':w.heap[b] = .cells cs t (0,0):=by simpa [Array.getElem?_eq_getElem hlt] using h
 show (w.heap.modify b _)[b]? = _
 rw [Array.getElem?_eq_getElem (by simpa using hlt),Array.getElem_modify_self,h']
 rfl
theorem v2a {B rb:Nat} {lv nv pv wv:Value} {r:Rd} {w:World} (h:RdIs B rb lv r nv pv wv w) (i:Nat) (u:Value) :
  (w.setCell ⟨rb,i,none⟩ u).heap[rb]? = some (.cells ((#[lv,.int .i64 (r.at_:Int),nv,pv,wv,.int .i64 (r.within:Int)]:Array Value).setIfInBounds i u) 336 (0,0)) ∧
  (w.setCell ⟨rb,i,none⟩ u).ownsRow B 239 7 nv r.nodes.length (z9j r.nodes) ∧ (w.setCell ⟨rb,i,none⟩ u).ownsRow B 3 1 pv r.parts.length (z1h r.parts.reverse) ∧ (w.setCell ⟨rb,i,none⟩ u).ownsRow B 3 1 wv r.wait.length (q1k r.wait.reverse) :=
 ⟨z0l h.blk,ownsRow_setCell_other h.nodes (z0n h.nodes h.blk deT) u,ownsRow_setCell_other h.parts (z0n h.parts h.blk deT) u,ownsRow_setCell_other h.wait (z0n h.wait h.blk deT) u⟩
theorem j7j {B rb:Nat} {lv nv pv wv:Value} {r:Rd} {w:World} (h:RdIs B rb lv r nv pv wv w) (a:Nat) {x:Int} (hx:x = (a:Int)):RdIs B rb lv { r with at_:=a } nv pv wv (w.setCell ⟨rb,1,none⟩ (.int .i64 x)):=by
 subst hx
 obtain ⟨h1,h2,h3,h4⟩:=v2a h 1 (.int .i64 (a:Int))
 exact ⟨h1,h2,h3,h4,h.apart,h.base⟩
theorem j7k {B rb:Nat} {lv nv pv wv:Value} {r:Rd} {w:World} (h:RdIs B rb lv r nv pv wv w) (a:Nat) {x:Int} (hx:x = (a:Int)):RdIs B rb lv { r with within:=a } nv pv wv (w.setCell ⟨rb,5,none⟩ (.int .i64 x)):=by
 subst hx
 obtain ⟨h1,h2,h3,h4⟩:=v2a h 5 (.int .i64 (a:Int))
 exact ⟨h1,h2,h3,h4,h.apart,h.base⟩
theorem z0o {w w':World} {B B' e e' s s' n n':Nat} {v u:Value} {xs ys:List Value} (h:w.ownsRow B e s v n xs) (_k:w.ownsRow B' e' s' u n' ys) (ha:v.ownBlock = none ∨ v.ownBlock ≠ u.ownBlock) (hg:w.grownBy w' u.ownBlock):w'.ownsRow B e s v n xs :=
 h.kept hg ha
theorem z0h {w w':World} {B e s n rb:Nat} {u:Value} {ys:List Value} {cs:Array Value} {t:TypeId} {fr:Nat × Nat} (k:w.ownsRow B e s u n ys) (hb:w.heap[rb]? = some (.cells cs t fr)) (ht:t ≠ e) (hg:w.grownBy w' u.ownBlock):w'.heap[rb]? = some (.cells cs t fr):=by
 rw [hg.block rb (lt_of_block hb) (fun e=>z0n k hb ht e.symm)]
 exact hb
theorem q7t {w:World} {B e s n g H:Nat} {v u:Value} {xs:List Value} (h:w.ownsRow B e s v n xs) (ha:v.ownBlock = none ∨ v.ownBlock ≠ u.ownBlock) (hat:u.ownBlock = some g ∨ g = H) (hH:w.heap.size ≤ H):v.ownBlock = none ∨ v.ownBlock ≠ some g:=by
 rcases ha with ha | ha
 ·exact .inl ha
 ·right
  rcases hat with hat | rfl
  ·rw [← hat];exact ha
  ·intro hv
   have:=(h.lt _ hv).2
   omega
theorem q8n {B rb g H cap n:Nat} {lv nv pv wv:Value} {r:Rd} {w w':World} {x:Int} (h:RdIs B rb lv r nv pv wv w) (hg:w.grownBy w' wv.ownBlock) (ho:w'.ownsRow B 3 1 (.slice (some ⟨g,0,none⟩) n cap) n (q1k r.wait.reverse ++ [.int .i64 x])) (hn:n = r.wait.length + 1) (hat:wv.ownBlock = some g ∨ g = H) (hH:w.heap.size ≤ H) :
  RdIs B rb lv { r with wait:=x :: r.wait } nv pv (.slice (some ⟨g,0,none⟩) n cap) (w'.setCell ⟨rb,4,none⟩ (.slice (some ⟨g,0,none⟩) n cap)):=by
 subst hn
 have ho':w'.ownsRow B 3 1 (.slice (some ⟨g,0,none⟩) (r.wait.length + 1) cap) (x :: r.wait).length (q1k (x :: r.wait).reverse):=by simpa [q1k] using ho
 have hb:=z0h h.wait h.blk deT hg
 have h2:=z0o h.nodes h.wait (z1a h.nodes h.wait deT) hg
 have h3:=z0o h.parts h.wait h.apart hg
 exact ⟨z0l hb,ownsRow_setCell_other h2 (z0n h2 hb deT) _,ownsRow_setCell_other h3 (z0n h3 hb deT) _,ownsRow_setCell_other ho' (z0n ho' hb deT) _,q7t h.parts h.apart hat hH,h.base⟩
theorem k8v {B rb g H cap n:Nat} {lv nv pv wv:Value} {r:Rd} {w w':World} {x:Nat} (h:RdIs B rb lv r nv pv wv w) (hg:w.grownBy w' pv.ownBlock) (ho:w'.ownsRow B 3 1 (.slice (some ⟨g,0,none⟩) n cap) n (z1h r.parts.reverse ++ [.int .i64 (x:Int)])) (hn:n = r.parts.length + 1) (hat:pv.ownBlock = some g ∨ g = H) (hH:w.heap.size ≤ H) :
  RdIs B rb lv { r with parts:=x :: r.parts } nv (.slice (some ⟨g,0,none⟩) n cap) wv (w'.setCell ⟨rb,3,none⟩ (.slice (some ⟨g,0,none⟩) n cap)):=by
 subst hn
 have ho':w'.ownsRow B 3 1 (.slice (some ⟨g,0,none⟩) (r.parts.length + 1) cap) (x :: r.parts).length (z1h (x :: r.parts).reverse):=by simpa [z1h] using ho
 have hb:=z0h h.parts h.blk deT hg
 have h2:=z0o h.nodes h.parts (z1a h.nodes h.parts deT) hg
 have hwa:wv.ownBlock = none ∨ wv.ownBlock ≠ pv.ownBlock:=by
  rcases h.apart with ha | ha
  ·cases hw:wv.ownBlock with
   | none=>exact .inl rfl
   | some k=>right;rw [ha];intro h;cases h
  ·exact .inr (Ne.symm ha)
 have h3:=z0o h.wait h.parts hwa hg
 refine ⟨z0l hb,ownsRow_setCell_other h2 (z0n h2 hb deT) _,ownsRow_setCell_other ho' (z0n ho' hb deT) _,ownsRow_setCell_other h3 (z0n h3 hb deT) _,?_,h.base⟩
 right
 intro he
 rcases q7t h.wait hwa hat hH with k | k
 ·rw [k] at he;cases he
 ·exact k he.symm
theorem k8u {B rb g cap n:Nat} {lv nv pv wv:Value} {r:Rd} {w w':World} {x:Nd} (h:RdIs B rb lv r nv pv wv w) (hg:w.grownBy w' nv.ownBlock) (ho:w'.ownsRow B 239 7 (.slice (some ⟨g,0,none⟩) n cap) n (z9j r.nodes ++ ndC x)) (hn:n = r.nodes.length + 1) :
  RdIs B rb lv { r with nodes:=r.nodes ++ [x] } (.slice (some ⟨g,0,none⟩) n cap) pv wv (w'.setCell ⟨rb,2,none⟩ (.slice (some ⟨g,0,none⟩) n cap)):=by
 subst hn
 have ho':w'.ownsRow B 239 7 (.slice (some ⟨g,0,none⟩) (r.nodes.length + 1) cap) (r.nodes ++ [x]).length (z9j (r.nodes ++ [x])):=by rw [j6u];simpa using ho
 have hb:=z0h h.nodes h.blk deT hg
 have h2:=z0o h.parts h.nodes (z1a h.parts h.nodes deT) hg
 have h3:=z0o h.wait h.nodes (z1a h.wait h.nodes deT) hg
 exact ⟨z0l hb,ownsRow_setCell_other ho' (z0n ho' hb deT) _,ownsRow_setCell_other h2 (z0n h2 hb deT) _,ownsRow_setCell_other h3 (z0n h3 hb deT) _,h.apart,h.base⟩
theorem q3n {w:World} {B e s g cap n k:Nat} {xs:List Value} (h:w.ownsRow B e s (.slice (some ⟨g,0,none⟩) n cap) n xs) (hk:k ≤ n):w.ownsRow B e s (.slice (some ⟨g,0,none⟩) k cap) k (xs.take (k * s)):=by
 obtain ⟨h1,h2⟩:=h
 have hks:k * s ≤ n * s:=Nat.mul_le_mul_right _ hk
 rcases h2 with ⟨h0,_⟩ | ⟨g',cap',cur,hv,hg,hh,hn,hcap,hsz,htake⟩
 ·cases h0
 ·cases hv
  refine ⟨by rw [List.length_take,h1];omega,.inr ⟨g,cap,cur,rfl,hg,hh,by omega,hcap,hsz,?_⟩⟩
  rw [← htake,List.take_take,Nat.min_eq_left hks]
theorem z1r {B rb:Nat} {lv nv pv wv:Value} {r:Rd} {w:World} (h:RdIs B rb lv r nv pv wv w) :
  w.cell? ⟨rb,0,none⟩ = some lv ∧ w.cell? ⟨rb,1,none⟩ = some (.int .i64 (r.at_:Int)) ∧ w.cell? ⟨rb,2,none⟩ = some nv ∧ w.cell? ⟨rb,3,none⟩ = some pv ∧ w.cell? ⟨rb,4,none⟩ = some wv ∧ w.cell? ⟨rb,5,none⟩ = some (.int .i64 (r.within:Int)) ∧ rb < w.heap.size ∧ ∀ i,w.frozen? ⟨rb,i,none⟩ = false:=by
 refine ⟨?_,?_,?_,?_,?_,?_,lt_of_block h.blk,fun i=>frozen_of_row w rb i _ _ h.blk⟩
 all_goals
  rw [cell_of_row w rb _ _ _ _ h.blk]
  rfl
theorem z4i {B rb:Nat} {lv nv pv wv u:Value} {r:Rd} {W W2 w1:World} {e s n:Nat} {ys:List Value} (hgrow:W2.grownBy w1 u.ownBlock) (h:RdIs B rb lv r nv pv wv W) (k:W.ownsRow B e s u n ys) (ht:336 ≠ e) (hb:Below W.heap.size W W2) :
  w1.cell? ⟨rb,2,none⟩ = some nv ∧ w1.cell? ⟨rb,3,none⟩ = some pv ∧ w1.cell? ⟨rb,4,none⟩ = some wv ∧ (∀ i,w1.frozen? ⟨rb,i,none⟩ = false) ∧ rb < w1.heap.size:=by
 have h2:=z4c h hb
 have hk:=z0h (z0a k hb) h2.blk ht hgrow
 refine ⟨?_,?_,?_,fun i=>frozen_of_row w1 rb i _ _ hk,lt_of_block hk⟩
 all_goals
  rw [cell_of_row w1 rb _ _ _ _ hk]
  rfl
theorem z4h {B e s n:Nat} {u:Value} {ys:List Value} {w W W2 w1:World} (hgrow:W2.grownBy w1 u.ownBlock) (k:W.ownsRow B e s u n ys) (hbel:Below B w W) (hb:Below W.heap.size W W2) (hB:B ≤ W.heap.size):Below B w w1 :=
 Below.grown (hbel.trans (hb.mono hB)) hgrow (Nat.le_trans hB hb.size) fun j hj=>(k.lt j hj).1
theorem k2g (op:Int):(op = -1 ∨ op = 1 ∨ op = 2 ∨ op = 3 ∨ op = 4 ∨ op = 5 ∨ op = 6 ∨ op = 7 ∨ op = 8 ∨ op = 9 ∨ op = 10 ∨ op = 11 ∨ op = 12 ∨ op = 13 ∨ op = 14 ∨ op = 15) ∨ (¬ op = -1 ∧ ¬ op = 1 ∧ ¬ op = 2 ∧ ¬ op = 3 ∧ ¬ op = 4 ∧ ¬ op = 5 ∧ ¬ op = 6 ∧ ¬ op = 7 ∧ ¬ op = 8 ∧ ¬ op = 9 ∧ ¬ op = 10 ∧ ¬ op = 11 ∧ ¬ op = 12 ∧ ¬ op = 13 ∧ ¬ op = 14 ∧ ¬ op = 15):=by omega
set_option maxHeartbeats 2000000 in
theorem q3x (op:Int) (w:World):Calls Tryz.prog 259 #[.int .i64 op] w (z6k (.int .i64 (z4o op)) w):=by
 rcases k2g op with h | ⟨h0,h1,h2,h3,h4,h5,h6,h7,h8,h9,h10,h11,h12,h13,h14,h15⟩
 ·rcases h with rfl | rfl | rfl | rfl | rfl | rfl | rfl | rfl | rfl | rfl | rfl | rfl | rfl | rfl | rfl | rfl
  all_goals
   go_enter Tryz.func259,Tryz.ntmps259
   go_wp2
   go_returns
   exact ⟨rfl,rfl⟩
 ·have e:z4o op = 6:=by unfold z4o;repeat' split;all_goals omega
  rw [e]
  clear e h1 h2
  go_enter Tryz.func259,Tryz.ntmps259
  go_wp2
  go_returns
  exact ⟨rfl,rfl⟩
theorem k7k (op:Int) (w:World):Calls Tryz.prog 258 #[.int .i64 op] w (z6k (.int .i64 (q5u op)) w):=by
 have T:=fun wx=>hiT (q3x op wx)
 unfold q5u
 generalize z4o op = t at *
 replace T:=hiT T
 by_cases h:t = 3
 ·subst h
  go_enter Tryz.func258,Tryz.ntmps258
  go_wp2_with ((with_reducible refine ((T.out _).out).mono ?_);rintro e w1 ⟨rfl,rfl⟩)
  go_returns
  exact ⟨rfl,rfl⟩
 ·rw [if_neg h]
  go_enter Tryz.func258,Tryz.ntmps258
  go_wp2_with ((with_reducible refine ((T.out _).out).mono ?_);rintro e w1 ⟨rfl,rfl⟩)
  go_returns
  exact ⟨rfl,rfl⟩
theorem q7h (op:Int) (w:World):Calls Tryz.prog 242 #[.int .i64 op] w (z6k (.int .i64 (cnt op:Int)) w):=by
 by_cases h:op = 1 ∨ op = 2
 ·rcases h with rfl | rfl
  all_goals
   go_enter Tryz.func242,Tryz.ntmps242
   go_wp2
   go_returns
   exact ⟨rfl,rfl⟩
 ·have h1:(op == 1) = false:=beq_eq_false_iff_ne.mpr fun e=>h (.inl e)
  have h2:(op == 2) = false:=beq_eq_false_iff_ne.mpr fun e=>h (.inr e)
  unfold cnt
  rw [if_neg h]
  clear h
  by_cases h3:3 ≤ op
  ·by_cases h4:op ≤ 15
   ·rw [if_pos ⟨h3,h4⟩]
    go_enter Tryz.func242,Tryz.ntmps242
    go_wp2
    go_returns
    exact ⟨rfl,rfl⟩
   ·rw [if_neg (fun h=>h4 h.2)]
    go_enter Tryz.func242,Tryz.ntmps242
    go_wp2
    go_returns
    exact ⟨rfl,rfl⟩
  ·rw [if_neg (fun h=>h3 h.1)]
   go_enter Tryz.func242,Tryz.ntmps242
   go_wp2
   go_returns
   exact ⟨rfl,rfl⟩
def Ints (w:World) (ao:Option Addr) (ps:List Int):Prop:=∀ i (h:i < ps.length),∃ g o,ao = some ⟨g,o,none⟩ ∧ w.cell? ⟨g,o + i,none⟩ = some (.int .i64 ps[i]) ∧ g < w.heap.size
def v7g (op:Int) (ps:List Int):Nd:=⟨op,0,0,[],[],ps.getD 0 0,ps.getD 1 0⟩
theorem x2m (op:Int) (ps:List Nat):opn op ps = v7g op (ps.map fun (p:Nat)=>(p:Int)):=by
 unfold opn v7g
 congr 1
 ·cases ps <;> rfl
 ·match ps with
  | []=>rfl
  | [_]=>rfl
  | _ :: _ :: _=>rfl
set_option maxHeartbeats 1000000 in
theorem z5x (op:Int) (ao:Option Addr) (cap:Nat) (ps:List Int) (hn:ps.length ≤ 2000000) (w:World) (hp:Ints w ao ps) :
  Calls Tryz.prog 260 #[.int .i64 op,.slice ao ps.length cap] w (Ret (ndV (v7g op ps)) w):=by
 match ps with
 | [] =>
  clear hp
  go_enter Tryz.func260,Tryz.ntmps260
  go_wp2
  go_returns
  exact ⟨rfl,gzT⟩
 | [x] =>
  obtain ⟨g,o,rfl,h0,hb⟩:=hp 0 (by simp)
  simp only [List.getElem_cons_zero,Nat.add_zero] at h0
  clear hp
  have i1:InW g w:=⟨hb⟩
  go_enter Tryz.func260,Tryz.ntmps260
  go_wp2
  go_returns
  exact ⟨rfl,gzT⟩
 | x :: y :: r =>
  obtain ⟨g,o,rfl,h0,hb⟩:=hp 0 (by simp)
  obtain ⟨g',o',e,h1,_⟩:=hp 1 (by simp)
  cases e
  simp only [List.getElem_cons_zero,List.getElem_cons_succ,Nat.add_zero] at h0 h1
  simp only [List.length_cons] at hn ⊢
  clear hp
  generalize r.length = n at *
  have i1:InW g w:=⟨hb⟩
  go_enter Tryz.func260,Tryz.ntmps260
  go_wp2
  go_returns
  exact ⟨rfl,gzT⟩
def q6v (B rb:Nat) (lv:Value) (o:Option Rd) (r:Rd) (w:World) (e:Ending) (w':World):Prop:=e = .returned (.bool o.isSome) ∧ q4c B rb lv (o.getD r) w' ∧ Below B w w'
theorem v0m {w:World} {g:Nat} {x:ByteArray} (h:w.cell? ⟨g,0,none⟩ = some (.string x)):Txts w (some ⟨g,0,none⟩) [x]:=by
 intro i hi
 simp only [List.length_cons,List.length_nil] at hi
 obtain rfl:i = 0:=by omega
 exact ⟨_,rfl,by simpa [go_sem,Addr.add] using h⟩
theorem q1y (k:Int) (s:ByteArray) (n a:Int) (x:ByteArray) (b:Bool) (hb:((k == 1 || k == 5) && s.data.toList == x.data.toList) = b) (g:Nat) (w:World) (hc:w.cell? ⟨g,0,none⟩ = some (.string x)) :
  Calls Tryz.prog 175 #[.agg #[.int .i64 k,.string s,.int .i64 n,.int .i64 a],.slice (some ⟨g,0,none⟩) 1 1] w (Ret (.bool b) w):=by
 refine (v1m k s n a (some ⟨g,0,none⟩) [x] 1 (by simp) _ (v0m hc)).mono fun e w' h=>⟨?_,h.2⟩
 rw [h.1,← hb]
 simp only [j3i,List.any_cons,List.any_nil,Bool.or_false,Lib.toList_data]
 rw [show (x.data.toList == s.data.toList) = (s.data.toList == x.data.toList) by rw [Bool.eq_iff_iff,beq_iff_eq,beq_iff_eq];exact ⟨Eq.symm,Eq.symm⟩]
theorem q1d {ts:List Tk} {x:List UInt8} {r:Rd} (h:z2t ts r.at_ x = true):takes ts x r = some { r with at_:=r.at_ + 1 }:=by unfold takes;rw [if_pos h]
theorem z4n {ts:List Tk} {x:List UInt8} {r:Rd} (h:z2t ts r.at_ x = false):takes ts x r = none:=by unfold takes;rw [h];rfl
set_option maxRecDepth 100000 in
set_option maxHeartbeats 2000000 in
theorem y7d {B rb:Nat} {ao:Option Addr} {cap:Nat} {ts:List Tk} {r:Rd} (x:ByteArray) (hts:ts.length ≤ 1000) (hat:r.at_ ≤ ts.length) (w:World) (h:q4c B rb (.slice ao ts.length cap) r w) (hl:Sl w ao ts) :
  Calls Tryz.prog 256 #[.pointer (some ⟨rb,0,none⟩),.string x] w (q6v B rb (.slice ao ts.length cap) (takes ts x.data.toList r) r w):=by
 obtain ⟨nv,pv,wv,h⟩:=h
 obtain ⟨c0,c1,c2,c3,c4,c5,hrb,hfr⟩:=z1r h
 have f1:=hfr 1
 have hbase:=h.base
 have i1:InW rb w:=⟨hrb⟩
 have hsz:B ≤ w.heap.size:=by omega
 clear c2 c3 c4 c5 hfr
 have hA:=hiT h
 by_cases he:r.at_ = ts.length
 ·have hn:z2t ts r.at_ x.data.toList = false:=by unfold z2t;rw [List.getElem?_eq_none omT]
  rw [z4n hn]
  have hd:((r.at_:Int) == (ts.length:Int)) = true:=by rw [beq_iff_eq];omega
  clear hn h hl he
  go_enter Tryz.func256,Tryz.ntmps256
  go_wp2_with fail
  (refine z0d krT krT ?_;(repeat (go_big_quiet_step (fail)));refine wpQuiet_nil ?_;intro _ hw';obtain ⟨pg,hw''⟩:=hw';subst hw'')
  go_wp2
  go_returns
  exact ⟨rfl,z2c ⟨_,_,_,hA.out⟩ gzT,gzT⟩
 ·have hlt:r.at_ < ts.length:=by omega
  obtain ⟨g,rfl,hg,ht⟩:=hl omT
  obtain ⟨a0,a1,a2,a3⟩:=ht r.at_ hlt
  have i2:InW g w:=⟨hg⟩
  have hd:((r.at_:Int) == (ts.length:Int)) = false:=by rw [beq_eq_false_iff_ne];omega
  obtain ⟨b,hb⟩:∃ b,z2t ts r.at_ x.data.toList = b:=⟨_,rfl⟩
  have hb':((ts[r.at_].k == 1 || ts[r.at_].k == 5) && (⟨ts[r.at_].s.toArray⟩:ByteArray).data.toList == x.data.toList) = b:=by
   rw [← hb];unfold z2t;rw [List.getElem?_eq_getElem hlt];rfl
  have I:=fun g wx hc=>hiT (q1y ts[r.at_].k ⟨ts[r.at_].s.toArray⟩ ts[r.at_].n (ts[r.at_].a:Int) x b hb' g wx hc)
  replace I:=hiT I
  have hres:takes ts x.data.toList r = if b then some { r with at_:=r.at_ + 1 } else none:=by unfold takes;rw [hb]
  rw [hres]
  clear hb hb' hres h hl ht he
  generalize ts[r.at_].k = tk at *
  generalize (⟨ts[r.at_].s.toArray⟩:ByteArray) = tx at *
  generalize ts[r.at_].n = tn at *
  generalize (ts[r.at_].a:Int) = ta at *
  have hA1:=fun wx hk=>hiT (z2c (w':=wx) ⟨_,_,_,j7j hA.out (r.at_ + 1) (x:=(r.at_:Int) + 1) rfl⟩ hk)
  replace hA1:=hiT hA1
  cases b
  all_goals
   go_enter Tryz.func256,Tryz.ntmps256
   go_wp2_with fail
   go_region_held3 (fun w'=>w'.cell? ⟨rb,0,none⟩ = some (.slice (some ⟨g,0,none⟩) ts.length cap) ∧ w'.cell? ⟨rb,1,none⟩ = some (.int .i64 (r.at_:Int)) ∧ w'.cell? ⟨g,r.at_ * 4,none⟩ = some (.int .i64 tk) ∧ w'.cell? ⟨g,r.at_ * 4 + 1,none⟩ = some (.string tx) ∧ w'.cell? ⟨g,r.at_ * 4 + 2,none⟩ = some (.int .i64 tn) ∧ w'.cell? ⟨g,r.at_ * 4 + 3,none⟩ = some (.int .i64 ta)) ((refine ⟨?_,?_,?_,?_,?_,?_⟩ <;> first | assumption | (simp [go_sem, *];done))) (first | ((with_reducible refine ((I.out _ _ (by simp [go_sem])).out).mono ?_);intro e w1 hr;obtain ⟨rfl,p,rfl⟩:=hr.out;clear hr))
  ·go_wp2
   go_returns
   exact ⟨rfl,z2c ⟨_,_,_,hA.out⟩ gzT,gzT⟩
  ·go_wp2
   go_returns
   exact ⟨rfl,(hA1.out _ gzT).out,gzT⟩
theorem Tryz.infoInt:(Tryz.prog.info? 3).map (fun i=>(i.zero,i.size,i.bytes)) = some (some (.int .i64 0),1,8):=by kernel_rfl
theorem Tryz.infoNode:(Tryz.prog.info? 239).map (fun i=>(i.zero,i.size,i.bytes)) = some (some (.agg #[.int .i64 0,.int .i64 0,.int .i64 0,.string ⟨#[]⟩,.string ⟨#[]⟩,.int .i64 0,.int .i64 0]),7,72):=by kernel_rfl
def v0y (B rb:Nat) (lv:Value) (r:Rd) (w:World) (e:Ending) (w':World):Prop:=e = .returned (.tuple #[]) ∧ q4c B rb lv r w' ∧ Below B w w'
theorem z2k (w:World) (o:Obj):(w.alloc o).heap[w.heap.size]? = some o:=heap_alloc_new w o
set_option maxRecDepth 100000 in
set_option maxHeartbeats 4000000 in
theorem j4g {B rb:Nat} {lv:Value} {r:Rd} (n:Nd) (hns:r.nodes.length ≤ 1000) (hps:r.parts.length ≤ 1000) (w:World) (h:q4c B rb lv r w) :
  Calls Tryz.prog 261 #[.pointer (some ⟨rb,0,none⟩),ndV n] w (v0y B rb lv (r.add n) w):=by
 obtain ⟨nv,pv,wv,h⟩:=h
 obtain ⟨i0,hi,hz1,hz2,hz3⟩:=info_parts Tryz.infoInt
 obtain ⟨j0,hj,hy1,hy2,hy3⟩:=info_parts Tryz.infoNode
 obtain ⟨na,nc,rfl⟩:=z0g h.nodes
 obtain ⟨pa,pc,rfl⟩:=z0g h.parts
 obtain ⟨wa,wc,rfl⟩:=z0g h.wait
 have hb0:=h.base
 have hlt0:=lt_of_block h.blk
 unfold ndV
 go_enter Tryz.func261,Tryz.ntmps261
 go_wp2_with fail
 have hbox:=z2k w (.cells #[.int .i64 n.op,.int .i64 n.k,.int .i64 n.n,.string ⟨n.s.toArray⟩,.string ⟨n.name.toArray⟩,.int .i64 n.l,.int .i64 n.r] 239)
 have h1:=z4c h (w':=w.alloc (.cells #[.int .i64 n.op,.int .i64 n.k,.int .i64 n.n,.string ⟨n.s.toArray⟩,.string ⟨n.name.toArray⟩,.int .i64 n.l,.int .i64 n.r] 239)) gzT
 have hbel:Below B w (w.alloc (.cells #[.int .i64 n.op,.int .i64 n.k,.int .i64 n.n,.string ⟨n.s.toArray⟩,.string ⟨n.name.toArray⟩,.int .i64 n.l,.int .i64 n.r] 239)):=Below.alloc (Below.refl _ _) omT _
 have hne:¬ w.heap.size = rb:=by omega
 generalize w.alloc _ = W at *
 generalize w.heap.size = bx at *
 obtain ⟨c0,c1,c2,c3,c4,c5,hrb,hfr⟩:=z1r h1
 have f3:=hfr 3
 have hB:B ≤ W.heap.size:=by omega
 clear c0 c1 c4 c5 hfr h
 go_cut [3] (fun v3 wx=>∃ pv',v3 = .pointer (some ⟨bx,0,none⟩) ∧ wx.heap[bx]? = some (.cells #[.int .i64 n.op,.int .i64 n.k,.int .i64 n.n,.string ⟨n.s.toArray⟩,.string ⟨n.name.toArray⟩,.int .i64 n.l,.int .i64 n.r] 239 (0,0)) ∧ RdIs B rb lv { r with parts:=r.nodes.length :: r.parts } (.slice na r.nodes.length nc) pv' (.slice wa r.wait.length wc) wx ∧ Below B w wx)
 case first =>
  have i1:InW rb W:=⟨hrb⟩
  have hA:=hiT h1
  have hX:=hiT hbox
  have hln:=hiT h1.parts
  clear h1 hbox
  go_region_law? (refine step_append_lies _ rfl (.tmp 8) (.tmp 14) 40 rfl B 3 i0 _ 1 8 Tryz.underlying40 hi hz1 hz2 hz3 rfl deT (.slice pa r.parts.length pc) r.parts.length (z1h r.parts.reverse) (by simp [Act.eval]) (z0a hln.out gzT) ⟨_,0,none⟩ 1 1 [.int .i64 (r.nodes.length:Int)] (by simp [Act.eval]) rfl (World.news_of_block (z2k _ _)) (by intro u hu;simp at hu;subst hu;rfl) deT (by unfold maxLen;omega) omT (by simp [go_sem];omega) _ rfl ?_;intro g cap' w1 hown1 hgrow hat1 hg1;obtain ⟨k2,k3,k4,kf,kl⟩:=z4i hgrow hA.out hln.out deT gzT)
  all_goals
   go_wp2_with fail
   go_meet
   exact ⟨_,rfl,(Below.heap_setCell _ _ _ _ hne).trans (z0h (z0a hln.out gzT) ((Below.block (B:=W.heap.size) gzT bx (lt_of_block hX.out)).trans hX.out) deT hgrow),k8v (z4c hA.out gzT) hgrow hown1 rfl hat1 (Nat.le_refl _),Below.setCell (z4h hgrow hln.out hbel gzT hB) hb0 _⟩
 case rest =>
  clear hbox h1 c2 c3 f3 hrb hne hbel hb0 hlt0
  obtain ⟨pv',rfl,hbox,h1,hbel⟩:=hcut
  rename World=>wx
  obtain ⟨c0,c1,c2,c3,c4,c5,hrb,hfr⟩:=z1r h1
  have f2:=hfr 2
  have hb0:=h1.base
  have hB1:B ≤ wx.heap.size:=by omega
  have i1:InW rb wx:=⟨hrb⟩
  have i2:InW bx wx:=⟨lt_of_block hbox⟩
  have e0:=cell_of_row wx bx 0 _ _ _ hbox
  have e1:=cell_of_row wx bx 1 _ _ _ hbox
  have e2:=cell_of_row wx bx 2 _ _ _ hbox
  have e3:=cell_of_row wx bx 3 _ _ _ hbox
  have e4:=cell_of_row wx bx 4 _ _ _ hbox
  have e5:=cell_of_row wx bx 5 _ _ _ hbox
  have e6:=cell_of_row wx bx 6 _ _ _ hbox
  simp only [List.getElem?_toArray,List.getElem?_cons_zero,List.getElem?_cons_succ] at e0 e1 e2 e3 e4 e5 e6
  clear c0 c1 c3 c4 c5 hfr hbox
  have hA:=hiT h1
  have hln:=hiT h1.nodes
  clear h1
  go_wp2_with fail
  go_region_law (refine step_append_lies _ rfl (.tmp 22) (.tmp 24) 160 rfl B 239 j0 _ 7 72 Tryz.underlying160 hj hy1 hy2 hy3 rfl deT (.slice na r.nodes.length nc) r.nodes.length (z9j r.nodes) (by simp [Act.eval]) (z0a hln.out gzT) ⟨_,0,none⟩ 1 1 (ndC n) (by simp [Act.eval]) rfl (World.news_of_block (z2k _ _)) (by intro u hu;simp [ndC] at hu;rcases hu with rfl | rfl | rfl | rfl | rfl | rfl | rfl <;> rfl) deT (by unfold maxLen;omega) omT (by simp [go_sem];omega) _ rfl ?_;intro g cap' w1 hown1 hgrow hat1 hg1;obtain ⟨k2,k3,k4,kf,kl⟩:=z4i hgrow hA.out hln.out deT gzT)
  all_goals
   go_wp2_with fail
   go_returns
   exact ⟨rfl,⟨_,_,_,k8u (z4c hA.out gzT) hgrow hown1 rfl⟩,Below.setCell (z4h hgrow hln.out hbel gzT hB1) hb0 _⟩
end Go.Proofs.YtacnlghljmgdiaaGreatDoor
