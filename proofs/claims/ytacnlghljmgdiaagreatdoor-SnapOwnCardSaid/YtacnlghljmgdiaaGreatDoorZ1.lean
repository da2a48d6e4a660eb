/- Several texts of this proof, joined: G0, Num, A, E, Q0, HC, S1, LW, H, I, J, R0. -/
import Derived.WalkKit
import Derived.ProofKit
import Derived.OpenShut
import Derived.Handy
import Derived.BigQuiet
import Derived.Lib.Hide
import Derived.Lib.QuietBelow
import Derived.Test.YtacnlghljmgdiaaGreatDoorChecked
import Derived.WalkLawsBesides
import Derived.Carry
import Derived.Deep.DeepHandedRow
import Derived.Lib.LaidTab
import Derived.Lib.Strings
namespace Go.Proofs.YtacnlghljmgdiaaGreatDoor
open Go.RowKit Go.Sort
theorem omT {p:Prop} (h:p:=by omega):p:=h
theorem deT {p:Prop} (h:p:=by decide):p:=h
theorem krT {p:Prop} (h:p:=by kernel_rfl):p:=h
theorem hiT {p:Prop} (h:p):RowKit.Hid p:=Lib.hid h
def G (p:Regrown) (w:World):World:=grow (redrawn w p.d) p.os
theorem toG {w w':World} (h:Below w.heap.size w w'):∃ p,w' = G p w:=regrown_of_below h
theorem z1e (p:Regrown) (w:World):Below w.heap.size w (G p w):=below_regrown w p.d p.os
theorem y9c {B:Nat} {a w:World} {p:Regrown} (h:Below B a w) (hB:B ≤ w.heap.size):Below B a (G p w):=h.trans ((z1e p w).mono hB)
theorem v1e {B:Nat} {a w:World} (h:Below B a w) (n:Nat):Below B a (w.drewN n):=⟨h.os,h.tape,h.output,h.size,h.block⟩
theorem y2g {n:Nat} {p:Regrown} {w:World} (h:n ≤ w.heap.size):n ≤ (G p w).heap.size:=Nat.le_trans h (z1e p w).size
@[go_sem] theorem z5j (p:Regrown) (w:World):G p w.drew = G p w:=rfl
@[go_sem] theorem x1g (p:Regrown) (w:World) (n:Nat):G p (w.drewN n) = G p w:=rfl
@[go_sem] theorem v8a (p:Regrown) (w:World) (n i:Nat) (h:n < w.heap.size):(G p w).cell? ⟨n,i,none⟩ = w.cell? ⟨n,i,none⟩:=(z1e p w).cell (p:=⟨n,i,none⟩) h
@[go_sem] theorem k6y (p:Regrown) (w:World) (n i:Nat) (h:n < w.heap.size):(G p w).frozen? ⟨n,i,none⟩ = w.frozen? ⟨n,i,none⟩:=(z1e p w).frozen (p:=⟨n,i,none⟩) h
@[go_sem] theorem x3z (p:Regrown) (w:World) (n:Nat) (h:n < w.heap.size):(n < (G p w).heap.size) = True:=eq_true (Nat.lt_of_lt_of_le h (z1e p w).size)
@[go_sem] theorem x3y (p:Regrown) (w:World) (n:Nat) (h:n ≤ w.heap.size):(n ≤ (G p w).heap.size) = True:=eq_true (Nat.le_trans h (z1e p w).size)
@[go_sem] theorem z2n (p:Regrown) (w:World) (n i:Nat) (v:Value) (h:n < w.heap.size):(G p w).setCell ⟨n,i,none⟩ v = G p (w.setCell ⟨n,i,none⟩ v):=by
 unfold G grow redrawn World.setCell
 congr 1
 apply Array.ext_getElem?
 intro k
 simp only [Array.getElem?_modify,Array.getElem?_append,Array.size_modify]
 by_cases hk:k < w.heap.size
 ·simp [hk]
 ·have:n ≠ k:=by omega
  simp [hk,this]
def pq (p q:Regrown):Regrown:=⟨p.d,q.os ++ p.os⟩
@[go_sem] theorem G_G (p q:Regrown) (w:World):G p (G q w) = G (pq p q) w:=by
 simp [G,pq,grow,redrawn,Array.append_assoc]
theorem v8s {n:Nat} {q:Regrown} {w:World} {o:Obj} (h:n ≤ w.heap.size):n ≤ ((G q w).alloc o).heap.size:=by
 rw [World.size_alloc];exact Nat.le_succ_of_le (y2g h)
@[go_sem] theorem x3k (p q:Regrown) (w:World) (o:Obj) (n:Nat) (h:n < w.heap.size):(n < (G p ((G q w).alloc o)).heap.size) = True :=
 eq_true (Nat.lt_of_lt_of_le (Nat.lt_of_lt_of_le h (v8s (Nat.le_refl _))) (z1e p _).size)
@[go_sem] theorem x3i (p q:Regrown) (w:World) (o:Obj) (n:Nat) (h:n ≤ w.heap.size):(n ≤ (G p ((G q w).alloc o)).heap.size) = True :=
 eq_true (Nat.le_trans (Nat.le_trans h (v8s (Nat.le_refl _))) (z1e p _).size)
@[go_sem] theorem x2d (w:World) (n:Nat) (h:n < w.heap.size):(n ≤ w.heap.size) = True:=eq_true (Nat.le_of_lt h)
@[go_sem] theorem x2e (w:World) (n:Nat) (h:n < w.heap.size):(n ≤ w.heap.size + 1) = True:=eq_true omT
@[go_sem] theorem x2f (w:World) (n:Nat) (h:n < w.heap.size):(n ≤ w.heap.size + 1 + 1) = True:=eq_true omT
@[go_sem] theorem x2g (w:World) (n:Nat) (h:n < w.heap.size):(n ≤ w.heap.size + 1 + 1 + 1) = True:=eq_true omT
@[go_sem] theorem x2h (w:World) (n:Nat) (h:n < w.heap.size):(n ≤ w.heap.size + 1 + 1 + 1 + 1) = True:=eq_true omT
@[go_sem] theorem x2i (w:World) (n:Nat) (h:n < w.heap.size):(n < w.heap.size + 1) = True:=eq_true omT
@[go_sem] theorem x2j (w:World) (n:Nat) (h:n < w.heap.size):(n < w.heap.size + 1 + 1) = True:=eq_true omT
@[go_sem] theorem x2k (w:World) (n:Nat) (h:n < w.heap.size):(n < w.heap.size + 1 + 1 + 1) = True:=eq_true omT
@[go_sem] theorem x2l (w:World) (n:Nat) (h:n < w.heap.size):(n < w.heap.size + 1 + 1 + 1 + 1) = True:=eq_true omT
def Ret (v:Value) (w:World) (e:Ending) (w':World):Prop:=e = .returned v ∧ Below w.heap.size w w'
def z6k (v:Value) (w:World) (e:Ending) (w':World):Prop:=e = .returned v ∧ w = w'
theorem Ret.out {v:Value} {w w':World} {e:Ending} (h:Ret v w e w'):e = .returned v ∧ ∃ p,w' = G p w:=⟨h.1,toG h.2⟩
theorem z6k.ret {v:Value} {w w':World} {e:Ending} (h:z6k v w e w'):Ret v w e w':=⟨h.1,h.2 ▸ Below.refl _ _⟩
theorem z3u {a b:Bool} (h:a = b):Ending.returned (.bool a) = .returned (.bool b):=by rw [h]
theorem j4i {a b:Bool} (h:a = b):Value.bool a = Value.bool b:=by rw [h]
theorem y0n {k:IntKind} {a b:Int} (h:a = b):Value.int k a = Value.int k b:=by rw [h]
theorem j4j {a b a' b':Value} (h1:a = a') (h2:b = b'):Ending.returned (.tuple #[a,b]) = Ending.returned (.tuple #[a',b']):=by rw [h1,h2]
inductive Lz (n:Nat):World → Prop
 | g {p w} (h:Lz n w):Lz n (G p w)
 | a {w o} (h:Lz n w):Lz n (w.alloc o)
 | c {w a v} (h:Lz n w):Lz n (w.setCell a v)
 | d {w} (h:Lz n w):Lz n w.drew
 | n {w k} (h:Lz n w):Lz n (w.drewN k)
 | i {w} (h:n ≤ w.heap.size):Lz n w
theorem Lz.le {n:Nat} {w:World} (h:Lz n w):n ≤ w.heap.size:=by
 induction h with
 | g _ h=>exact y2g h
 | a _ h=>rw [World.size_alloc];omega
 | c _ h=>rw [World.size_setCell];exact h
 | d _ h=>exact h
 | n _ h=>exact h
 | i h=>exact h
inductive Gw (B:Nat) (a:World):World → Prop
 | r:Gw B a a
 | a {w o} (h:Gw B a w) (hB:Lz B w):Gw B a (w.alloc o)
 | d {w} (h:Gw B a w):Gw B a w.drew
 | n {w k} (h:Gw B a w):Gw B a (w.drewN k)
 | c {w p v} (h:Gw B a w) (hp:B ≤ p.block):Gw B a (w.setCell p v)
 | g {w p} (h:Gw B a w) (hB:Lz B w):Gw B a (G p w)
 | i {w} (h:Below B a w):Gw B a w
theorem gwT {B:Nat} {a w:World} (h:Gw B a w:=by repeat' (first | (with_reducible first | exact .i (by assumption) | exact .i (Nat.le_refl _) | constructor) | go_size | (simp [go_sem];done))):Below B a w:=by
 induction h with
 | r=>exact Below.refl _ _
 | a _ hB h=>exact h.alloc hB.le _
 | d _ h=>exact h.drew
 | n _ h=>exact v1e h _
 | c _ hp h=>exact h.setCell hp _
 | g _ hB h=>exact y9c h hB.le
 | i h=>exact h
theorem lzT {n:Nat} {w:World} (h:Lz n w:=by repeat' (first | (with_reducible first | exact .i (by assumption) | exact .i (Nat.le_refl _) | constructor) | go_size | (simp [go_sem];done))):n ≤ w.heap.size:=h.le
theorem gzT {p:Prop} (h:p:=by first | exact gwT | exact lzT):p:=h
end Go.Proofs.YtacnlghljmgdiaaGreatDoor
namespace Go.Proofs.YtacnlghljmgdiaaGreatDoor
open Go.RowKit
def I64 (x:Int):Prop := -9223372036854775808 ≤ x ∧ x ≤ 9223372036854775807
theorem q8d (n:Int) (w:World):Calls Tryz.prog 205 #[.int .i64 n] w (Ret (.agg #[.int .i64 1,.int .i64 n,.string ⟨#[]⟩]) w):=by
 go_enter Tryz.func205,Tryz.ntmps205
 go_wp2
 go_returns
 exact ⟨rfl,gzT⟩
theorem q1g (s:ByteArray) (w:World):Calls Tryz.prog 206 #[.string s] w (Ret (.agg #[.int .i64 3,.int .i64 0,.string s]) w):=by
 go_enter Tryz.func206,Tryz.ntmps206
 go_wp2
 go_returns
 exact ⟨rfl,gzT⟩
def bI (b:Bool):Int:=if b then 1 else 0
theorem z8m (b:Bool) (w:World):Calls Tryz.prog 207 #[.bool b] w (Ret (.agg #[.int .i64 2,.int .i64 (bI b),.string ⟨#[]⟩]) w):=by
 cases b
 all_goals
  go_enter Tryz.func207,Tryz.ntmps207
  go_wp2
  go_returns
  exact ⟨rfl,gzT⟩
def x1c (k n:Int):Bool:=k == 2 && n != 0
theorem k5b (k n:Int) (s:ByteArray) (w:World):Calls Tryz.prog 63 #[.agg #[.int .i64 k,.int .i64 n,.string s]] w (Ret (.bool (x1c k n)) w):=by
 go_enter Tryz.func63,Tryz.ntmps63
 go_wp2
 all_goals go_returns
 all_goals exact ⟨by simp [*,x1c],gzT⟩
def okc (c:UInt8):Bool := !(decide ((c.toNat:Int) < 32) || decide (126 < (c.toNat:Int)) || ((c.toNat:Int) == 39))
def z5c (l:List UInt8):Bool:=decide (l.length ≤ 48) && l.all okc
theorem v1v {c:UInt8} (h:(c.toNat:Int) < 32):okc c = false:=by simp [okc,h]
theorem v1u {c:UInt8} (h:126 < (c.toNat:Int)):okc c = false:=by simp [okc,h]
theorem v9g {c:UInt8} (h:((c.toNat:Int) == 39) = true):okc c = false:=by simp only [okc,h,Bool.or_true,Bool.not_true]
theorem v1w {c:UInt8} (h1:32 ≤ (c.toNat:Int)) (h2:(c.toNat:Int) ≤ 126) (h3:((c.toNat:Int) == 39) = false):okc c = true:=by
 simp only [okc,h3,Bool.or_false,decide_eq_false (Int.not_lt.2 h1),decide_eq_false (Int.not_lt.2 h2),Bool.not_false]
theorem q2t (s:ByteArray) (k:Nat) (h:k < s.size):(s.data.toList.take (k + 1)).all okc = ((s.data.toList.take k).all okc && okc s[k]):=by
 have:s.data.toList.take (k + 1) = s.data.toList.take k ++ [s[k]]:=by
  rw [List.take_succ_eq_append_getElem (by simpa using h)];rfl
 rw [this,List.all_append];simp
theorem v2w (s:ByteArray) (k:Nat) (h:k < s.size) (hc:okc s[k] = false):s.data.toList.all okc = false:=by
 rw [← Bool.not_eq_true,List.all_eq_true]
 intro ha
 have:=ha s[k] (by show s[k] ∈ s.data.toList;rw [Array.mem_toList_iff];exact Array.getElem_mem _)
 rw [hc] at this;cases this
def j5f (s:ByteArray) (k:Nat):Prop:=(s.data.toList.take k).all okc = true
theorem j1r (s:ByteArray) (h:48 < s.size):z5c s.data.toList = false:=by
 have:s.data.toList.length = s.size:=by simp
 simp [z5c];intro h1;omega
theorem j7g (s:ByteArray) (k:Nat) (h:k < s.size) (hc:okc s[k] = false):z5c s.data.toList = false:=by simp [z5c,v2w s k h hc]
theorem j7e (s:ByteArray) (h:s.size ≤ 48) (ha:j5f s s.size):z5c s.data.toList = true:=by
 unfold j5f at ha
 have:s.data.toList.length = s.size:=by simp
 rw [List.take_of_length_le omT] at ha
 simp only [z5c,ha,Bool.and_true];simpa using h
set_option maxHeartbeats 400000 in
theorem j7f (s:ByteArray) (w:World) (hs:s.size ≤ maxLen):Calls Tryz.prog 197 #[.string s] w (z6k (.bool (z5c s.data.toList)) w):=by
 unfold maxLen at hs
 by_cases hl:48 < s.size
 ·have hp:=hiT (j1r s hl)
  go_enter Tryz.func197,Tryz.ntmps197
  go_wp2
  go_returns
  exact ⟨z3u hp.out.symm,rfl⟩
 ·have hp:=hiT (j7e s omT)
  go_enter Tryz.func197,Tryz.ntmps197
  go_wp2
  go_loop [9] (fun i=>∃ k:Nat,k ≤ s.size ∧ i = .int .i64 k ∧ j5f s k) (fun i=>s.size - (intOf i).toNat)
  case atStart=>exact ⟨0,Nat.zero_le _,rfl,by simp [j5f]⟩
  case round =>
   obtain ⟨k,hk,rfl,ha⟩:=hrel
   by_cases hlt:k < s.size
   ·have hb:=hiT (j7g s k hlt)
    have hn:=hiT (q2t s k hlt)
    go_wp2
    all_goals first
     | (go_round;(case rel=>exact ⟨k + 1,by omega,by go_num,by unfold j5f;rw [hn.out,Bool.and_eq_true];exact ⟨ha,v1w ‹_› ‹_› (by simp_all)⟩⟩);(case measure=>simp [intOf];omega))
     | (go_returns;exact ⟨z3u (hb.out (by first | exact v1v ‹_› | exact v1u ‹_› | (refine v9g ?_;simp_all;omega))).symm,rfl⟩)
   ·obtain rfl:k = s.size:=by omega
    go_wp2
    go_returns
    exact ⟨z3u (hp.out ha).symm,rfl⟩
set_option maxHeartbeats 400000 in
theorem y7a (s:ByteArray) (w:World) (hs:s.size ≤ maxLen):Calls Tryz.prog 57 #[.string s] w (z6k (.bool (z5c s.data.toList)) w):=by
 unfold maxLen at hs
 by_cases hl:48 < s.size
 ·have hp:=hiT (j1r s hl)
  go_enter Tryz.func57,Tryz.ntmps57
  go_wp2
  go_returns
  exact ⟨z3u hp.out.symm,rfl⟩
 ·have hp:=hiT (j7e s omT)
  go_enter Tryz.func57,Tryz.ntmps57
  go_wp2
  go_loop [3] (fun i=>∃ k:Nat,k ≤ s.size ∧ i = .int .i64 k ∧ j5f s k) (fun i=>s.size - (intOf i).toNat)
  case atStart=>exact ⟨0,Nat.zero_le _,rfl,by simp [j5f]⟩
  case round =>
   obtain ⟨k,hk,rfl,ha⟩:=hrel
   by_cases hlt:k < s.size
   ·have hb:=hiT (j7g s k hlt)
    have hn:=hiT (q2t s k hlt)
    go_wp2
    all_goals first
     | (go_round;(case rel=>exact ⟨k + 1,by omega,by go_num,by unfold j5f;rw [hn.out,Bool.and_eq_true];exact ⟨ha,v1w ‹_› ‹_› (by simp_all)⟩⟩);(case measure=>simp [intOf];omega))
     | (go_returns;exact ⟨z3u (hb.out (by first | exact v1v ‹_› | exact v1u ‹_› | (refine v9g ?_;simp_all;omega))).symm,rfl⟩)
   ·obtain rfl:k = s.size:=by omega
    go_wp2
    go_returns
    exact ⟨z3u (hp.out ha).symm,rfl⟩
end Go.Proofs.YtacnlghljmgdiaaGreatDoor
namespace Go.Proofs.YtacnlghljmgdiaaGreatDoor
open Go.RowKit Go.Sort
theorem x0r {n:Nat} {w:World} {o:Obj} (h:n ≤ w.heap.size):n ≤ (w.alloc o).heap.size:=by rw [World.size_alloc];omega
theorem x0s {n:Nat} {w:World} {a:Addr} {v:Value} (h:n ≤ w.heap.size):n ≤ (w.setCell a v).heap.size:=by rw [World.size_setCell];exact h
theorem x0t {n:Nat} {w:World} (h:n ≤ w.heap.size):n ≤ w.drew.heap.size:=h
theorem x0u {n k:Nat} {w:World} (h:n ≤ w.heap.size):n ≤ (w.drewN k).heap.size:=h
theorem z0d {P:Program} {id:Nat} {Q:Exit → Act → World → Prop} {a:Act} {w:World} {l:List Oper} (hm:P.follows .mixedOrders = true) (hB:Region.lexB .any l.toArray = true)
  (h:wpQuiet P l.toArray (fun w'=>∃ p,w' = G p w) (fun a'=>∀ w',(∃ p,w' = G p w) → Q .normal a' w') l a):(Code.region id l.toArray true).wp P Q a w :=
 wp_region_quiet_below hm hB h
theorem z1i {P:Program} {f:FuncId} {args:Array Value} {w:World} {p:Regrown} {v:Value} (h:Calls P f args (G p w) (Ret v (G p w))) :
  Calls P f args (G p w) fun e w''=>e = .returned v ∧ ∃ q,w'' = G q w :=
 h.mono fun _ _ hr=>by
  obtain ⟨he,q,hq⟩:=hr.out
  exact ⟨he,pq q p,by rw [hq,G_G]⟩
theorem j4f {P:Program} {f:FuncId} {args:Array Value} {w:World} {p:Regrown} {v:Value} (h:Calls P f args (G p w) (z6k v (G p w))) :
  Calls P f args (G p w) fun e w''=>e = .returned v ∧ ∃ q,w'' = G q w:=z1i (h.mono fun _ _ hr=>hr.ret)
class InW (n:Nat) (w:World):Prop where
 lt:n < w.heap.size
instance inW_new (w:World) (o:Obj):InW w.heap.size (w.alloc o):=⟨by simp⟩
instance inW_alloc (n:Nat) (w:World) (o:Obj) [h:InW n w]:InW n (w.alloc o):=⟨by have:=h.lt;simp;omega⟩
instance inW_next (n:Nat) (w:World) (o:Obj) [h:InW n w]:InW (n + 1) (w.alloc o):=⟨by have:=h.lt;simp;omega⟩
instance inW_G (n:Nat) (w:World) (p:Regrown) [h:InW n w]:InW n (G p w):=⟨Nat.lt_of_lt_of_le h.lt (z1e p w).size⟩
instance inW_drew (n:Nat) (w:World) [h:InW n w]:InW n w.drew:=⟨h.lt⟩
instance inW_drewN (n k:Nat) (w:World) [h:InW n w]:InW n (w.drewN k):=⟨h.lt⟩
instance inW_set (n:Nat) (w:World) (a:Addr) (v:Value) [h:InW n w]:InW n (w.setCell a v):=⟨by rw [World.size_setCell];exact h.lt⟩
@[go_sem] theorem z1f (p:Regrown) (w:World) (n i:Nat) [h:InW n w]:(G p w).cell? ⟨n,i,none⟩ = w.cell? ⟨n,i,none⟩:=v8a p w n i h.lt
@[go_sem] theorem v8j (p:Regrown) (w:World) (n i:Nat) [h:InW n w]:(G p w).frozen? ⟨n,i,none⟩ = w.frozen? ⟨n,i,none⟩:=k6y p w n i h.lt
@[go_sem] theorem v7h (p:Regrown) (w:World) (n i:Nat) (v:Value) [h:InW n w]:(G p w).setCell ⟨n,i,none⟩ v = G p (w.setCell ⟨n,i,none⟩ v):=z2n p w n i v h.lt
@[go_sem] theorem z0p (w:World) (o:Obj) (n i:Nat) [h:InW n w]:(w.alloc o).cell? ⟨n,i,none⟩ = w.cell? ⟨n,i,none⟩:=World.cell?_alloc_past o n i h.lt
@[go_sem] theorem k6z (w:World) (o:Obj) (n i:Nat) [h:InW n w]:(w.alloc o).frozen? ⟨n,i,none⟩ = w.frozen? ⟨n,i,none⟩:=World.frozen?_alloc_past o n i h.lt
@[go_sem] theorem k5f (w:World) (o:Obj) (n i:Nat) (v:Value) [h:InW n w]:(w.alloc o).setCell ⟨n,i,none⟩ v = (w.setCell ⟨n,i,none⟩ v).alloc o:=World.setCell_alloc_past o n i v h.lt
@[go_sem] theorem x4a (w:World) (n:Nat) [h:InW n w]:(n < w.heap.size) = True:=eq_true h.lt
end Go.Proofs.YtacnlghljmgdiaaGreatDoor
namespace Go.Proofs.YtacnlghljmgdiaaGreatDoor
open Go.RowKit
class HasC (w:World) (b i:Nat):Prop where
 has:(w.cell? ⟨b,i,none⟩).isSome = true
theorem z0b {w:World} {b i:Nat} {v:Value} (h:w.cell? ⟨b,i,none⟩ = some v):HasC w b i:=⟨by rw [h];rfl⟩
instance hasC_set (w:World) (b i:Nat) (a:Addr) (v:Value) [h:HasC w b i]:HasC (w.setCell a v) b i:=⟨by
 obtain ⟨u,hu⟩:=Option.isSome_iff_exists.1 h.has
 obtain ⟨u',hu'⟩:=cell?_setCell_some (p:=a) (x:=v) hu
 rw [hu']
 rfl⟩
@[go_sem] theorem v8b (w:World) (b i:Nat) (v:Value) [h:HasC w b i]:(w.setCell ⟨b,i,none⟩ v).cell? ⟨b,i,none⟩ = some v:=World.cell?_setCell_same' w ⟨b,i,none⟩ v h.has
def quote (s:ByteArray):ByteArray:=(⟨#[39]⟩ ++ s) ++ ⟨#[39]⟩
theorem v9v (n:Int) (s:ByteArray) (w:World) (hs:s.size ≤ 9223372036854775800):Calls Tryz.prog 28 #[.agg #[.int .i64 3,.int .i64 n,.string s]] w (Ret (.string (quote s)) w):=by
 go_enter Tryz.func28,Tryz.ntmps28
 go_wp2
 go_returns
 exact ⟨rfl,gzT⟩
end Go.Proofs.YtacnlghljmgdiaaGreatDoor
namespace Go.Proofs.YtacnlghljmgdiaaGreatDoor
open Go.RowKit Go.ChangeShapes Go.WideShapes Go.ChangeAt
section
variable {H:Type} {enc:TypeId × Value → H} {P:Program}
def q4q (P:Program) (ts:List TypeId):Bool:=ts.all fun t=>P.readableRec t && decide (t < P.types.size)
theorem j4y (hl:laidOutB P = true) {W W':World} (hb:Below W.heap.size W W'):∀ (ts:List TypeId) (vs:List Value) (ds:List (DataW H)) (ps:List MemPlace),q4q P ts = true →
  DataW.TrodAll enc P W 0 (fun _=>true) true ts vs ds ps → (∀ x ∈ ps,x.block < W.heap.size) → DataW.TrodAll enc P W' 0 (fun b=>decide (b < W.heap.size)) true ts vs ds ps:=by
 intro ts
 induction ts with
 | nil =>
  intro vs ds ps _ h _
  obtain ⟨rfl,rfl,rfl⟩:=trodAll_nil h
  exact trodAll_mk0
 | cons t ts ih =>
  intro vs ds ps ht h hp
  obtain ⟨v,vs',d,ds',p,q,rfl,rfl,rfl,h0,h1⟩:=trodAll_cons h
  simp only [q4q,List.all_cons,Bool.and_eq_true,decide_eq_true_eq] at ht
  exact ⟨p,q,Below.trod hl ht.1.1 ht.1.2 h0 hb (fun x hx=>hp x (by simp [hx])),ih _ _ _ ht.2 h1 (fun x hx=>hp x (by simp [hx])),rfl⟩
theorem j3k {f:Func} {s:ChangeSpec} {apart fresh handsOn:Bool} {W W':World} {args:Array Value} {ds gs:List (DataW H)} {before:List MemPlace} {tb:TypeId}
  (hl:laidOutB P = true) (hts:q4q P f.params.toList = true) (hv:s.vars = []) (htb:f.resultTypes = #[tb]) (hbool:P.underlying tb = some .bool)
  (hfn:∀ (ds:List (DataW H)),ds.length = f.params.size → s.fn H ds = { results:=[.lit (.bool true)],args:=ds })
  (hW:DataW.Whole enc P f.params.toList s.vars apart W args.toList ds gs before) (hb:Below W.heap.size W W') :
  s.post enc P f apart fresh handsOn false W args (.bool true) W':=by
 have hlt:∀ p ∈ before,p.block < W.heap.size:=fun p hp=>hW.lt p hp
 have hW':=hW
 obtain ⟨p,q,hA,hV,rfl,-,-⟩:=hW
 rw [hv] at hV
 obtain ⟨rfl,rfl⟩:=trodVars_none hV
 have hlen:ds.length = f.params.size:=by
  have:∀ (ts:List TypeId) (vs:List Value) (ds:List (DataW H)) (ps:List MemPlace),DataW.TrodAll enc P W 0 (fun _=>true) true ts vs ds ps → ds.length = ts.length:=by
   intro ts
   induction ts with
   | nil=>intro vs ds ps h;obtain ⟨rfl,rfl,rfl⟩:=trodAll_nil h;rfl
   | cons t ts ih =>
    intro vs ds ps h
    obtain ⟨v,vs',d,ds',p,q,rfl,rfl,rfl,h0,h1⟩:=trodAll_cons h
    simp [ih _ _ _ h1]
  simpa using this _ _ _ _ hA
 have hs:s.fn H (ds ++ []) = { results:=[.lit (.bool true)],args:=ds }:=by rw [List.append_nil];exact hfn ds hlen
 have ha:DataW.TrodAll enc P W' 0 (fun b=>decide (b < W.heap.size)) true f.params.toList args.toList ds p:=j4y hl hb _ _ _ _ hts hA (fun x hx=>hlt x (by simp [hx]))
 refine ⟨ds,[],p ++ [],[],p,[],hW',?_,?_,?_,hb.frame _,fun h=>by cases h⟩
 ·rw [hs,htb]
  exact ⟨[],[],shut_bool hbool true,trodAll_mk0,rfl⟩
 ·rw [hs];exact ha
 ·rw [hs,hv];rfl
end
end Go.Proofs.YtacnlghljmgdiaaGreatDoor
namespace Go.Proofs.YtacnlghljmgdiaaGreatDoor
open Go.RowKit
def z5n (k n:Int) (s:ByteArray):Bool:=(k == 1 && s.toList.isEmpty) || (k == 2 && s.toList.isEmpty && (n == 0 || n == 1)) || (k == 3 && n == 0 && z5c s.data.toList)
theorem k3a (k n:Int) (s:ByteArray) (w:World) (hs:s.size ≤ maxLen):Calls Tryz.prog 262 #[.agg #[.int .i64 k,.int .i64 n,.string s]] w (Ret (.bool (z5n k n s)) w):=by
 have hp:=fun wx=>hiT (j7f s wx hs)
 have hp:=hiT hp
 have hd:Hid (z5n k n s = ((k == 1 && s.toList.isEmpty) || (k == 2 && s.toList.isEmpty && (n == 0 || n == 1)) || (k == 3 && n == 0 && z5c s.data.toList))):=rfl
 by_cases h1:k = 1
 ·subst h1
  go_enter Tryz.func262,Tryz.ntmps262
  go_wp2_with ((with_reducible refine ((hp.out _).out).mono ?_);rintro e w1 ⟨rfl,rfl⟩)
  all_goals go_returns
  all_goals exact ⟨z3u (by rw [hd.out];simp [*]),gzT⟩
 ·by_cases h2:k = 2
  ·subst h2
   rcases h3:s.toList.isEmpty <;> by_cases h4:n = 0 <;> by_cases h5:n = 1
   all_goals try (exfalso;omega)
   all_goals try subst h4
   all_goals try subst h5
   all_goals
    try have h4':(n == 0) = false:=by simpa using h4
    try have h5':(n == 1) = false:=by simpa using h5
    have h3':=hiT h3
    go_enter Tryz.func262,Tryz.ntmps262
    go_wp2_with ((with_reducible refine ((hp.out _).out).mono ?_);rintro e w1 ⟨rfl,rfl⟩)
    all_goals go_returns
    all_goals exact ⟨z3u (by rw [hd.out,h3'.out];simp [*]),gzT⟩
  ·by_cases h6:k = 3
   ·subst h6
    by_cases h4:n = 0
    ·subst h4
     go_enter Tryz.func262,Tryz.ntmps262
     go_wp2_with ((with_reducible refine ((hp.out _).out).mono ?_);rintro e w1 ⟨rfl,rfl⟩)
     all_goals go_returns
     all_goals exact ⟨z3u (by rw [hd.out];simp [*]),gzT⟩
    ·have h4':(n == 0) = false:=by simpa using h4
     go_enter Tryz.func262,Tryz.ntmps262
     go_wp2_with ((with_reducible refine ((hp.out _).out).mono ?_);rintro e w1 ⟨rfl,rfl⟩)
     all_goals go_returns
     all_goals exact ⟨z3u (by rw [hd.out];simp [*]),gzT⟩
   ·have h1':(k == 1) = false:=by simpa using h1
    have h2':(k == 2) = false:=by simpa using h2
    have h6':(k == 3) = false:=by simpa using h6
    go_enter Tryz.func262,Tryz.ntmps262
    go_wp2_with ((with_reducible refine ((hp.out _).out).mono ?_);rintro e w1 ⟨rfl,rfl⟩)
    all_goals go_returns
    all_goals exact ⟨z3u (by rw [hd.out];simp [*]),gzT⟩
theorem y7b (k n:Int) (s:ByteArray) (w:World) (hs:s.size ≤ maxLen):Calls Tryz.prog 22 #[.agg #[.int .i64 k,.int .i64 n,.string s]] w (Ret (.bool (z5n k n s)) w):=by
 have hp:=fun wx=>hiT (y7a s wx hs)
 have hp:=hiT hp
 have hd:Hid (z5n k n s = ((k == 1 && s.toList.isEmpty) || (k == 2 && s.toList.isEmpty && (n == 0 || n == 1)) || (k == 3 && n == 0 && z5c s.data.toList))):=rfl
 by_cases h1:k = 1
 ·subst h1
  go_enter Tryz.func22,Tryz.ntmps22
  go_wp2_with ((with_reducible refine ((hp.out _).out).mono ?_);rintro e w1 ⟨rfl,rfl⟩)
  all_goals go_returns
  all_goals exact ⟨z3u (by rw [hd.out];simp [*]),gzT⟩
 ·by_cases h2:k = 2
  ·subst h2
   rcases h3:s.toList.isEmpty <;> by_cases h4:n = 0 <;> by_cases h5:n = 1
   all_goals try (exfalso;omega)
   all_goals try subst h4
   all_goals try subst h5
   all_goals
    try have h4':(n == 0) = false:=by simpa using h4
    try have h5':(n == 1) = false:=by simpa using h5
    have h3':=hiT h3
    go_enter Tryz.func22,Tryz.ntmps22
    go_wp2_with ((with_reducible refine ((hp.out _).out).mono ?_);rintro e w1 ⟨rfl,rfl⟩)
    all_goals go_returns
    all_goals exact ⟨z3u (by rw [hd.out,h3'.out];simp [*]),gzT⟩
  ·by_cases h6:k = 3
   ·subst h6
    by_cases h4:n = 0
    ·subst h4
     go_enter Tryz.func22,Tryz.ntmps22
     go_wp2_with ((with_reducible refine ((hp.out _).out).mono ?_);rintro e w1 ⟨rfl,rfl⟩)
     all_goals go_returns
     all_goals exact ⟨z3u (by rw [hd.out];simp [*]),gzT⟩
    ·have h4':(n == 0) = false:=by simpa using h4
     go_enter Tryz.func22,Tryz.ntmps22
     go_wp2_with ((with_reducible refine ((hp.out _).out).mono ?_);rintro e w1 ⟨rfl,rfl⟩)
     all_goals go_returns
     all_goals exact ⟨z3u (by rw [hd.out];simp [*]),gzT⟩
   ·have h1':(k == 1) = false:=by simpa using h1
    have h2':(k == 2) = false:=by simpa using h2
    have h6':(k == 3) = false:=by simpa using h6
    go_enter Tryz.func22,Tryz.ntmps22
    go_wp2_with ((with_reducible refine ((hp.out _).out).mono ?_);rintro e w1 ⟨rfl,rfl⟩)
    all_goals go_returns
    all_goals exact ⟨z3u (by rw [hd.out];simp [*]),gzT⟩
theorem v8d (s:ByteArray) (k:Nat) (h:k < s.size):s.data.toList.drop k = s[k] :: s.data.toList.drop (k + 1):=by
 rw [List.drop_eq_getElem_cons (by simpa using h)];rfl
def q1p (op:Int):Bool:=op == 1 || op == 2
theorem j5n (op:Int) (w:World):Calls Tryz.prog 267 #[.int .i64 op] w (z6k (.bool (q1p op)) w):=by
 by_cases h1:op = 1
 ·subst h1
  go_enter Tryz.func267,Tryz.ntmps267
  go_wp2
  go_returns
  exact ⟨rfl,rfl⟩
 ·have h1':(op == 1) = false:=by simpa using h1
  go_enter Tryz.func267,Tryz.ntmps267
  go_wp2
  go_returns
  exact ⟨z3u (by simp [q1p,h1']),rfl⟩
def q3w (op k:Int):Bool :=
 if op = 2 ∨ op = 3 ∨ op = 4 ∨ op = 5 ∨ op = 7 then k == 1
 else if op = 6 ∨ op = 8 ∨ op = 9 ∨ op = 10 ∨ op = 11 then k == 1 || k == 3
 else if op = 12 ∨ op = 13 then k == 1 || k == 2 || k == 3
 else if op = 1 ∨ op = 14 ∨ op = 15 then k == 2 else false
theorem y2u (op:Int):op = 1 ∨ op = 2 ∨ op = 3 ∨ op = 4 ∨ op = 5 ∨ op = 6 ∨ op = 7 ∨ op = 8 ∨ op = 9 ∨ op = 10 ∨ op = 11 ∨ op = 12 ∨ op = 13 ∨ op = 14 ∨ op = 15 ∨ (op ≠ 1 ∧ op ≠ 2 ∧ op ≠ 3 ∧ op ≠ 4 ∧ op ≠ 5 ∧ op ≠ 6 ∧ op ≠ 7 ∧ op ≠ 8 ∧ op ≠ 9 ∧ op ≠ 10 ∧ op ≠ 11 ∧ op ≠ 12 ∧ op ≠ 13 ∧ op ≠ 14 ∧ op ≠ 15):=by omega
theorem q9l (op k:Int) (h:op ≠ 1 ∧ op ≠ 2 ∧ op ≠ 3 ∧ op ≠ 4 ∧ op ≠ 5 ∧ op ≠ 6 ∧ op ≠ 7 ∧ op ≠ 8 ∧ op ≠ 9 ∧ op ≠ 10 ∧ op ≠ 11 ∧ op ≠ 12 ∧ op ≠ 13 ∧ op ≠ 14 ∧ op ≠ 15):q3w op k = false:=by
 unfold q3w
 repeat rw [if_neg omT]
theorem q9k (op k:Int) (w:World):Calls Tryz.prog 266 #[.int .i64 op,.int .i64 k] w (z6k (.bool (q3w op k)) w):=by
 rcases y2u op with rfl | rfl | rfl | rfl | rfl | rfl | rfl | rfl | rfl | rfl | rfl | rfl | rfl | rfl | rfl | h
 case' inr.inr.inr.inr.inr.inr.inr.inr.inr.inr.inr.inr.inr.inr.inr =>
  have ht:=hiT (q9l op k h)
  have e:=fun i (hi:op ≠ i)=>(beq_eq_false_iff_ne.2 hi:(op == i) = false)
  obtain ⟨h1,h2,h3,h4,h5,h6,h7,h8,h9,h10,h11,h12,h13,h14,h15⟩:=h
  have e1:=e _ h1;have e2:=e _ h2;have e3:=e _ h3;have e4:=e _ h4;have e5:=e _ h5;have e6:=e _ h6;have e7:=e _ h7;have e8:=e _ h8;have e9:=e _ h9;have e10:=e _ h10;have e11:=e _ h11;have e12:=e _ h12;have e13:=e _ h13;have e14:=e _ h14;have e15:=e _ h15
  clear e
  go_enter Tryz.func266,Tryz.ntmps266
  go_wp2
  all_goals go_returns
  all_goals exact ⟨z3u ht.out.symm,rfl⟩
 all_goals
  go_enter Tryz.func266,Tryz.ntmps266
  go_wp2
  all_goals go_returns
  all_goals exact ⟨z3u (by simp [q3w];try simp [*]),rfl⟩
def q9w (op a b:Int):Bool:=q3w op a && (q1p op || a == b)
def j1s (op a b:Int):Int:=if q9w op a b then (if op = 2 ∨ op = 3 ∨ op = 4 ∨ op = 5 ∨ op = 6 ∨ op = 7 then a else 2) else 0
theorem k2w {op a b:Int} (h:q9w op a b = false):j1s op a b = 0:=by simp [j1s,h]
theorem v9n {op a b:Int} (h:q9w op a b = true) (ho:op = 2 ∨ op = 3 ∨ op = 4 ∨ op = 5 ∨ op = 6 ∨ op = 7):j1s op a b = a:=by simp only [j1s,h,if_true,if_pos ho]
theorem v9m {op a b:Int} (h:q9w op a b = true) (ho:¬ (op = 2 ∨ op = 3 ∨ op = 4 ∨ op = 5 ∨ op = 6 ∨ op = 7)):j1s op a b = 2:=by simp only [j1s,h,if_true,if_neg ho]
theorem y6q {op a b:Int} (h:q9w op a b = true):q3w op a = true:=by simp [q9w] at h;exact h.1
theorem y6t (op a b:Int) (w:World):Calls Tryz.prog 246 #[.int .i64 op,.int .i64 a,.int .i64 b] w (z6k (.tuple #[.int .i64 (j1s op a b),.bool (q9w op a b)]) w):=by
 rcases ht:q3w op a
 ·have hr:q9w op a b = false:=by simp [q9w,ht]
  have hk:=hiT (k2w hr)
  have hr':=hiT hr
  have ht':=hiT ht
  clear ht hr
  go_enter Tryz.func246,Tryz.ntmps246
  go_wp2_with ((with_reducible refine (q9k _ _ _).mono ?_);rintro e w1 ⟨rfl,rfl⟩;rw [ht'.out])
  go_returns
  exact ⟨j4j (y0n hk.out.symm) (j4i hr'.out.symm),rfl⟩
 ·rcases hb:(q1p op || a == b)
  ·have hr:q9w op a b = false:=by simp only [q9w,ht,hb,Bool.and_false]
   have hk:=hiT (k2w hr)
   have hr':=hiT hr
   have ht':=hiT ht
   have ha:Hid (q1p op = false):=by simp at hb;exact hb.1
   have hn:(a == b) = false:=by simp at hb;simpa using hb.2
   have hn':(a != b) = true:=by rw [bne,hn];rfl
   clear ht hr hb
   go_enter Tryz.func246,Tryz.ntmps246
   go_wp2_with (first | ((with_reducible refine (q9k _ _ _).mono ?_);rintro e w1 ⟨rfl,rfl⟩;rw [ht'.out]) | ((with_reducible refine (j5n _ _).mono ?_);rintro e w1 ⟨rfl,rfl⟩;rw [ha.out]))
   go_returns
   exact ⟨j4j (y0n hk.out.symm) (j4i hr'.out.symm),rfl⟩
  ·have hr:q9w op a b = true:=by simp only [q9w,ht,hb,Bool.and_self]
   have hr':=hiT hr
   have ht':=hiT ht
   have hk:(op = 2 ∨ op = 3 ∨ op = 4 ∨ op = 5 ∨ op = 6 ∨ op = 7) → Hid (j1s op a b = a):=v9n hr
   have hk2:¬ (op = 2 ∨ op = 3 ∨ op = 4 ∨ op = 5 ∨ op = 6 ∨ op = 7) → Hid (j1s op a b = 2):=v9m hr
   have hk:=hiT hk
   have hk2:=hiT hk2
   have hc:(q1p op = true) ∨ (q1p op = false ∧ (a == b) = true):=by
    rcases h:q1p op
    ·rw [h] at hb;exact Or.inr ⟨rfl,by simpa using hb⟩
    ·exact Or.inl rfl
   clear ht hr hb
   rcases hc with ha | ⟨ha,hn⟩
   all_goals
    have ha':=hiT ha
    try have hn':(a != b) = false:=by rw [bne,hn];rfl
    clear ha
    rcases y2u op with rfl | rfl | rfl | rfl | rfl | rfl | rfl | rfl | rfl | rfl | rfl | rfl | rfl | rfl | rfl | h
    case' inr.inr.inr.inr.inr.inr.inr.inr.inr.inr.inr.inr.inr.inr.inr=>have:=q9l op a h;rw [ht'.out] at this;cases this
    all_goals
     go_enter Tryz.func246,Tryz.ntmps246
     go_wp2_with (first | ((with_reducible refine (q9k _ _ _).mono ?_);rintro e w1 ⟨rfl,rfl⟩;rw [ht'.out]) | ((with_reducible refine (j5n _ _).mono ?_);rintro e w1 ⟨rfl,rfl⟩;rw [ha'.out]))
     go_returns
     exact ⟨j4j (y0n (by first | exact (hk.out (of_decide_eq_true rfl)).out.symm | exact (hk2.out (of_decide_eq_true rfl)).out.symm)) (j4i hr'.out.symm),rfl⟩
theorem v1s (s:ByteArray) (h:s.toList.isEmpty = true):s = ⟨#[]⟩:=by
 rw [Lib.toList_data] at h
 obtain ⟨⟨l⟩⟩:=s
 simp at h
 subst h;rfl
theorem q8o (k n:Int) (s:ByteArray) (h:z5n k n s = true):(k = 1 ∧ s = ⟨#[]⟩) ∨ (k = 2 ∧ s = ⟨#[]⟩ ∧ (n = 0 ∨ n = 1)) ∨ (k = 3 ∧ n = 0 ∧ z5c s.data.toList = true ∧ s.size ≤ 48):=by
 unfold z5n at h
 simp only [Bool.or_eq_true,Bool.and_eq_true,beq_iff_eq] at h
 rcases h with (⟨rfl,h⟩ | ⟨⟨rfl,h⟩,h2⟩) | ⟨⟨rfl,rfl⟩,h⟩
 ·exact Or.inl ⟨rfl,v1s s h⟩
 ·exact Or.inr (Or.inl ⟨rfl,v1s s h,h2⟩)
 ·refine Or.inr (Or.inr ⟨rfl,rfl,h,?_⟩)
  simp [z5c] at h;exact h.1
end Go.Proofs.YtacnlghljmgdiaaGreatDoor
