/- Several texts of this proof, joined: OB, OW, OV. -/
import Derived.Test.YtacnlghljmgdiaaGreatDoorZ1
import Derived.WalkKit
import Derived.ProofKit
import Derived.OwnWalk
import Derived.Laws.AppendOwn
import Derived.Deep.AppendLies
import Derived.Laws.OwnMore
import Derived.Test.YtacnlghljmgdiaaGreatDoorChecked
import Derived.OpenShut
import Derived.Lib.SmallJoins
namespace Go.Proofs.YtacnlghljmgdiaaGreatDoor
open Go.RowKit
theorem z0a {w w':World} {b e s:Nat} {v:Value} {n:Nat} {xs:List Value} (h:w.ownsRow b e s v n xs) (hb:Below w.heap.size w w'):w'.ownsRow b e s v n xs:=by
 refine ⟨h.1,?_⟩
 rcases h.2 with hn | ⟨g,cap,cur,rfl,hg,hgg,rest⟩
 ·exact .inl hn
 ·refine .inr ⟨g,cap,cur,rfl,hg,?_,rest⟩
  rw [hb.block g (Array.getElem?_eq_some_iff.1 hgg).1]
  exact hgg
theorem z0g {w:World} {B e s n:Nat} {v:Value} {xs:List Value} (h:w.ownsRow B e s v n xs):∃ ao cap,v = .slice ao n cap:=by
 rcases h.2 with ⟨rfl,rfl⟩ | ⟨g,cap,cur,rfl,_⟩
 ·exact ⟨none,0,rfl⟩
 ·exact ⟨_,cap,rfl⟩
theorem z1g {w:World} {B e s n:Nat} {v:Value} {xs:List Value} (h:w.ownsRow B e s v n xs) (hn:0 < n):∃ g cap,v = .slice (some ⟨g,0,none⟩) n cap ∧ g < w.heap.size ∧ n ≤ cap ∧ cap ≤ maxLen ∧ ∀ j u,xs[j]? = some u → w.cell? ⟨g,j,none⟩ = some u:=by
 rcases h.2 with ⟨_,h0⟩ | ⟨g,cap,cur,hv,hb,hg,hcap,hmax,_⟩
 ·omega
 ·refine ⟨g,cap,hv,(Array.getElem?_eq_some_iff.1 hg).1,hcap,hmax,fun j u hu=>?_⟩
  have hc:=h.cells (g:=g) (by rw [hv];rfl) j u hu
  have hadd:(⟨g,0,none⟩:Addr).add j = ⟨g,j,none⟩:=by unfold Addr.add;split <;> simp_all
  rw [hadd] at hc
  exact hc
theorem z0m {w:World} {B B' e s n:Nat} {v:Value} {xs:List Value} (h:w.ownsRow B e s v n xs) (hB:B' ≤ B):w.ownsRow B' e s v n xs:=by
 refine ⟨h.1,?_⟩
 rcases h.2 with hn | ⟨g,cap,cur,hv,hg,rest⟩
 ·exact .inl hn
 ·exact .inr ⟨g,cap,cur,hv,Nat.le_trans hB hg,rest⟩
theorem k3u {w:World} {a:Addr} {v:Value} (h:w.cell? a = some v):a = ⟨a.block,a.off,none⟩:=by
 obtain ⟨b,o,s⟩:=a
 cases s with
 | none=>rfl
 | some k =>
  unfold World.cell? at h
  simp only [Option.isSome_some,if_true] at h
  repeat' split at h
  all_goals cases h
theorem q2s (a:Addr):a.add 0 = a:=by unfold Addr.add;rw [if_pos rfl]
theorem z9n (b o i:Nat):(⟨b,o,none⟩:Addr).add i = ⟨b,o + i,none⟩:=by
 unfold Addr.add
 split
 ·rename_i h;subst h;rfl
 ·rfl
theorem z8o {P:Program} {w:World} {ops:Array Oper} {rest:List Oper} {o:Oper} {a:Act} {Q:Exit → Act → World → Prop} (hgd:o.guard = none) (s x:Operand) (t:TypeId)
  (ho:o.op = .call { callee := .builtin .append,args:=#[s,x],argTypes:=#[t,t] })
  (base:Nat) (e:TypeId) (i:TypeInfo) (z:Value) (size bytes:Nat) (ht:P.underlying t = some (.slice e)) (hi:P.info? e = some i) (hz:i.zero = some z)
  (hsize:i.size = size) (hby:i.bytes = bytes) (hzs:z.cells.size = size) (hsz:0 < size)
  (v:Value) (n:Nat) (xs:List Value) (hs:a.eval s = v) (hown:w.ownsRow base e size v n xs)
  (B2:Nat) (xv:Value) (m:Nat) (news:List Value) (hx:a.eval x = xv) (hsrc:w.ownsRow B2 e size xv m news) (h1:∀ u ∈ news,u.oneCell' = true)
  (h63:n + m ≤ maxLen) (hbytes:(n + m) * bytes ≤ 140737488355328) (hbase:base ≤ w.heap.size)
  (h:∀ v' w',w'.ownsRow base e size v' (n + m) (xs ++ news) → w.grownBy w' v.ownBlock → wpList P ops Q rest (a.put o.dst v') w'):wpList P ops Q (o :: rest) a w :=
 wpList_plain hgd fun K hK=>by
  have key:∃ v' w',(Builtin.append_ #[t,t] o.type #[v,xv]).run P w = .ok v' w' ∧ w'.ownsRow base e size v' (n + m) (xs ++ news) ∧ w.grownBy w' v.ownBlock:=by
   rcases hsrc.2 with ⟨rfl,rfl⟩ | ⟨g,c,cur,rfl,_,hg,hmc,_,hcs,htake⟩
   ·have:news = []:=List.eq_nil_of_length_eq_zero (by have:=hsrc.1;simpa using this)
    subst this
    refine ⟨v,w,run_append_owned_none w base t o.type e i size ht hi v n xs hown,by simpa using hown,⟨rfl,rfl,rfl,Nat.le_refl _,fun _ _ _=>rfl⟩⟩
   ·obtain ⟨v',w',hr,h2,h3,_,_⟩:=run_append_own_at (P:=P) w base t o.type e i z size bytes ht hi hz hsize hby hzs hsz v n xs hown ⟨g,0,none⟩ m c news hsrc.1 (fun j u hu=>by
     rw [← htake] at hu
     have hj:=(List.getElem?_eq_some_iff.1 hu).1
     rw [List.getElem?_take,if_pos (by rw [List.length_take] at hj;omega)] at hu
     rw [z9n,Nat.zero_add,cell_of_row w g j cur e (0,0) hg,← hu,Array.getElem?_toList]) h1 h63 hbytes hbase
    exact ⟨v',w',hr,h2,h3⟩
  obtain ⟨v',w',hr,h2,h3⟩:=key
  unfold Oper.wp execOp
  simp only [ho,resolve,invoke,builtin,Sem.run_bind,Sem.run_pure,Result.andThen_ok,List.map_toArray,List.map_cons,List.map_nil,hs,hx,hr]
  exact hK _ _ (h v' w' h2 h3)
def z2d (w:World) (ao:Option Addr) (c:Nat) (cs:List Value):Prop:=(ao = none → c = 0 ∧ cs = []) ∧ (cs ≠ [] → ∃ g o,ao = some ⟨g,o,none⟩ ∧ g < w.heap.size ∧ ∀ j u,cs[j]? = some u → w.cell? ⟨g,o + j,none⟩ = some u)
theorem z0k {w w':World} {ao:Option Addr} {c:Nat} {cs:List Value} (h:z2d w ao c cs) (hb:Below w.heap.size w w'):z2d w' ao c cs:=⟨h.1,fun hn=>by
 obtain ⟨g,o,e,hg,hc⟩:=h.2 hn
 exact ⟨g,o,e,Nat.lt_of_lt_of_le hg hb.size,fun j u hu=>(hb.cell (p:=⟨g,_,none⟩) hg).trans (hc j u hu)⟩⟩
theorem z2s {w:World} {B e s n m c:Nat} {ao:Option Addr} {xs:List Value} (h:w.ownsRow B e s (.slice ao m c) n xs):z2d w ao c xs:=by
 rcases h.2 with ⟨hv,h0⟩ | ⟨g,cap,cur,hv,_,hg,hcap,_,hcs,ht⟩
 ·cases hv
  refine ⟨fun _=>⟨rfl,List.eq_nil_of_length_eq_zero (by have:=h.1;rw [h0] at this;simpa using this)⟩,fun hn=>absurd (List.eq_nil_of_length_eq_zero (by have:=h.1;rw [h0] at this;simpa using this)) hn⟩
 ·cases hv
  refine ⟨fun e=>(by cases e),fun _=>⟨g,0,rfl,(Array.getElem?_eq_some_iff.1 hg).1,fun j u hu=>?_⟩⟩
  rw [← ht] at hu
  have hj:=(List.getElem?_eq_some_iff.1 hu).1
  rw [List.getElem?_take,if_pos (by rw [List.length_take] at hj;omega)] at hu
  rw [Nat.zero_add,cell_of_row w g j cur e (0,0) hg,← hu,Array.getElem?_toList]
theorem z0u {P:Program} {w:World} {ops:Array Oper} {rest:List Oper} {o:Oper} {a:Act} {Q:Exit → Act → World → Prop} (hgd:o.guard = none) (s x:Operand) (t:TypeId)
  (ho:o.op = .call { callee := .builtin .append,args:=#[s,x],argTypes:=#[t,t] })
  (base:Nat) (e:TypeId) (i:TypeInfo) (z:Value) (size bytes:Nat) (ht:P.underlying t = some (.slice e)) (hi:P.info? e = some i) (hz:i.zero = some z)
  (hsize:i.size = size) (hby:i.bytes = bytes) (hzs:z.cells.size = size) (hsz:0 < size)
  (v:Value) (n:Nat) (xs:List Value) (hs:a.eval s = v) (hown:w.ownsRow base e size v n xs)
  (ao:Option Addr) (m c:Nat) (news:List Value) (hx:a.eval x = .slice ao m c) (hsrc:z2d w ao c news) (hl:news.length = m * size) (h1:∀ u ∈ news,u.oneCell' = true)
  (h63:n + m ≤ maxLen) (hbytes:(n + m) * bytes ≤ 140737488355328) (hbase:base ≤ w.heap.size)
  (h:∀ v' w',w'.ownsRow base e size v' (n + m) (xs ++ news) → w.grownBy w' v.ownBlock → wpList P ops Q rest (a.put o.dst v') w'):wpList P ops Q (o :: rest) a w :=
 wpList_plain hgd fun K hK=>by
  have key:∃ v' w',(Builtin.append_ #[t,t] o.type #[v,.slice ao m c]).run P w = .ok v' w' ∧ w'.ownsRow base e size v' (n + m) (xs ++ news) ∧ w.grownBy w' v.ownBlock:=by
   cases ao with
   | none =>
    obtain ⟨rfl,rfl⟩:=hsrc.1 rfl
    obtain rfl:m = 0:=by
     rcases Nat.eq_zero_or_pos m with h0 | h0
     ·exact h0
     ·have:=Nat.mul_pos h0 hsz
      rw [← hl] at this
      simp at this
    refine ⟨v,w,run_append_owned_none w base t o.type e i size ht hi v n xs hown,by simpa using hown,⟨rfl,rfl,rfl,Nat.le_refl _,fun _ _ _=>rfl⟩⟩
   | some ad =>
    obtain ⟨v',w',hr,h2,h3,_,_⟩:=run_append_own_at (P:=P) w base t o.type e i z size bytes ht hi hz hsize hby hzs hsz v n xs hown ad m c news hl (fun j u hu=>by
     obtain ⟨g,o,e,_,hc⟩:=hsrc.2 (fun e=>by rw [e] at hu;simp at hu)
     cases e
     rw [z9n]
     exact hc j u hu) h1 h63 hbytes hbase
    exact ⟨v',w',hr,h2,h3⟩
  obtain ⟨v',w',hr,h2,h3⟩:=key
  unfold Oper.wp execOp
  simp only [ho,resolve,invoke,builtin,Sem.run_bind,Sem.run_pure,Result.andThen_ok,List.map_toArray,List.map_cons,List.map_nil,hs,hx,hr]
  exact hK _ _ (h v' w' h2 h3)
theorem q2a {w:World} {o:Obj} {b:Nat} (h:b = w.heap.size):(w.alloc o).heap[b]? = some o:=by rw [h];exact heap_alloc_new w o
theorem z9y {w:World} {B g e s:Nat} (hB:B ≤ g) (h:w.heap[g]? = some (.cells #[] e (0,0))):w.ownsRow B e s (.slice (some ⟨g,0,none⟩) 0 0) 0 [] :=
 ⟨by simp,.inr ⟨g,0,#[],rfl,hB,h,Nat.le_refl _,Nat.zero_le _,by simp,by simp⟩⟩
end Go.Proofs.YtacnlghljmgdiaaGreatDoor
namespace Go.Proofs.YtacnlghljmgdiaaGreatDoor
open Go.RowKit Go.ChangeShapes Go.WideShapes Go.Joins
theorem z4t {n:Int} (h:(Lit.int .i64 n).wf = true):I64 n:=by
 have:=bounds_i64 h
 unfold I64;omega
end Go.Proofs.YtacnlghljmgdiaaGreatDoor
