/- Several texts of this proof, joined: SA, SZ, SO, SK. -/
import Derived.Test.YtacnlghljmgdiaaGreatDoorO1
import Derived.Test.YtacnlghljmgdiaaGreatDoorO2
import Derived.Test.YtacnlghljmgdiaaGreatDoorChecked
import Derived.WalkKit
import Derived.ProofKit
import Derived.OpenShut
import Derived.Test.YtacnlghljmgdiaaGreatDoorJ3
import Derived.SliceStrings
import Derived.Lib.SmallJoins
import Derived.Test.YtacnlghljmgdiaaGreatDoorQ5
import Derived.Test.YtacnlghljmgdiaaGreatDoorZ1
import Derived.Handy
import Derived.BigQuiet
import Derived.OwnWalk
import Derived.Lib.Hide
import Derived.WalkSmall
import Derived.WalkLawsBesides
namespace Go.Proofs.YtacnlghljmgdiaaGreatDoor
open Go.RowKit
theorem z4s {α:Type} (f:α → List Value) (s:Nat) (hf:∀ x,(f x).length = s):∀ l:List α,(l.flatMap f).length = l.length * s
 | []=>by simp
 | x :: r=>by rw [List.flatMap_cons,List.length_append,z4s f s hf r,hf,List.length_cons,Nat.add_mul,Nat.one_mul,Nat.add_comm]
theorem z9o {α:Type} (f:α → List Value) (s:Nat) (hf:∀ x,(f x).length = s):∀ (l:List α) (i:Nat) (h:i < l.length) (j:Nat),j < s → (l.flatMap f)[i * s + j]? = (f l[i])[j]?
 | [],i,h,_,_=>absurd h (Nat.not_lt_zero _)
 | x :: r,0,_,j,hj=>by
  rw [List.flatMap_cons,Nat.zero_mul,Nat.zero_add,List.getElem?_append_left (by rw [hf];exact hj)]
  rfl
 | x :: r,i + 1,h,j,hj=>by
  have ih:=z9o f s hf r i (by simpa using h) j hj
  rw [List.flatMap_cons,List.getElem?_append_right (by rw [hf,Nat.add_mul];omega),hf,show (i + 1) * s + j - s = i * s + j by rw [Nat.add_mul];omega,ih]
  rfl
theorem z7f {α:Type} (f:α → List Value) (hf:∀ x,∀ u ∈ f x,u.oneCell' = true) (l:List α):∀ u ∈ l.flatMap f,u.oneCell' = true:=by
 intro u hu
 obtain ⟨t,_,hu⟩:=List.mem_flatMap.1 hu
 exact hf t u hu
theorem q6b {α:Type} (f:α → List Value) (s:Nat) (hf:∀ x,(f x).length = s):∀ (l:List α) (i:Nat) (j:Nat) (u:Value) (y:α),(h:i < l.length) → j < s → (f l[i]).set j u = f y → (l.flatMap f).set (i * s + j) u = (l.set i y).flatMap f
 | [],i,_,_,_,h,_,_=>absurd h (Nat.not_lt_zero _)
 | x :: r,0,j,u,y,_,hj,he=>by
  rw [List.flatMap_cons,Nat.zero_mul,Nat.zero_add,List.set_append,if_pos (by rw [hf];exact hj),List.set_cons_zero,List.flatMap_cons]
  rw [show (f x).set j u = f y from he]
 | x :: r,i + 1,j,u,y,h,hj,he=>by
  have ih:=q6b f s hf r i j u y (by simpa using h) hj he
  rw [List.flatMap_cons,List.set_append,if_neg (by rw [hf,Nat.add_mul];omega),hf,List.set_cons_succ,List.flatMap_cons,show (i + 1) * s + j - s = i * s + j by rw [Nat.add_mul];omega,ih]
theorem z8g {α:Type} (f:α → List Value) (s:Nat) (hf:∀ x,(f x).length = s) {w:World} {ao:Option Addr} {c:Nat} {l:List α} (h:z2d w ao c (l.flatMap f)) (i:Nat) (hi:i < l.length) (hs:0 < s):∃ g o,ao = some ⟨g,o,none⟩ ∧ g < w.heap.size ∧ ∀ j u,j < s → (f l[i])[j]? = some u → w.cell? ⟨g,o + i * s + j,none⟩ = some u:=by
 have hn:l.flatMap f ≠ []:=fun e=>by
  have:=z4s f s hf l
  rw [e,List.length_nil] at this
  have:=Nat.mul_pos (show 0 < l.length by omega) hs
  omega
 obtain ⟨g,o,e,hg,hc⟩:=h.2 hn
 exact ⟨g,o,e,hg,fun j u hj hu=>by rw [Nat.add_assoc];exact hc _ _ (by rw [z9o f s hf l i hi j hj];exact hu)⟩
structure Vl where
 k:Int
 n:Int
 s:ByteArray
def vlC (v:Vl):List Value:=[.int .i64 v.k,.int .i64 v.n,.string v.s]
def sbC (n:Int):List Value:=[.int .u64 n]
def inC (n:Int):List Value:=[.int .i64 n]
def z3j (s:ByteArray):List Value:=[.string s]
theorem q5s (v:Vl):(vlC v).length = 3:=rfl
theorem q8r (n:Int):(sbC n).length = 1:=rfl
theorem k0r (n:Int):(inC n).length = 1:=rfl
theorem q0h (s:ByteArray):(z3j s).length = 1:=rfl
instance decVl:DecidableEq Vl:=fun a b=>decidable_of_iff (a.k = b.k ∧ a.n = b.n ∧ a.s = b.s) ⟨fun ⟨h1,h2,h3⟩=>by
 cases a;cases b;subst h1 h2 h3;rfl,fun h=>by subst h;exact ⟨rfl,rfl,rfl⟩⟩
instance decTm:DecidableEq Tm:=fun a b=>decidable_of_iff (a.due = b.due ∧ a.seq = b.seq ∧ a.name = b.name) ⟨fun ⟨h1,h2,h3⟩=>by
 cases a;cases b;subst h1 h2 h3;rfl,fun h=>by subst h;exact ⟨rfl,rfl,rfl⟩⟩
structure Sn where
 status:Int
 moves:Int
 clock:Int
 seq:Int
 inn:Int
 past:List Int
 data:List Vl
 inner:List ByteArray
 outer:List ByteArray
 timers:List Tm
 event:ByteArray
 taken:List Int
 ent:Int
 out:List ByteArray
def q8k (a b:Sn):Bool:=decide (a.status = b.status ∧ a.moves = b.moves ∧ a.seq = b.seq ∧ a.clock = b.clock ∧ a.inn = b.inn ∧ a.ent = b.ent ∧ a.event = b.event)
def q5w (a b:Sn):Bool:=q8k a b && decide (a.past = b.past) && decide (a.data = b.data) && decide (a.inner = b.inner) && decide (a.outer = b.outer) && decide (a.timers = b.timers) && decide (a.taken = b.taken) && decide (a.out = b.out)
theorem q3r (a b:Sn):q5w a b = true ↔ a = b:=by
 unfold q5w q8k
 simp only [Bool.and_eq_true,decide_eq_true_eq]
 constructor
 ·rintro ⟨⟨⟨⟨⟨⟨⟨⟨h1,h2,h3,h4,h5,h6,h7⟩,h8⟩,h9⟩,h10⟩,h11⟩,h12⟩,h13⟩,h14⟩
  cases a;cases b
  simp only at *
  subst h1 h2 h3 h4 h5 h6 h7 h8 h9 h10 h11 h12 h13 h14
  rfl
 ·rintro rfl
  simp
theorem q8q (a:Sn):q5w a a = true:=(q3r a a).2 rfl
theorem j7w {H:Type} {s:ByteArray} (hz:((DataW.lit (.string s.data.toList):DataW H).weights Tryz.prog 9).all (· ≤ reachBytes) = true):s.size ≤ 140737488351232:=by
 rw [DataW.weights] at hz
 simp only [List.all_cons,Bool.and_eq_true] at hz
 have h:s.data.toList.length ≤ reachBytes:=of_decide_eq_true hz.1
 rw [Array.length_toList] at h
 exact h
end Go.Proofs.YtacnlghljmgdiaaGreatDoor
namespace Go.Proofs.YtacnlghljmgdiaaGreatDoor
open Go.RowKit Go.ChangeShapes Go.WideShapes Go.Joins
def k5n {H:Type} (d:DataW H) (ds:List (DataW H)):Prop:=(d = .nil ∧ ds = []) ∨ ∃ sp,d = .slice ds sp
theorem z8x {α:Type} (f:α → List Value) (s:Nat) (hf:∀ x,(f x).length = s) (hs:0 < s) {P:Program} {H:Type} {enc:TypeId × Value → H} {w:World} {base fuel:Nat} {spare:Nat → Bool} {held:Bool} {v:Value} {x:DataW H × List MemPlace} {T E:TypeId}
  (hT:P.underlying T = some (.slice E)) (hE:P.cellsOf E = s) (Q:α → Prop) (D:α → DataW H) (each:∀ (n:Nat) (cs:List Value) (y:DataW H × List MemPlace),DataW.trod enc P w base spare held n E cs = some y → ∃ a,cs = f a ∧ Q a ∧ y.1 = D a)
  (h:DataW.trod enc P w base spare held fuel T [v] = some x):∃ (ao:Option Addr) (l:List α) (cap:Nat),v = .slice ao l.length cap ∧ l.length ≤ maxLen ∧ l.length ≤ cap ∧ z2d w ao cap (l.flatMap f) ∧ k5n x.1 (l.map D) ∧ ∀ a ∈ l,Q a:=by
 rcases DataW.trod_slice hT h with ⟨hcs,hx⟩ | ⟨a,len,cap,elems,rest,m,_,hcs,hdx,hb,hl,hm,hlen,hel,_,_⟩
 ·exact ⟨none,[],0,(List.cons.inj hcs).1,Nat.zero_le _,Nat.le_refl _,⟨fun _=>⟨rfl,rfl⟩,fun h=>absurd rfl h⟩,.inl ⟨by rw [hx],rfl⟩,fun a ha=>(by cases ha)⟩
 ·have hv:=(List.cons.inj hcs).1
  have each':∀ i,i < len → ∃ n:α,w.cells? base (a.add (i * s)) s = some (f n) ∧ Q n ∧ ∃ y,elems[i]? = some y ∧ y.1 = D n:=by
   intro i hi
   have h1:=hel i hi
   rw [hE,List.getElem?_eq_getElem omT] at h1
   obtain ⟨cs,h2,h3⟩:=Option.bind_eq_some_iff.1 h1
   obtain ⟨n,rfl,hn,hd⟩:=each _ _ _ h3
   exact ⟨n,h2,hn,_,List.getElem?_eq_getElem omT,hd⟩
  obtain ⟨l,hns,hall⟩:∃ l:List α,l.length = len ∧ ∀ i (h:i < l.length),w.cells? base (a.add (i * s)) s = some (f l[i]) ∧ Q l[i] ∧ ∃ y,elems[i]? = some y ∧ y.1 = D l[i]:=by
   have:∀ k,k ≤ len → ∃ cs:List α,cs.length = k ∧ ∀ i (h:i < cs.length),w.cells? base (a.add (i * s)) s = some (f cs[i]) ∧ Q cs[i] ∧ ∃ y,elems[i]? = some y ∧ y.1 = D cs[i]:=by
    intro k
    induction k with
    | zero=>exact fun _=>⟨[],rfl,fun i h=>absurd h (Nat.not_lt_zero _)⟩
    | succ k ih =>
     intro hk
     obtain ⟨cs,rfl,h2⟩:=ih omT
     obtain ⟨n,h3⟩:=each' cs.length omT
     have e:∀ (hh:cs.length < (cs ++ [n]).length),(cs ++ [n])[cs.length] = n:=by simp
     refine ⟨cs ++ [n],by simp,fun i hi=>?_⟩
     rw [List.length_append,List.length_singleton] at hi
     rcases Nat.lt_or_ge i cs.length with hlt | hge
     ·rw [List.getElem_append_left hlt];exact h2 i hlt
     ·obtain rfl:i = cs.length:=by omega
      rw [e]
      exact h3
   exact this len (Nat.le_refl _)
  subst hns
  refine ⟨some a,l,cap,hv,Nat.le_trans hl hm,hl,⟨fun e=>(by cases e),fun hn=>?_⟩,.inr ⟨rest.map (·.1),by
   rw [hdx]
   have e:elems.map (·.1) = l.map D:=by
    apply List.ext_getElem?
    intro i
    rw [List.getElem?_map,List.getElem?_map]
    by_cases hi:i < l.length
    ·obtain ⟨_,_,y,hy,hyd⟩:=hall i hi
     rw [hy,List.getElem?_eq_getElem hi,Option.map_some,Option.map_some,hyd]
    ·rw [List.getElem?_eq_none omT,List.getElem?_eq_none omT]
     rfl
   rw [e]⟩,fun x hx=>?_⟩
  ·have h0:0 < l.length:=by
    rcases Nat.eq_zero_or_pos l.length with h0 | h0
    ·have:l = []:=List.eq_nil_of_length_eq_zero h0
     subst this
     exact absurd rfl hn
    ·exact h0
   have hc0:=(World.cells?_some (hall 0 h0).1).2.2 0 hs
   rw [Nat.zero_mul,q2s,q2s] at hc0
   have hc0':=hc0.trans (List.getElem?_eq_getElem (show 0 < (f l[0]).length by rw [hf];exact hs))
   have he:=k3u hc0'
   have hlt:=World.block_lt_of_cell? _ _ hc0'
   have hcell:∀ i (hi:i < l.length) j,j < s → w.cell? ⟨a.block,a.off + i * s + j,none⟩ = (f l[i])[j]?:=fun i hi j hj=>by
    have:=(World.cells?_some (hall i hi).1).2.2 j hj
    rw [he,z9n,z9n] at this
    exact this
   refine ⟨a.block,a.off,by rw [← he],hlt,fun k u hu=>?_⟩
   have hk:k < l.length * s:=by
    have:=(List.getElem?_eq_some_iff.1 hu).1
    rwa [z4s f s hf] at this
   have h1:k / s < l.length:=Nat.div_lt_of_lt_mul (by rw [Nat.mul_comm];exact hk)
   have h2:k % s < s:=Nat.mod_lt _ hs
   have hdm:k / s * s + k % s = k:=by rw [Nat.mul_comm];exact Nat.div_add_mod k s
   have:=z9o f s hf l (k / s) h1 (k % s) h2
   rw [hdm,hu] at this
   have hc:=hcell (k / s) h1 (k % s) h2
   rw [← this,Nat.add_assoc,hdm] at hc
   exact hc
  ·obtain ⟨i,hi,rfl⟩:=List.getElem_of_mem hx
   exact (hall i hi).2.1
section
variable {H:Type} {enc:TypeId × Value → H} {w:World} {base:Nat} {spare:Nat → Bool} {held:Bool}
theorem k6p (n:Nat) (cs:List Value) (y:DataW H × List MemPlace) (h:DataW.trod enc Tryz.prog w base spare held n 35 cs = some y):∃ a:Int,cs = sbC a ∧ U64 a ∧ y.1 = .lit (.int .u64 a):=by
 obtain ⟨k,d,e,v⟩:=DataW.trod_int Tryz.underlying35 h
 exact ⟨k,d,q9q v,by rw [e]⟩
theorem k6o (n:Nat) (cs:List Value) (y:DataW H × List MemPlace) (h:DataW.trod enc Tryz.prog w base spare held n 3 cs = some y):∃ a:Int,cs = inC a ∧ I64 a ∧ y.1 = .lit (.int .i64 a):=by
 obtain ⟨k,d,e,v⟩:=DataW.trod_int Tryz.underlying3 h
 exact ⟨k,d,z4t v,by rw [e]⟩
theorem j3b (n:Nat) (cs:List Value) (y:DataW H × List MemPlace) (h:DataW.trod enc Tryz.prog w base spare held n 9 cs = some y):∃ a:ByteArray,cs = z3j a ∧ a.size ≤ maxLen ∧ y.1 = .lit (.string a.data.toList):=by
 obtain ⟨k,d,e,v⟩:=DataW.trod_string Tryz.underlying9 h
 exact ⟨k,d,v,by rw [e]⟩
set_option maxRecDepth 100000 in
theorem k6q (n:Nat) (cs:List Value) (y:DataW H × List MemPlace) (h:DataW.trod enc Tryz.prog w base spare held n 66 cs = some y):∃ a:Vl,cs = vlC a ∧ I64 a.n ∧ y.1 = .agg [.lit (.int .i64 a.k),.lit (.int .i64 a.n),.lit (.string a.s.data.toList)]:=by
 obtain ⟨xs,m,_,hxx,hl,hlen,hf⟩:=DataW.trod_struct Tryz.underlying66 h
 have hl3:cs.length = 3:=hl.trans krT
 have hx3:xs.length = 3:=hlen
 match cs,hl3 with
 | [c0,c1,c2],_ =>
  match xs,hx3 with
  | [y0,y1,y2],_ =>
   have k1:Tryz.prog.cellsOf 2 = 1:=by kernel_rfl
   have k2:Tryz.prog.cellsOf 3 = 1:=by kernel_rfl
   have k3:Tryz.prog.cellsOf 9 = 1:=by kernel_rfl
   have h0:DataW.trod enc Tryz.prog w base spare held m 3 [c0] = some y0:=by simpa [k2] using hf 0 _ rfl
   have h1:DataW.trod enc Tryz.prog w base spare held m 2 [c1] = some y1:=by simpa [k1] using hf 1 _ rfl
   have h2:DataW.trod enc Tryz.prog w base spare held m 9 [c2] = some y2:=by simpa [k3] using hf 2 _ rfl
   obtain ⟨k,d0,g0,_⟩:=DataW.trod_int Tryz.underlying3 h0
   obtain ⟨n,d1,g1,v1⟩:=DataW.trod_int Tryz.underlying2 h1
   obtain ⟨s,d2,g2,_⟩:=DataW.trod_string Tryz.underlying9 h2
   simp only [List.cons.injEq,and_true] at d0 d1 d2
   subst d0 d1 d2
   exact ⟨⟨k,n,s⟩,rfl,z4t v1,by rw [hxx,g0,g1,g2];rfl⟩
set_option maxRecDepth 100000 in
theorem v3z (n:Nat) (cs:List Value) (y:DataW H × List MemPlace) (h:DataW.trod enc Tryz.prog w base spare held n 68 cs = some y):∃ t:Tm,cs = tmC t ∧ I64 t.seq ∧ y.1 = .agg [.lit (.int .i64 t.due),.lit (.int .i64 t.seq),.lit (.string t.name.data.toList)]:=by
 obtain ⟨xs,m,_,hxx,hl,hlen,hf⟩:=DataW.trod_struct Tryz.underlying68 h
 have hl3:cs.length = 3:=hl.trans krT
 have hx3:xs.length = 3:=hlen
 match cs,hl3 with
 | [c0,c1,c2],_ =>
  match xs,hx3 with
  | [y0,y1,y2],_ =>
   have k1:Tryz.prog.cellsOf 2 = 1:=by kernel_rfl
   have k2:Tryz.prog.cellsOf 3 = 1:=by kernel_rfl
   have k3:Tryz.prog.cellsOf 9 = 1:=by kernel_rfl
   have h0:DataW.trod enc Tryz.prog w base spare held m 2 [c0] = some y0:=by simpa [k1] using hf 0 _ rfl
   have h1:DataW.trod enc Tryz.prog w base spare held m 3 [c1] = some y1:=by simpa [k2] using hf 1 _ rfl
   have h2:DataW.trod enc Tryz.prog w base spare held m 9 [c2] = some y2:=by simpa [k3] using hf 2 _ rfl
   obtain ⟨k,d0,g0,_⟩:=DataW.trod_int Tryz.underlying2 h0
   obtain ⟨n,d1,g1,v1⟩:=DataW.trod_int Tryz.underlying3 h1
   obtain ⟨s,d2,g2,_⟩:=DataW.trod_string Tryz.underlying9 h2
   simp only [List.cons.injEq,and_true] at d0 d1 d2
   subst d0 d1 d2
   exact ⟨⟨k,n,s⟩,rfl,z4t v1,by rw [hxx,g0,g1,g2];rfl⟩
end
theorem j8b (t:Tm):(tmC t).length = 3:=rfl
abbrev snV (s:Sn) (pa:Option Addr) (pc:Nat) (da:Option Addr) (dc:Nat) (ia:Option Addr) (ic:Nat) (oa:Option Addr) (oc:Nat) (ta:Option Addr) (tc:Nat) (ka:Option Addr) (kc:Nat) (ua:Option Addr) (uc:Nat):Value :=
 .agg #[.int .i64 s.status,.int .i64 s.moves,.int .i64 s.clock,.int .i64 s.seq,.int .u64 s.inn,.slice pa s.past.length pc,.slice da s.data.length dc,.slice ia s.inner.length ic,.slice oa s.outer.length oc,.slice ta s.timers.length tc,.string s.event,.slice ka s.taken.length kc,.int .u64 s.ent,.slice ua s.out.length uc]
structure SnRd (w:World) (s:Sn) (pa:Option Addr) (pc:Nat) (da:Option Addr) (dc:Nat) (ia:Option Addr) (ic:Nat) (oa:Option Addr) (oc:Nat) (ta:Option Addr) (tc:Nat) (ka:Option Addr) (kc:Nat) (ua:Option Addr) (uc:Nat):Prop where
 past:z2d w pa pc (s.past.flatMap sbC)
 data:z2d w da dc (s.data.flatMap vlC)
 inner:z2d w ia ic (s.inner.flatMap z3j)
 outer:z2d w oa oc (s.outer.flatMap z3j)
 timers:z2d w ta tc (s.timers.flatMap tmC)
 taken:z2d w ka kc (s.taken.flatMap inC)
 out:z2d w ua uc (s.out.flatMap z3j)
structure SnIn (s:Sn):Prop where
 status:I64 s.status
 moves:I64 s.moves
 clock:I64 s.clock
 seq:I64 s.seq
 inn:U64 s.inn
 ent:U64 s.ent
 past:∀ a ∈ s.past,U64 a
 data:∀ a ∈ s.data,I64 a.n
 timers:∀ a ∈ s.timers,I64 a.seq
 taken:∀ a ∈ s.taken,I64 a
 event:s.event.size ≤ maxLen
section
variable {H:Type} {enc:TypeId × Value → H} {w:World} {base:Nat} {spare:Nat → Bool} {held:Bool}
set_option maxRecDepth 100000 in
theorem y0d {r:Reach} {b0:Nat} {v:Value} {d:DataW H} {p:List MemPlace} (hv:Value.okWide Tryz.prog w r b0 61 v) (h:DataW.Trod enc Tryz.prog w base spare held 61 v d p):∃ k n:Int,v = .agg #[.int .i64 k,.int .i64 n] ∧ I64 k ∧ I64 n:=by
 obtain ⟨v0,v1,y0,y1,m,rfl,-,-,h0,h1⟩:=open_agg2 Tryz.underlying61 krT krT hv h
 obtain ⟨k,e0,_,w0⟩:=DataW.trod_int Tryz.underlying3 h0
 obtain ⟨n,e1,_,w1⟩:=DataW.trod_int Tryz.underlying3 h1
 simp only [List.cons.injEq,and_true] at e0 e1
 subst e0 e1
 exact ⟨k,n,rfl,z4t w0,z4t w1⟩
def SnD {H:Type} (d:DataW H) (s:Sn):Prop:=∃ e0 e1 e2 e3 e4 e5 e6 e7 e8 e9 e10 e11 e12 e13:DataW H,d = .agg [e0,e1,e2,e3,e4,e5,e6,e7,e8,e9,.agg [e10,e11,e12,e13]] ∧ e10 = .lit (.string s.event.data.toList) ∧ k5n e5 (s.past.map (fun a:Int=>(.lit (.int .u64 a):DataW H))) ∧ k5n e6 (s.data.map (fun a:Vl=>(.agg [.lit (.int .i64 a.k),.lit (.int .i64 a.n),.lit (.string a.s.data.toList)]:DataW H))) ∧ k5n e7 (s.inner.map (fun a:ByteArray=>(.lit (.string a.data.toList):DataW H))) ∧ k5n e8 (s.outer.map (fun a:ByteArray=>(.lit (.string a.data.toList):DataW H))) ∧ k5n e9 (s.timers.map (fun a:Tm=>(.agg [.lit (.int .i64 a.due),.lit (.int .i64 a.seq),.lit (.string a.name.data.toList)]:DataW H))) ∧ k5n e11 (s.taken.map (fun a:Int=>(.lit (.int .i64 a):DataW H))) ∧ k5n e13 (s.out.map (fun a:ByteArray=>(.lit (.string a.data.toList):DataW H)))
set_option maxRecDepth 100000 in
set_option maxHeartbeats 1000000 in
theorem j6w {r:Reach} {b0:Nat} {v:Value} {d:DataW H} {p:List MemPlace} (hv:Value.okWide Tryz.prog w r b0 44 v) (h:DataW.Trod enc Tryz.prog w base spare held 44 v d p) :
  ∃ (s:Sn) (pa:Option Addr) (pc:Nat) (da:Option Addr) (dc:Nat) (ia:Option Addr) (ic:Nat) (oa:Option Addr) (oc:Nat) (ta:Option Addr) (tc:Nat) (ka:Option Addr) (kc:Nat) (ua:Option Addr) (uc:Nat),v = snV s pa pc da dc ia ic oa oc ta tc ka kc ua uc ∧ SnRd w s pa pc da dc ia ic oa oc ta tc ka kc ua uc ∧ SnIn s ∧ SnD d s:=by
 obtain ⟨cs,rfl,hsz⟩:=okWide_struct Tryz.underlying44 hv
 have hsz':cs.size = 14:=hsz.trans krT
 obtain ⟨fuel,hf⟩:=h
 obtain ⟨l⟩:=cs
 match l,hsz' with
 | [c0,c1,c2,c3,c4,c5,c6,c7,c8,c9,c10,c11,c12,c13],_ =>
  obtain ⟨xs,n,_,hx,_,hlen,F⟩:=DataW.trod_struct Tryz.underlying44 hf
  have hlen':xs.length = 11:=hlen
  match xs,hlen' with
  | [y0,y1,y2,y3,y4,y5,y6,y7,y8,y9,yl],_ =>
   have k0:Tryz.prog.cellsOf 36 = 1:=by kernel_rfl
   have k1:Tryz.prog.cellsOf 40 = 1:=by kernel_rfl
   have k2:Tryz.prog.cellsOf 39 = 1:=by kernel_rfl
   have k3:Tryz.prog.cellsOf 38 = 1:=by kernel_rfl
   have k4:Tryz.prog.cellsOf 37 = 1:=by kernel_rfl
   have k5:Tryz.prog.cellsOf 3 = 1:=by kernel_rfl
   have k6:Tryz.prog.cellsOf 2 = 1:=by kernel_rfl
   have k7:Tryz.prog.cellsOf 9 = 1:=by kernel_rfl
   have k8:Tryz.prog.cellsOf 35 = 1:=by kernel_rfl
   have kl:Tryz.prog.cellsOf 42 = 4:=by kernel_rfl
   have h0:DataW.trod enc Tryz.prog w base spare held n 3 [c0] = some y0:=by simpa [Value.cells,k5] using F 0 _ rfl
   have h1:DataW.trod enc Tryz.prog w base spare held n 3 [c1] = some y1:=by simpa [Value.cells,k5] using F 1 _ rfl
   have h2:DataW.trod enc Tryz.prog w base spare held n 2 [c2] = some y2:=by simpa [Value.cells,k6] using F 2 _ rfl
   have h3:DataW.trod enc Tryz.prog w base spare held n 3 [c3] = some y3:=by simpa [Value.cells,k5] using F 3 _ rfl
   have h4:DataW.trod enc Tryz.prog w base spare held n 35 [c4] = some y4:=by simpa [Value.cells,k8] using F 4 _ rfl
   have h5:DataW.trod enc Tryz.prog w base spare held n 36 [c5] = some y5:=by simpa [Value.cells,k0] using F 5 _ rfl
   have h6:DataW.trod enc Tryz.prog w base spare held n 37 [c6] = some y6:=by simpa [Value.cells,k4] using F 6 _ rfl
   have h7:DataW.trod enc Tryz.prog w base spare held n 38 [c7] = some y7:=by simpa [Value.cells,k3] using F 7 _ rfl
   have h8:DataW.trod enc Tryz.prog w base spare held n 38 [c8] = some y8:=by simpa [Value.cells,k3] using F 8 _ rfl
   have h9:DataW.trod enc Tryz.prog w base spare held n 39 [c9] = some y9:=by simpa [Value.cells,k2] using F 9 _ rfl
   have hl:DataW.trod enc Tryz.prog w base spare held n 42 [c10,c11,c12,c13] = some yl:=by simpa [Value.cells,kl] using F 10 _ rfl
   obtain ⟨xl,m,_,hx2,_,hlen2,G⟩:=DataW.trod_struct Tryz.underlying42 hl
   have hlen3:xl.length = 4:=hlen2
   match xl,hlen3 with
   | [y10,y11,y12,y13],_ =>
    have h10:DataW.trod enc Tryz.prog w base spare held m 9 [c10] = some y10:=by simpa [k7] using G 0 _ rfl
    have h11:DataW.trod enc Tryz.prog w base spare held m 40 [c11] = some y11:=by simpa [k1] using G 1 _ rfl
    have h12:DataW.trod enc Tryz.prog w base spare held m 35 [c12] = some y12:=by simpa [k8] using G 2 _ rfl
    have h13:DataW.trod enc Tryz.prog w base spare held m 38 [c13] = some y13:=by simpa [k3] using G 3 _ rfl
    obtain ⟨s0,d0,_,v0⟩:=DataW.trod_int Tryz.underlying3 h0
    obtain ⟨s1,d1,_,v1⟩:=DataW.trod_int Tryz.underlying3 h1
    obtain ⟨s2,d2,_,v2⟩:=DataW.trod_int Tryz.underlying2 h2
    obtain ⟨s3,d3,_,v3⟩:=DataW.trod_int Tryz.underlying3 h3
    obtain ⟨s4,d4,_,v4⟩:=DataW.trod_int Tryz.underlying35 h4
    obtain ⟨a5,s5,e5,d5,m5,_,r5,l5,q5⟩:=z8x sbC 1 q8r deT Tryz.underlying36 krT (U64) (fun a:Int=>(.lit (.int .u64 a):DataW H)) k6p h5
    obtain ⟨a6,s6,e6,d6,m6,_,r6,l6,q6⟩:=z8x vlC 3 q5s deT Tryz.underlying37 krT (fun a:Vl=>I64 a.n) (fun a:Vl=>(.agg [.lit (.int .i64 a.k),.lit (.int .i64 a.n),.lit (.string a.s.data.toList)]:DataW H)) k6q h6
    obtain ⟨a7,s7,e7,d7,m7,_,r7,l7,q7⟩:=z8x z3j 1 q0h deT Tryz.underlying38 krT (fun a:ByteArray=>a.size ≤ maxLen) (fun a:ByteArray=>(.lit (.string a.data.toList):DataW H)) j3b h7
    obtain ⟨a8,s8,e8,d8,m8,_,r8,l8,q8⟩:=z8x z3j 1 q0h deT Tryz.underlying38 krT (fun a:ByteArray=>a.size ≤ maxLen) (fun a:ByteArray=>(.lit (.string a.data.toList):DataW H)) j3b h8
    obtain ⟨a9,s9,e9,d9,m9,_,r9,l9,q9⟩:=z8x tmC 3 j8b deT Tryz.underlying39 krT (fun a:Tm=>I64 a.seq) (fun a:Tm=>(.agg [.lit (.int .i64 a.due),.lit (.int .i64 a.seq),.lit (.string a.name.data.toList)]:DataW H)) v3z h9
    obtain ⟨s10,d10,g10,v10⟩:=DataW.trod_string Tryz.underlying9 h10
    obtain ⟨a11,s11,e11,d11,m11,_,r11,l11,q11⟩:=z8x inC 1 k0r deT Tryz.underlying40 krT (I64) (fun a:Int=>(.lit (.int .i64 a):DataW H)) k6o h11
    obtain ⟨s12,d12,_,v12⟩:=DataW.trod_int Tryz.underlying35 h12
    obtain ⟨a13,s13,e13,d13,m13,_,r13,l13,q13⟩:=z8x z3j 1 q0h deT Tryz.underlying38 krT (fun a:ByteArray=>a.size ≤ maxLen) (fun a:ByteArray=>(.lit (.string a.data.toList):DataW H)) j3b h13
    simp only [List.cons.injEq,and_true] at d0 d1 d2 d3 d4 d10 d12
    subst d0 d1 d2 d3 d4 d5 d6 d7 d8 d9 d10 d11 d12 d13
    refine ⟨⟨s0,s1,s2,s3,s4,s5,s6,s7,s8,s9,s10,s11,s12,s13⟩,a5,e5,a6,e6,a7,e7,a8,e8,a9,e9,a11,e11,a13,e13,rfl,⟨r5,r6,r7,r8,r9,r11,r13⟩,⟨z4t v0,z4t v1,z4t v2,z4t v3,q9q v4,q9q v12,q5,q6,q9,q11,v10⟩,y0.1,y1.1,y2.1,y3.1,y4.1,y5.1,y6.1,y7.1,y8.1,y9.1,y10.1,y11.1,y12.1,y13.1,?_,by rw [g10],l5,l6,l7,l8,l9,l11,l13⟩
    have e1:=(Prod.mk.inj hx).1
    rw [e1]
    simp only [List.map_cons,List.map_nil,hx2]
theorem z6x {d:DataW H} {ds:List (DataW H)} {k:Nat} {T E:TypeId} (h:k5n d ds) (hT:Tryz.prog.underlying T = some (.slice E)) (hb:Tryz.prog.bytesOf E = k) (hz:(d.weights Tryz.prog T).all (· ≤ reachBytes) = true):ds.length * k ≤ 140737488355328 ∧ (DataW.weightsAll Tryz.prog E ds).all (· ≤ reachBytes) = true:=by
 rcases h with ⟨_,h0⟩ | ⟨sp,rfl⟩
 ·rw [h0]
  exact ⟨by rw [List.length_nil,Nat.zero_mul];decide,rfl⟩
 ·rw [DataW.weights,hT] at hz
  simp only [hb,List.all_cons,List.all_append,Bool.and_eq_true] at hz
  have h1:(ds.length + sp.length) * k ≤ reachBytes:=of_decide_eq_true hz.1
  rw [Nat.add_mul] at h1
  unfold reachBytes at h1
  exact ⟨by omega,hz.2.1⟩
theorem q1c:∀ {l:List ByteArray},(DataW.weightsAll Tryz.prog 9 (l.map fun a=>(.lit (.string a.data.toList):DataW H))).all (· ≤ reachBytes) = true → ∀ a ∈ l,a.size ≤ 140737488351232
 | [],_,a,ha=>by cases ha
 | x :: r,h,a,ha=>by
  rw [List.map_cons,DataW.weightsAll,List.all_append,Bool.and_eq_true] at h
  rcases List.mem_cons.1 ha with rfl | ha
  ·exact j7w h.1
  ·exact q1c h.2 a ha
structure SnZ (s:Sn):Prop where
 past:s.past.length ≤ 140737488355328
 data:s.data.length ≤ 140737488355328
 inner:s.inner.length ≤ 140737488355328
 outer:s.outer.length ≤ 140737488355328
 timers:s.timers.length ≤ 140737488355328
 taken:s.taken.length ≤ 140737488355328
 out:s.out.length ≤ 140737488355328
 event:s.event.size ≤ 140737488351232
 inners:∀ a ∈ s.inner,a.size ≤ 140737488351232
 outers:∀ a ∈ s.outer,a.size ≤ 140737488351232
 outs:∀ a ∈ s.out,a.size ≤ 140737488351232
set_option maxRecDepth 100000 in
theorem j1y {d:DataW H} {s:Sn} (h:SnD d s) (hz:(d.weights Tryz.prog 44).all (· ≤ reachBytes) = true):SnZ s:=by
 obtain ⟨e0,e1,e2,e3,e4,e5,e6,e7,e8,e9,e10,e11,e12,e13,rfl,rfl,l5,l6,l7,l8,l9,l11,l13⟩:=h
 rw [DataW.weights,Tryz.underlying44] at hz
 simp only [List.map_cons,List.map_nil,DataW.weightsEach,List.all_append,Bool.and_eq_true] at hz
 obtain ⟨_,_,_,_,_,z5,z6,z7,z8,z9,zl,_⟩:=hz
 rw [DataW.weights,Tryz.underlying42] at zl
 simp only [List.map_cons,List.map_nil,DataW.weightsEach,List.all_append,Bool.and_eq_true] at zl
 obtain ⟨z10,z11,_,z13,_⟩:=zl
 obtain ⟨g5,_⟩:=z6x (k:=8) l5 Tryz.underlying36 krT z5
 obtain ⟨g6,_⟩:=z6x (k:=32) l6 Tryz.underlying37 krT z6
 obtain ⟨g7,w7⟩:=z6x (k:=16) l7 Tryz.underlying38 krT z7
 obtain ⟨g8,w8⟩:=z6x (k:=16) l8 Tryz.underlying38 krT z8
 obtain ⟨g9,_⟩:=z6x (k:=32) l9 Tryz.underlying39 krT z9
 obtain ⟨g11,_⟩:=z6x (k:=8) l11 Tryz.underlying40 krT z11
 obtain ⟨g13,w13⟩:=z6x (k:=16) l13 Tryz.underlying38 krT z13
 rw [List.length_map] at g5 g6 g7 g8 g9 g11 g13
 exact ⟨by omega,by omega,by omega,by omega,by omega,by omega,by omega,j7w z10,q1c w7,q1c w8,q1c w13⟩
end
end Go.Proofs.YtacnlghljmgdiaaGreatDoor
namespace Go.Proofs.YtacnlghljmgdiaaGreatDoor
open Go.RowKit
theorem k4s (v:Vl):∀ u ∈ vlC v,u.oneCell' = true:=by
 intro u hu
 simp only [vlC,List.mem_cons,List.not_mem_nil,or_false] at hu
 rcases hu with rfl | rfl | rfl <;> rfl
theorem x0b (v:Tm):∀ u ∈ tmC v,u.oneCell' = true:=by
 intro u hu
 simp only [tmC,List.mem_cons,List.not_mem_nil,or_false] at hu
 rcases hu with rfl | rfl | rfl <;> rfl
theorem v9s (n:Int):∀ u ∈ sbC n,u.oneCell' = true:=by
 intro u hu
 simp only [sbC,List.mem_cons,List.not_mem_nil,or_false] at hu
 subst hu;rfl
theorem v8l (n:Int):∀ u ∈ inC n,u.oneCell' = true:=by
 intro u hu
 simp only [inC,List.mem_cons,List.not_mem_nil,or_false] at hu
 subst hu;rfl
theorem y3j (n:ByteArray):∀ u ∈ z3j n,u.oneCell' = true:=by
 intro u hu
 simp only [z3j,List.mem_cons,List.not_mem_nil,or_false] at hu
 subst hu;rfl
def q2n (u v:Value):Prop:=∀ g,u.ownBlock = some g → v.ownBlock ≠ some g
structure SnOw (w:World) (B:Nat) (s:Sn) (pa:Option Addr) (pc:Nat) (da:Option Addr) (dc:Nat) (ia:Option Addr) (ic:Nat) (oa:Option Addr) (oc:Nat) (ta:Option Addr) (tc:Nat) (ka:Option Addr) (kc:Nat) (ua:Option Addr) (uc:Nat):Prop where
 past:w.ownsRow B 35 1 (.slice pa s.past.length pc) s.past.length (s.past.flatMap sbC)
 data:w.ownsRow B 66 3 (.slice da s.data.length dc) s.data.length (s.data.flatMap vlC)
 inner:w.ownsRow B 9 1 (.slice ia s.inner.length ic) s.inner.length (s.inner.flatMap z3j)
 outer:w.ownsRow B 9 1 (.slice oa s.outer.length oc) s.outer.length (s.outer.flatMap z3j)
 timers:w.ownsRow B 68 3 (.slice ta s.timers.length tc) s.timers.length (s.timers.flatMap tmC)
 taken:w.ownsRow B 3 1 (.slice ka s.taken.length kc) s.taken.length (s.taken.flatMap inC)
 out:w.ownsRow B 9 1 (.slice ua s.out.length uc) s.out.length (s.out.flatMap z3j)
 io:q2n (.slice ia s.inner.length ic) (.slice oa s.outer.length oc)
 iu:q2n (.slice ia s.inner.length ic) (.slice ua s.out.length uc)
 ou:q2n (.slice oa s.outer.length oc) (.slice ua s.out.length uc)
theorem y3i {w:World} {B:Nat} {s:Sn} {pa:Option Addr} {pc:Nat} {da:Option Addr} {dc:Nat} {ia:Option Addr} {ic:Nat} {oa:Option Addr} {oc:Nat} {ta:Option Addr} {tc:Nat} {ka:Option Addr} {kc:Nat} {ua:Option Addr} {uc:Nat} (h:SnOw w B s pa pc da dc ia ic oa oc ta tc ka kc ua uc):SnRd w s pa pc da dc ia ic oa oc ta tc ka kc ua uc :=
 ⟨z2s h.past,z2s h.data,z2s h.inner,z2s h.outer,z2s h.timers,z2s h.taken,z2s h.out⟩
theorem z2v {w w':World} {s:Sn} {pa:Option Addr} {pc:Nat} {da:Option Addr} {dc:Nat} {ia:Option Addr} {ic:Nat} {oa:Option Addr} {oc:Nat} {ta:Option Addr} {tc:Nat} {ka:Option Addr} {kc:Nat} {ua:Option Addr} {uc:Nat} (h:SnRd w s pa pc da dc ia ic oa oc ta tc ka kc ua uc) (hb:Below w.heap.size w w'):SnRd w' s pa pc da dc ia ic oa oc ta tc ka kc ua uc :=
 ⟨z0k h.past hb,z0k h.data hb,z0k h.inner hb,z0k h.outer hb,z0k h.timers hb,z0k h.taken hb,z0k h.out hb⟩
theorem q0z {w w':World} {B:Nat} {s:Sn} {pa:Option Addr} {pc:Nat} {da:Option Addr} {dc:Nat} {ia:Option Addr} {ic:Nat} {oa:Option Addr} {oc:Nat} {ta:Option Addr} {tc:Nat} {ka:Option Addr} {kc:Nat} {ua:Option Addr} {uc:Nat} (h:SnOw w B s pa pc da dc ia ic oa oc ta tc ka kc ua uc) (hb:Below w.heap.size w w'):SnOw w' B s pa pc da dc ia ic oa oc ta tc ka kc ua uc :=
 ⟨z0a h.past hb,z0a h.data hb,z0a h.inner hb,z0a h.outer hb,z0a h.timers hb,z0a h.taken hb,z0a h.out hb,h.io,h.iu,h.ou⟩
abbrev y6l (w:World) (b:Nat) (v0 v1 v2 v3 v4 v5 v6 v7 v8 v9 v10 v11 v12 v13:Value):World:=(((((((((((((w.setCell ⟨b,0,none⟩ v0).setCell ⟨b,1,none⟩ v1).setCell ⟨b,2,none⟩ v2).setCell ⟨b,3,none⟩ v3).setCell ⟨b,4,none⟩ v4).setCell ⟨b,5,none⟩ v5).setCell ⟨b,6,none⟩ v6).setCell ⟨b,7,none⟩ v7).setCell ⟨b,8,none⟩ v8).setCell ⟨b,9,none⟩ v9).setCell ⟨b,10,none⟩ v10).setCell ⟨b,11,none⟩ v11).setCell ⟨b,12,none⟩ v12).setCell ⟨b,13,none⟩ v13
theorem z2g {w:World} {B e sz n b:Nat} {v v0 v1 v2 v3 v4 v5 v6 v7 v8 v9 v10 v11 v12 v13:Value} {xs:List Value} {cs:Array Value} {t:TypeId} {fr:Nat × Nat} (h:w.ownsRow B e sz v n xs) (hb:w.heap[b]? = some (.cells cs t fr)) (hne:t ≠ e):(y6l w b v0 v1 v2 v3 v4 v5 v6 v7 v8 v9 v10 v11 v12 v13).ownsRow B e sz v n xs:=by
 have k:=z0n h hb hne
 exact ownsRow_setCell_other (ownsRow_setCell_other (ownsRow_setCell_other (ownsRow_setCell_other (ownsRow_setCell_other (ownsRow_setCell_other (ownsRow_setCell_other (ownsRow_setCell_other (ownsRow_setCell_other (ownsRow_setCell_other (ownsRow_setCell_other (ownsRow_setCell_other (ownsRow_setCell_other (ownsRow_setCell_other h (a:=⟨b,0,none⟩) k v0) (a:=⟨b,1,none⟩) k v1) (a:=⟨b,2,none⟩) k v2) (a:=⟨b,3,none⟩) k v3) (a:=⟨b,4,none⟩) k v4) (a:=⟨b,5,none⟩) k v5) (a:=⟨b,6,none⟩) k v6) (a:=⟨b,7,none⟩) k v7) (a:=⟨b,8,none⟩) k v8) (a:=⟨b,9,none⟩) k v9) (a:=⟨b,10,none⟩) k v10) (a:=⟨b,11,none⟩) k v11) (a:=⟨b,12,none⟩) k v12) (a:=⟨b,13,none⟩) k v13
theorem z8s {B b:Nat} {a w:World} {v0 v1 v2 v3 v4 v5 v6 v7 v8 v9 v10 v11 v12 v13:Value} (h:Below B a w) (hb:B ≤ b):Below B a (y6l w b v0 v1 v2 v3 v4 v5 v6 v7 v8 v9 v10 v11 v12 v13) :=
 (((((((((((((h.setCell (p:=⟨b,0,none⟩) hb _).setCell (p:=⟨b,1,none⟩) hb _).setCell (p:=⟨b,2,none⟩) hb _).setCell (p:=⟨b,3,none⟩) hb _).setCell (p:=⟨b,4,none⟩) hb _).setCell (p:=⟨b,5,none⟩) hb _).setCell (p:=⟨b,6,none⟩) hb _).setCell (p:=⟨b,7,none⟩) hb _).setCell (p:=⟨b,8,none⟩) hb _).setCell (p:=⟨b,9,none⟩) hb _).setCell (p:=⟨b,10,none⟩) hb _).setCell (p:=⟨b,11,none⟩) hb _).setCell (p:=⟨b,12,none⟩) hb _).setCell (p:=⟨b,13,none⟩) hb _
set_option maxRecDepth 100000 in
set_option maxHeartbeats 8000000 in
theorem z6j (s:Sn) (pa:Option Addr) (pc:Nat) (da:Option Addr) (dc:Nat) (ia:Option Addr) (ic:Nat) (oa:Option Addr) (oc:Nat) (ta:Option Addr) (tc:Nat) (ka:Option Addr) (kc:Nat) (ua:Option Addr) (uc:Nat) (w:World) (hn:s.past.length ≤ 400 ∧ s.data.length ≤ 400 ∧ s.inner.length ≤ 400 ∧ s.outer.length ≤ 400 ∧ s.timers.length ≤ 400 ∧ s.taken.length ≤ 400 ∧ s.out.length ≤ 400) (h:SnRd w s pa pc da dc ia ic oa oc ta tc ka kc ua uc) :
  Calls Tryz.prog 15 #[snV s pa pc da dc ia ic oa oc ta tc ka kc ua uc] w (fun e w'=>∃ (pa':Option Addr) (pc':Nat) (da':Option Addr) (dc':Nat) (ia':Option Addr) (ic':Nat) (oa':Option Addr) (oc':Nat) (ta':Option Addr) (tc':Nat) (ka':Option Addr) (kc':Nat) (ua':Option Addr) (uc':Nat),e = .returned (snV s pa' pc' da' dc' ia' ic' oa' oc' ta' tc' ka' kc' ua' uc') ∧ SnOw w' w.heap.size s pa' pc' da' dc' ia' ic' oa' oc' ta' tc' ka' kc' ua' uc' ∧ Below w.heap.size w w'):=by
 obtain ⟨n0,n1,n2,n3,n4,n5,n6⟩:=hn
 have C0:=hiT (fun wx (hx:Below w.heap.size w wx)=>j8z pa s.past.length pc (s.past.flatMap sbC) n0 (z4s sbC 1 q8r _) (z7f sbC v9s _) wx (z0k h.past hx))
 have C1:=hiT (fun wx (hx:Below w.heap.size w wx)=>j9c da s.data.length dc (s.data.flatMap vlC) n1 (z4s vlC 3 q5s _) (z7f vlC k4s _) wx (z0k h.data hx))
 have C2:=hiT (fun wx (hx:Below w.heap.size w wx)=>q1x ia s.inner.length ic (s.inner.flatMap z3j) n2 (z4s z3j 1 q0h _) (z7f z3j y3j _) wx (z0k h.inner hx))
 have C3:=hiT (fun wx (hx:Below w.heap.size w wx)=>q1x oa s.outer.length oc (s.outer.flatMap z3j) n3 (z4s z3j 1 q0h _) (z7f z3j y3j _) wx (z0k h.outer hx))
 have C4:=hiT (fun wx (hx:Below w.heap.size w wx)=>j9b ta s.timers.length tc (s.timers.flatMap tmC) n4 (z4s tmC 3 j8b _) (z7f tmC x0b _) wx (z0k h.timers hx))
 have C5:=hiT (fun wx (hx:Below w.heap.size w wx)=>j9a ka s.taken.length kc (s.taken.flatMap inC) n5 (z4s inC 1 k0r _) (z7f inC v8l _) wx (z0k h.taken hx))
 have C6:=hiT (fun wx (hx:Below w.heap.size w wx)=>q1x ua s.out.length uc (s.out.flatMap z3j) n6 (z4s z3j 1 q0h _) (z7f z3j y3j _) wx (z0k h.out hx))
 clear h n0 n1 n2 n3 n4 n5 n6
 obtain ⟨W0,hW0⟩:∃ X,(w.alloc (.cells #[.int .i64 s.status,.int .i64 s.moves,.int .i64 s.clock,.int .i64 s.seq,.int .u64 s.inn,.slice pa s.past.length pc,.slice da s.data.length dc,.slice ia s.inner.length ic,.slice oa s.outer.length oc,.slice ta s.timers.length tc,.string s.event,.slice ka s.taken.length kc,.int .u64 s.ent,.slice ua s.out.length uc] 44)).alloc (.cells #[.int .i64 0,.int .i64 0,.int .i64 0,.int .i64 0,.int .u64 0,.slice none 0 0,.slice none 0 0,.slice none 0 0,.slice none 0 0,.slice none 0 0,.string ⟨#[]⟩,.slice none 0 0,.int .u64 0,.slice none 0 0] 44) = X:=⟨_,rfl⟩
 have b0:Below w.heap.size w W0:=by rw [← hW0];exact gzT
 have x0:W0.heap[w.heap.size]? = some (.cells #[.int .i64 s.status,.int .i64 s.moves,.int .i64 s.clock,.int .i64 s.seq,.int .u64 s.inn,.slice pa s.past.length pc,.slice da s.data.length dc,.slice ia s.inner.length ic,.slice oa s.outer.length oc,.slice ta s.timers.length tc,.string s.event,.slice ka s.taken.length kc,.int .u64 s.ent,.slice ua s.out.length uc] 44 (0,0)):=by rw [← hW0];exact z0j (heap_alloc_new w _)
 have y0:W0.heap[w.heap.size + 1]? = some (.cells #[.int .i64 0,.int .i64 0,.int .i64 0,.int .i64 0,.int .u64 0,.slice none 0 0,.slice none 0 0,.slice none 0 0,.slice none 0 0,.slice none 0 0,.string ⟨#[]⟩,.slice none 0 0,.int .u64 0,.slice none 0 0] 44 (0,0)):=by rw [← hW0];exact z0s (by simp)
 replace hW0:=hiT hW0
 have hne:w.heap.size + 1 ≠ w.heap.size:=by omega
 go_enter Tryz.func15,Tryz.ntmps15
 go_wp2_with fail
 rw [hW0.out]
 clear hW0
 refine (C0.out _ b0).mono ?_
 rintro e w1 ⟨pa',pc',rfl,r0,h0⟩
 have x0':=z0c x0 h0
 have y0':=z0c y0 h0
 have b0':Below w.heap.size w w1:=b0.trans (h0.mono b0.size)
 have l0:=hiT r0.lt
 have s0:=h0.size
 replace r0:=z0m r0 b0.size
 have i0:InW w.heap.size w1:=⟨lt_of_block x0'⟩
 have c0:w1.cell? ⟨w.heap.size,5,none⟩ = some (.slice pa s.past.length pc):=by rw [cell_of_row _ _ _ _ _ _ x0'];rfl
 have f0:=frozen_of_row w1 w.heap.size 5 _ _ x0'
 have k0:=z0b c0
 have d0:w1.cell? ⟨w.heap.size,6,none⟩ = some (.slice da s.data.length dc):=by rw [cell_of_row _ _ _ _ _ _ x0'];rfl
 obtain ⟨W1,hW1⟩:∃ X,w1.setCell ⟨w.heap.size,5,none⟩ (.slice pa' s.past.length pc') = X:=⟨_,rfl⟩
 have b1:Below w.heap.size w W1:=by rw [← hW1];exact b0'.setCell (p:=⟨w.heap.size,5,none⟩) (Nat.le_refl _) _
 have x1:W1.heap[w.heap.size]? = some (.cells #[.int .i64 s.status,.int .i64 s.moves,.int .i64 s.clock,.int .i64 s.seq,.int .u64 s.inn,.slice pa' s.past.length pc',.slice da s.data.length dc,.slice ia s.inner.length ic,.slice oa s.outer.length oc,.slice ta s.timers.length tc,.string s.event,.slice ka s.taken.length kc,.int .u64 s.ent,.slice ua s.out.length uc] 44 (0,0)):=by rw [← hW1];exact z0l x0'
 have y1:W1.heap[w.heap.size + 1]? = some (.cells #[.int .i64 0,.int .i64 0,.int .i64 0,.int .i64 0,.int .u64 0,.slice none 0 0,.slice none 0 0,.slice none 0 0,.slice none 0 0,.slice none 0 0,.string ⟨#[]⟩,.slice none 0 0,.int .u64 0,.slice none 0 0] 44 (0,0)):=by rw [← hW1];exact z0i y0' hne
 replace r0:W1.ownsRow w.heap.size 35 1 (.slice pa' s.past.length pc') s.past.length (s.past.flatMap sbC):=by rw [← hW1];exact ownsRow_setCell_other r0 (z0n r0 x0' deT) _
 have z1:W1.heap.size = w1.heap.size:=by rw [← hW1,World.size_setCell]
 replace hW1:=hiT hW1
 dsimp only
 go_wp2_with fail
 rw [hW1.out]
 clear hW1 i0 c0 f0 k0 d0 x0 x0' y0 y0' b0' h0 C0
 refine (C1.out _ b1).mono ?_
 rintro e w2 ⟨da',dc',rfl,r1,h1⟩
 have x1':=z0c x1 h1
 have y1':=z0c y1 h1
 have b1':Below w.heap.size w w2:=b1.trans (h1.mono b1.size)
 have l1:=hiT r1.lt
 have s1:=h1.size
 replace r1:=z0m r1 b1.size
 replace r0:=z0a r0 h1
 have i1:InW w.heap.size w2:=⟨lt_of_block x1'⟩
 have c1:w2.cell? ⟨w.heap.size,6,none⟩ = some (.slice da s.data.length dc):=by rw [cell_of_row _ _ _ _ _ _ x1'];rfl
 have f1:=frozen_of_row w2 w.heap.size 6 _ _ x1'
 have k1:=z0b c1
 have d1:w2.cell? ⟨w.heap.size,7,none⟩ = some (.slice ia s.inner.length ic):=by rw [cell_of_row _ _ _ _ _ _ x1'];rfl
 obtain ⟨W2,hW2⟩:∃ X,w2.setCell ⟨w.heap.size,6,none⟩ (.slice da' s.data.length dc') = X:=⟨_,rfl⟩
 have b2:Below w.heap.size w W2:=by rw [← hW2];exact b1'.setCell (p:=⟨w.heap.size,6,none⟩) (Nat.le_refl _) _
 have x2:W2.heap[w.heap.size]? = some (.cells #[.int .i64 s.status,.int .i64 s.moves,.int .i64 s.clock,.int .i64 s.seq,.int .u64 s.inn,.slice pa' s.past.length pc',.slice da' s.data.length dc',.slice ia s.inner.length ic,.slice oa s.outer.length oc,.slice ta s.timers.length tc,.string s.event,.slice ka s.taken.length kc,.int .u64 s.ent,.slice ua s.out.length uc] 44 (0,0)):=by rw [← hW2];exact z0l x1'
 have y2:W2.heap[w.heap.size + 1]? = some (.cells #[.int .i64 0,.int .i64 0,.int .i64 0,.int .i64 0,.int .u64 0,.slice none 0 0,.slice none 0 0,.slice none 0 0,.slice none 0 0,.slice none 0 0,.string ⟨#[]⟩,.slice none 0 0,.int .u64 0,.slice none 0 0] 44 (0,0)):=by rw [← hW2];exact z0i y1' hne
 replace r0:W2.ownsRow w.heap.size 35 1 (.slice pa' s.past.length pc') s.past.length (s.past.flatMap sbC):=by rw [← hW2];exact ownsRow_setCell_other r0 (z0n r0 x1' deT) _
 replace r1:W2.ownsRow w.heap.size 66 3 (.slice da' s.data.length dc') s.data.length (s.data.flatMap vlC):=by rw [← hW2];exact ownsRow_setCell_other r1 (z0n r1 x1' deT) _
 have z2:W2.heap.size = w2.heap.size:=by rw [← hW2,World.size_setCell]
 replace hW2:=hiT hW2
 dsimp only
 go_wp2_with fail
 rw [hW2.out]
 clear hW2 i1 c1 f1 k1 d1 x1 x1' y1 y1' b1' h1 C1
 refine (C2.out _ b2).mono ?_
 rintro e w3 ⟨ia',ic',rfl,r2,h2⟩
 have x2':=z0c x2 h2
 have y2':=z0c y2 h2
 have b2':Below w.heap.size w w3:=b2.trans (h2.mono b2.size)
 have l2:=hiT r2.lt
 have s2:=h2.size
 replace r2:=z0m r2 b2.size
 replace r0:=z0a r0 h2
 replace r1:=z0a r1 h2
 have i2:InW w.heap.size w3:=⟨lt_of_block x2'⟩
 have c2:w3.cell? ⟨w.heap.size,7,none⟩ = some (.slice ia s.inner.length ic):=by rw [cell_of_row _ _ _ _ _ _ x2'];rfl
 have f2:=frozen_of_row w3 w.heap.size 7 _ _ x2'
 have k2:=z0b c2
 have d2:w3.cell? ⟨w.heap.size,8,none⟩ = some (.slice oa s.outer.length oc):=by rw [cell_of_row _ _ _ _ _ _ x2'];rfl
 obtain ⟨W3,hW3⟩:∃ X,w3.setCell ⟨w.heap.size,7,none⟩ (.slice ia' s.inner.length ic') = X:=⟨_,rfl⟩
 have b3:Below w.heap.size w W3:=by rw [← hW3];exact b2'.setCell (p:=⟨w.heap.size,7,none⟩) (Nat.le_refl _) _
 have x3:W3.heap[w.heap.size]? = some (.cells #[.int .i64 s.status,.int .i64 s.moves,.int .i64 s.clock,.int .i64 s.seq,.int .u64 s.inn,.slice pa' s.past.length pc',.slice da' s.data.length dc',.slice ia' s.inner.length ic',.slice oa s.outer.length oc,.slice ta s.timers.length tc,.string s.event,.slice ka s.taken.length kc,.int .u64 s.ent,.slice ua s.out.length uc] 44 (0,0)):=by rw [← hW3];exact z0l x2'
 have y3:W3.heap[w.heap.size + 1]? = some (.cells #[.int .i64 0,.int .i64 0,.int .i64 0,.int .i64 0,.int .u64 0,.slice none 0 0,.slice none 0 0,.slice none 0 0,.slice none 0 0,.slice none 0 0,.string ⟨#[]⟩,.slice none 0 0,.int .u64 0,.slice none 0 0] 44 (0,0)):=by rw [← hW3];exact z0i y2' hne
 replace r0:W3.ownsRow w.heap.size 35 1 (.slice pa' s.past.length pc') s.past.length (s.past.flatMap sbC):=by rw [← hW3];exact ownsRow_setCell_other r0 (z0n r0 x2' deT) _
 replace r1:W3.ownsRow w.heap.size 66 3 (.slice da' s.data.length dc') s.data.length (s.data.flatMap vlC):=by rw [← hW3];exact ownsRow_setCell_other r1 (z0n r1 x2' deT) _
 replace r2:W3.ownsRow w.heap.size 9 1 (.slice ia' s.inner.length ic') s.inner.length (s.inner.flatMap z3j):=by rw [← hW3];exact ownsRow_setCell_other r2 (z0n r2 x2' deT) _
 have z3:W3.heap.size = w3.heap.size:=by rw [← hW3,World.size_setCell]
 replace hW3:=hiT hW3
 dsimp only
 go_wp2_with fail
 rw [hW3.out]
 clear hW3 i2 c2 f2 k2 d2 x2 x2' y2 y2' b2' h2 C2
 refine (C3.out _ b3).mono ?_
 rintro e w4 ⟨oa',oc',rfl,r3,h3⟩
 have x3':=z0c x3 h3
 have y3':=z0c y3 h3
 have b3':Below w.heap.size w w4:=b3.trans (h3.mono b3.size)
 have l3:=hiT r3.lt
 have s3:=h3.size
 replace r3:=z0m r3 b3.size
 replace r0:=z0a r0 h3
 replace r1:=z0a r1 h3
 replace r2:=z0a r2 h3
 have i3:InW w.heap.size w4:=⟨lt_of_block x3'⟩
 have c3:w4.cell? ⟨w.heap.size,8,none⟩ = some (.slice oa s.outer.length oc):=by rw [cell_of_row _ _ _ _ _ _ x3'];rfl
 have f3:=frozen_of_row w4 w.heap.size 8 _ _ x3'
 have k3:=z0b c3
 have d3:w4.cell? ⟨w.heap.size,9,none⟩ = some (.slice ta s.timers.length tc):=by rw [cell_of_row _ _ _ _ _ _ x3'];rfl
 obtain ⟨W4,hW4⟩:∃ X,w4.setCell ⟨w.heap.size,8,none⟩ (.slice oa' s.outer.length oc') = X:=⟨_,rfl⟩
 have b4:Below w.heap.size w W4:=by rw [← hW4];exact b3'.setCell (p:=⟨w.heap.size,8,none⟩) (Nat.le_refl _) _
 have x4:W4.heap[w.heap.size]? = some (.cells #[.int .i64 s.status,.int .i64 s.moves,.int .i64 s.clock,.int .i64 s.seq,.int .u64 s.inn,.slice pa' s.past.length pc',.slice da' s.data.length dc',.slice ia' s.inner.length ic',.slice oa' s.outer.length oc',.slice ta s.timers.length tc,.string s.event,.slice ka s.taken.length kc,.int .u64 s.ent,.slice ua s.out.length uc] 44 (0,0)):=by rw [← hW4];exact z0l x3'
 have y4:W4.heap[w.heap.size + 1]? = some (.cells #[.int .i64 0,.int .i64 0,.int .i64 0,.int .i64 0,.int .u64 0,.slice none 0 0,.slice none 0 0,.slice none 0 0,.slice none 0 0,.slice none 0 0,.string ⟨#[]⟩,.slice none 0 0,.int .u64 0,.slice none 0 0] 44 (0,0)):=by rw [← hW4];exact z0i y3' hne
 replace r0:W4.ownsRow w.heap.size 35 1 (.slice pa' s.past.length pc') s.past.length (s.past.flatMap sbC):=by rw [← hW4];exact ownsRow_setCell_other r0 (z0n r0 x3' deT) _
 replace r1:W4.ownsRow w.heap.size 66 3 (.slice da' s.data.length dc') s.data.length (s.data.flatMap vlC):=by rw [← hW4];exact ownsRow_setCell_other r1 (z0n r1 x3' deT) _
 replace r2:W4.ownsRow w.heap.size 9 1 (.slice ia' s.inner.length ic') s.inner.length (s.inner.flatMap z3j):=by rw [← hW4];exact ownsRow_setCell_other r2 (z0n r2 x3' deT) _
 replace r3:W4.ownsRow w.heap.size 9 1 (.slice oa' s.outer.length oc') s.outer.length (s.outer.flatMap z3j):=by rw [← hW4];exact ownsRow_setCell_other r3 (z0n r3 x3' deT) _
 have z4:W4.heap.size = w4.heap.size:=by rw [← hW4,World.size_setCell]
 replace hW4:=hiT hW4
 dsimp only
 go_wp2_with fail
 rw [hW4.out]
 clear hW4 i3 c3 f3 k3 d3 x3 x3' y3 y3' b3' h3 C3
 refine (C4.out _ b4).mono ?_
 rintro e w5 ⟨ta',tc',rfl,r4,h4⟩
 have x4':=z0c x4 h4
 have y4':=z0c y4 h4
 have b4':Below w.heap.size w w5:=b4.trans (h4.mono b4.size)
 have l4:=hiT r4.lt
 have s4:=h4.size
 replace r4:=z0m r4 b4.size
 replace r0:=z0a r0 h4
 replace r1:=z0a r1 h4
 replace r2:=z0a r2 h4
 replace r3:=z0a r3 h4
 have i4:InW w.heap.size w5:=⟨lt_of_block x4'⟩
 have c4:w5.cell? ⟨w.heap.size,9,none⟩ = some (.slice ta s.timers.length tc):=by rw [cell_of_row _ _ _ _ _ _ x4'];rfl
 have f4:=frozen_of_row w5 w.heap.size 9 _ _ x4'
 have k4:=z0b c4
 have d4:w5.cell? ⟨w.heap.size,11,none⟩ = some (.slice ka s.taken.length kc):=by rw [cell_of_row _ _ _ _ _ _ x4'];rfl
 obtain ⟨W5,hW5⟩:∃ X,w5.setCell ⟨w.heap.size,9,none⟩ (.slice ta' s.timers.length tc') = X:=⟨_,rfl⟩
 have b5:Below w.heap.size w W5:=by rw [← hW5];exact b4'.setCell (p:=⟨w.heap.size,9,none⟩) (Nat.le_refl _) _
 have x5:W5.heap[w.heap.size]? = some (.cells #[.int .i64 s.status,.int .i64 s.moves,.int .i64 s.clock,.int .i64 s.seq,.int .u64 s.inn,.slice pa' s.past.length pc',.slice da' s.data.length dc',.slice ia' s.inner.length ic',.slice oa' s.outer.length oc',.slice ta' s.timers.length tc',.string s.event,.slice ka s.taken.length kc,.int .u64 s.ent,.slice ua s.out.length uc] 44 (0,0)):=by rw [← hW5];exact z0l x4'
 have y5:W5.heap[w.heap.size + 1]? = some (.cells #[.int .i64 0,.int .i64 0,.int .i64 0,.int .i64 0,.int .u64 0,.slice none 0 0,.slice none 0 0,.slice none 0 0,.slice none 0 0,.slice none 0 0,.string ⟨#[]⟩,.slice none 0 0,.int .u64 0,.slice none 0 0] 44 (0,0)):=by rw [← hW5];exact z0i y4' hne
 replace r0:W5.ownsRow w.heap.size 35 1 (.slice pa' s.past.length pc') s.past.length (s.past.flatMap sbC):=by rw [← hW5];exact ownsRow_setCell_other r0 (z0n r0 x4' deT) _
 replace r1:W5.ownsRow w.heap.size 66 3 (.slice da' s.data.length dc') s.data.length (s.data.flatMap vlC):=by rw [← hW5];exact ownsRow_setCell_other r1 (z0n r1 x4' deT) _
 replace r2:W5.ownsRow w.heap.size 9 1 (.slice ia' s.inner.length ic') s.inner.length (s.inner.flatMap z3j):=by rw [← hW5];exact ownsRow_setCell_other r2 (z0n r2 x4' deT) _
 replace r3:W5.ownsRow w.heap.size 9 1 (.slice oa' s.outer.length oc') s.outer.length (s.outer.flatMap z3j):=by rw [← hW5];exact ownsRow_setCell_other r3 (z0n r3 x4' deT) _
 replace r4:W5.ownsRow w.heap.size 68 3 (.slice ta' s.timers.length tc') s.timers.length (s.timers.flatMap tmC):=by rw [← hW5];exact ownsRow_setCell_other r4 (z0n r4 x4' deT) _
 have z5:W5.heap.size = w5.heap.size:=by rw [← hW5,World.size_setCell]
 replace hW5:=hiT hW5
 dsimp only
 go_wp2_with fail
 rw [hW5.out]
 clear hW5 i4 c4 f4 k4 d4 x4 x4' y4 y4' b4' h4 C4
 refine (C5.out _ b5).mono ?_
 rintro e w6 ⟨ka',kc',rfl,r5,h5⟩
 have x5':=z0c x5 h5
 have y5':=z0c y5 h5
 have b5':Below w.heap.size w w6:=b5.trans (h5.mono b5.size)
 have l5:=hiT r5.lt
 have s5:=h5.size
 replace r5:=z0m r5 b5.size
 replace r0:=z0a r0 h5
 replace r1:=z0a r1 h5
 replace r2:=z0a r2 h5
 replace r3:=z0a r3 h5
 replace r4:=z0a r4 h5
 have i5:InW w.heap.size w6:=⟨lt_of_block x5'⟩
 have c5:w6.cell? ⟨w.heap.size,11,none⟩ = some (.slice ka s.taken.length kc):=by rw [cell_of_row _ _ _ _ _ _ x5'];rfl
 have f5:=frozen_of_row w6 w.heap.size 11 _ _ x5'
 have k5:=z0b c5
 have d5:w6.cell? ⟨w.heap.size,13,none⟩ = some (.slice ua s.out.length uc):=by rw [cell_of_row _ _ _ _ _ _ x5'];rfl
 obtain ⟨W6,hW6⟩:∃ X,w6.setCell ⟨w.heap.size,11,none⟩ (.slice ka' s.taken.length kc') = X:=⟨_,rfl⟩
 have b6:Below w.heap.size w W6:=by rw [← hW6];exact b5'.setCell (p:=⟨w.heap.size,11,none⟩) (Nat.le_refl _) _
 have x6:W6.heap[w.heap.size]? = some (.cells #[.int .i64 s.status,.int .i64 s.moves,.int .i64 s.clock,.int .i64 s.seq,.int .u64 s.inn,.slice pa' s.past.length pc',.slice da' s.data.length dc',.slice ia' s.inner.length ic',.slice oa' s.outer.length oc',.slice ta' s.timers.length tc',.string s.event,.slice ka' s.taken.length kc',.int .u64 s.ent,.slice ua s.out.length uc] 44 (0,0)):=by rw [← hW6];exact z0l x5'
 have y6:W6.heap[w.heap.size + 1]? = some (.cells #[.int .i64 0,.int .i64 0,.int .i64 0,.int .i64 0,.int .u64 0,.slice none 0 0,.slice none 0 0,.slice none 0 0,.slice none 0 0,.slice none 0 0,.string ⟨#[]⟩,.slice none 0 0,.int .u64 0,.slice none 0 0] 44 (0,0)):=by rw [← hW6];exact z0i y5' hne
 replace r0:W6.ownsRow w.heap.size 35 1 (.slice pa' s.past.length pc') s.past.length (s.past.flatMap sbC):=by rw [← hW6];exact ownsRow_setCell_other r0 (z0n r0 x5' deT) _
 replace r1:W6.ownsRow w.heap.size 66 3 (.slice da' s.data.length dc') s.data.length (s.data.flatMap vlC):=by rw [← hW6];exact ownsRow_setCell_other r1 (z0n r1 x5' deT) _
 replace r2:W6.ownsRow w.heap.size 9 1 (.slice ia' s.inner.length ic') s.inner.length (s.inner.flatMap z3j):=by rw [← hW6];exact ownsRow_setCell_other r2 (z0n r2 x5' deT) _
 replace r3:W6.ownsRow w.heap.size 9 1 (.slice oa' s.outer.length oc') s.outer.length (s.outer.flatMap z3j):=by rw [← hW6];exact ownsRow_setCell_other r3 (z0n r3 x5' deT) _
 replace r4:W6.ownsRow w.heap.size 68 3 (.slice ta' s.timers.length tc') s.timers.length (s.timers.flatMap tmC):=by rw [← hW6];exact ownsRow_setCell_other r4 (z0n r4 x5' deT) _
 replace r5:W6.ownsRow w.heap.size 3 1 (.slice ka' s.taken.length kc') s.taken.length (s.taken.flatMap inC):=by rw [← hW6];exact ownsRow_setCell_other r5 (z0n r5 x5' deT) _
 have z6:W6.heap.size = w6.heap.size:=by rw [← hW6,World.size_setCell]
 replace hW6:=hiT hW6
 dsimp only
 go_wp2_with fail
 rw [hW6.out]
 clear hW6 i5 c5 f5 k5 d5 x5 x5' y5 y5' b5' h5 C5
 refine (C6.out _ b6).mono ?_
 rintro e w7 ⟨ua',uc',rfl,r6,h6⟩
 have x6':=z0c x6 h6
 have y6':=z0c y6 h6
 have b6':Below w.heap.size w w7:=b6.trans (h6.mono b6.size)
 have l6:=hiT r6.lt
 have s6:=h6.size
 replace r6:=z0m r6 b6.size
 replace r0:=z0a r0 h6
 replace r1:=z0a r1 h6
 replace r2:=z0a r2 h6
 replace r3:=z0a r3 h6
 replace r4:=z0a r4 h6
 replace r5:=z0a r5 h6
 have i6:InW w.heap.size w7:=⟨lt_of_block x6'⟩
 have c6:w7.cell? ⟨w.heap.size,13,none⟩ = some (.slice ua s.out.length uc):=by rw [cell_of_row _ _ _ _ _ _ x6'];rfl
 have f6:=frozen_of_row w7 w.heap.size 13 _ _ x6'
 have k6:=z0b c6
 have g0:w7.cell? ⟨w.heap.size,0,none⟩ = some (.int .i64 s.status):=by rw [cell_of_row _ _ _ _ _ _ x6'];rfl
 have g1:w7.cell? ⟨w.heap.size,1,none⟩ = some (.int .i64 s.moves):=by rw [cell_of_row _ _ _ _ _ _ x6'];rfl
 have g2:w7.cell? ⟨w.heap.size,2,none⟩ = some (.int .i64 s.clock):=by rw [cell_of_row _ _ _ _ _ _ x6'];rfl
 have g3:w7.cell? ⟨w.heap.size,3,none⟩ = some (.int .i64 s.seq):=by rw [cell_of_row _ _ _ _ _ _ x6'];rfl
 have g4:w7.cell? ⟨w.heap.size,4,none⟩ = some (.int .u64 s.inn):=by rw [cell_of_row _ _ _ _ _ _ x6'];rfl
 have g5:w7.cell? ⟨w.heap.size,5,none⟩ = some (.slice pa' s.past.length pc'):=by rw [cell_of_row _ _ _ _ _ _ x6'];rfl
 have g6:w7.cell? ⟨w.heap.size,6,none⟩ = some (.slice da' s.data.length dc'):=by rw [cell_of_row _ _ _ _ _ _ x6'];rfl
 have g7:w7.cell? ⟨w.heap.size,7,none⟩ = some (.slice ia' s.inner.length ic'):=by rw [cell_of_row _ _ _ _ _ _ x6'];rfl
 have g8:w7.cell? ⟨w.heap.size,8,none⟩ = some (.slice oa' s.outer.length oc'):=by rw [cell_of_row _ _ _ _ _ _ x6'];rfl
 have g9:w7.cell? ⟨w.heap.size,9,none⟩ = some (.slice ta' s.timers.length tc'):=by rw [cell_of_row _ _ _ _ _ _ x6'];rfl
 have g10:w7.cell? ⟨w.heap.size,10,none⟩ = some (.string s.event):=by rw [cell_of_row _ _ _ _ _ _ x6'];rfl
 have g11:w7.cell? ⟨w.heap.size,11,none⟩ = some (.slice ka' s.taken.length kc'):=by rw [cell_of_row _ _ _ _ _ _ x6'];rfl
 have g12:w7.cell? ⟨w.heap.size,12,none⟩ = some (.int .u64 s.ent):=by rw [cell_of_row _ _ _ _ _ _ x6'];rfl
 have i7:InW (w.heap.size + 1) w7:=⟨lt_of_block y6'⟩
 have z0z:w7.cell? ⟨w.heap.size + 1,0,none⟩ = some (.int .i64 0):=by rw [cell_of_row _ _ _ _ _ _ y6'];rfl
 have e0:=z0b z0z
 have q0:=frozen_of_row w7 (w.heap.size + 1) 0 _ _ y6'
 have z1z:w7.cell? ⟨w.heap.size + 1,1,none⟩ = some (.int .i64 0):=by rw [cell_of_row _ _ _ _ _ _ y6'];rfl
 have e1:=z0b z1z
 have q1:=frozen_of_row w7 (w.heap.size + 1) 1 _ _ y6'
 have z2z:w7.cell? ⟨w.heap.size + 1,2,none⟩ = some (.int .i64 0):=by rw [cell_of_row _ _ _ _ _ _ y6'];rfl
 have e2:=z0b z2z
 have q2:=frozen_of_row w7 (w.heap.size + 1) 2 _ _ y6'
 have z3z:w7.cell? ⟨w.heap.size + 1,3,none⟩ = some (.int .i64 0):=by rw [cell_of_row _ _ _ _ _ _ y6'];rfl
 have e3:=z0b z3z
 have q3:=frozen_of_row w7 (w.heap.size + 1) 3 _ _ y6'
 have z4z:w7.cell? ⟨w.heap.size + 1,4,none⟩ = some (.int .u64 0):=by rw [cell_of_row _ _ _ _ _ _ y6'];rfl
 have e4:=z0b z4z
 have q4:=frozen_of_row w7 (w.heap.size + 1) 4 _ _ y6'
 have z5z:w7.cell? ⟨w.heap.size + 1,5,none⟩ = some (.slice none 0 0):=by rw [cell_of_row _ _ _ _ _ _ y6'];rfl
 have e5:=z0b z5z
 have q5:=frozen_of_row w7 (w.heap.size + 1) 5 _ _ y6'
 have z6z:w7.cell? ⟨w.heap.size + 1,6,none⟩ = some (.slice none 0 0):=by rw [cell_of_row _ _ _ _ _ _ y6'];rfl
 have e6:=z0b z6z
 have q6:=frozen_of_row w7 (w.heap.size + 1) 6 _ _ y6'
 have z7z:w7.cell? ⟨w.heap.size + 1,7,none⟩ = some (.slice none 0 0):=by rw [cell_of_row _ _ _ _ _ _ y6'];rfl
 have e7:=z0b z7z
 have q7:=frozen_of_row w7 (w.heap.size + 1) 7 _ _ y6'
 have z8z:w7.cell? ⟨w.heap.size + 1,8,none⟩ = some (.slice none 0 0):=by rw [cell_of_row _ _ _ _ _ _ y6'];rfl
 have e8:=z0b z8z
 have q8:=frozen_of_row w7 (w.heap.size + 1) 8 _ _ y6'
 have z9z:w7.cell? ⟨w.heap.size + 1,9,none⟩ = some (.slice none 0 0):=by rw [cell_of_row _ _ _ _ _ _ y6'];rfl
 have e9:=z0b z9z
 have q9:=frozen_of_row w7 (w.heap.size + 1) 9 _ _ y6'
 have z10z:w7.cell? ⟨w.heap.size + 1,10,none⟩ = some (.string ⟨#[]⟩):=by rw [cell_of_row _ _ _ _ _ _ y6'];rfl
 have e10:=z0b z10z
 have q10:=frozen_of_row w7 (w.heap.size + 1) 10 _ _ y6'
 have z11z:w7.cell? ⟨w.heap.size + 1,11,none⟩ = some (.slice none 0 0):=by rw [cell_of_row _ _ _ _ _ _ y6'];rfl
 have e11:=z0b z11z
 have q11:=frozen_of_row w7 (w.heap.size + 1) 11 _ _ y6'
 have z12z:w7.cell? ⟨w.heap.size + 1,12,none⟩ = some (.int .u64 0):=by rw [cell_of_row _ _ _ _ _ _ y6'];rfl
 have e12:=z0b z12z
 have q12:=frozen_of_row w7 (w.heap.size + 1) 12 _ _ y6'
 have z13z:w7.cell? ⟨w.heap.size + 1,13,none⟩ = some (.slice none 0 0):=by rw [cell_of_row _ _ _ _ _ _ y6'];rfl
 have e13:=z0b z13z
 have q13:=frozen_of_row w7 (w.heap.size + 1) 13 _ _ y6'
 have x7:(w7.setCell ⟨w.heap.size,13,none⟩ (.slice ua' s.out.length uc')).heap[w.heap.size + 1]? = some (.cells #[.int .i64 0,.int .i64 0,.int .i64 0,.int .i64 0,.int .u64 0,.slice none 0 0,.slice none 0 0,.slice none 0 0,.slice none 0 0,.slice none 0 0,.string ⟨#[]⟩,.slice none 0 0,.int .u64 0,.slice none 0 0] 44 (0,0)):=z0i y6' hne
 replace r0:=hiT (z2g (v0 := .int .i64 s.status) (v1 := .int .i64 s.moves) (v2 := .int .i64 s.clock) (v3 := .int .i64 s.seq) (v4 := .int .u64 s.inn) (v5 := .slice pa' s.past.length pc') (v6 := .slice da' s.data.length dc') (v7 := .slice ia' s.inner.length ic') (v8 := .slice oa' s.outer.length oc') (v9 := .slice ta' s.timers.length tc') (v10 := .string s.event) (v11 := .slice ka' s.taken.length kc') (v12 := .int .u64 s.ent) (v13 := .slice ua' s.out.length uc') (ownsRow_setCell_other (a:=⟨w.heap.size,13,none⟩) r0 (z0n r0 x6' deT) (.slice ua' s.out.length uc')) x7 deT)
 replace r1:=hiT (z2g (v0 := .int .i64 s.status) (v1 := .int .i64 s.moves) (v2 := .int .i64 s.clock) (v3 := .int .i64 s.seq) (v4 := .int .u64 s.inn) (v5 := .slice pa' s.past.length pc') (v6 := .slice da' s.data.length dc') (v7 := .slice ia' s.inner.length ic') (v8 := .slice oa' s.outer.length oc') (v9 := .slice ta' s.timers.length tc') (v10 := .string s.event) (v11 := .slice ka' s.taken.length kc') (v12 := .int .u64 s.ent) (v13 := .slice ua' s.out.length uc') (ownsRow_setCell_other (a:=⟨w.heap.size,13,none⟩) r1 (z0n r1 x6' deT) (.slice ua' s.out.length uc')) x7 deT)
 replace r2:=hiT (z2g (v0 := .int .i64 s.status) (v1 := .int .i64 s.moves) (v2 := .int .i64 s.clock) (v3 := .int .i64 s.seq) (v4 := .int .u64 s.inn) (v5 := .slice pa' s.past.length pc') (v6 := .slice da' s.data.length dc') (v7 := .slice ia' s.inner.length ic') (v8 := .slice oa' s.outer.length oc') (v9 := .slice ta' s.timers.length tc') (v10 := .string s.event) (v11 := .slice ka' s.taken.length kc') (v12 := .int .u64 s.ent) (v13 := .slice ua' s.out.length uc') (ownsRow_setCell_other (a:=⟨w.heap.size,13,none⟩) r2 (z0n r2 x6' deT) (.slice ua' s.out.length uc')) x7 deT)
 replace r3:=hiT (z2g (v0 := .int .i64 s.status) (v1 := .int .i64 s.moves) (v2 := .int .i64 s.clock) (v3 := .int .i64 s.seq) (v4 := .int .u64 s.inn) (v5 := .slice pa' s.past.length pc') (v6 := .slice da' s.data.length dc') (v7 := .slice ia' s.inner.length ic') (v8 := .slice oa' s.outer.length oc') (v9 := .slice ta' s.timers.length tc') (v10 := .string s.event) (v11 := .slice ka' s.taken.length kc') (v12 := .int .u64 s.ent) (v13 := .slice ua' s.out.length uc') (ownsRow_setCell_other (a:=⟨w.heap.size,13,none⟩) r3 (z0n r3 x6' deT) (.slice ua' s.out.length uc')) x7 deT)
 replace r4:=hiT (z2g (v0 := .int .i64 s.status) (v1 := .int .i64 s.moves) (v2 := .int .i64 s.clock) (v3 := .int .i64 s.seq) (v4 := .int .u64 s.inn) (v5 := .slice pa' s.past.length pc') (v6 := .slice da' s.data.length dc') (v7 := .slice ia' s.inner.length ic') (v8 := .slice oa' s.outer.length oc') (v9 := .slice ta' s.timers.length tc') (v10 := .string s.event) (v11 := .slice ka' s.taken.length kc') (v12 := .int .u64 s.ent) (v13 := .slice ua' s.out.length uc') (ownsRow_setCell_other (a:=⟨w.heap.size,13,none⟩) r4 (z0n r4 x6' deT) (.slice ua' s.out.length uc')) x7 deT)
 replace r5:=hiT (z2g (v0 := .int .i64 s.status) (v1 := .int .i64 s.moves) (v2 := .int .i64 s.clock) (v3 := .int .i64 s.seq) (v4 := .int .u64 s.inn) (v5 := .slice pa' s.past.length pc') (v6 := .slice da' s.data.length dc') (v7 := .slice ia' s.inner.length ic') (v8 := .slice oa' s.outer.length oc') (v9 := .slice ta' s.timers.length tc') (v10 := .string s.event) (v11 := .slice ka' s.taken.length kc') (v12 := .int .u64 s.ent) (v13 := .slice ua' s.out.length uc') (ownsRow_setCell_other (a:=⟨w.heap.size,13,none⟩) r5 (z0n r5 x6' deT) (.slice ua' s.out.length uc')) x7 deT)
 replace r6:=hiT (z2g (v0 := .int .i64 s.status) (v1 := .int .i64 s.moves) (v2 := .int .i64 s.clock) (v3 := .int .i64 s.seq) (v4 := .int .u64 s.inn) (v5 := .slice pa' s.past.length pc') (v6 := .slice da' s.data.length dc') (v7 := .slice ia' s.inner.length ic') (v8 := .slice oa' s.outer.length oc') (v9 := .slice ta' s.timers.length tc') (v10 := .string s.event) (v11 := .slice ka' s.taken.length kc') (v12 := .int .u64 s.ent) (v13 := .slice ua' s.out.length uc') (ownsRow_setCell_other (a:=⟨w.heap.size,13,none⟩) r6 (z0n r6 x6' deT) (.slice ua' s.out.length uc')) x7 deT)
 have hfin:=hiT (z8s (b:=w.heap.size + 1) (v0 := .int .i64 s.status) (v1 := .int .i64 s.moves) (v2 := .int .i64 s.clock) (v3 := .int .i64 s.seq) (v4 := .int .u64 s.inn) (v5 := .slice pa' s.past.length pc') (v6 := .slice da' s.data.length dc') (v7 := .slice ia' s.inner.length ic') (v8 := .slice oa' s.outer.length oc') (v9 := .slice ta' s.timers.length tc') (v10 := .string s.event) (v11 := .slice ka' s.taken.length kc') (v12 := .int .u64 s.ent) (v13 := .slice ua' s.out.length uc') (b6'.setCell (p:=⟨w.heap.size,13,none⟩) (Nat.le_refl _) (.slice ua' s.out.length uc')) (Nat.le_succ _))
 have a1:q2n (.slice ia' s.inner.length ic') (.slice oa' s.outer.length oc'):=fun g h1 h2=>by
  have t1:=l2.out g h1
  have t2:=l3.out g h2
  omega
 have a2:q2n (.slice ia' s.inner.length ic') (.slice ua' s.out.length uc'):=fun g h1 h2=>by
  have t1:=l2.out g h1
  have t2:=l6.out g h2
  omega
 have a3:q2n (.slice oa' s.outer.length oc') (.slice ua' s.out.length uc'):=fun g h1 h2=>by
  have t1:=l3.out g h1
  have t2:=l6.out g h2
  omega
 have hA:=hiT (And.intro a1 (And.intro a2 a3))
 clear a1 a2 a3 l0 l1 l2 l3 l4 l5 l6 x6 y6 x6' y6' x7 b6 b6' h6 hne z1 z2 z3 z4 z5 z6 s0 s1 s2 s3 s4 s5 s6
 dsimp only
 go_wp2
 go_returns
 exact ⟨pa',pc',da',dc',ia',ic',oa',oc',ta',tc',ka',kc',ua',uc',rfl,⟨r0.out,r1.out,r2.out,r3.out,r4.out,r5.out,r6.out,hA.out.1,hA.out.2.1,hA.out.2.2⟩,hfin.out⟩
end Go.Proofs.YtacnlghljmgdiaaGreatDoor
