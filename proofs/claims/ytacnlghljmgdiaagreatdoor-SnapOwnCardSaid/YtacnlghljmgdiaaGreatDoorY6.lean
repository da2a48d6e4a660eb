/- Several texts of this proof, joined: XF, XG, XK, XO, XP, AP. -/
import Derived.Test.YtacnlghljmgdiaaGreatDoorY5
import Derived.Test.YtacnlghljmgdiaaGreatDoorZ1
import Derived.WalkKit
import Derived.ProofKit
import Derived.OpenShut
import Derived.Handy
import Derived.BigQuiet
import Derived.Lib.Hide
import Derived.WalkLawsBesides
import Derived.WalkSmall
import Derived.Test.YtacnlghljmgdiaaGreatDoorZ7
namespace Go.Proofs.YtacnlghljmgdiaaGreatDoor
def j7v (i:Nat) (op:List Nat) (n:Nd):Option (List Nat) :=
 if op.length < cnt n.op then none else if nright n ((op.take (cnt n.op)).reverse.map fun (p:Nat)=>(p:Int)) then some (i :: op.drop (cnt n.op)) else none
def q3t:Nat → List Nat → List Nd → Option (List Nat)
 | _,op,[]=>some op
 | i,op,n :: r =>
  match j7v i op n with
  | some op'=>q3t (i + 1) op' r
  | none=>none
theorem z7k:∀ (ns:List Nd) (i:Nat) (op:List Nat),z5d i op ns = match q3t i op ns with | some st=>st.length == 1 | none=>false
 | [],_,_=>rfl
 | n :: r,i,op=>by
  rw [z5d,q3t]
  unfold j7v
  split
  ·rfl
  ·split
   ·exact z7k r (i + 1) _
   ·rfl
structure TkOk (t:Tk):Prop where
 word:t.k = 1 → z4k t.s = false → nmB t.s = true ∧ t.s.length ≤ 32
 num:t.k = 3 → 0 ≤ t.n ∧ I64 t.n
 quo:t.k = 4 → z5c t.s = true ∧ t.s.length ≤ 48
theorem v0e {l:List UInt8} {t:List UInt8} {n:Int} {z:Nat} (h:z9b l = .ok (3,t,n,z)):0 ≤ n ∧ I64 n:=by
 cases l with
 | nil=>cases h
 | cons c r =>
  rw [z9b] at h
  split at h
  ·obtain ⟨hk,_⟩:=q0o h
   omega
  ·split at h
   ·unfold j0c at h
    simp only at h
    split at h
    ·cases h
    ·split at h
     ·cases h
     ·simp only [Except.ok.injEq,Prod.mk.injEq] at h
      obtain ⟨_,_,rfl,_⟩:=h
      unfold I64
      omega
   ·split at h
    ·unfold j0d at h
     simp only at h
     repeat' split at h
     all_goals first | cases h | (simp at h)
    ·unfold q2m at h
     repeat' split at h
     all_goals first | cases h | (simp at h)
theorem v0f {l:List UInt8} {t:List UInt8} {n:Int} {z:Nat} (h:z9b l = .ok (4,t,n,z)):z5c t = true ∧ t.length ≤ 48:=by
 cases l with
 | nil=>cases h
 | cons c r =>
  rw [z9b] at h
  split at h
  ·obtain ⟨hk,_⟩:=q0o h
   omega
  ·split at h
   ·obtain ⟨hk,_⟩:=q3k h
    omega
   ·split at h
    ·unfold j0d at h
     simp only at h
     split at h
     ·cases h
     ·split at h
      ·cases h
      ·split at h
       ·simp only [Except.ok.injEq,Prod.mk.injEq] at h
        obtain ⟨_,rfl,_,_⟩:=h
        refine ⟨‹_›,?_⟩
        rw [List.length_take]
        omega
       ·cases h
    ·unfold q2m at h
     repeat' split at h
     all_goals first | cases h | (simp at h)
theorem k4j {l:List UInt8} {t:List UInt8} {n:Int} {z:Nat} (h:z9b l = .ok (1,t,n,z)):t.length ≤ 32 ∧ z5k t = 1:=by
 constructor
 ·cases l with
  | nil=>cases h
  | cons c r =>
   rw [z9b] at h
   split at h
   ·unfold z9d at h
    simp only at h
    split at h
    ·cases h
    ·rename_i hlen
     simp only [Except.ok.injEq,Prod.mk.injEq] at h
     obtain ⟨_,rfl,_,_⟩:=h
     simp only [Bool.or_eq_true,decide_eq_true_eq,not_or] at hlen
     omega
   ·split at h
    ·obtain ⟨hk,_⟩:=q3k h
     omega
    ·split at h
     ·unfold j0d at h
      simp only at h
      repeat' split at h
      all_goals first | cases h | (simp at h)
     ·unfold q2m at h
      repeat' split at h
      all_goals first | cases h | (simp at h)
 ·have h2:=y7v (r:=[]) (.inl rfl) h
  have hf:z5q 1 t = t:=by unfold z5q;rw [if_neg deT]
  rw [hf,List.append_nil] at h2
  cases t with
  | nil=>cases h2
  | cons c r =>
   have hnb:((c.toNat:Int) == 32) = false:=by
    rw [← Bool.not_eq_true]
    intro h32
    rw [show ((c.toNat:Int) == 32) = (c == 32) from z5f c 32 deT,beq_iff_eq] at h32
    subst h32
    rw [y7w] at h2
    cases h2
   unfold z5k
   rw [y2k 119 0 c r 1 (c :: r) n (c :: r).length hnb h2,List.drop_length,y2j]
   simp [pre]
theorem k1h {m a:Nat} {l:List UInt8} {ts:List Tk} (h:z5b m a l = .ok ts):∀ t ∈ ts,TkOk t:=by
 intro t ht
 obtain ⟨l',z,hz⟩:=k1f h t ht
 refine ⟨fun hk hm=>?_,fun hk=>?_,fun hk=>?_⟩
 ·rw [hk] at hz
  obtain ⟨h1,h2⟩:=k4j hz
  refine ⟨?_,h1⟩
  unfold nmB
  rw [h2,hm]
  rfl
 ·rw [hk] at hz
  exact v0e hz
 ·rw [hk] at hz
  exact v0f hz
section
variable {ts:List Tk}
end
structure Ahead (j:Nat) (n:Nd):Prop where
 range:n.op = 0 ∨ (1 ≤ n.op ∧ n.op ≤ 15) ∨ n.op = 16 ∨ n.op = 17
 l:1 ≤ n.op → n.op ≤ 15 → ∃ a:Nat,n.l = a ∧ a < j
 r:3 ≤ n.op → n.op ≤ 15 → ∃ a:Nat,n.r = a ∧ a < j
theorem y7o {i:Nat} {op op':List Nat} {n:Nd} (hp:∀ p ∈ op,p < i) (h:j7v i op n = some op'):Ahead i n ∧ ∀ p ∈ op',p < i + 1:=by
 unfold j7v at h
 split at h
 ·cases h
 ·rename_i hl
  split at h
  ·rename_i hr
   cases h
   refine ⟨?_,fun p hq=>?_⟩
   ·unfold nright at hr
    split at hr
    ·rename_i h0
     exact ⟨.inl h0,fun h=>by omega,fun h=>by omega⟩
    ·split at hr
     ·rename_i h0 h1
      exact ⟨.inr (.inr h1),fun h _=>by omega,fun h _=>by omega⟩
     ·split at hr
      ·rename_i h0 h1 h2
       have hc:=y1v h2
       simp only [Bool.and_eq_true,beq_iff_eq] at hr
       obtain ⟨⟨_,el⟩,er⟩:=hr
       have hlen:(op.take (cnt n.op)).length = cnt n.op:=by rw [List.length_take];omega
       have hget:∀ k,k < cnt n.op → ∃ a:Nat,((op.take (cnt n.op)).reverse.map fun (p:Nat)=>(p:Int)).getD k 0 = (a:Int) ∧ a < i:=by
        intro k hk
        have hk':k < (op.take (cnt n.op)).reverse.length:=by rw [List.length_reverse];omega
        refine ⟨(op.take (cnt n.op)).reverse[k],?_,hp _ ?_⟩
        ·rw [List.getD_eq_getElem?_getD,List.getElem?_map,List.getElem?_eq_getElem hk']
         rfl
        ·have:=List.getElem_mem hk'
         rw [List.mem_reverse] at this
         exact List.mem_of_mem_take this
       refine ⟨.inr (.inl h2),fun _ _=>?_,fun h3 _=>?_⟩
       ·obtain ⟨a,ha,hlt⟩:=hget 0 omT
        exact ⟨a,by rw [el,ha],hlt⟩
       ·rw [if_pos h3] at hc
        obtain ⟨a,ha,hlt⟩:=hget 1 omT
        exact ⟨a,by rw [er,ha],hlt⟩
      ·cases hr
   ·rcases List.mem_cons.1 hq with rfl | hq
    ·omega
    ·have:=hp p (List.mem_of_mem_drop hq)
     omega
  ·cases h
theorem q9f:∀ (ns:List Nd) (i:Nat) (op st:List Nat),(∀ p ∈ op,p < i) → q3t i op ns = some st → ∀ j (h:j < ns.length),Ahead (i + j) ns[j]
 | [],_,_,_,_,_,j,hj=>absurd hj (Nat.not_lt_zero _)
 | n :: r,i,op,st,hp,h,j,hj=>by
  rw [q3t] at h
  split at h
  ·rename_i op' hs
   obtain ⟨h1,h2⟩:=y7o hp hs
   cases j with
   | zero=>exact h1
   | succ j =>
    have:=q9f r (i + 1) op' st h2 h j (by simpa using hj)
    rw [show i + (j + 1) = i + 1 + j by omega]
    exact this
  ·cases h
theorem y0p {ns:List Nd} (h:z5t ns = true):∀ j (hj:j < ns.length),Ahead j ns[j]:=by
 unfold z5t at h
 split at h
 ·cases h
 ·rw [z7k] at h
  split at h
  ·rename_i st hs
   intro j hj
   have:=q9f ns 0 [] st (fun p h=>by cases h) hs j hj
   rw [Nat.zero_add] at this
   exact this
  ·cases h
inductive Tree (ns:List Nd):Nat → Nat → Prop
 | leaf {i:Nat} {n:Nd} (hn:ns[i]? = some n) (hc:n.op = 0 ∨ n.op = 16 ∨ n.op = 17):Tree ns i i
 | one {lo a:Nat} {n:Nd} (hn:ns[a + 1]? = some n) (hc:n.op = 1 ∨ n.op = 2) (hl:n.l = (a:Int)) (ha:Tree ns lo a):Tree ns lo (a + 1)
 | two {lo a b:Nat} {n:Nd} (hn:ns[b + 1]? = some n) (hc:3 ≤ n.op ∧ n.op ≤ 15) (hl:n.l = (a:Int)) (hr:n.r = (b:Int)) (ha:Tree ns lo a) (hb:Tree ns (a + 1) b):Tree ns lo (b + 1)
theorem Tree.le {ns:List Nd} {lo i:Nat} (h:Tree ns lo i):lo ≤ i:=by
 induction h with
 | leaf=>exact Nat.le_refl _
 | one _ _ _ _ ih=>omega
 | two _ _ _ _ _ _ ih1 ih2=>omega
theorem Tree.lt {ns:List Nd} {lo i:Nat} (h:Tree ns lo i):i < ns.length:=by
 cases h with
 | leaf hn=>exact (List.getElem?_eq_some_iff.1 hn).1
 | one hn=>exact (List.getElem?_eq_some_iff.1 hn).1
 | two hn=>exact (List.getElem?_eq_some_iff.1 hn).1
theorem Tree.grow {ns:List Nd} {lo i:Nat} (h:Tree ns lo i) (ms:List Nd):Tree (ns ++ ms) lo i:=by
 have e:∀ {k:Nat} {n:Nd},ns[k]? = some n → (ns ++ ms)[k]? = some n:=fun {k n} hk=>by
  rw [List.getElem?_append_left (List.getElem?_eq_some_iff.1 hk).1];exact hk
 induction h with
 | leaf hn hc=>exact .leaf (e hn) hc
 | one hn hc hl _ ih=>exact .one (e hn) hc hl ih
 | two hn hc hl hr _ _ ih1 ih2=>exact .two (e hn) hc hl hr ih1 ih2
inductive Cover (ns:List Nd):List Nat → Nat → Prop
 | nil:Cover ns [] 0
 | cons {p lo:Nat} {st:List Nat} (ht:Tree ns lo p) (hs:Cover ns st lo):Cover ns (p :: st) (p + 1)
theorem Cover.grow {ns:List Nd} {st:List Nat} {k:Nat} (h:Cover ns st k) (ms:List Nd):Cover (ns ++ ms) st k:=by
 induction h with
 | nil=>exact .nil
 | cons ht _ ih=>exact .cons (ht.grow ms) ih
theorem y6v {n:Nd} {ps:List Int} (h:nright n ps = true):(n.op = 0 ∨ n.op = 16 ∨ n.op = 17) ∨ (1 ≤ n.op ∧ n.op ≤ 15) ∧ n.l = ps.getD 0 0 ∧ n.r = ps.getD 1 0:=by
 unfold nright at h
 split at h
 ·rename_i h0
  exact .inl (.inl h0)
 ·split at h
  ·rename_i h1
   exact .inl (.inr h1)
  ·split at h
   ·rename_i h2
    simp only [Bool.and_eq_true,beq_iff_eq] at h
    exact .inr ⟨h2,h.1.2,h.2⟩
   ·cases h
theorem y7p {ns:List Nd} {op op':List Nat} {n:Nd} (hc:Cover ns op ns.length) (h:j7v ns.length op n = some op'):Cover (ns ++ [n]) op' (ns ++ [n]).length:=by
 have hn:(ns ++ [n])[ns.length]? = some n:=by simp
 have hlen:(ns ++ [n]).length = ns.length + 1:=by simp
 rw [hlen]
 unfold j7v at h
 split at h
 ·cases h
 ·rename_i hl
  split at h
  ·rename_i hr
   cases h
   rcases y6v hr with hk | ⟨hk,el,er⟩
   ·have h0:cnt n.op = 0:=by rcases hk with h | h | h <;> rw [h] <;> rfl
    rw [h0,List.drop_zero]
    exact .cons (.leaf hn hk) (hc.grow [n])
   ·have hcn:=y1v hk
    by_cases h3:3 ≤ n.op
    ·rw [if_pos h3] at hcn
     rw [hcn] at hl el er ⊢
     match op,hc,hl,el,er with
     | [],_,hl,_,_=>simp at hl
     | [_],_,hl,_,_=>simp at hl
     | b :: a :: st,hc,_,el,er =>
      generalize hL:ns.length = L at hc hn
      cases hc with
      | cons ht hs =>
       cases hs with
       | cons ht2 hs2 =>
        have hl':n.l = (a:Int):=by rw [el];rfl
        have hr':n.r = (b:Int):=by rw [er];rfl
        exact .cons (.two hn ⟨h3,hk.2⟩ hl' hr' (ht2.grow [n]) (ht.grow [n])) (hs2.grow [n])
    ·rw [if_neg h3] at hcn
     rw [hcn] at hl el er ⊢
     match op,hc,hl,el,er with
     | [],_,hl,_,_=>simp at hl
     | a :: st,hc,_,el,_ =>
      generalize hL:ns.length = L at hc hn
      cases hc with
      | cons ht hs =>
       have hl':n.l = (a:Int):=by rw [el];rfl
       exact .cons (.one hn omT hl' (ht.grow [n])) (hs.grow [n])
  ·cases h
theorem q9g:∀ (ms ns:List Nd) (op st:List Nat),Cover ns op ns.length → q3t ns.length op ms = some st → Cover (ns ++ ms) st (ns ++ ms).length
 | [],ns,op,st,hc,h=>by
  cases h
  rw [List.append_nil]
  exact hc
 | n :: r,ns,op,st,hc,h=>by
  rw [q3t] at h
  split at h
  ·rename_i op' hs
   have h1:=y7p hc hs
   have e:(ns ++ [n]).length = ns.length + 1:=by simp
   have:=q9g r (ns ++ [n]) op' st h1 (by rw [e];exact h)
   rw [List.append_assoc,List.singleton_append] at this
   exact this
  ·cases h
theorem j4x {ns:List Nd} (h:z5t ns = true):0 < ns.length ∧ Tree ns 0 (ns.length - 1):=by
 unfold z5t at h
 split at h
 ·cases h
 ·rw [z7k] at h
  split at h
  ·rename_i st hs
   have hc:=q9g ns [] [] st .nil hs
   rw [List.nil_append] at hc
   rw [beq_iff_eq] at h
   match st,h,hc with
   | [p],_,hc =>
    generalize hL:ns.length = L at hc ⊢
    cases hc with
    | cons ht hs2 =>
     generalize hz:([]:List Nat) = q at hs2
     cases hs2 with
     | nil=>exact ⟨by omega,by simpa using ht⟩
     | cons _ _=>cases hz
  ·cases h
section
variable (own:Nd → Int → Int → Except Int Int)
def k1k:List Int → List Nd → Except (Int × Nat) (List Int)
 | ks,[] => .ok ks
 | ks,n :: r =>
  match own n (ks.getD n.l.toNat 0) (ks.getD n.r.toNat 0) with
  | .error x => .error (x,ks.length)
  | .ok k=>k1k (ks ++ [k]) r
variable {own}
end
end Go.Proofs.YtacnlghljmgdiaaGreatDoor
namespace Go.Proofs.YtacnlghljmgdiaaGreatDoor
open Go.RowKit
def z8u:List (ByteArray × Int) → ByteArray → Option Int
 | [],_=>none
 | (s,k) :: r,x=>if s.toList == x.toList then some k else z8u r x
def y0g (vs:List (ByteArray × Int)) (ss:List ByteArray) (n:Nd) (a b:Int):Except Int Int :=
 if n.op = 0 then .ok n.k
 else if n.op = 16 then (match z8u vs ⟨n.name.toArray⟩ with | some k => .ok k | none => .error 24)
 else if n.op = 17 then (if j3i ss ⟨n.name.toArray⟩ then .ok 2 else .error 24)
 else if j1s n.op a (if n.op ≤ 2 then 0 else b) = 0 then .error 20 else .ok (j1s n.op a (if n.op ≤ 2 then 0 else b))
def q2p (w:World) (ao:Option Addr) (vs:List (ByteArray × Int)):Prop:=0 < vs.length → ∃ g o,ao = some ⟨g,o,none⟩ ∧ g < w.heap.size ∧ ∀ i (h:i < vs.length),w.cell? ⟨g,o + i * 2,none⟩ = some (.string vs[i].1) ∧ w.cell? ⟨g,o + i * 2 + 1,none⟩ = some (.int .i64 vs[i].2)
def q2o (w:World) (ao:Option Addr) (ss:List ByteArray):Prop:=0 < ss.length → ∃ g o,ao = some ⟨g,o,none⟩ ∧ g < w.heap.size ∧ ∀ i (h:i < ss.length),w.cell? ⟨g,o + i,none⟩ = some (.string ss[i])
theorem z3m {w w':World} {ao:Option Addr} {vs:List (ByteArray × Int)} (h:q2p w ao vs) (hb:Below w.heap.size w w'):q2p w' ao vs:=by
 intro h0
 obtain ⟨g,o,e,hg,hc⟩:=h h0
 refine ⟨g,o,e,Nat.lt_of_lt_of_le hg hb.size,fun i hi=>?_⟩
 obtain ⟨h1,h2⟩:=hc i hi
 exact ⟨(hb.cell (p:=⟨g,_,none⟩) hg).trans h1,(hb.cell (p:=⟨g,_,none⟩) hg).trans h2⟩
theorem z5i {w w':World} {ao:Option Addr} {ss:List ByteArray} (h:q2o w ao ss) (hb:Below w.heap.size w w'):q2o w' ao ss:=by
 intro h0
 obtain ⟨g,o,e,hg,hc⟩:=h h0
 exact ⟨g,o,e,Nat.lt_of_lt_of_le hg hb.size,fun i hi=>(hb.cell (p:=⟨g,_,none⟩) hg).trans (hc i hi)⟩
theorem y4o {vs:List (ByteArray × Int)} {x:ByteArray} {i:Nat} (h:i < vs.length) (hne:(vs[i].1.toList == x.toList) = false) (hp:z8u vs x = z8u (vs.drop i) x):z8u vs x = z8u (vs.drop (i + 1)) x:=by
 rw [hp,List.drop_eq_getElem_cons h]
 generalize vs[i] = v at *
 obtain ⟨s,k⟩:=v
 simp only at hne
 rw [z8u,hne]
 rfl
theorem k0a {vs:List (ByteArray × Int)} {x:ByteArray} {i:Nat} (h:i < vs.length) (he:(vs[i].1.toList == x.toList) = true) (hp:z8u vs x = z8u (vs.drop i) x):z8u vs x = some vs[i].2:=by
 rw [hp,List.drop_eq_getElem_cons h]
 generalize vs[i] = v at *
 obtain ⟨s,k⟩:=v
 simp only at he
 rw [z8u,he]
 rfl
theorem k8j {vs:List (ByteArray × Int)} {ss:List ByteArray} {n:Nd} {a b x:Int} (h:y0g vs ss n a b = .error x):x = 24 ∨ x = 20:=by
 unfold y0g at h
 repeat' split at h
 all_goals first | cases h
 all_goals first | exact .inl rfl | exact .inr rfl
end Go.Proofs.YtacnlghljmgdiaaGreatDoor
namespace Go.Proofs.YtacnlghljmgdiaaGreatDoor
def key (t:Tk):Int × List UInt8 × Int:=(t.k,t.s,t.n)
section
variable {T ts:List Tk} {o w0:Nat} {N:List Nd} {P:List Nat} {W:List Int}
end
structure Ac where
 kind:Int
 cond:List Nd
 name:List UInt8
 x:List Nd
 n:Int
def z7w (ts:List Tk) (a:Nat):Int :=
 if z2t ts a [115,101,116] then 1 else if z2t ts a [114,97,105,115,101] then 2 else if z2t ts a [115,101,110,100] then 3 else if z2t ts a [99,97,110,99,101,108] then 4 else if z2t ts a [108,111,103] then 5 else 0
def z9u (event:Bool) (s:List UInt8):Bool:=if event then (z5k s == 1 || z5k s == 2) && !z4k s else z5k s == 1 && !z4k s
def z3n (event:Bool) (ts:List Tk) (a:Nat):Option (List UInt8) :=
 match ts[a]? with
 | some t=>if (t.k == 1 || t.k == 2) && z9u event t.s then some t.s else none
 | none=>none
def j0b (ts:List Tk) (a:Nat):Option Int :=
 match ts[a]? with
 | some t=>if t.k == 3 then some t.n else none
 | none=>none
def z9h (ts:List Tk) (cond:List Nd) (k:Int) (name:List UInt8) (a:Nat):Except Int (Ac × Nat) :=
 if k = 1 ∨ k = 5 then
  match z3f ts (a:Int) with
  | .error x => .error x
  | .ok (ns,n) => .ok (⟨k,cond,name,ns,0⟩,n)
 else if k = 3 then
  match j0b ts a with
  | none => .error 11
  | some n=>if 1048576 < n then .error 10 else .ok (⟨k,cond,name,[],n⟩,a + 1)
 else .ok (⟨k,cond,name,[],0⟩,a)
def doA (ts:List Tk) (cond:List Nd) (a:Nat):Except Int (Ac × Nat) :=
 if z7w ts a = 0 then .error 11
 else if z7w ts a = 5 then z9h ts cond 5 [] (a + 1)
 else match z3n (decide (1 < z7w ts a)) ts (a + 1) with
  | none => .error 11
  | some name=>z9h ts cond (z7w ts a) name (a + 2)
def y2r (ts:List Tk) (a:Nat):Except Int (Ac × Nat) :=
 if z2t ts a [105,102] then
  match z3f ts ((a + 1:Nat):Int) with
  | .error x => .error x
  | .ok (ns,n)=>if z2t ts n [58] then doA ts ns (n + 1) else .error 11
 else doA ts [] a
def z7t:Nat → List Tk → Nat → Except Int (List Ac × Nat)
 | 0,_,_ => .error 13
 | f + 1,ts,a =>
  match y2r ts a with
  | .error x => .error x
  | .ok (c,n) =>
   if z2t ts n [59] then
    match z7t f ts (n + 1) with
    | .error x => .error x
    | .ok (cs,q) => .ok (c :: cs,q)
   else .ok ([c],n)
def z9a (ts:List Tk) (a:Int):Except Int (List Ac × Nat) :=
 if a < 0 ∨ (ts.length:Int) < a then .error 11 else z7t 8 ts a.toNat
section
variable {T ts:List Tk} {o:Nat}
end
section
variable {ts:List Tk} {c:Tk} {rest:List Tk}
theorem j2u {ts:List Tk} {a:Nat} (h:¬ z7w ts a = 0):a < ts.length:=by
 unfold z7w at h
 repeat' split at h
 all_goals first | exact z4w ‹_› | exact absurd rfl h
theorem q4h {ts:List Tk} {e:Bool} {a:Nat} {s:List UInt8} (h:z3n e ts a = some s):a < ts.length:=by
 unfold z3n at h
 rcases Nat.lt_or_ge a ts.length with h1 | h1
 ·exact h1
 ·rw [List.getElem?_eq_none h1] at h;cases h
theorem y2o {ts:List Tk} {a:Nat} {n:Int} (h:j0b ts a = some n):a < ts.length:=by
 unfold j0b at h
 rcases Nat.lt_or_ge a ts.length with h1 | h1
 ·exact h1
 ·rw [List.getElem?_eq_none h1] at h;cases h
theorem y3l {ts:List Tk} {cond:List Nd} {k:Int} {name:List UInt8} {a:Nat} (h:a ≤ ts.length) {x:Ac × Nat} (e:z9h ts cond k name a = .ok x):x.2 ≤ ts.length:=by
 unfold z9h at e
 split at e
 ·split at e
  ·cases e
  ·rename_i hp
   cases e
   exact (z6u hp).1
 ·split at e
  ·split at e
   ·cases e
   ·rename_i hn
    have:=y2o hn
    split at e
    ·cases e
    ·cases e
     exact this
  ·cases e
   exact h
theorem v1i {ts:List Tk} {cond:List Nd} {a:Nat} {x:Ac × Nat} (e:doA ts cond a = .ok x):x.2 ≤ ts.length:=by
 unfold doA at e
 split at e
 ·cases e
 ·rename_i h0
  have ha:=j2u h0
  split at e
  ·exact y3l omT e
  ·split at e
   ·cases e
   ·rename_i he
    have:=q4h he
    exact y3l omT e
theorem y0b {ts:List Tk} {a:Nat} {x:Ac × Nat} (e:y2r ts a = .ok x):x.2 ≤ ts.length:=by
 unfold y2r at e
 split at e
 ·split at e
  ·cases e
  ·split at e
   ·exact v1i e
   ·cases e
 ·exact v1i e
end
theorem j2e {ts:List Tk}:∀ (f a:Nat) (cs:List Ac) (q:Nat),z7t f ts a = .ok (cs,q) → cs.length ≤ f ∧ ∀ g,z7t g ts a = if cs.length ≤ g then .ok (cs,q) else .error 13
 | 0,_,_,_,h=>by cases h
 | f + 1,a,cs,q,h=>by
  rw [z7t] at h
  split at h
  ·cases h
  ·rename_i d n h1
   split at h
   ·rename_i ht
    split at h
    ·cases h
    ·rename_i ds q' h2
     cases h
     obtain ⟨hle,ih⟩:=j2e f (n + 1) ds q h2
     refine ⟨by rw [List.length_cons];omega,fun g=>?_⟩
     cases g with
     | zero=>rw [z7t,if_neg (by rw [List.length_cons];omega)]
     | succ g =>
      rw [z7t,h1]
      simp only
      rw [if_pos ht,ih g,List.length_cons]
      by_cases hg:ds.length ≤ g
      ·rw [if_pos hg,if_pos omT]
      ·rw [if_neg hg,if_neg omT]
   ·rename_i ht
    cases h
    refine ⟨by simp,fun g=>?_⟩
    cases g with
    | zero=>rw [z7t,if_neg (by simp)]
    | succ g =>
     rw [z7t,h1]
     simp only
     rw [if_neg ht,if_pos (by simp)]
end Go.Proofs.YtacnlghljmgdiaaGreatDoor
