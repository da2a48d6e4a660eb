/- Several texts of this proof, joined: CM, CI, CJ, CN, MC, SM, SN. -/
import Derived.Test.YtacnlghljmgdiaaGreatDoorP2
import Derived.Test.YtacnlghljmgdiaaGreatDoorY5
import Derived.Test.YtacnlghljmgdiaaGreatDoorY6
namespace Go.Proofs.YtacnlghljmgdiaaGreatDoor
structure Vr where
 name:List UInt8
 vk:Int
 vn:Int
 vs:List UInt8
structure Tr where
 event:List UInt8
 cond:List Nd
 goes:List (List UInt8)
 inner:Bool
 thn:List Ac
structure St where
 name:List UInt8
 kind:Int
 parent:Int
 start:List UInt8
 enter:List (List Ac)
 exit:List (List Ac)
 trans:List Tr
structure Ch where
 name:List UInt8
 vars:List Vr
 states:List St
def ch0:Ch:=⟨[],[],[]⟩
def st0:St:=⟨[],0,0,[],[],[],[]⟩
def z4e:List UInt8 → List (List UInt8)
 | []=>[[]]
 | c :: r =>
  if c = 10 then [] :: z4e r
  else match z4e r with
   | []=>[[c]]
   | l :: ls=>(c :: l) :: ls
def j0y:List UInt8 → Bool
 | []=>true
 | c :: r=>if c = 35 then true else if c = 32 then j0y r else false
def y4m (ss:List St):Nat → Int → Nat
 | 0,_=>0
 | f + 1,i=>if i ≤ 0 then 0 else y4m ss f (ss.getD i.toNat st0).parent + 1
def z4p (ss:List St):Nat:=(ss.map fun s=>s.trans.length).sum
def j0h (c:Ch) (i:Int) (s:St):Ch:={ c with states:=c.states.set i.toNat s }
def x0z (n:Ln):Tr:=⟨n.event,n.cond,n.goes,n.inner,n.thn⟩
def q5j (c:Ch) (o:Int) (n:Ln):Except Int (Ch × Int) :=
 if o = 0 then .error 30
 else
  let s:=c.states.getD o.toNat st0
  if n.kind = 8 then if s.enter.length = 8 then .error 13 else .ok (j0h c o { s with enter:=s.enter ++ [n.acts] },o)
  else if n.kind = 9 then if s.exit.length = 8 then .error 13 else .ok (j0h c o { s with exit:=s.exit ++ [n.acts] },o)
  else if n.kind = 12 then .ok (c,s.parent)
  else if z4p c.states = 96 then .error 13 else .ok (j0h c o { s with trans:=s.trans ++ [x0z n] },o)
def z3d (c:Ch) (o:Int) (n:Ln):Except Int (Ch × Int) :=
 if n.kind = 1 then if 0 ≤ o then .error 30 else .ok (⟨n.name,[],[⟨n.name,1,-1,n.start,[],[],[]⟩]⟩,0)
 else if o < 0 then .error 30
 else if n.kind = 2 then
  if 1 < c.states.length then .error 30 else if c.vars.length = 16 then .error 13
  else .ok ({ c with vars:=c.vars ++ [⟨n.name,n.vk,n.vn,n.vs⟩] },o)
 else if 8 ≤ n.kind then q5j c o n
 else if (c.states.getD o.toNat st0).kind = 5 then .error 30
 else if c.states.length = 49 then .error 13
 else if y4m c.states 49 o = 8 then .error 23
 else .ok ({ c with states:=c.states ++ [⟨n.name,n.kind,o,n.start,[],[],[]⟩] },if n.kind ≤ 5 then (c.states.length:Int) else o)
def j4k:Nat → List (List UInt8) → Ch → Int → Except (Int × Nat) (Ch × Int)
 | _,[],c,o => .ok (c,o)
 | i,l :: ls,c,o =>
  if i = 400 then .error (13,i + 1)
  else if 400 < l.length then .error (15,i + 1)
  else if j0y l then j4k (i + 1) ls c o
  else match z7j l with
   | .error e => .error (e,i + 1)
   | .ok n=>match z3d c o n with
    | .error e => .error (e,i + 1)
    | .ok (d,p)=>j4k (i + 1) ls d p
def z3q (l:List UInt8):Except (Int × Nat) Ch :=
 match j4k 0 (z4e l) ch0 (-1) with
 | .error x => .error x
 | .ok (c,o)=>if o = 0 then .ok c else .error (14,0)
theorem q5k:∀ (l:List UInt8),(∀ c ∈ l,c ≠ 10) → z4e l = [l]
 | [],_=>rfl
 | c :: r,h=>by
  rw [z4e,if_neg (h c (by simp)),q5k r fun d hd=>h d (by simp [hd])]
theorem j1g:∀ (l r:List UInt8),(∀ c ∈ l,c ≠ 10) → z4e (l ++ 10 :: r) = l :: z4e r
 | [],r,_=>by rw [List.nil_append,z4e,if_pos rfl]
 | c :: l,r,h=>by
  rw [List.cons_append,z4e,if_neg (h c (by simp)),j1g l r fun d hd=>h d (by simp [hd])]
theorem z3x {ss:List St} {s:St} {k i:Nat} (hk:k < ss.length):(ss.set k s).getD i st0 = if i = k then s else ss.getD i st0:=by
 rw [List.getD_eq_getElem?_getD,List.getD_eq_getElem?_getD,List.getElem?_set]
 by_cases h:k = i
 ·subst h
  rw [if_pos rfl,if_pos rfl,if_pos hk]
  rfl
 ·rw [if_neg h,if_neg (fun e=>h e.symm)]
theorem z6n {ss:List St} {s:St} {i:Nat}:(ss ++ [s]).getD i st0 = if i < ss.length then ss.getD i st0 else if i = ss.length then s else st0:=by
 rw [List.getD_eq_getElem?_getD,List.getD_eq_getElem?_getD]
 by_cases h:i < ss.length
 ·rw [if_pos h,List.getElem?_append_left h]
 ·rw [if_neg h,List.getElem?_append_right omT]
  by_cases h2:i = ss.length
  ·rw [if_pos h2,h2,Nat.sub_self];rfl
  ·rw [if_neg h2,List.getElem?_eq_none (by simp;omega)];rfl
structure GoodC (c:Ch) (o:Int):Prop where
 some:0 < c.states.length
 root:(c.states.getD 0 st0).parent = -1
 par:∀ i,0 < i → i < c.states.length → 0 ≤ (c.states.getD i st0).parent ∧ (c.states.getD i st0).parent < (i:Int)
 lo:0 ≤ o
 hi:o < (c.states.length:Int)
 few:c.states.length ≤ 49
 vars:c.vars.length ≤ 16
 lists:∀ i,i < c.states.length → (c.states.getD i st0).enter.length ≤ 8 ∧ (c.states.getD i st0).exit.length ≤ 8
 trans:z4p c.states ≤ 96
theorem j6p (ss:List St) (s:St):z4p (ss ++ [s]) = z4p ss + s.trans.length:=by
 unfold z4p
 rw [List.map_append,List.sum_append]
 simp
theorem q6f:∀ (ss:List St) (k:Nat) (s:St),k < ss.length → z4p (ss.set k s) + (ss.getD k st0).trans.length = z4p ss + s.trans.length
 | [],k,s,h=>by simp at h
 | a :: ss,0,s,_=>by
  unfold z4p
  simp
  omega
 | a :: ss,k + 1,s,h=>by
  have:=q6f ss k s (by simpa using h)
  unfold z4p at this ⊢
  simp at this ⊢
  omega
theorem q7s {c:Ch} {o p:Int} {s:St} (g:GoodC c o) (hp:0 ≤ p) (hp2:p < (c.states.length:Int)) (h1:s.parent = (c.states.getD p.toNat st0).parent) (h2:s.enter.length ≤ 8) (h3:s.exit.length ≤ 8) (h4:z4p (c.states.set p.toNat s) ≤ 96):GoodC (j0h c p s) o:=by
 obtain ⟨k,rfl⟩:∃ k:Nat,p = (k:Int):=⟨p.toNat,by omega⟩
 have hk:k < c.states.length:=by omega
 simp only [Int.toNat_natCast] at h1 h4
 unfold j0h
 refine ⟨?_,?_,fun i h0 hi=>?_,g.lo,?_,?_,g.vars,fun i hi=>?_,h4⟩
 ·simpa using g.some
 ·simp only [Int.toNat_natCast]
  rw [z3x hk]
  split
  ·rename_i h;rw [h1,← h];exact g.root
  ·exact g.root
 ·simp only [Int.toNat_natCast,List.length_set] at hi ⊢
  rw [z3x hk]
  split
  ·rename_i h;subst h;rw [h1];exact g.par _ h0 hi
  ·exact g.par _ h0 hi
 ·simpa using g.hi
 ·simpa using g.few
 ·simp only [Int.toNat_natCast,List.length_set] at hi ⊢
  rw [z3x hk]
  split
  ·exact ⟨h2,h3⟩
  ·exact g.lists _ hi
theorem k0l {c:Ch} {o p:Int} (g:GoodC c o) (h1:0 ≤ p) (h2:p < (c.states.length:Int)):GoodC c p:=⟨g.some,g.root,g.par,h1,h2,g.few,g.vars,g.lists,g.trans⟩
theorem j9l {c:Ch} {o:Int} (g:GoodC c o) (h:o ≠ 0):0 ≤ (c.states.getD o.toNat st0).parent ∧ (c.states.getD o.toNat st0).parent < (c.states.length:Int):=by
 have h1:=g.lo
 have h2:=g.hi
 have:=g.par o.toNat omT omT
 omega
theorem z6p {c d:Ch} {o p:Int} {n:Ln} (g:o < 0 ∨ GoodC c o) (h:z3d c o n = .ok (d,p)):GoodC d p:=by
 unfold z3d at h
 split at h
 ·split at h
  ·cases h
  ·cases h
   refine ⟨by simp,by simp,fun i h0 hi=>?_,by omega,by simp,by simp,by simp,fun i hi=>?_,by simp [z4p]⟩
   ·simp at hi;omega
   ·have:i = 0:=by simp at hi;omega
    subst this
    simp
 ·split at h
  ·cases h
  ·rename_i hneg
   have g:GoodC c o:=by
    rcases g with h1 | h1
    ·exact absurd h1 hneg
    ·exact h1
   have hlo:=g.lo
   have hhi:=g.hi
   split at h
   ·split at h
    ·cases h
    ·split at h
     ·cases h
     ·rename_i hv
      cases h
      exact ⟨g.some,g.root,g.par,g.lo,g.hi,g.few,by have:=g.vars;simp;omega,g.lists,g.trans⟩
   ·split at h
    ·unfold q5j at h
     split at h
     ·cases h
     ·rename_i h0
      have hl:=g.lists o.toNat omT
      have hm:=q6f c.states o.toNat
      simp only at h
      split at h
      ·split at h
       ·cases h
       ·cases h
        refine q7s g hlo hhi rfl (by simp only [List.length_append,List.length_singleton];omega) hl.2 ?_
        have:=hm { c.states.getD o.toNat st0 with enter:=(c.states.getD o.toNat st0).enter ++ [n.acts] } omT
        have:=g.trans
        simp only at *
        omega
      ·split at h
       ·split at h
        ·cases h
        ·cases h
         refine q7s g hlo hhi rfl hl.1 (by simp only [List.length_append,List.length_singleton];omega) ?_
         have:=hm { c.states.getD o.toNat st0 with exit:=(c.states.getD o.toNat st0).exit ++ [n.acts] } omT
         have:=g.trans
         simp only at *
         omega
       ·split at h
        ·cases h
         obtain ⟨h1,h2⟩:=j9l g h0
         exact k0l g h1 h2
        ·split at h
         ·cases h
         ·rename_i h96
          cases h
          refine q7s g hlo hhi rfl hl.1 hl.2 ?_
          have:=hm { c.states.getD o.toNat st0 with trans:=(c.states.getD o.toNat st0).trans ++ [x0z n] } omT
          have:=g.trans
          simp only [List.length_append,List.length_singleton] at *
          omega
    ·split at h
     ·cases h
     ·split at h
      ·cases h
      ·split at h
       ·cases h
       ·rename_i h49 _
        cases h
        have hfew:=g.few
        refine ⟨by simp,?_,fun i h0 hi=>?_,?_,?_,by simp;omega,g.vars,fun i hi=>?_,?_⟩
        ·simp only
         rw [z6n,if_pos g.some]
         exact g.root
        ·simp only [List.length_append,List.length_singleton] at hi ⊢
         rw [z6n]
         split
         ·rename_i hlt;exact g.par i h0 hlt
         ·rw [if_pos omT]
          simp only
          omega
        ·split
         ·omega
         ·exact hlo
        ·simp only [List.length_append,List.length_singleton]
         split <;> omega
        ·simp only [List.length_append,List.length_singleton] at hi ⊢
         rw [z6n]
         split
         ·rename_i hlt;exact g.lists i hlt
         ·rw [if_pos omT]
          simp
        ·simp only
         rw [j6p]
         have:=g.trans
         simp
         omega
theorem j3h:∀ (ls:List (List UInt8)) (i:Nat) (c d:Ch) (o p:Int),(o < 0 ∨ GoodC c o) → j4k i ls c o = .ok (d,p) → p < 0 ∨ GoodC d p
 | [],_,_,_,_,_,g,h=>by cases h;exact g
 | l :: ls,i,c,d,o,p,g,h=>by
  rw [j4k] at h
  split at h
  ·cases h
  ·split at h
   ·cases h
   ·split at h
    ·exact j3h ls _ _ _ _ _ g h
    ·split at h
     ·cases h
     ·split at h
      ·cases h
      ·rename_i hs
       exact j3h ls _ _ _ _ _ (.inr (z6p g hs)) h
theorem z6g {l:List UInt8} {c:Ch} (h:z3q l = .ok c):GoodC c 0:=by
 unfold z3q at h
 split at h
 ·cases h
 ·rename_i d o hr
  split at h
  ·rename_i h0
   cases h
   subst h0
   rcases j3h _ _ _ _ _ _ (.inl deT) hr with h1 | h1
   ·exact absurd h1 deT
   ·exact h1
  ·cases h
def later (x:Except (Int × Nat) (Ch × Int)):Except (Int × Nat) (Ch × Int) :=
 match x with
 | .error (e,n) => .error (e,n + 1)
 | .ok p => .ok p
inductive Opn (ss:List St):List Nat → Int → Prop
 | root:Opn ss [0] 0
 | more {op:List Nat} {p:Int} {i:Nat}:Opn ss op p → 0 < i → i < ss.length → (ss.getD i st0).parent = p → Opn ss (op ++ [i]) (i:Int)
theorem j3y {ss:List St} {op:List Nat} {o:Int} (h:Opn ss op o):∃ (pre:List Nat) (i:Nat),op = pre ++ [i] ∧ o = (i:Int):=by
 cases h with
 | root=>exact ⟨[],0,rfl,rfl⟩
 | more _ _ _ _=>exact ⟨_,_,rfl,rfl⟩
theorem j3z {ss:List St} {op:List Nat} {o:Int} (h:Opn ss op o):0 < op.length ∧ (op.length = 1 ↔ o = 0):=by
 cases h with
 | root=>exact ⟨by decide,by simp⟩
 | more h1 h2 _ _ =>
  obtain ⟨pre,j,rfl,_⟩:=j3y h1
  exact ⟨by simp,by simp;omega⟩
theorem v5o {ss:List St} {op:List Nat} {o:Int} (h:Opn ss op o) (hp:∀ i,0 < i → i < ss.length → (ss.getD i st0).parent < (i:Int)):(op.length:Int) ≤ o + 1:=by
 induction h with
 | root=>decide
 | @more op p i _ h2 h3 h4 ih =>
  have:=hp i h2 h3
  rw [List.length_append]
  simp only [List.length_singleton]
  omega
theorem k8h {ss:List St} {op:List Nat} {o:Int} (h:Opn ss op o):∀ f,op.length ≤ f + 1 → y4m ss f o + 1 = op.length:=by
 induction h with
 | root =>
  intro f _
  cases f <;> simp [y4m]
 | @more op p i h1 h2 _ h4 ih =>
  intro f hf
  have hl:=(j3z h1).1
  rw [List.length_append] at hf ⊢
  simp only [List.length_singleton] at hf ⊢
  cases f with
  | zero=>omega
  | succ f =>
   rw [y4m,if_neg omT,Int.toNat_natCast,h4,ih f omT]
theorem k8i {ss:List St} {s:St} {op:List Nat} {o:Int} (h:Opn ss op o):Opn (ss ++ [s]) op o:=by
 induction h with
 | root=>exact .root
 | more _ h2 h3 h4 ih=>exact .more ih h2 (by simp;omega) (by rw [z6n,if_pos h3];exact h4)
theorem k2f {ss:List St} {s:St} {k:Nat} {op:List Nat} {o:Int} (h:Opn ss op o) (hk:k < ss.length) (hs:s.parent = (ss.getD k st0).parent):Opn (ss.set k s) op o:=by
 induction h with
 | root=>exact .root
 | @more op p i _ h2 h3 h4 ih =>
  refine .more ih h2 (by simpa using h3) ?_
  rw [z3x hk]
  split
  ·rename_i e;subst e;rw [hs];exact h4
  ·exact h4
theorem v5p {ss:List St} {op:List Nat} {o:Int} (h:Opn ss op o) (h0:o ≠ 0):Opn ss (op.take (op.length - 1)) (ss.getD o.toNat st0).parent:=by
 cases h with
 | root=>exact absurd rfl h0
 | more h1 _ _ h4 =>
  rw [Int.toNat_natCast,h4,List.length_append]
  simpa using h1
def q6u (c:Ac):Prop:=c.cond.length ≤ 32 ∧ c.x.length ≤ 32
theorem q9i {ts:List Tk} {cond:List Nd} {k:Int} {name:List UInt8} {a:Nat} {c:Ac} {n:Nat} (hc:cond.length ≤ 32) (h:z9h ts cond k name a = .ok (c,n)):q6u c:=by
 unfold z9h at h
 split at h
 ·split at h
  ·cases h
  ·rename_i hp
   cases h
   exact ⟨hc,(z6u hp).2⟩
 ·split at h
  ·split at h
   ·cases h
   ·split at h
    ·cases h
    ·cases h
     exact ⟨hc,Nat.zero_le _⟩
  ·cases h
   exact ⟨hc,Nat.zero_le _⟩
theorem j5y {ts:List Tk} {cond:List Nd} {a:Nat} {c:Ac} {n:Nat} (hc:cond.length ≤ 32) (h:doA ts cond a = .ok (c,n)):q6u c:=by
 unfold doA at h
 split at h
 ·cases h
 ·split at h
  ·exact q9i hc h
  ·split at h
   ·cases h
   ·exact q9i hc h
theorem y6e {ts:List Tk} {a:Nat} {c:Ac} {n:Nat} (h:y2r ts a = .ok (c,n)):q6u c:=by
 unfold y2r at h
 split at h
 ·split at h
  ·cases h
  ·rename_i hp
   split at h
   ·exact j5y (z6u hp).2 h
   ·cases h
 ·exact j5y (Nat.zero_le _) h
theorem q9j {ts:List Tk}:∀ (f a:Nat) (cs:List Ac) (q:Nat),z7t f ts a = .ok (cs,q) → 0 < cs.length ∧ q ≤ ts.length ∧ ∀ c ∈ cs,q6u c
 | 0,_,_,_,h=>by cases h
 | f + 1,a,cs,q,h=>by
  rw [z7t] at h
  split at h
  ·cases h
  ·rename_i d n h1
   have hd:=y6e h1
   have hn:n ≤ ts.length:=y0b h1
   split at h
   ·split at h
    ·cases h
    ·rename_i ds q' h2
     cases h
     obtain ⟨_,i2,i3⟩:=q9j f (n + 1) ds q h2
     refine ⟨by simp,i2,fun c hc=>?_⟩
     rcases List.mem_cons.1 hc with rfl | hc
     ·exact hd
     ·exact i3 c hc
   ·cases h
    refine ⟨by simp,hn,fun c hc=>?_⟩
    rw [List.mem_singleton] at hc
    subst hc
    exact hd
theorem y0x {ts:List Tk} {a:Int} {cs:List Ac} {q:Nat} (h:z9a ts a = .ok (cs,q)):0 < cs.length ∧ cs.length ≤ 8 ∧ q ≤ ts.length ∧ ∀ c ∈ cs,q6u c:=by
 unfold z9a at h
 split at h
 ·cases h
 ·obtain ⟨h1,h2,h3⟩:=q9j _ _ _ _ h
  exact ⟨h1,(j2e _ _ _ _ h).1,h2,h3⟩
theorem j5r {cs:List Ac} (h:∀ c ∈ cs,q6u c):∀ c ∈ cs,c.cond.length ≤ 2000000 ∧ c.x.length ≤ 2000000:=fun c hc=>⟨Nat.le_trans (h c hc).1 deT,Nat.le_trans (h c hc).2 deT⟩
def q1m (cs:List Ac):Prop:=cs.length ≤ 8 ∧ ∀ c ∈ cs,q6u c
structure SmallT (t:Tr):Prop where
 cond:t.cond.length ≤ 32
 goes:t.goes.length ≤ 4
 thn:q1m t.thn
def ShT (ts:List Tk):Prop:=∀ t ∈ ts,t.k ≠ 3 → t.s.length ≤ 48
def ShD (n:Nd):Prop:=n.s.length ≤ 48 ∧ n.name.length ≤ 48
def ShN (ns:List Nd):Prop:=∀ n ∈ ns,ShD n
def ShA (c:Ac):Prop:=ShN c.cond ∧ ShN c.x
def ShB (cs:List Ac):Prop:=∀ c ∈ cs,ShA c
theorem q2f:ShN []:=fun _ h=>by cases h
theorem j4n:ShB []:=fun _ h=>by cases h
theorem y7x {l t:List UInt8} {k n:Int} {z:Nat} (h:z9b l = .ok (k,t,n,z)) (hk:k ≠ 3):t.length ≤ 48:=by
 cases l with
 | nil=>cases h
 | cons c r =>
  rw [z9b] at h
  by_cases h1:y5g c = true
  ·rw [if_pos h1,z9d] at h
   (try simp only at h)
   split at h
   ·cases h
   ·rename_i hc
    cases h
    simp only [Bool.or_eq_true,decide_eq_true_eq,not_or] at hc
    omega
  ·rw [if_neg h1] at h
   by_cases h2:q9z c = true
   ·rw [if_pos h2,j0c] at h
    (try simp only at h)
    split at h
    ·cases h
    ·split at h
     ·cases h
     ·cases h
      exact absurd rfl hk
   ·rw [if_neg h2] at h
    by_cases h3:((c.toNat:Int) == 39) = true
    ·rw [if_pos h3,j0d] at h
     (try simp only at h)
     by_cases h4:z1k z8l r = r.length
     ·rw [if_pos h4] at h;cases h
     ·rw [if_neg h4] at h
      by_cases h5:48 < z1k z8l r
      ·rw [if_pos h5] at h;cases h
      ·rw [if_neg h5] at h
       split at h
       ·cases h
        rw [List.length_take]
        omega
       ·cases h
    ·rw [if_neg h3,q2m] at h
     split at h
     ·cases h;simp
     ·split at h
      ·cases h;simp
      ·cases h
theorem j1f:∀ (m a:Nat) (l:List UInt8) (ts:List Tk),z5b m a l = .ok ts → ShT ts
 | 0,a,l,ts,h=>by
  rw [z5b] at h
  split at h
  ·cases h;exact fun _ h=>by cases h
  ·cases h
 | m + 1,a,l,ts,h=>by
  rw [z5b] at h
  split at h
  ·cases h;exact fun _ h=>by cases h
  ·split at h
   ·cases h
   ·rename_i ht
    split at h
    ·cases h
    ·rename_i hr
     cases h
     intro t hm hk
     rcases List.mem_cons.1 hm with rfl | hm
     ·exact y7x ht hk
     ·exact j1f m _ _ _ hr t hm hk
section
variable {ts:List Tk}
theorem j4o {ns:List Nd} {n:Nd} (h:ShN ns) (hn:ShD n):ShN (ns ++ [n]):=fun m hm=>by
 rcases List.mem_append.1 hm with hm | hm
 ·exact h m hm
 ·rw [List.mem_singleton] at hm;subst hm;exact hn
theorem j5m:∀ (f:Nat) (r:Rd),(aheads f ts r).nodes = r.nodes
 | 0,_=>rfl
 | f + 1,r=>by
  rw [aheads]
  split
  ·rename_i r' h
   rw [j5m f r']
   unfold ahead at h
   repeat' split at h
   all_goals cases h <;> rfl
  ·rfl
theorem y3d (hs:ShT ts) {op:Int} {r r':Rd} (g:ShN r.nodes) (h:rname op ts r = some r'):ShN r'.nodes:=by
 unfold rname z2b at h
 cases ht:ts[r.at_]? with
 | none=>rw [ht] at h;cases h
 | some t =>
  rw [ht] at h
  simp only at h
  by_cases hc:(t.k == 1 && !z4k t.s) = true
  ·rw [if_pos hc] at h
   cases h
   refine j4o g ⟨Nat.zero_le _,hs t (List.mem_of_getElem? ht) ?_⟩
   rw [Bool.and_eq_true,beq_iff_eq] at hc
   rw [hc.1];decide
  ·rw [if_neg hc] at h;cases h
theorem y8f (hs:ShT ts) {a:Nat} {n:Nd} (h:q0k ts a = some n):ShD n:=by
 unfold q0k at h
 cases ht:ts[a]? with
 | none=>rw [ht] at h;cases h
 | some t =>
  rw [ht] at h
  simp only at h
  have hm:=hs t (List.mem_of_getElem? ht)
  by_cases h3:(t.k == 3) = true
  ·rw [if_pos h3] at h;cases h
   exact ⟨Nat.zero_le _,Nat.zero_le _⟩
  ·rw [if_neg h3] at h
   split at h
   ·cases h
    exact ⟨hm fun e=>h3 (by rw [e];rfl),Nat.zero_le _⟩
   ·split at h
    ·cases h;exact ⟨Nat.zero_le _,Nat.zero_le _⟩
    ·split at h
     ·cases h;exact ⟨Nat.zero_le _,Nat.zero_le _⟩
     ·cases h
theorem k3l (hs:ShT ts) {r r':Rd} (g:ShN r.nodes) (h:rvalue ts r = some r'):ShN r'.nodes:=by
 unfold rvalue at h
 cases hv:q0k ts r.at_ with
 | none=>rw [hv] at h;cases h
 | some n =>
  rw [hv] at h
  cases h
  exact j4o g (y8f hs hv)
theorem j4t {x:List UInt8} {r r':Rd} (h:takes ts x r = some r'):r'.nodes = r.nodes:=by
 unfold takes at h
 split at h
 ·cases h;rfl
 ·cases h
theorem v3c (hs:ShT ts) {r r':Rd} (g:ShN r.nodes) (h:atom ts r = some r'):ShN r'.nodes:=by
 unfold atom at h
 split at h
 ·rename_i h1
  split at h
  ·rename_i h2
   split at h
   ·rename_i h3
    rw [j4t h]
    exact y3d hs (by rw [j4t h2,j4t h1];exact g) h3
   ·cases h
  ·cases h
 ·split at h
  ·rename_i h1
   cases h
   exact y3d hs g h1
  ·exact k3l hs g h
theorem j3e (least:Int):∀ (ws:List Int) (r:Rd),ShN r.nodes → ShN (y2a least ws r).nodes
 | [],r,g=>g
 | op :: ws,r,g=>by
  rw [y2a]
  split
  ·exact g
  ·have k:∀ ps,ShD (opn op ps):=fun ps=>⟨Nat.zero_le _,Nat.zero_le _⟩
   exact j3e least ws _ (j4o g (k _))
theorem j5v:∀ (f:Nat) (r:Rd),ShN r.nodes → ShN (closes f ts r).nodes
 | 0,_,g=>g
 | f + 1,r,g=>by
  rw [closes]
  split
  ·exact j5v f _ (j3e 1 _ { r with at_:=r.at_ + 1 } g)
  ·exact g
theorem v5f {r:Rd} (g:ShN r.nodes):ShN (more ts r).2.nodes:=by
 unfold more
 repeat' split
 all_goals first | exact g | exact j3e _ _ _ g
theorem y3z (hs:ShT ts):∀ (f:Nat) (r r':Rd),ShN r.nodes → whole f ts r = some r' → ShN r'.nodes
 | 0,_,_,_,h=>by cases h
 | f + 1,r,r',g,h=>by
  rw [whole] at h
  split at h
  ·cases h
  ·rename_i r1 h1
   have g1:ShN r1.nodes:=by
    unfold one at h1
    split at h1
    ·rename_i r0 h0
     cases h1
     exact j5v 128 r0 (v3c hs (by rw [j5m];exact g) h0)
    ·cases h1
   have g2:=v5f (ts:=ts) g1
   split at h
   ·rename_i r2 h2
    rw [h2] at g2
    exact y3z hs f r2 r' g2 h
   ·rename_i r2 h2
    rw [h2] at g2
    split at h
    ·cases h
     exact j3e 1 _ _ g2
    ·cases h
theorem q8i (hs:ShT ts) {a:Int} {ns:List Nd} {b:Nat} (h:z3f ts a = .ok (ns,b)):ShN ns:=by
 unfold z3f at h
 split at h
 ·cases h
 ·split at h
  ·cases h
  ·rename_i hw
   split at h
   ·cases h
   ·cases h
    exact y3z hs 128 _ _ q2f hw
theorem k9y (hs:ShT ts) {cond:List Nd} {k:Int} {name:List UInt8} {a:Nat} {c:Ac} {n:Nat} (hc:ShN cond) (h:z9h ts cond k name a = .ok (c,n)):ShA c:=by
 unfold z9h at h
 split at h
 ·split at h
  ·cases h
  ·rename_i hp
   cases h
   exact ⟨hc,q8i hs hp⟩
 ·split at h
  ·repeat' split at h
   all_goals first | (cases h;done) | (cases h;exact ⟨hc,q2f⟩)
  ·cases h
   exact ⟨hc,q2f⟩
theorem v1k (hs:ShT ts) {cond:List Nd} {a:Nat} {c:Ac} {n:Nat} (hc:ShN cond) (h:doA ts cond a = .ok (c,n)):ShA c:=by
 unfold doA at h
 repeat' split at h
 all_goals first | (cases h;done) | exact k9y hs hc h
theorem v5m (hs:ShT ts) {a:Nat} {c:Ac} {n:Nat} (h:y2r ts a = .ok (c,n)):ShA c:=by
 unfold y2r at h
 split at h
 ·split at h
  ·cases h
  ·rename_i hp
   split at h
   ·exact v1k hs (q8i hs hp) h
   ·cases h
 ·exact v1k hs q2f h
theorem y3p (hs:ShT ts):∀ (f a:Nat) (cs:List Ac) (q:Nat),z7t f ts a = .ok (cs,q) → ShB cs
 | 0,_,_,_,h=>by cases h
 | f + 1,a,cs,q,h=>by
  rw [z7t] at h
  split at h
  ·cases h
  ·rename_i h1
   have hd:=v5m hs h1
   split at h
   ·split at h
    ·cases h
    ·rename_i h2
     cases h
     intro c hc
     rcases List.mem_cons.1 hc with rfl | hc
     ·exact hd
     ·exact y3p hs f _ _ _ h2 c hc
   ·cases h
    intro c hc
    rw [List.mem_singleton] at hc
    subst hc
    exact hd
theorem y3s (hs:ShT ts) {a:Int} {cs:List Ac} {q:Nat} (h:z9a ts a = .ok (cs,q)):ShB cs:=by
 unfold z9a at h
 split at h
 ·cases h
 ·exact y3p hs _ _ _ _ h
end
structure SmallS (s:St):Prop where
 enter:∀ b ∈ s.enter,q1m b
 exit:∀ b ∈ s.exit,q1m b
 trans:∀ t ∈ s.trans,SmallT t
 she:∀ b ∈ s.enter ++ s.exit,ShB b
 sht:∀ t ∈ s.trans,ShN t.cond ∧ ShB t.thn
def q1n (c:Ch):Prop:=∀ s ∈ c.states,SmallS s
structure SmallL (n:Ln):Prop where
 acts:q1m n.acts
 cond:n.cond.length ≤ 32
 goes:n.goes.length ≤ 4
 thn:q1m n.thn
 sha:ShB n.acts
 sht:ShN n.cond ∧ ShB n.thn
theorem q0y:q1m []:=⟨by decide,fun _ h=>by cases h⟩
theorem q8u {ts:List Tk} {a:Int} {cs:List Ac} {q:Nat} (h:z9a ts a = .ok (cs,q)):q1m cs:=by
 obtain ⟨_,h2,_,h4⟩:=y0x h
 exact ⟨h2,h4⟩
theorem q8v (n:Ln) (h1:n.acts = []) (h2:n.cond = []) (h3:n.goes = []) (h4:n.thn = []):SmallL n :=
 ⟨h1 ▸ q0y,h2 ▸ Nat.zero_le _,h3 ▸ Nat.zero_le _,h4 ▸ q0y,h1 ▸ j4n,h2 ▸ q2f,h4 ▸ j4n⟩
theorem q8w (k:Int):SmallL (ln0 k):=q8v _ rfl rfl rfl rfl
theorem q7q {ts:List Tk}:∀ (f:Nat) (gs:List (List UInt8)) (a:Nat) (hs:List (List UInt8)) (b:Nat),q2z ts f gs a = .ok (hs,b) → hs.length ≤ gs.length + f
 | 0,gs,a,hs,b,h=>by
  rw [q2z] at h
  split at h
  ·split at h
   ·cases h
   ·cases h;omega
  ·cases h
 | f + 1,gs,a,hs,b,h=>by
  rw [q2z] at h
  split at h
  ·split at h
   ·cases h
   ·cases h;omega
  ·have:=q7q f _ _ _ _ h
   rw [List.length_append] at this
   simp only [List.length_singleton] at this
   omega
theorem q5r {ts:List Tk} {n m:Ln} {a b:Nat} (hs:ShT ts) (hn:SmallL n) (h:q1v ts n a = .ok (m,b)):SmallL m:=by
 unfold q1v at h
 split at h
 ·cases h
 ·rename_i h1
  split at h
  ·cases h
  ·rename_i h2
   split at h
   ·cases h
   ·rename_i h3
    cases h
    refine ⟨hn.acts,?_,?_,?_,hn.sha,?_,?_⟩
    ·unfold ifL at h1
     split at h1
     ·exact (z6u h1).2
     ·cases h1;exact Nat.zero_le _
    ·unfold goL at h2
     split at h2
     ·have:=q7q _ _ _ _ _ h2
      simpa using this
     ·cases h2;exact Nat.zero_le _
    ·unfold doL at h3
     repeat' split at h3
     all_goals first | exact q8u h3 | (cases h3;exact q0y)
    ·unfold ifL at h1
     split at h1
     ·exact q8i hs h1
     ·cases h1;exact q2f
    ·unfold doL at h3
     repeat' split at h3
     all_goals first | exact y3s hs h3 | (cases h3;exact j4n)
theorem j6s {ts:List Tk} {k:Nat} {m:Ln} {a b:Nat} (h:q1s ts k a = some (m,b)):SmallL m:=by
 unfold q1s at h
 repeat' split at h
 all_goals first | (cases h;done) | (cases h;exact q8v _ rfl rfl rfl rfl)
theorem y0m {ts:List Tk} {k:Nat} {m:Ln} {a b:Nat} (hs:ShT ts) (h:j0e ts k a = .ok (m,b)):SmallL m:=by
 unfold j0e at h
 split at h
 ·cases h;exact q8w _
 ·split at h
  ·split at h
   ·cases h
   ·rename_i h1
    cases h
    exact ⟨q8u h1,Nat.zero_le _,Nat.zero_le _,q0y,y3s hs h1,q2f,j4n⟩
  ·split at h
   ·split at h
    ·cases h
    ·exact q5r hs (q8v _ rfl rfl rfl rfl) h
   ·split at h
    ·exact q5r hs (q8w _) h
    ·split at h
     ·cases h
     ·rename_i hn
      cases h
      exact j6s hn
theorem j6x {l:List UInt8} {n:Ln} (h:z7j l = .ok n):SmallL n:=by
 unfold z7j at h
 split at h
 ·cases h
 ·rename_i hx
  unfold y5l at h
  split at h
  ·cases h
  ·split at h
   ·cases h
   ·rename_i hr
    split at h
    ·cases h
    ·cases h
     exact y0m (j1f _ _ _ _ hx) hr
theorem j1w (s:St) (h1:s.enter = []) (h2:s.exit = []) (h3:s.trans = []):SmallS s :=
 ⟨h1 ▸ fun _ h=>(by cases h),h2 ▸ fun _ h=>(by cases h),h3 ▸ fun _ h=>(by cases h),by rw [h1,h2];exact fun _ h=>(by cases h),h3 ▸ fun _ h=>(by cases h)⟩
theorem j1x {c:Ch} (h:q1n c) (i:Nat):SmallS (c.states.getD i st0):=by
 rw [List.getD_eq_getElem?_getD]
 by_cases hi:i < c.states.length
 ·rw [List.getElem?_eq_getElem hi]
  exact h _ (List.getElem_mem hi)
 ·rw [List.getElem?_eq_none omT]
  exact j1w _ rfl rfl rfl
theorem q4t {c:Ch} {o:Int} {s:St} (h:q1n c) (hs:SmallS s):q1n (j0h c o s):=fun s' hs'=>by
 unfold j0h at hs'
 rcases List.mem_or_eq_of_mem_set hs' with h1 | rfl
 ·exact h _ h1
 ·exact hs
theorem y7k {c d:Ch} {o p:Int} {n:Ln} (h:q1n c) (hn:SmallL n) (e:z3d c o n = .ok (d,p)):q1n d:=by
 have hnew:∀ (nm:List UInt8) (k q:Int) (st:List UInt8),SmallS ⟨nm,k,q,st,[],[],[]⟩:=fun _ _ _ _=>j1w _ rfl rfl rfl
 have hg:=j1x h o.toNat
 unfold z3d at e
 split at e
 ·split at e
  ·cases e
  ·cases e
   intro s hs
   rw [List.mem_singleton] at hs
   subst hs
   exact hnew _ _ _ _
 ·split at e
  ·cases e
  ·split at e
   ·split at e
    ·cases e
    ·split at e
     ·cases e
     ·cases e;exact h
   ·split at e
    ·unfold q5j at e
     simp only at e
     split at e
     ·cases e
     ·split at e
      ·split at e
       ·cases e
       ·cases e
        refine q4t h ⟨fun b hb=>?_,hg.exit,hg.trans,fun b hb=>?_,hg.sht⟩
        ·rcases List.mem_append.1 hb with hb | hb
         ·exact hg.enter _ hb
         ·rw [List.mem_singleton] at hb;subst hb;exact hn.acts
        ·rcases List.mem_append.1 hb with hb | hb
         ·rcases List.mem_append.1 hb with hb | hb
          ·exact hg.she _ (List.mem_append_left _ hb)
          ·rw [List.mem_singleton] at hb;subst hb;exact hn.sha
         ·exact hg.she _ (List.mem_append_right _ hb)
      ·split at e
       ·split at e
        ·cases e
        ·cases e
         refine q4t h ⟨hg.enter,fun b hb=>?_,hg.trans,fun b hb=>?_,hg.sht⟩
         ·rcases List.mem_append.1 hb with hb | hb
          ·exact hg.exit _ hb
          ·rw [List.mem_singleton] at hb;subst hb;exact hn.acts
         ·rcases List.mem_append.1 hb with hb | hb
          ·exact hg.she _ (List.mem_append_left _ hb)
          ·rcases List.mem_append.1 hb with hb | hb
           ·exact hg.she _ (List.mem_append_right _ hb)
           ·rw [List.mem_singleton] at hb;subst hb;exact hn.sha
       ·split at e
        ·cases e;exact h
        ·split at e
         ·cases e
         ·cases e
          refine q4t h ⟨hg.enter,hg.exit,fun t ht=>?_,hg.she,fun t ht=>?_⟩
          ·rcases List.mem_append.1 ht with ht | ht
           ·exact hg.trans _ ht
           ·rw [List.mem_singleton] at ht;subst ht;exact ⟨hn.cond,hn.goes,hn.thn⟩
          ·rcases List.mem_append.1 ht with ht | ht
           ·exact hg.sht _ ht
           ·rw [List.mem_singleton] at ht;subst ht;exact hn.sht
    ·split at e
     ·cases e
     ·split at e
      ·cases e
      ·split at e
       ·cases e
       ·cases e
        intro s hs
        rcases List.mem_append.1 hs with hs | hs
        ·exact h _ hs
        ·rw [List.mem_singleton] at hs;subst hs;exact hnew _ _ _ _
theorem q8y:∀ (ls:List (List UInt8)) (i:Nat) (c d:Ch) (o p:Int),q1n c → j4k i ls c o = .ok (d,p) → q1n d
 | [],_,_,_,_,_,g,h=>by cases h;exact g
 | l :: ls,i,c,d,o,p,g,h=>by
  rw [j4k] at h
  split at h
  ·cases h
  ·split at h
   ·cases h
   ·split at h
    ·exact q8y ls _ _ _ _ _ g h
    ·split at h
     ·cases h
     ·rename_i hp
      split at h
      ·cases h
      ·rename_i hs
       exact q8y ls _ _ _ _ _ (y7k g (j6x hp) hs) h
theorem q8x {l:List UInt8} {c:Ch} (h:z3q l = .ok c):q1n c:=by
 unfold z3q at h
 split at h
 ·cases h
 ·rename_i hr
  split at h
  ·cases h
   exact q8y _ _ _ _ _ _ (fun s hs=>by cases hs) hr
  ·cases h
end Go.Proofs.YtacnlghljmgdiaaGreatDoor
