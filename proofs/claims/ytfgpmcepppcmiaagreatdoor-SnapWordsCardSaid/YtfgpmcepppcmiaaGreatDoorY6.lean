/- Several texts of this proof, joined: XF, XG, XK, XO. -/
import Derived.Test.YtfgpmcepppcmiaaGreatDoorY5
import Derived.Test.YtfgpmcepppcmiaaGreatDoorZ1
import Derived.WalkKit
import Derived.ProofKit
import Derived.OpenShut
import Derived.Handy
import Derived.BigQuiet
import Derived.Lib.Hide
import Derived.WalkLawsBesides
import Derived.WalkSmall
namespace Go.Proofs.YtfgpmcepppcmiaaGreatDoor
def stepR (i:Nat) (op:List Nat) (n:Nd):Option (List Nat) :=
 if op.length < cnt n.op then none else if nright n ((op.take (cnt n.op)).reverse.map fun (p:Nat)=>(p:Int)) then some (i :: op.drop (cnt n.op)) else none
def stackL:Nat → List Nat → List Nd → Option (List Nat)
 | _,op,[]=>some op
 | i,op,n :: r =>
  match stepR i op n with
  | some op'=>stackL (i + 1) op' r
  | none=>none
theorem rightL_stack:∀ (ns:List Nd) (i:Nat) (op:List Nat),rightL i op ns = match stackL i op ns with | some st=>st.length == 1 | none=>false
 | [],_,_=>rfl
 | n :: r,i,op=>by
  rw [rightL,stackL]
  unfold stepR
  split
  ·rfl
  ·split
   ·exact rightL_stack r (i + 1) _
   ·rfl
structure TkOk (t:Tk):Prop where
 word:t.k = 1 → meansB t.s = false → nmB t.s = true ∧ t.s.length ≤ 32
 num:t.k = 3 → 0 ≤ t.n ∧ I64 t.n
 quo:t.k = 4 → plainB t.s = true ∧ t.s.length ≤ 48
theorem tokT_num {l:List UInt8} {t:List UInt8} {n:Int} {z:Nat} (h:tokT l = .ok (3,t,n,z)):0 ≤ n ∧ I64 n:=by
 cases l with
 | nil=>cases h
 | cons c r =>
  rw [tokT] at h
  split at h
  ·obtain ⟨hk,_⟩:=word_full h
   omega
  ·split at h
   ·unfold numT at h
    simp only at h
    split at h
    ·cases h
    ·split at h
     ·cases h
     ·simp only [Except.ok.injEq,Prod.mk.injEq] at h
      obtain ⟨_,_,rfl,_⟩:=h
      unfold I64
      omega
   ·split at h
    ·unfold quoT at h
     simp only at h
     repeat' split at h
     all_goals first | cases h | (simp at h)
    ·unfold sgnT at h
     repeat' split at h
     all_goals first | cases h | (simp at h)
theorem tokT_quo {l:List UInt8} {t:List UInt8} {n:Int} {z:Nat} (h:tokT l = .ok (4,t,n,z)):plainB t = true ∧ t.length ≤ 48:=by
 cases l with
 | nil=>cases h
 | cons c r =>
  rw [tokT] at h
  split at h
  ·obtain ⟨hk,_⟩:=word_full h
   omega
  ·split at h
   ·obtain ⟨hk,_⟩:=num_full h
    omega
   ·split at h
    ·unfold quoT at h
     simp only at h
     split at h
     ·cases h
     ·split at h
      ·cases h
      ·split at h
       ·simp only [Except.ok.injEq,Prod.mk.injEq] at h
        obtain ⟨_,rfl,_,_⟩:=h
        refine ⟨‹_›,?_⟩
        rw [List.length_take]
        omega
       ·cases h
    ·unfold sgnT at h
     repeat' split at h
     all_goals first | cases h | (simp at h)
theorem tokT_word {l:List UInt8} {t:List UInt8} {n:Int} {z:Nat} (h:tokT l = .ok (1,t,n,z)):t.length ≤ 32 ∧ aloneK t = 1:=by
 constructor
 ·cases l with
  | nil=>cases h
  | cons c r =>
   rw [tokT] at h
   split at h
   ·unfold wordT at h
    simp only at h
    split at h
    ·cases h
    ·rename_i hlen
     simp only [Except.ok.injEq,Prod.mk.injEq] at h
     obtain ⟨_,rfl,_,_⟩:=h
     simp only [Bool.or_eq_true,decide_eq_true_eq,not_or] at hlen
     omega
   ·split at h
    ·obtain ⟨hk,_⟩:=num_full h
     omega
    ·split at h
     ·unfold quoT at h
      simp only at h
      repeat' split at h
      all_goals first | cases h | (simp at h)
     ·unfold sgnT at h
      repeat' split at h
      all_goals first | cases h | (simp at h)
 ·have h2:=tokT_again (r:=[]) (.inl rfl) h
  have hf:fullT 1 t = t:=by unfold fullT;rw [if_neg (by decide)]
  rw [hf,List.append_nil] at h2
  cases t with
  | nil=>cases h2
  | cons c r =>
   have hnb:((c.toNat:Int) == 32) = false:=by
    rw [← Bool.not_eq_true]
    intro h32
    rw [show ((c.toNat:Int) == 32) = (c == 32) from byte_eq c 32 (by decide),beq_iff_eq] at h32
    subst h32
    rw [tokT_blank] at h2
    cases h2
   unfold aloneK
   rw [lexT_tok 119 0 c r 1 (c :: r) n (c :: r).length hnb h2,List.drop_length,lexT_end]
   simp [pre]
theorem lexT_ok {m a:Nat} {l:List UInt8} {ts:List Tk} (h:lexT m a l = .ok ts):∀ t ∈ ts,TkOk t:=by
 intro t ht
 obtain ⟨l',z,hz⟩:=lexT_good h t ht
 refine ⟨fun hk hm=>?_,fun hk=>?_,fun hk=>?_⟩
 ·rw [hk] at hz
  obtain ⟨h1,h2⟩:=tokT_word hz
  refine ⟨?_,h1⟩
  unfold nmB
  rw [h2,hm]
  rfl
 ·rw [hk] at hz
  exact tokT_num hz
 ·rw [hk] at hz
  exact tokT_quo hz
section
variable {ts:List Tk}
end
structure Ahead (j:Nat) (n:Nd):Prop where
 range:n.op = 0 ∨ (1 ≤ n.op ∧ n.op ≤ 15) ∨ n.op = 16 ∨ n.op = 17
 l:1 ≤ n.op → n.op ≤ 15 → ∃ a:Nat,n.l = a ∧ a < j
 r:3 ≤ n.op → n.op ≤ 15 → ∃ a:Nat,n.r = a ∧ a < j
theorem step_ahead {i:Nat} {op op':List Nat} {n:Nd} (hp:∀ p ∈ op,p < i) (h:stepR i op n = some op'):Ahead i n ∧ ∀ p ∈ op',p < i + 1:=by
 unfold stepR at h
 split at h
 ·cases h
 ·rename_i hl
  split at h
  ·rename_i hr
   cases h
   refine ⟨?_,fun p hq=>?_⟩
   ·unfold nright at hr
    split at hr
    ·rename_i h0
     exact ⟨.inl h0,fun h=>by omega,fun h=>by omega⟩
    ·split at hr
     ·rename_i h0 h1
      exact ⟨.inr (.inr h1),fun h _=>by omega,fun h _=>by omega⟩
     ·split at hr
      ·rename_i h0 h1 h2
       have hc:=cnt_of h2
       simp only [Bool.and_eq_true,beq_iff_eq] at hr
       obtain ⟨⟨_,el⟩,er⟩:=hr
       have hlen:(op.take (cnt n.op)).length = cnt n.op:=by rw [List.length_take];omega
       have hget:∀ k,k < cnt n.op → ∃ a:Nat,((op.take (cnt n.op)).reverse.map fun (p:Nat)=>(p:Int)).getD k 0 = (a:Int) ∧ a < i:=by
        intro k hk
        have hk':k < (op.take (cnt n.op)).reverse.length:=by rw [List.length_reverse];omega
        refine ⟨(op.take (cnt n.op)).reverse[k],?_,hp _ ?_⟩
        ·rw [List.getD_eq_getElem?_getD,List.getElem?_map,List.getElem?_eq_getElem hk']
         rfl
        ·have:=List.getElem_mem hk'
         rw [List.mem_reverse] at this
         exact List.mem_of_mem_take this
       refine ⟨.inr (.inl h2),fun _ _=>?_,fun h3 _=>?_⟩
       ·obtain ⟨a,ha,hlt⟩:=hget 0 (by omega)
        exact ⟨a,by rw [el,ha],hlt⟩
       ·rw [if_pos h3] at hc
        obtain ⟨a,ha,hlt⟩:=hget 1 (by omega)
        exact ⟨a,by rw [er,ha],hlt⟩
      ·cases hr
   ·rcases List.mem_cons.1 hq with rfl | hq
    ·omega
    ·have:=hp p (List.mem_of_mem_drop hq)
     omega
  ·cases h
theorem stack_ahead:∀ (ns:List Nd) (i:Nat) (op st:List Nat),(∀ p ∈ op,p < i) → stackL i op ns = some st → ∀ j (h:j < ns.length),Ahead (i + j) ns[j]
 | [],_,_,_,_,_,j,hj=>absurd hj (Nat.not_lt_zero _)
 | n :: r,i,op,st,hp,h,j,hj=>by
  rw [stackL] at h
  split at h
  ·rename_i op' hs
   obtain ⟨h1,h2⟩:=step_ahead hp hs
   cases j with
   | zero=>exact h1
   | succ j =>
    have:=stack_ahead r (i + 1) op' st h2 h j (by simpa using hj)
    rw [show i + (j + 1) = i + 1 + j by omega]
    exact this
  ·cases h
theorem right_ahead {ns:List Nd} (h:rightT ns = true):∀ j (hj:j < ns.length),Ahead j ns[j]:=by
 unfold rightT at h
 split at h
 ·cases h
 ·rw [rightL_stack] at h
  split at h
  ·rename_i st hs
   intro j hj
   have:=stack_ahead ns 0 [] st (fun p h=>by cases h) hs j hj
   rw [Nat.zero_add] at this
   exact this
  ·cases h
end Go.Proofs.YtfgpmcepppcmiaaGreatDoor
namespace Go.Proofs.YtfgpmcepppcmiaaGreatDoor
inductive Tree (ns:List Nd):Nat → Nat → Prop
 | leaf {i:Nat} {n:Nd} (hn:ns[i]? = some n) (hc:n.op = 0 ∨ n.op = 16 ∨ n.op = 17):Tree ns i i
 | one {lo a:Nat} {n:Nd} (hn:ns[a + 1]? = some n) (hc:n.op = 1 ∨ n.op = 2) (hl:n.l = (a:Int)) (ha:Tree ns lo a):Tree ns lo (a + 1)
 | two {lo a b:Nat} {n:Nd} (hn:ns[b + 1]? = some n) (hc:3 ≤ n.op ∧ n.op ≤ 15) (hl:n.l = (a:Int)) (hr:n.r = (b:Int)) (ha:Tree ns lo a) (hb:Tree ns (a + 1) b):Tree ns lo (b + 1)
theorem Tree.le {ns:List Nd} {lo i:Nat} (h:Tree ns lo i):lo ≤ i:=by
 induction h with
 | leaf=>exact Nat.le_refl _
 | one _ _ _ _ ih=>omega
 | two _ _ _ _ _ _ ih1 ih2=>omega
theorem Tree.lt {ns:List Nd} {lo i:Nat} (h:Tree ns lo i):i < ns.length:=by
 cases h with
 | leaf hn=>exact (List.getElem?_eq_some_iff.1 hn).1
 | one hn=>exact (List.getElem?_eq_some_iff.1 hn).1
 | two hn=>exact (List.getElem?_eq_some_iff.1 hn).1
theorem Tree.grow {ns:List Nd} {lo i:Nat} (h:Tree ns lo i) (ms:List Nd):Tree (ns ++ ms) lo i:=by
 have e:∀ {k:Nat} {n:Nd},ns[k]? = some n → (ns ++ ms)[k]? = some n:=fun {k n} hk=>by
  rw [List.getElem?_append_left (List.getElem?_eq_some_iff.1 hk).1];exact hk
 induction h with
 | leaf hn hc=>exact .leaf (e hn) hc
 | one hn hc hl _ ih=>exact .one (e hn) hc hl ih
 | two hn hc hl hr _ _ ih1 ih2=>exact .two (e hn) hc hl hr ih1 ih2
inductive Cover (ns:List Nd):List Nat → Nat → Prop
 | nil:Cover ns [] 0
 | cons {p lo:Nat} {st:List Nat} (ht:Tree ns lo p) (hs:Cover ns st lo):Cover ns (p :: st) (p + 1)
theorem Cover.grow {ns:List Nd} {st:List Nat} {k:Nat} (h:Cover ns st k) (ms:List Nd):Cover (ns ++ ms) st k:=by
 induction h with
 | nil=>exact .nil
 | cons ht _ ih=>exact .cons (ht.grow ms) ih
theorem right_kind {n:Nd} {ps:List Int} (h:nright n ps = true):(n.op = 0 ∨ n.op = 16 ∨ n.op = 17) ∨ (1 ≤ n.op ∧ n.op ≤ 15) ∧ n.l = ps.getD 0 0 ∧ n.r = ps.getD 1 0:=by
 unfold nright at h
 split at h
 ·rename_i h0
  exact .inl (.inl h0)
 ·split at h
  ·rename_i h1
   exact .inl (.inr h1)
  ·split at h
   ·rename_i h2
    simp only [Bool.and_eq_true,beq_iff_eq] at h
    exact .inr ⟨h2,h.1.2,h.2⟩
   ·cases h
theorem step_cover {ns:List Nd} {op op':List Nat} {n:Nd} (hc:Cover ns op ns.length) (h:stepR ns.length op n = some op'):Cover (ns ++ [n]) op' (ns ++ [n]).length:=by
 have hn:(ns ++ [n])[ns.length]? = some n:=by simp
 have hlen:(ns ++ [n]).length = ns.length + 1:=by simp
 rw [hlen]
 unfold stepR at h
 split at h
 ·cases h
 ·rename_i hl
  split at h
  ·rename_i hr
   cases h
   rcases right_kind hr with hk | ⟨hk,el,er⟩
   ·have h0:cnt n.op = 0:=by rcases hk with h | h | h <;> rw [h] <;> rfl
    rw [h0,List.drop_zero]
    exact .cons (.leaf hn hk) (hc.grow [n])
   ·have hcn:=cnt_of hk
    by_cases h3:3 ≤ n.op
    ·rw [if_pos h3] at hcn
     rw [hcn] at hl el er ⊢
     match op,hc,hl,el,er with
     | [],_,hl,_,_=>simp at hl
     | [_],_,hl,_,_=>simp at hl
     | b :: a :: st,hc,_,el,er =>
      generalize hL:ns.length = L at hc hn
      cases hc with
      | cons ht hs =>
       cases hs with
       | cons ht2 hs2 =>
        have hl':n.l = (a:Int):=by rw [el];rfl
        have hr':n.r = (b:Int):=by rw [er];rfl
        exact .cons (.two hn ⟨h3,hk.2⟩ hl' hr' (ht2.grow [n]) (ht.grow [n])) (hs2.grow [n])
    ·rw [if_neg h3] at hcn
     rw [hcn] at hl el er ⊢
     match op,hc,hl,el,er with
     | [],_,hl,_,_=>simp at hl
     | a :: st,hc,_,el,_ =>
      generalize hL:ns.length = L at hc hn
      cases hc with
      | cons ht hs =>
       have hl':n.l = (a:Int):=by rw [el];rfl
       exact .cons (.one hn (by omega) hl' (ht.grow [n])) (hs.grow [n])
  ·cases h
theorem stack_cover:∀ (ms ns:List Nd) (op st:List Nat),Cover ns op ns.length → stackL ns.length op ms = some st → Cover (ns ++ ms) st (ns ++ ms).length
 | [],ns,op,st,hc,h=>by
  cases h
  rw [List.append_nil]
  exact hc
 | n :: r,ns,op,st,hc,h=>by
  rw [stackL] at h
  split at h
  ·rename_i op' hs
   have h1:=step_cover hc hs
   have e:(ns ++ [n]).length = ns.length + 1:=by simp
   have:=stack_cover r (ns ++ [n]) op' st h1 (by rw [e];exact h)
   rw [List.append_assoc,List.singleton_append] at this
   exact this
  ·cases h
theorem tree_of_right {ns:List Nd} (h:rightT ns = true):0 < ns.length ∧ Tree ns 0 (ns.length - 1):=by
 unfold rightT at h
 split at h
 ·cases h
 ·rw [rightL_stack] at h
  split at h
  ·rename_i st hs
   have hc:=stack_cover ns [] [] st .nil hs
   rw [List.nil_append] at hc
   rw [beq_iff_eq] at h
   match st,h,hc with
   | [p],_,hc =>
    generalize hL:ns.length = L at hc ⊢
    cases hc with
    | cons ht hs2 =>
     generalize hz:([]:List Nat) = q at hs2
     cases hs2 with
     | nil=>exact ⟨by omega,by simpa using ht⟩
     | cons _ _=>cases hz
  ·cases h
end Go.Proofs.YtfgpmcepppcmiaaGreatDoor
namespace Go.Proofs.YtfgpmcepppcmiaaGreatDoor
section
variable (own:Nd → Int → Int → Except Int Int)
def linK:List Int → List Nd → Except (Int × Nat) (List Int)
 | ks,[] => .ok ks
 | ks,n :: r =>
  match own n (ks.getD n.l.toNat 0) (ks.getD n.r.toNat 0) with
  | .error x => .error (x,ks.length)
  | .ok k=>linK (ks ++ [k]) r
variable {own}
end
end Go.Proofs.YtfgpmcepppcmiaaGreatDoor
namespace Go.Proofs.YtfgpmcepppcmiaaGreatDoor
open Go.RowKit
def findV:List (ByteArray × Int) → ByteArray → Option Int
 | [],_=>none
 | (s,k) :: r,x=>if s.toList == x.toList then some k else findV r x
def ownR (vs:List (ByteArray × Int)) (ss:List ByteArray) (n:Nd) (a b:Int):Except Int Int :=
 if n.op = 0 then .ok n.k
 else if n.op = 16 then (match findV vs ⟨n.name.toArray⟩ with | some k => .ok k | none => .error 24)
 else if n.op = 17 then (if hasB ss ⟨n.name.toArray⟩ then .ok 2 else .error 24)
 else if resK n.op a (if n.op ≤ 2 then 0 else b) = 0 then .error 20 else .ok (resK n.op a (if n.op ≤ 2 then 0 else b))
def VarsAt (w:World) (ao:Option Addr) (vs:List (ByteArray × Int)):Prop:=0 < vs.length → ∃ g o,ao = some ⟨g,o,none⟩ ∧ g < w.heap.size ∧ ∀ i (h:i < vs.length),w.cell? ⟨g,o + i * 2,none⟩ = some (.string vs[i].1) ∧ w.cell? ⟨g,o + i * 2 + 1,none⟩ = some (.int .i64 vs[i].2)
def StrsAt (w:World) (ao:Option Addr) (ss:List ByteArray):Prop:=0 < ss.length → ∃ g o,ao = some ⟨g,o,none⟩ ∧ g < w.heap.size ∧ ∀ i (h:i < ss.length),w.cell? ⟨g,o + i,none⟩ = some (.string ss[i])
theorem vars_below {w w':World} {ao:Option Addr} {vs:List (ByteArray × Int)} (h:VarsAt w ao vs) (hb:Below w.heap.size w w'):VarsAt w' ao vs:=by
 intro h0
 obtain ⟨g,o,e,hg,hc⟩:=h h0
 refine ⟨g,o,e,Nat.lt_of_lt_of_le hg hb.size,fun i hi=>?_⟩
 obtain ⟨h1,h2⟩:=hc i hi
 exact ⟨(hb.cell (p:=⟨g,_,none⟩) hg).trans h1,(hb.cell (p:=⟨g,_,none⟩) hg).trans h2⟩
theorem strs_below {w w':World} {ao:Option Addr} {ss:List ByteArray} (h:StrsAt w ao ss) (hb:Below w.heap.size w w'):StrsAt w' ao ss:=by
 intro h0
 obtain ⟨g,o,e,hg,hc⟩:=h h0
 exact ⟨g,o,e,Nat.lt_of_lt_of_le hg hb.size,fun i hi=>(hb.cell (p:=⟨g,_,none⟩) hg).trans (hc i hi)⟩
theorem findV_skip {vs:List (ByteArray × Int)} {x:ByteArray} {i:Nat} (h:i < vs.length) (hne:(vs[i].1.toList == x.toList) = false) (hp:findV vs x = findV (vs.drop i) x):findV vs x = findV (vs.drop (i + 1)) x:=by
 rw [hp,List.drop_eq_getElem_cons h]
 generalize vs[i] = v at *
 obtain ⟨s,k⟩:=v
 simp only at hne
 rw [findV,hne]
 rfl
theorem findV_hit {vs:List (ByteArray × Int)} {x:ByteArray} {i:Nat} (h:i < vs.length) (he:(vs[i].1.toList == x.toList) = true) (hp:findV vs x = findV (vs.drop i) x):findV vs x = some vs[i].2:=by
 rw [hp,List.drop_eq_getElem_cons h]
 generalize vs[i] = v at *
 obtain ⟨s,k⟩:=v
 simp only at he
 rw [findV,he]
 rfl
theorem ownR_err {vs:List (ByteArray × Int)} {ss:List ByteArray} {n:Nd} {a b x:Int} (h:ownR vs ss n a b = .error x):x = 24 ∨ x = 20:=by
 unfold ownR at h
 repeat' split at h
 all_goals first | cases h
 all_goals first | exact .inl rfl | exact .inr rfl
end Go.Proofs.YtfgpmcepppcmiaaGreatDoor
