/- Several texts of this proof, joined: MA, MB, MD, ME, MF, MG, MH. -/
import Derived.Test.YtacnlghljmgdiaaGreatDoorP2
import Derived.Test.YtacnlghljmgdiaaGreatDoorQ1
import Derived.WalkKit
import Derived.ProofKit
import Derived.OpenShut
import Derived.Handy
import Derived.BigQuiet
import Derived.OwnWalk
import Derived.OneCell
import Derived.Deep.AppendLies
import Derived.Lib.Hide
import Derived.WalkSmall
import Derived.WalkLawsBesides
import Derived.Test.YtacnlghljmgdiaaGreatDoorP4
import Derived.Deep.RegionLaw
import Derived.StillTailTactics
import Derived.BigRegion
namespace Go.Proofs.YtacnlghljmgdiaaGreatDoor
open Go.RowKit
def Tp (B B':Nat) (w w':World) (e:TypeId):Prop:=∀ (s:Nat) (v:Value) (n:Nat) (xs:List Value),w.ownsRow B e s v n xs → w'.ownsRow B' e s v n xs
section
variable {B B':Nat} {w w':World} {e t:TypeId}
theorem z9c (hb:Below w.heap.size w w'):Tp B B w w' e:=fun _ _ _ _ h=>z0a h hb
theorem y1f (hB:B' ≤ B):Tp B B' w w e:=fun _ _ _ _ h=>z0m h hB
theorem z1m {b i:Nat} {u:Value} {cells:Array Value} {fr:Nat × Nat} (hb:w.heap[b]? = some (.cells cells t fr)) (hne:t ≠ e):Tp B B w (w.setCell ⟨b,i,none⟩ u) e:=fun _ _ _ _ h=>ownsRow_setCell_other h (z0n h hb hne) _
theorem z1l {s m:Nat} {u:Value} {ys:List Value} (k:w.ownsRow B' t s u m ys) (hne:e ≠ t) (hg:w.grownBy w' u.ownBlock):Tp B B w w' e:=fun _ _ _ _ h=>z0o h k (z1a h k hne) hg
end
inductive Vs {α:Type} (R:α → List Value → Prop):List α → List Value → Prop
 | nil:Vs R [] []
 | cons {c:α} {cs:List α} {v vs:List Value}:R c v → Vs R cs vs → Vs R (c :: cs) (v ++ vs)
section
variable {α:Type} {R R':α → List Value → Prop} {cs:List α} {vs:List Value}
theorem z3h (h:Vs R cs vs) (hk:∀ c v,R c v → R' c v):Vs R' cs vs:=by
 induction h with
 | nil=>exact .nil
 | cons h1 _ ih=>exact .cons (hk _ _ h1) ih
theorem q9s {c:α} {v:List Value} (h:Vs R cs vs) (hc:R c v):Vs R (cs ++ [c]) (vs ++ v):=by
 induction h with
 | nil =>
  have:=Vs.cons hc (Vs.nil (R:=R))
  rwa [List.append_nil] at this
 | cons h1 _ ih =>
  rw [List.append_assoc]
  exact .cons h1 ih
theorem v6x {s:Nat} (h:Vs R cs vs) (hs:∀ c v,R c v → v.length = s):∀ i (hi:i < cs.length),∃ v,R cs[i] v ∧ ∀ j,j < s → vs[i * s + j]? = v[j]?:=by
 induction h with
 | nil=>exact fun i hi=>absurd hi (Nat.not_lt_zero _)
 | @cons c cs v vs h1 _ ih =>
  have hl:=hs _ _ h1
  intro i hi
  cases i with
  | zero =>
   refine ⟨v,h1,fun j hj=>?_⟩
   rw [Nat.zero_mul,Nat.zero_add,List.getElem?_append_left omT]
  | succ i =>
   obtain ⟨u,h2,h3⟩:=ih i (by simpa using hi)
   have e:(i + 1) * s = i * s + s:=Nat.succ_mul i s
   refine ⟨u,h2,fun j hj=>?_⟩
   rw [List.getElem?_append_right omT,← h3 j hj]
   congr 1
   omega
end
structure CT where
 nd:TypeId
 act:TypeId
 blk:TypeId
 tr:TypeId
 vr:TypeId
 st:TypeId
abbrev ct0:CT:=⟨239,235,158,162,80,141⟩
abbrev ct1:CT:=⟨241,237,187,192,111,110⟩
structure Fx (τ:CT) (B B':Nat) (w w':World):Prop where
 nd:Tp B B' w w' τ.nd
 act:Tp B B' w w' τ.act
 str:Tp B B' w w' 9
section
variable {τ:CT} {B B':Nat} {w w':World}
theorem q2r {v:Value} {cs:List Ac} (k:Fx τ B B' w w') (h:z4d τ.nd τ.act B w v cs):z4d τ.nd τ.act B' w' v cs:=by
 obtain ⟨vs,h1,h2⟩:=h
 exact ⟨vs,z8r h1 fun v n xs hv=>k.nd _ _ _ _ hv,k.act _ _ _ _ h2⟩
theorem z1q (hb:Below w.heap.size w w'):Fx τ B B w w':=⟨z9c hb,z9c hb,z9c hb⟩
theorem z9q (hB:B' ≤ B):Fx τ B B' w w:=⟨y1f hB,y1f hB,y1f hB⟩
def v7a (τ:CT) (B:Nat) (w:World) (cs:List Ac) (v:List Value):Prop:=∃ u,v = [u] ∧ z4d τ.nd τ.act B w u cs
def z2i (τ:CT) (B:Nat) (w:World) (v:Value) (bs:List (List Ac)):Prop:=∃ vs,Vs (v7a τ B w) bs vs ∧ w.ownsRow B τ.blk 1 v bs.length vs
theorem k6f {cs:List Ac} {v:List Value} (h:v7a τ B w cs v):v.length = 1:=by
 obtain ⟨u,rfl,_⟩:=h
 rfl
theorem q4e (k:Fx τ B B' w w') {cs:List Ac} {v:List Value} (h:v7a τ B w cs v):v7a τ B' w' cs v:=by
 obtain ⟨u,e,h⟩:=h
 exact ⟨u,e,q2r k h⟩
theorem z1c (k:Fx τ B B' w w') {v:Value} {bs:List (List Ac)} (h:z2i τ B w v bs) (h2:∀ n xs,w.ownsRow B τ.blk 1 v n xs → w'.ownsRow B' τ.blk 1 v n xs):z2i τ B' w' v bs:=by
 obtain ⟨vs,h3,h4⟩:=h
 exact ⟨vs,z3h h3 fun _ _=>q4e k,h2 _ _ h4⟩
theorem v1g {ao:Option Addr} {n cap:Nat} {bs:List (List Ac)} (h:z2i τ B w (.slice ao n cap) bs) (i:Nat) (hi:i < bs.length):∃ g xo xc,ao = some ⟨g,0,none⟩ ∧ g < w.heap.size ∧ w.cell? ⟨g,i,none⟩ = some (.slice xo bs[i].length xc) ∧ z4d τ.nd τ.act B w (.slice xo bs[i].length xc) bs[i]:=by
 obtain ⟨vs,h1,h2⟩:=h
 obtain ⟨g,cap',e,hg,_,_,hc⟩:=z1g h2 omT
 cases e
 obtain ⟨v,⟨u,rfl,hu⟩,h5⟩:=v6x h1 (fun _ _=>k6f) i hi
 obtain ⟨xo,xc,rfl⟩:=z6d hu
 exact ⟨g,xo,xc,rfl,hg,hc _ _ (by have:=h5 0 deT;simpa using this),hu⟩
theorem z3v (τ:CT) (B:Nat) (w:World):z2i τ B w (.slice none 0 0) []:=⟨[],.nil,World.ownsRow_nil _ _ _ _⟩
def TrR (τ:CT) (B:Nat) (w:World) (t:Tr) (v:List Value):Prop:=∃ iv gv tv,v = [str t.event,iv,gv,.bool t.inner,tv] ∧ w.ownsRow B τ.nd 7 iv t.cond.length (z9j t.cond) ∧ w.ownsRow B 9 1 gv t.goes.length (z6a t.goes) ∧ z4d τ.nd τ.act B w tv t.thn
def z9m (τ:CT) (B:Nat) (w:World) (v:Value) (ts:List Tr):Prop:=∃ vs,Vs (TrR τ B w) ts vs ∧ w.ownsRow B τ.tr 5 v ts.length vs
theorem v6p {t:Tr} {v:List Value} (h:TrR τ B w t v):v.length = 5:=by
 obtain ⟨_,_,_,rfl,_⟩:=h
 rfl
theorem q1u (k:Fx τ B B' w w') {t:Tr} {v:List Value} (h:TrR τ B w t v):TrR τ B' w' t v:=by
 obtain ⟨iv,gv,tv,e,h1,h2,h3⟩:=h
 exact ⟨iv,gv,tv,e,k.nd _ _ _ _ h1,k.str _ _ _ _ h2,q2r k h3⟩
theorem z4x (k:Fx τ B B' w w') {v:Value} {ts:List Tr} (h:z9m τ B w v ts) (h2:∀ n xs,w.ownsRow B τ.tr 5 v n xs → w'.ownsRow B' τ.tr 5 v n xs):z9m τ B' w' v ts:=by
 obtain ⟨vs,h3,h4⟩:=h
 exact ⟨vs,z3h h3 fun _ _=>q1u k,h2 _ _ h4⟩
theorem v6q {ao:Option Addr} {n cap:Nat} {ts:List Tr} (h:z9m τ B w (.slice ao n cap) ts) (i:Nat) (hi:i < ts.length):∃ g io ic go gc uo uc,ao = some ⟨g,0,none⟩ ∧ g < w.heap.size ∧ w.cell? ⟨g,i * 5,none⟩ = some (str ts[i].event) ∧ w.cell? ⟨g,i * 5 + 1,none⟩ = some (.slice io ts[i].cond.length ic) ∧
  w.cell? ⟨g,i * 5 + 2,none⟩ = some (.slice go ts[i].goes.length gc) ∧ w.cell? ⟨g,i * 5 + 3,none⟩ = some (.bool ts[i].inner) ∧ w.cell? ⟨g,i * 5 + 4,none⟩ = some (.slice uo ts[i].thn.length uc) ∧
  w.ownsRow B τ.nd 7 (.slice io ts[i].cond.length ic) ts[i].cond.length (z9j ts[i].cond) ∧ w.ownsRow B 9 1 (.slice go ts[i].goes.length gc) ts[i].goes.length (z6a ts[i].goes) ∧ z4d τ.nd τ.act B w (.slice uo ts[i].thn.length uc) ts[i].thn:=by
 obtain ⟨vs,h1,h2⟩:=h
 obtain ⟨g,cap',e,hg,_,_,hc⟩:=z1g h2 omT
 cases e
 obtain ⟨v,⟨iv,gv,tv,rfl,k1,k2,k3⟩,h5⟩:=v6x h1 (fun _ _=>v6p) i hi
 obtain ⟨io,ic,rfl⟩:=z0g k1
 obtain ⟨go,gc,rfl⟩:=z0g k2
 obtain ⟨uo,uc,rfl⟩:=z6d k3
 exact ⟨g,io,ic,go,gc,uo,uc,rfl,hg,hc _ _ (h5 0 deT),hc _ _ (h5 1 deT),hc _ _ (h5 2 deT),hc _ _ (h5 3 deT),hc _ _ (h5 4 deT),k1,k2,k3⟩
theorem q3y (τ:CT) (B:Nat) (w:World):z9m τ B w (.slice none 0 0) []:=⟨[],.nil,World.ownsRow_nil _ _ _ _⟩
end
def St.lists (s:St) (r:Bool):List (List Ac):=if r then s.exit else s.enter
def stC (s:St) (ev xv tv:Value):List Value:=[str s.name,.int .i64 s.kind,.int .i64 s.parent,str s.start,ev,xv,tv]
def q1t:List St → Nat → (Nat → Value) → List Value
 | [],_,_=>[]
 | s :: ss,i,rv=>stC s (rv (3 * i)) (rv (3 * i + 1)) (rv (3 * i + 2)) ++ q1t ss (i + 1) rv
def vrC (v:Vr):List Value:=[str v.name,.int .i64 v.vk,.int .i64 v.vn,str v.vs]
def j0g (vs:List Vr):List Value:=vs.flatMap vrC
theorem j8h (vs:List Vr) (v:Vr):j0g (vs ++ [v]) = j0g vs ++ vrC v:=by simp [j0g]
theorem q6o:∀ (ss:List St) (k:Nat) (rv:Nat → Value),(q1t ss k rv).length = ss.length * 7
 | [],_,_=>rfl
 | s :: ss,k,rv=>by
  rw [q1t,List.length_append,q6o ss,List.length_cons]
  show 7 + _ = _
  omega
theorem q2h:∀ (ss:List St) (k:Nat) (rv:Nat → Value) (i:Nat) (h:i < ss.length) (j:Nat),j < 7 → (q1t ss k rv)[i * 7 + j]? = (stC ss[i] (rv (3 * (k + i))) (rv (3 * (k + i) + 1)) (rv (3 * (k + i) + 2)))[j]?
 | [],_,_,i,h,_,_=>absurd h (Nat.not_lt_zero _)
 | s :: ss,k,rv,0,_,j,hj=>by
  rw [q1t,Nat.zero_mul,Nat.zero_add,List.getElem?_append_left (by simpa [stC] using hj)]
  rfl
 | s :: ss,k,rv,i + 1,h,j,hj=>by
  rw [q1t,List.getElem?_append_right (by simp [stC];omega),show (i + 1) * 7 + j - (stC s (rv (3 * k)) (rv (3 * k + 1)) (rv (3 * k + 2))).length = i * 7 + j by simp [stC];omega,q2h ss (k + 1) rv i (by simpa using h) j hj,show k + 1 + i = k + (i + 1) by omega]
  rfl
theorem q9h:∀ (ss:List St) (s:St) (k:Nat) (rv:Nat → Value),q1t (ss ++ [s]) k rv = q1t ss k rv ++ stC s (rv (3 * (k + ss.length))) (rv (3 * (k + ss.length) + 1)) (rv (3 * (k + ss.length) + 2))
 | [],s,k,rv=>by simp [q1t]
 | a :: ss,s,k,rv=>by
  rw [List.cons_append,q1t,q1t,q9h ss s (k + 1) rv,List.append_assoc,List.length_cons,show k + 1 + ss.length = k + (ss.length + 1) by omega]
theorem j4r:∀ (ss:List St) (k:Nat) (rv rv':Nat → Value),(∀ a,a < 3 * (k + ss.length) → rv a = rv' a) → q1t ss k rv = q1t ss k rv'
 | [],_,_,_,_=>rfl
 | s :: ss,k,rv,rv',h=>by
  rw [List.length_cons] at h
  rw [q1t,q1t,h _ omT,h _ omT,h _ omT,j4r ss (k + 1) rv rv' fun a ha=>h a omT]
def j2l (rv:Nat → Value) (a:Nat) (v:Value):Nat → Value:=fun b=>if b = a then v else rv b
theorem k9t {ss:List St} {rv:Nat → Value} {i r:Nat} {s:St} {v:Value} (hi:i < ss.length) (hr:r < 3) (h1:s.name = ss[i].name) (h2:s.kind = ss[i].kind) (h3:s.parent = ss[i].parent) (h4:s.start = ss[i].start) :
  (q1t ss 0 rv).set (i * 7 + (4 + r)) v = q1t (ss.set i s) 0 (j2l rv (3 * i + r) v):=by
 apply List.ext_getElem?
 intro p
 by_cases hp:p < ss.length * 7
 ·obtain ⟨q,j,hq,hj,rfl⟩:∃ q j,q < ss.length ∧ j < 7 ∧ p = q * 7 + j:=⟨p / 7,p % 7,by omega,by omega,by omega⟩
  rw [q2h (ss.set i s) 0 _ q (by simpa using hq) j hj,List.getElem?_set]
  by_cases e:i * 7 + (4 + r) = q * 7 + j
  ·obtain rfl:q = i:=by omega
   obtain rfl:j = 4 + r:=by omega
   rw [if_pos rfl,if_pos (by rw [q6o];omega)]
   simp only [List.getElem_set_self,Nat.zero_add]
   rcases (by omega:r = 0 ∨ r = 1 ∨ r = 2) with rfl | rfl | rfl <;> simp [stC,j2l]
  ·rw [if_neg e,q2h ss 0 rv q hq j hj]
   simp only [Nat.zero_add]
   by_cases eq:q = i
   ·subst eq
    simp only [List.getElem_set_self]
    have hne:j ≠ 4 + r:=by omega
    rcases (by omega:j = 0 ∨ j = 1 ∨ j = 2 ∨ j = 3 ∨ j = 4 ∨ j = 5 ∨ j = 6) with rfl | rfl | rfl | rfl | rfl | rfl | rfl
    ·simp [stC,h1]
    ·simp [stC,h2]
    ·simp [stC,h3]
    ·simp [stC,h4]
    ·simp [stC,j2l];omega
    ·simp [stC,j2l];omega
    ·simp [stC,j2l];omega
   ·rw [List.getElem_set_ne (fun h=>eq h.symm)]
    have k0:j2l rv (3 * i + r) v (3 * q) = rv (3 * q):=if_neg omT
    have k1:j2l rv (3 * i + r) v (3 * q + 1) = rv (3 * q + 1):=if_neg omT
    have k2:j2l rv (3 * i + r) v (3 * q + 2) = rv (3 * q + 2):=if_neg omT
    rw [k0,k1,k2]
 ·rw [List.getElem?_eq_none (by rw [List.length_set,q6o];omega),List.getElem?_eq_none (by rw [q6o,List.length_set];omega)]
structure RowsAt (τ:CT) (B:Nat) (w:World) (ss:List St) (rv:Nat → Value):Prop where
 ent:∀ i,z2i τ B w (rv (3 * i)) (ss.getD i st0).enter
 exi:∀ i,z2i τ B w (rv (3 * i + 1)) (ss.getD i st0).exit
 trs:∀ i,z9m τ B w (rv (3 * i + 2)) (ss.getD i st0).trans
 sep:∀ a b,a ≠ b → (rv a).ownBlock = none ∨ (rv a).ownBlock ≠ (rv b).ownBlock
section
variable {τ:CT} {B B':Nat} {w w':World} {ss:List St} {rv:Nat → Value}
theorem z7r (h:RowsAt τ B w ss rv) (k:Fx τ B B' w w') (h1:Tp B B' w w' τ.blk) (h2:Tp B B' w w' τ.tr):RowsAt τ B' w' ss rv :=
 ⟨fun i=>z1c k (h.ent i) fun _ _=>h1 _ _ _ _,fun i=>z1c k (h.exi i) fun _ _=>h1 _ _ _ _,fun i=>z4x k (h.trs i) fun _ _=>h2 _ _ _ _,h.sep⟩
def v5h (rv:Nat → Value) (n:Nat):Nat → Value:=fun a=>if a / 3 = n then .slice none 0 0 else rv a
theorem k3h {s:St} (h:RowsAt τ B w ss rv) (h1:s.enter = []) (h2:s.exit = []) (h3:s.trans = []):RowsAt τ B w (ss ++ [s]) (v5h rv ss.length):=by
 have hs:∀ i,(ss ++ [s]).getD i st0 = if i = ss.length then s else ss.getD i st0:=fun i=>by
  rw [z6n]
  by_cases hlt:i < ss.length
  ·rw [if_pos hlt,if_neg omT]
  ·rw [if_neg hlt]
   by_cases he:i = ss.length
   ·rw [if_pos he,if_pos he]
   ·rw [if_neg he,if_neg he,List.getD_eq_getElem?_getD,List.getElem?_eq_none omT]
    rfl
 have hd:∀ i r,r < 3 → v5h rv ss.length (3 * i + r) = if i = ss.length then .slice none 0 0 else rv (3 * i + r):=fun i r hr=>by
  unfold v5h
  rw [show (3 * i + r) / 3 = i by omega]
 refine ⟨fun i=>?_,fun i=>?_,fun i=>?_,fun a b hab=>?_⟩
 ·rw [hs,show 3 * i = 3 * i + 0 from rfl,hd i 0 deT]
  split
  ·rw [h1];exact z3v _ _ _
  ·exact h.ent i
 ·rw [hs,hd i 1 deT]
  split
  ·rw [h2];exact z3v _ _ _
  ·exact h.exi i
 ·rw [hs,hd i 2 deT]
  split
  ·rw [h3];exact q3y _ _ _
  ·exact h.trs i
 ·unfold v5h
  by_cases ha:a / 3 = ss.length
  ·rw [if_pos ha];exact .inl rfl
  ·rw [if_neg ha]
   by_cases hb:b / 3 = ss.length
   ·rw [if_pos hb]
    cases hv:(rv a).ownBlock with
    | none=>exact .inl rfl
    | some k=>exact .inr fun e=>by cases e
   ·rw [if_neg hb]
    exact h.sep a b hab
theorem j4m {c g H:Nat} {v:Value} (h:∀ a b,a ≠ b → (rv a).ownBlock = none ∨ (rv a).ownBlock ≠ (rv b).ownBlock) (hlt:∀ a k,(rv a).ownBlock = some k → k < w.heap.size) (hv:v.ownBlock = some g) (hat:(rv c).ownBlock = some g ∨ g = H) (hH:w.heap.size ≤ H) :
  ∀ a b,a ≠ b → (j2l rv c v a).ownBlock = none ∨ (j2l rv c v a).ownBlock ≠ (j2l rv c v b).ownBlock:=by
 have key:∀ a,a ≠ c → (rv a).ownBlock ≠ some g:=fun a ha hg=>by
  rcases hat with hat | rfl
  ·rcases h a c ha with k | k
   ·rw [k] at hg;cases hg
   ·exact k (by rw [hg,hat])
  ·have:=hlt a _ hg
   omega
 intro a b hab
 unfold j2l
 by_cases ha:a = c
 ·rw [if_pos ha,if_neg (fun e=>hab (by rw [ha,e])),hv]
  exact .inr fun e=>key b (fun e'=>hab (by rw [ha,e'])) e.symm
 ·rw [if_neg ha]
  by_cases hb:b = c
  ·rw [if_pos hb,hv]
   exact .inr (key a ha)
  ·rw [if_neg hb]
   exact h a b hab
theorem y0r (h:RowsAt τ B w ss rv):∀ a k,(rv a).ownBlock = some k → k < w.heap.size:=fun a k hk=>by
 rcases (by omega:a = 3 * (a / 3) ∨ a = 3 * (a / 3) + 1 ∨ a = 3 * (a / 3) + 2) with e | e | e
 ·obtain ⟨_,_,h1⟩:=h.ent (a / 3)
  rw [e] at hk
  exact (h1.lt k hk).2
 ·obtain ⟨_,_,h1⟩:=h.exi (a / 3)
  rw [e] at hk
  exact (h1.lt k hk).2
 ·obtain ⟨_,_,h1⟩:=h.trs (a / 3)
  rw [e] at hk
  exact (h1.lt k hk).2
end
section
variable {B:Nat} {w w':World} {ss:List St} {rv:Nat → Value}
theorem z8v {τ:CT} {t s m B':Nat} {u:Value} {ys:List Value} (k:w.ownsRow B' t s u m ys) (h1:τ.nd ≠ t) (h2:τ.act ≠ t) (h3:9 ≠ t) (hg:w.grownBy w' u.ownBlock):Fx τ B B w w':=⟨z1l k h1 hg,z1l k h2 hg,z1l k h3 hg⟩
theorem j6b {b i t:Nat} {u:Value} {cells:Array Value} {fr:Nat × Nat} (hb:w.heap[b]? = some (.cells cells t fr)) (h1:t ≠ ct0.nd) (h2:t ≠ ct0.act) (h3:t ≠ 9):Fx ct0 B B w (w.setCell ⟨b,i,none⟩ u):=⟨z1m hb h1,z1m hb h2,z1m hb h3⟩
theorem z3l {a c:Nat} (h:RowsAt ct0 B w ss rv) (fx:Fx ct0 B B w w') (hg:w.grownBy w' (rv c).ownBlock) (hac:a ≠ c) {bs:List (List Ac)} (k:z2i ct0 B w (rv a) bs):z2i ct0 B w' (rv a) bs :=
 z1c fx k fun _ _ ho=>ho.kept hg (h.sep a c hac)
theorem z8y {a c:Nat} (h:RowsAt ct0 B w ss rv) (fx:Fx ct0 B B w w') (hg:w.grownBy w' (rv c).ownBlock) (hac:a ≠ c) {ts:List Tr} (k:z9m ct0 B w (rv a) ts):z9m ct0 B w' (rv a) ts :=
 z4x fx k fun _ _ ho=>ho.kept hg (h.sep a c hac)
theorem j4z (rv:Nat → Value) (a:Nat) (v:Value):j2l rv a v a = v:=if_pos rfl
theorem q3z {a b:Nat} (rv:Nat → Value) (v:Value) (h:b ≠ a):j2l rv a v b = rv b:=if_neg h
theorem q5e {τ:CT} {av:Value} {bs:List (List Ac)} {cs:List Ac} {u:Value} {vs:List Value} (fx:Fx τ B B w w') (hV:Vs (v7a τ B w) bs vs) (ha:z4d τ.nd τ.act B w av cs) (ho:w'.ownsRow B τ.blk 1 u (bs.length + 1) (vs ++ [av])):z2i τ B w' u (bs ++ [cs]) :=
 ⟨vs ++ [av],q9s (z3h hV fun _ _=>q4e fx) ⟨av,rfl,q2r fx ha⟩,by rw [List.length_append];exact ho⟩
theorem y7z {τ:CT} {v:List Value} {ts:List Tr} {t:Tr} {u:Value} {vs:List Value} (fx:Fx τ B B w w') (hV:Vs (TrR τ B w) ts vs) (ha:TrR τ B w t v) (ho:w'.ownsRow B τ.tr 5 u (ts.length + 1) (vs ++ v)):z9m τ B w' u (ts ++ [t]) :=
 ⟨vs ++ v,q9s (z3h hV fun _ _=>q1u fx) (q1u fx ha),by rw [List.length_append];exact ho⟩
theorem y6y {i g cap n H:Nat} {s:St} (h:RowsAt ct0 B w ss rv) (hi:i < ss.length) (fx:Fx ct0 B B w w') (hg:w.grownBy w' (rv (3 * i)).ownBlock) (hn:z2i ct0 B w' (.slice (some ⟨g,0,none⟩) n cap) s.enter) (hx:s.exit = (ss.getD i st0).exit) (ht:s.trans = (ss.getD i st0).trans)
  (hat:(rv (3 * i)).ownBlock = some g ∨ g = H) (hH:w.heap.size ≤ H):RowsAt ct0 B w' (ss.set i s) (j2l rv (3 * i) (.slice (some ⟨g,0,none⟩) n cap)):=by
 refine ⟨fun j=>?_,fun j=>?_,fun j=>?_,j4m h.sep (y0r h) rfl hat hH⟩
 ·rw [z3x hi]
  by_cases hj:j = i
  ·subst hj
   rw [if_pos rfl,j4z]
   exact hn
  ·rw [if_neg hj,q3z _ _ omT]
   exact z3l h fx hg omT (h.ent j)
 ·rw [z3x hi,q3z _ _ omT]
  have:=z3l h fx hg (by omega:3 * j + 1 ≠ 3 * i) (h.exi j)
  split
  ·rename_i hj;subst hj;rw [hx];exact this
  ·exact this
 ·rw [z3x hi,q3z _ _ omT]
  have:=z8y h fx hg (by omega:3 * j + 2 ≠ 3 * i) (h.trs j)
  split
  ·rename_i hj;subst hj;rw [ht];exact this
  ·exact this
theorem k3e {i g cap n H:Nat} {s:St} (h:RowsAt ct0 B w ss rv) (hi:i < ss.length) (fx:Fx ct0 B B w w') (hg:w.grownBy w' (rv (3 * i + 1)).ownBlock) (hn:z2i ct0 B w' (.slice (some ⟨g,0,none⟩) n cap) s.exit) (hx:s.enter = (ss.getD i st0).enter) (ht:s.trans = (ss.getD i st0).trans)
  (hat:(rv (3 * i + 1)).ownBlock = some g ∨ g = H) (hH:w.heap.size ≤ H):RowsAt ct0 B w' (ss.set i s) (j2l rv (3 * i + 1) (.slice (some ⟨g,0,none⟩) n cap)):=by
 refine ⟨fun j=>?_,fun j=>?_,fun j=>?_,j4m h.sep (y0r h) rfl hat hH⟩
 ·rw [z3x hi,q3z _ _ omT]
  have:=z3l h fx hg (by omega:3 * j ≠ 3 * i + 1) (h.ent j)
  split
  ·rename_i hj;subst hj;rw [hx];exact this
  ·exact this
 ·rw [z3x hi]
  by_cases hj:j = i
  ·subst hj
   rw [if_pos rfl,j4z]
   exact hn
  ·rw [if_neg hj,q3z _ _ omT]
   exact z3l h fx hg omT (h.exi j)
 ·rw [z3x hi,q3z _ _ omT]
  have:=z8y h fx hg (by omega:3 * j + 2 ≠ 3 * i + 1) (h.trs j)
  split
  ·rename_i hj;subst hj;rw [ht];exact this
  ·exact this
theorem y6z {i g cap n H:Nat} {s:St} (h:RowsAt ct0 B w ss rv) (hi:i < ss.length) (fx:Fx ct0 B B w w') (hg:w.grownBy w' (rv (3 * i + 2)).ownBlock) (hn:z9m ct0 B w' (.slice (some ⟨g,0,none⟩) n cap) s.trans) (he:s.enter = (ss.getD i st0).enter) (hx:s.exit = (ss.getD i st0).exit)
  (hat:(rv (3 * i + 2)).ownBlock = some g ∨ g = H) (hH:w.heap.size ≤ H):RowsAt ct0 B w' (ss.set i s) (j2l rv (3 * i + 2) (.slice (some ⟨g,0,none⟩) n cap)):=by
 refine ⟨fun j=>?_,fun j=>?_,fun j=>?_,j4m h.sep (y0r h) rfl hat hH⟩
 ·rw [z3x hi,q3z _ _ omT]
  have:=z3l h fx hg (by omega:3 * j ≠ 3 * i + 2) (h.ent j)
  split
  ·rename_i hj;subst hj;rw [he];exact this
  ·exact this
 ·rw [z3x hi,q3z _ _ omT]
  have:=z3l h fx hg (by omega:3 * j + 1 ≠ 3 * i + 2) (h.exi j)
  split
  ·rename_i hj;subst hj;rw [hx];exact this
  ·exact this
 ·rw [z3x hi]
  by_cases hj:j = i
  ·subst hj
   rw [if_pos rfl,j4z]
   exact hn
  ·rw [if_neg hj,q3z _ _ omT]
   exact z8y h fx hg omT (h.trs j)
theorem v5t {e s n cap g j:Nat} {xs:List Value} {u:Value} (h:w.ownsRow B e s (.slice (some ⟨g,0,none⟩) n cap) n xs):(w.setCell ⟨g,j,none⟩ u).ownsRow B e s (.slice (some ⟨g,0,none⟩) n cap) n (xs.set j u):=by
 obtain ⟨h1,h2⟩:=h
 rcases h2 with ⟨h0,_⟩ | ⟨g',cap',cur,hv,hg,hh,hn,hcap,hsz,htake⟩
 ·cases h0
 ·cases hv
  refine ⟨by rw [List.length_set];exact h1,.inr ⟨g,cap,cur.setIfInBounds j u,rfl,hg,z0l hh,hn,hcap,by simpa using hsz,?_⟩⟩
  rw [Array.toList_setIfInBounds,List.take_set,htake]
end
structure Fr (B bb:Nat) (w w':World):Prop where
 os:w'.os = w.os
 tape:w'.tape = w.tape
 output:w'.output = w.output
 size:w.heap.size ≤ w'.heap.size
 block:∀ k,k < B → k ≠ bb → w'.heap[k]? = w.heap[k]?
theorem j9k (B bb:Nat) (w:World):Fr B bb w w:=⟨rfl,rfl,rfl,Nat.le_refl _,fun _ _ _=>rfl⟩
theorem z3w {B bb:Nat} {w w1 w2:World} (h:Fr B bb w w1) (k:Fr B bb w1 w2):Fr B bb w w2:=⟨k.os.trans h.os,k.tape.trans h.tape,k.output.trans h.output,Nat.le_trans h.size k.size,fun j h1 h2=>(k.block j h1 h2).trans (h.block j h1 h2)⟩
theorem y2b {B bb:Nat} {w w1:World} (h:Below w.heap.size w w1) (hB:B ≤ w.heap.size):Fr B bb w w1:=⟨h.os,h.tape,h.output,h.size,fun k hk _=>h.block k (Nat.lt_of_lt_of_le hk hB)⟩
theorem q7p {B bb b i:Nat} {v:Value} {w:World} (hb:b = bb ∨ B ≤ b):Fr B bb w (w.setCell ⟨b,i,none⟩ v):=⟨rfl,rfl,rfl,Nat.le_of_eq (z1w _ _ _ _).symm,fun k h1 h2=>by
 have:k ≠ b:=by omega
 rw [Below.heap_setCell _ _ _ _ (fun e=>this e)]⟩
theorem q6d {B bb:Nat} {w w1:World} {row:Option Nat} (h:w.grownBy w1 row) (hB:B ≤ w.heap.size) (hr:∀ k,row = some k → B ≤ k):Fr B bb w w1:=⟨h.os,h.tape,h.output,h.size,fun k hk _=>h.block k (Nat.lt_of_lt_of_le hk hB) fun e=>by have:=hr k e.symm;omega⟩
abbrev bdC (c:Ch) (m:Nat) (vv sv ov:Value):Array Value:=#[str c.name,vv,sv,ov,.int .i64 (m:Int)]
structure BdIs (w0:World) (B bb:Nat) (c:Ch) (op:List Nat) (m:Nat) (rv:Nat → Value) (vv sv ov:Value) (w:World):Prop where
 blk:w.heap[bb]? = some (.cells (bdC c m vv sv ov) 129 (0,0))
 vars:w.ownsRow B ct0.vr 4 vv c.vars.length (j0g c.vars)
 sts:w.ownsRow B ct0.st 7 sv c.states.length (q1t c.states 0 rv)
 rows:RowsAt ct0 B w c.states rv
 opn:w.ownsRow B 3 1 ov op.length (z1h op)
 low:bb < B
 top:B ≤ w.heap.size
 env:Fr B bb w0 w
def q1h (w0:World) (B bb:Nat) (c:Ch) (op:List Nat) (m:Nat) (w:World):Prop:=∃ rv vv sv ov,BdIs w0 B bb c op m rv vv sv ov w
section
variable {w0:World} {B bb:Nat} {c:Ch} {op:List Nat} {m:Nat} {rv:Nat → Value} {vv sv ov:Value} {w w':World}
theorem z2h (h:BdIs w0 B bb c op m rv vv sv ov w) (hb:Below w.heap.size w w'):BdIs w0 B bb c op m rv vv sv ov w' :=
 ⟨z0c h.blk hb,z0a h.vars hb,z0a h.sts hb,z7r h.rows (z1q hb) (z9c hb) (z9c hb),z0a h.opn hb,h.low,Nat.le_trans h.top hb.size,z3w h.env (y2b hb h.top)⟩
theorem z2x (h:q1h w0 B bb c op m w) (hb:Below w.heap.size w w'):q1h w0 B bb c op m w':=by
 obtain ⟨rv,vv,sv,ov,h⟩:=h
 exact ⟨rv,vv,sv,ov,z2h h hb⟩
theorem j8r (h:BdIs w0 B bb c op m rv vv sv ov w) (i:Nat) (u:Value):(w.setCell ⟨bb,i,none⟩ u).heap[bb]? = some (.cells ((bdC c m vv sv ov).setIfInBounds i u) 129 (0,0)) ∧ (w.setCell ⟨bb,i,none⟩ u).ownsRow B ct0.vr 4 vv c.vars.length (j0g c.vars) ∧
  (w.setCell ⟨bb,i,none⟩ u).ownsRow B ct0.st 7 sv c.states.length (q1t c.states 0 rv) ∧ RowsAt ct0 B (w.setCell ⟨bb,i,none⟩ u) c.states rv ∧ (w.setCell ⟨bb,i,none⟩ u).ownsRow B 3 1 ov op.length (z1h op) :=
 ⟨z0l h.blk,z1m h.blk deT _ _ _ _ h.vars,z1m h.blk deT _ _ _ _ h.sts,z7r h.rows (j6b h.blk deT deT deT) (z1m h.blk deT) (z1m h.blk deT),z1m h.blk deT _ _ _ _ h.opn⟩
theorem v3f (s:List UInt8) (h:BdIs w0 B bb c op m rv vv sv ov w):BdIs w0 B bb { c with name:=s } op m rv vv sv ov (w.setCell ⟨bb,0,none⟩ (str s)):=by
 obtain ⟨h1,h2,h3,h4,h5⟩:=j8r h 0 (str s)
 exact ⟨h1,h2,h3,h4,h5,h.low,by rw [z1w];exact h.top,z3w h.env (q7p (.inl rfl))⟩
theorem k6b (k:Nat) (h:BdIs w0 B bb c op m rv vv sv ov w):BdIs w0 B bb c op k rv vv sv ov (w.setCell ⟨bb,4,none⟩ (.int .i64 (k:Int))):=by
 obtain ⟨h1,h2,h3,h4,h5⟩:=j8r h 4 (.int .i64 (k:Int))
 exact ⟨h1,h2,h3,h4,h5,h.low,by rw [z1w];exact h.top,z3w h.env (q7p (.inl rfl))⟩
theorem v7x {oa:Option Addr} {oc k:Nat} (h:BdIs w0 B bb c op m rv vv sv (.slice oa op.length oc) w) (hk:k ≤ op.length):BdIs w0 B bb c (op.take k) m rv vv sv (.slice oa k oc) (w.setCell ⟨bb,3,none⟩ (.slice oa k oc)):=by
 obtain ⟨h1,h2,h3,h4,h5⟩:=j8r h 3 (.slice oa k oc)
 refine ⟨h1,h2,h3,h4,?_,h.low,by rw [z1w];exact h.top,z3w h.env (q7p (.inl rfl))⟩
 have:=j1n h5 hk
 rw [Nat.mul_one] at this
 rw [show (op.take k).length = k by rw [List.length_take];omega,show z1h (op.take k) = (z1h op).take k by simp [z1h]]
 exact this
theorem v3h {g cap n:Nat} {v:Vr} (h:BdIs w0 B bb c op m rv vv sv ov w) (hg:w.grownBy w' vv.ownBlock) (ho:w'.ownsRow B ct0.vr 4 (.slice (some ⟨g,0,none⟩) n cap) n (j0g c.vars ++ vrC v)) (hn:n = c.vars.length + 1) :
  BdIs w0 B bb { c with vars:=c.vars ++ [v] } op m rv (.slice (some ⟨g,0,none⟩) n cap) sv ov (w'.setCell ⟨bb,1,none⟩ (.slice (some ⟨g,0,none⟩) n cap)):=by
 subst hn
 have hb:=z0h h.vars h.blk deT hg
 have t2:=z1l (B:=B) h.vars (show ct0.st ≠ ct0.vr by decide) hg _ _ _ _ h.sts
 have t3:=z7r h.rows (z8v h.vars deT deT deT hg) (z1l h.vars deT hg) (z1l h.vars deT hg)
 have t4:=z1l (B:=B) h.vars (show 3 ≠ ct0.vr by decide) hg _ _ _ _ h.opn
 refine ⟨z0l hb,?_,z1m hb deT _ _ _ _ t2,z7r t3 (j6b hb deT deT deT) (z1m hb deT) (z1m hb deT),z1m hb deT _ _ _ _ t4,h.low,by rw [z1w];exact Nat.le_trans h.top hg.size,z3w (z3w h.env (q6d hg h.top fun j hj=>(h.vars.lt j hj).1)) (q7p (.inl rfl))⟩
 have:=z1m (i:=1) (u := .slice (some ⟨g,0,none⟩) (c.vars.length + 1) cap) hb (show 129 ≠ ct0.vr by decide) _ _ _ _ ho
 rw [j8h,List.length_append]
 exact this
theorem v7y {g cap n:Nat} {s:St} (h:BdIs w0 B bb c op m rv vv sv ov w) (hg:w.grownBy w' sv.ownBlock) (h1:s.enter = []) (h2:s.exit = []) (h3:s.trans = []) (ho:w'.ownsRow B ct0.st 7 (.slice (some ⟨g,0,none⟩) n cap) n (q1t c.states 0 rv ++ stC s (.slice none 0 0) (.slice none 0 0) (.slice none 0 0))) (hn:n = c.states.length + 1) :
  BdIs w0 B bb { c with states:=c.states ++ [s] } op m (v5h rv c.states.length) vv (.slice (some ⟨g,0,none⟩) n cap) ov (w'.setCell ⟨bb,2,none⟩ (.slice (some ⟨g,0,none⟩) n cap)):=by
 subst hn
 have hb:=z0h h.sts h.blk deT hg
 have t2:=z1l (B:=B) h.sts (show ct0.vr ≠ ct0.st by decide) hg _ _ _ _ h.vars
 have t3:=z7r h.rows (z8v h.sts deT deT deT hg) (z1l h.sts deT hg) (z1l h.sts deT hg)
 have t4:=z1l (B:=B) h.sts (show 3 ≠ ct0.st by decide) hg _ _ _ _ h.opn
 refine ⟨z0l hb,z1m hb deT _ _ _ _ t2,?_,k3h (z7r t3 (j6b hb deT deT deT) (z1m hb deT) (z1m hb deT)) h1 h2 h3,z1m hb deT _ _ _ _ t4,h.low,by rw [z1w];exact Nat.le_trans h.top hg.size,z3w (z3w h.env (q6d hg h.top fun j hj=>(h.sts.lt j hj).1)) (q7p (.inl rfl))⟩
 have:=z1m (i:=2) (u := .slice (some ⟨g,0,none⟩) (c.states.length + 1) cap) hb (show 129 ≠ ct0.st by decide) _ _ _ _ ho
 rw [q9h,List.length_append]
 have e:q1t c.states 0 (v5h rv c.states.length) = q1t c.states 0 rv:=j4r _ _ _ _ fun a ha=>if_neg omT
 have k:∀ r,r < 3 → v5h rv c.states.length (3 * (0 + c.states.length) + r) = .slice none 0 0:=fun r hr=>if_pos omT
 rw [e,show 3 * (0 + c.states.length) = 3 * (0 + c.states.length) + 0 from rfl,k 0 deT,k 1 deT,k 2 deT]
 exact this
theorem v3g {g cap n x:Nat} (h:BdIs w0 B bb c op m rv vv sv ov w) (hg:w.grownBy w' ov.ownBlock) (ho:w'.ownsRow B 3 1 (.slice (some ⟨g,0,none⟩) n cap) n (z1h op ++ [.int .i64 (x:Int)])) (hn:n = op.length + 1) :
  BdIs w0 B bb c (op ++ [x]) m rv vv sv (.slice (some ⟨g,0,none⟩) n cap) (w'.setCell ⟨bb,3,none⟩ (.slice (some ⟨g,0,none⟩) n cap)):=by
 subst hn
 have hb:=z0h h.opn h.blk deT hg
 have t1:=z1l (B:=B) h.opn (show ct0.vr ≠ 3 by decide) hg _ _ _ _ h.vars
 have t2:=z1l (B:=B) h.opn (show ct0.st ≠ 3 by decide) hg _ _ _ _ h.sts
 have t3:=z7r h.rows (z8v h.opn deT deT deT hg) (z1l h.opn deT hg) (z1l h.opn deT hg)
 refine ⟨z0l hb,z1m hb deT _ _ _ _ t1,z1m hb deT _ _ _ _ t2,z7r t3 (j6b hb deT deT deT) (z1m hb deT) (z1m hb deT),?_,h.low,by rw [z1w];exact Nat.le_trans h.top hg.size,z3w (z3w h.env (q6d hg h.top fun j hj=>(h.opn.lt j hj).1)) (q7p (.inl rfl))⟩
 have:=z1m (i:=3) (u := .slice (some ⟨g,0,none⟩) (op.length + 1) cap) hb (show 129 ≠ 3 by decide) _ _ _ _ ho
 rw [show z1h (op ++ [x]) = z1h op ++ [.int .i64 (x:Int)] by simp [z1h],List.length_append]
 exact this
theorem j2w {e s n B':Nat} {u:Value} {ys:List Value} {W2 w1:World} (hgrow:W2.grownBy w1 u.ownBlock) (h:BdIs w0 B bb c op m rv vv sv ov w) (k:w.ownsRow B' e s u n ys) (ht:129 ≠ e) (hb:Below w.heap.size w W2) :
  w1.cell? ⟨bb,1,none⟩ = some vv ∧ w1.cell? ⟨bb,2,none⟩ = some sv ∧ w1.cell? ⟨bb,3,none⟩ = some ov ∧ w1.cell? ⟨bb,4,none⟩ = some (.int .i64 (m:Int)) ∧ bb < w1.heap.size ∧ ∀ i,w1.frozen? ⟨bb,i,none⟩ = false:=by
 obtain ⟨_,c1,c2,c3,c4,hl,hf⟩:=five (z0h (z0a k hb) (z2h h hb).blk ht hgrow)
 exact ⟨c1,c2,c3,c4,hl,hf⟩
theorem q7d {j:Nat} (h:BdIs w0 B bb c op m rv vv sv ov w) (hg:w.grownBy w' (some j)) (hj:j < B) (hne:bb ≠ j):BdIs w' B bb c op m rv vv sv ov w':=by
 have T:∀ e,Tp B B w w' e:=fun e _ _ _ _ k=>k.kept hg (.inr fun he=>by have:=(k.lt _ he).1;omega)
 exact ⟨(hg.block bb (lt_of_block h.blk) (by simpa using hne)).trans h.blk,T _ _ _ _ _ h.vars,T _ _ _ _ _ h.sts,z7r h.rows ⟨T _,T _,T _⟩ (T _) (T _),T _ _ _ _ _ h.opn,h.low,Nat.le_trans h.top hg.size,j9k _ _ _⟩
theorem v3e (h:BdIs w0 B bb c op m rv vv sv ov w):BdIs w B bb c op m rv vv sv ov w:=⟨h.blk,h.vars,h.sts,h.rows,h.opn,h.low,h.top,j9k _ _ _⟩
theorem v1d {i r g cap n sb scap:Nat} {s:St} (h:BdIs w0 B bb c op m rv vv (.slice (some ⟨sb,0,none⟩) c.states.length scap) ov w) (hr:r < 3) (hi:i < c.states.length) {t z:Nat} {ys:List Value} (hk:w.ownsRow B t z (rv (3 * i + r)) n ys) (ht:t = ct0.blk ∨ t = ct0.tr) (hg:w.grownBy w' (rv (3 * i + r)).ownBlock)
  (h1:s.name = c.states[i].name) (h2:s.kind = c.states[i].kind) (h3:s.parent = c.states[i].parent) (h4:s.start = c.states[i].start)
  (hR:RowsAt ct0 B w' (c.states.set i s) (j2l rv (3 * i + r) (.slice (some ⟨g,0,none⟩) (n + 1) cap))) :
  BdIs w0 B bb { c with states:=c.states.set i s } op m (j2l rv (3 * i + r) (.slice (some ⟨g,0,none⟩) (n + 1) cap)) vv (.slice (some ⟨sb,0,none⟩) c.states.length scap) ov (w'.setCell ⟨sb,i * 7 + (4 + r),none⟩ (.slice (some ⟨g,0,none⟩) (n + 1) cap)):=by
 have hne:ct0.vr ≠ t ∧ ct0.st ≠ t ∧ 3 ≠ t ∧ 129 ≠ t:=by rcases ht with rfl | rfl <;> decide
 have hb:=z0h hk h.blk hne.2.2.2 hg
 have t1:=z1l (B:=B) hk hne.1 hg _ _ _ _ h.vars
 have t2:=z1l (B:=B) hk hne.2.1 hg _ _ _ _ h.sts
 have t4:=z1l (B:=B) hk hne.2.2.1 hg _ _ _ _ h.opn
 obtain ⟨cur,hcur⟩:∃ cur,w'.heap[sb]? = some (.cells cur ct0.st (0,0)):=by
  rcases t2.2 with ⟨h0,_⟩ | ⟨g',cap',cur,hv,_,hh,_⟩
  ·cases h0
  ·cases hv;exact ⟨cur,hh⟩
 have hbs:bb ≠ sb:=fun e=>by rw [← e,hb] at hcur;cases hcur
 have hput:=v5t (j:=i * 7 + (4 + r)) (u := .slice (some ⟨g,0,none⟩) (n + 1) cap) t2
 rw [k9t hi hr h1 h2 h3 h4] at hput
 refine ⟨z0i hb hbs,z1m hcur deT _ _ _ _ t1,?_,z7r hR (j6b hcur deT deT deT) (z1m hcur deT) (z1m hcur deT),z1m hcur deT _ _ _ _ t4,h.low,by rw [z1w];exact Nat.le_trans h.top hg.size,z3w (z3w h.env (q6d hg h.top fun j hj=>(hk.lt j hj).1)) (q7p (.inr (t2.lt sb rfl).1))⟩
 rw [List.length_set]
 exact hput
end
theorem Tryz.infoSt:(Tryz.prog.info? 141).map (fun i=>(i.zero,i.size,i.bytes)) = some (some (.agg #[.string ⟨#[]⟩,.int .i64 0,.int .i64 0,.string ⟨#[]⟩,.slice none 0 0,.slice none 0 0,.slice none 0 0]),7,120):=by kernel_rfl
theorem j7r (s k p t e x r:Value) (n:Int) (hk:k = .int .i64 n) (w:World) :
  Calls Tryz.prog 116 #[.agg #[s,k,p,t,e,x,r]] w (Ret (.bool (n == 6 || n == 7)) w):=by
 subst hk
 cases h6:(n == 6)
 ·cases h7:(n == 7)
  all_goals
   go_enter Tryz.func116,Tryz.ntmps116
   go_wp2
   go_returns
   exact ⟨by simp,gzT⟩
 ·go_enter Tryz.func116,Tryz.ntmps116
  go_wp2
  go_returns
  exact ⟨by simp,gzT⟩
section
variable {w0:World} {B bb:Nat} {c:Ch} {op:List Nat} {m:Nat} {rv:Nat → Value} {vv sv ov:Value} {w w':World}
set_option maxRecDepth 100000 in
set_option maxHeartbeats 2000000 in
theorem q2v {pre:List Nat} {i:Nat} (hp:pre.length ≤ 1000) (h:BdIs w0 B bb c (pre ++ [i]) m rv vv sv ov w) :
  Calls Tryz.prog 146 #[.pointer (some ⟨bb,0,none⟩)] w (Ret (.int .i64 (i:Int)) w):=by
 obtain ⟨c0,c1,c2,c3,c4,hbb,hfr⟩:=five h.blk
 obtain ⟨ob,oc,rfl,hob,hc1,hc2,hcl⟩:=z1g h.opn (by simp)
 have e:=hcl pre.length (.int .i64 (i:Int)) (by simp [z1h])
 have i1:InW bb w:=⟨hbb⟩
 have i2:InW ob w:=⟨hob⟩
 have hl:(pre ++ [i]).length = pre.length + 1:=by simp
 rw [hl] at c3 hc1
 clear hcl hfr h c0 c1 c2 c4 hl hbb hob
 go_enter Tryz.func146,Tryz.ntmps146
 go_wp2_with fail
 (refine z0d krT krT ?_;(repeat (go_big_quiet_step (fail)));refine wpQuiet_nil ?_;intro _ hw';obtain ⟨pg,hw''⟩:=hw';subst hw'')
 go_wp2
 go_returns
 exact ⟨rfl,gzT⟩
abbrev stB (n:Ln) (p:Int):Obj := .cells #[str n.name,.int .i64 n.kind,.int .i64 p,str n.start,.slice none 0 0,.slice none 0 0,.slice none 0 0] 141 (0,0)
def v7r (w0:World) (B bb:Nat) (c:Ch) (op:List Nat) (m:Nat) (n:Ln) (p:Int) (e:Ending) (w':World):Prop :=
 e = .returned (.tuple #[]) ∧ q1h w0 B bb { c with states:=c.states ++ [⟨n.name,n.kind,p,n.start,[],[],[]⟩] } (if (n.kind == 6 || n.kind == 7) = true then op else op ++ [c.states.length]) m w'
set_option maxRecDepth 100000 in
set_option maxHeartbeats 4000000 in
theorem y1t (n:Ln) (av iv gv tv:Value) (p:Int) (hss:c.states.length ≤ 1000) (hop:op.length ≤ 1000) (h:q1h w0 B bb c op m w) :
  Calls Tryz.prog 110 #[.pointer (some ⟨bb,0,none⟩),.agg (lnC n av iv gv tv),.int .i64 p] w (v7r w0 B bb c op m n p):=by
 obtain ⟨rv,vv,sv,ov,h⟩:=h
 obtain ⟨i0,hi,hz1,hz2,hz3⟩:=info_parts Tryz.infoInt
 obtain ⟨j0,hj,hy1,hy2,hy3⟩:=info_parts Tryz.infoSt
 obtain ⟨sa,sc,rfl⟩:=z0g h.sts
 obtain ⟨oa,oc,rfl⟩:=z0g h.opn
 unfold lnC
 go_enter Tryz.func110,Tryz.ntmps110
 go_wp2_with fail
 refine (j7r _ _ _ _ _ _ _ n.kind rfl _).mono ?_
 intro e w1 hr
 obtain ⟨rfl,hb1⟩:=hr
 obtain ⟨W,hW⟩:∃ W,w.alloc (.cells #[.int .i64 n.kind,str n.name,str n.start,.int .i64 n.vk,.int .i64 n.vn,str n.vs,av,str n.event,iv,gv,.bool n.inner,tv] 164) = W:=⟨_,rfl⟩
 rw [hW] at hb1
 have hsz:W.heap.size = w.heap.size + 1:=by rw [← hW,World.size_alloc]
 have hbw:Below w.heap.size w W:=by rw [← hW];exact (Below.refl _ w).alloc (Nat.le_refl _) _
 have hst:w1.heap[w.heap.size + 1]? = some (stB n p):=by
  rw [← hsz]
  exact z0c (heap_alloc_new W _) hb1
 have hbd:=z2h h (hbw.trans ((((Below.refl _ W).alloc (Nat.le_refl _) _).trans (hb1.mono (by simp))).mono hbw.size))
 have hne:w.heap.size + 1 ≠ bb:=by
  have:=h.low
  have:=h.top
  omega
 clear hb1 hbw hW hsz h
 generalize w.heap.size + 1 = bx at *
 obtain ⟨past,hpast⟩:∃ b,(n.kind == 6 || n.kind == 7) = b:=⟨_,rfl⟩
 go_upto_if 17 with (fail)
 go_cut [6] (fun v6 wx=>v6 = .pointer (some ⟨bx,0,none⟩) ∧ wx.heap[bx]? = some (stB n p) ∧ ∃ ov',BdIs w0 B bb c (if past = true then op else op ++ [c.states.length]) m rv vv (.slice sa c.states.length sc) ov' wx)
 case first =>
  cases past
  ·obtain ⟨_,_,c2,c3,_,hbb,hfr⟩:=five hbd.blk
   have i1:InW bb w1:=⟨hbb⟩
   have f3:=hfr 3
   have htop:=hbd.top
   have hA:=hiT hbd
   have hln:=hiT hbd.opn
   have hX:=hiT hst
   clear hbd hst hfr
   go_wp2_with fail
   go_region_law (refine step_append_lies _ rfl (.tmp 22) (.tmp 29) 40 rfl B 3 i0 _ 1 8 Tryz.underlying40 hi hz1 hz2 hz3 rfl deT (.slice oa op.length oc) op.length (z1h op) (by simp [Act.eval]) (z0a hln.out gzT) ⟨_,0,none⟩ 1 1 [.int .i64 (c.states.length:Int)] (by simp [Act.eval]) rfl (World.news_of_block (z2k _ _)) (by intro u hu;simp at hu;subst hu;rfl) deT (by unfold maxLen;omega) omT (by simp [go_sem];omega) _ rfl ?_;intro g cap' w2 hown1 hgrow hat1 hg1;obtain ⟨_,_,k3,_,kl,kf⟩:=j2w hgrow hA.out hln.out deT gzT)
   all_goals
    go_wp2_with fail
    go_meet
    exact ⟨rfl,z0i (z0h (z0a hln.out gzT) (z0c hX.out gzT) deT hgrow) hne,_,v3g (z2h hA.out gzT) hgrow hown1 rfl⟩
  ·go_wp2_with fail
   go_meet
   exact ⟨rfl,z0c hst gzT,_,z2h hbd gzT⟩
 case rest =>
  obtain ⟨rfl,hst,ov',hbd⟩:=hcut
  rename World=>wx
  obtain ⟨_,_,c2,_,_,hbb,hfr⟩:=five hbd.blk
  have i1:InW bb wx:=⟨hbb⟩
  have i2:InW bx wx:=⟨lt_of_block hst⟩
  have f2:=hfr 2
  have htop:=hbd.top
  have e0:=cell_of_row wx bx 0 _ _ _ hst
  have e1:=cell_of_row wx bx 1 _ _ _ hst
  have e2:=cell_of_row wx bx 2 _ _ _ hst
  have e3:=cell_of_row wx bx 3 _ _ _ hst
  have e4:=cell_of_row wx bx 4 _ _ _ hst
  have e5:=cell_of_row wx bx 5 _ _ _ hst
  have e6:=cell_of_row wx bx 6 _ _ _ hst
  simp only [List.getElem?_toArray,List.getElem?_cons_zero,List.getElem?_cons_succ] at e0 e1 e2 e3 e4 e5 e6
  have hA:=hiT hbd
  have hln:=hiT hbd.sts
  clear hbd hst hfr
  go_wp2_with fail
  go_region_law (refine step_append_lies _ rfl (.tmp 38) (.tmp 40) 70 rfl B 141 j0 _ 7 120 Tryz.underlying70 hj hy1 hy2 hy3 rfl deT (.slice sa c.states.length sc) c.states.length (q1t c.states 0 rv) (by simp [Act.eval]) (z0a hln.out gzT) ⟨_,0,none⟩ 1 1 [str n.name,.int .i64 n.kind,.int .i64 p,str n.start,.slice none 0 0,.slice none 0 0,.slice none 0 0] (by simp [Act.eval]) rfl (World.news_of_block (z2k _ _)) (by intro u hu;simp at hu;rcases hu with rfl | rfl | rfl | rfl | rfl | rfl | rfl <;> rfl) deT (by unfold maxLen;omega) omT (by simp [go_sem];omega) _ rfl ?_;intro g cap' w2 hown1 hgrow hat1 hg1;obtain ⟨_,k2,_,_,kl,kf⟩:=j2w hgrow hA.out hln.out deT gzT)
  all_goals
   go_wp2_with fail
   go_returns
   unfold v7r
   rw [hpast]
   exact ⟨rfl,_,_,_,_,v7y (z2h hA.out gzT) hgrow rfl rfl rfl hown1 rfl⟩
end
theorem Tryz.infoBlk:(Tryz.prog.info? 158).map (fun i=>(i.zero,i.size,i.bytes)) = some (some (.slice none 0 0),1,24):=by kernel_rfl
theorem v5s {w:World} {B e s g cap n:Nat} {xs:List Value} (h:w.ownsRow B e s (.slice (some ⟨g,0,none⟩) n cap) n xs):∃ cur,w.heap[g]? = some (.cells cur e (0,0)):=by
 rcases h.2 with ⟨h0,_⟩ | ⟨g',cap',cur,hv,_,hh,_⟩
 ·cases h0
 ·cases hv
  exact ⟨cur,hh⟩
theorem z9r {ss:List St} {i:Nat} (h:i < ss.length):ss.getD i st0 = ss[i]:=by simp [List.getD,h]
def j6k (r:Nat) (s:St):List (List Ac):=if r = 0 then s.enter else s.exit
def y8m (r:Nat) (s:St) (cs:List Ac):St:=if r = 0 then { s with enter:=s.enter ++ [cs] } else { s with exit:=s.exit ++ [cs] }
theorem q8m (r:Nat) (s:St) (cs:List Ac):(y8m r s cs).name = s.name ∧ (y8m r s cs).kind = s.kind ∧ (y8m r s cs).parent = s.parent ∧ (y8m r s cs).start = s.start ∧ (y8m r s cs).trans = s.trans:=by
 unfold y8m
 split <;> exact ⟨rfl,rfl,rfl,rfl,rfl⟩
section
variable {w0:World} {B bb:Nat} {c:Ch} {op:List Nat} {m:Nat} {rv:Nat → Value} {vv sv ov:Value} {w w':World}
theorem q3o {i r:Nat} (h:BdIs w0 B bb c op m rv vv sv ov w) (hi:i < c.states.length) (hr:r < 3):∃ sb sc cur,sv = .slice (some ⟨sb,0,none⟩) c.states.length sc ∧ w.cell? ⟨sb,i * 7 + (4 + r),none⟩ = some (rv (3 * i + r)) ∧ w.heap[sb]? = some (.cells cur ct0.st (0,0)):=by
 obtain ⟨sb,sc,rfl,hsb,_,_,hcl⟩:=z1g h.sts omT
 obtain ⟨cur,hcur⟩:=v5s h.sts
 refine ⟨sb,sc,cur,rfl,hcl _ _ ?_,hcur⟩
 rw [q2h _ _ _ i hi _ omT,Nat.zero_add]
 rcases (by omega:r = 0 ∨ r = 1 ∨ r = 2) with rfl | rfl | rfl <;> rfl
theorem k3f {ss:List St} {i r:Nat} (h:RowsAt ct0 B w ss rv) (hr:r < 2):z2i ct0 B w (rv (3 * i + r)) (j6k r (ss.getD i st0)):=by
 rcases (by omega:r = 0 ∨ r = 1) with rfl | rfl
 ·exact h.ent i
 ·exact h.exi i
theorem k3g {ss:List St} {i r g cap n H:Nat} {cs:List Ac} (h:RowsAt ct0 B w ss rv) (hi:i < ss.length) (hr:r < 2) (fx:Fx ct0 B B w w') (hg:w.grownBy w' (rv (3 * i + r)).ownBlock) (hn:z2i ct0 B w' (.slice (some ⟨g,0,none⟩) n cap) (j6k r (ss.getD i st0) ++ [cs]))
  (hat:(rv (3 * i + r)).ownBlock = some g ∨ g = H) (hH:w.heap.size ≤ H):RowsAt ct0 B w' (ss.set i (y8m r (ss.getD i st0) cs)) (j2l rv (3 * i + r) (.slice (some ⟨g,0,none⟩) n cap)):=by
 rcases (by omega:r = 0 ∨ r = 1) with rfl | rfl
 ·exact y6y h hi fx hg hn rfl rfl hat hH
 ·exact k3e h hi fx hg hn rfl rfl hat hH
def q6t (w0:World) (B bb:Nat) (c:Ch) (op:List Nat) (m i r:Nat) (cs:List Ac) (e:Ending) (w':World):Prop :=
 if (j6k r (c.states.getD i st0)).length = 8 then e = .returned (.int .i64 13) ∧ q1h w0 B bb c op m w'
 else e = .returned (.int .i64 0) ∧ q1h w0 B bb { c with states:=c.states.set i (y8m r (c.states.getD i st0) cs) } op m w'
set_option maxRecDepth 100000 in
set_option maxHeartbeats 4000000 in
theorem j5q {i r o sb sc:Nat} (cs:List Ac) (av:Value) (hi:i < c.states.length) (hr:r < 2) (ho:o = i * 7 + (4 + r)) (hl:(j6k r (c.states.getD i st0)).length ≤ 8) (h:BdIs w0 B bb c op m rv vv (.slice (some ⟨sb,0,none⟩) c.states.length sc) ov w) (ha:z4d ct0.nd ct0.act B w av cs) :
  Calls Tryz.prog 147 #[.pointer (some ⟨sb,o,none⟩),av] w (q6t w0 B bb c op m i r cs):=by
 obtain ⟨sb',sc',cur,hv,hc,hblk⟩:=q3o h hi (r:=r) omT
 cases hv
 obtain ⟨vs,hV,hO⟩:=k3f (i:=i) h.rows hr
 obtain ⟨eo,ec,he⟩:=z0g hO
 obtain ⟨ao,ac,rfl⟩:=z6d ha
 rw [← ho] at hc
 obtain ⟨q,hq⟩:∃ q,(j6k r (c.states.getD i st0)).length = q:=⟨_,rfl⟩
 rw [hq] at he
 rw [he] at hc
 rw [hq] at hl
 replace ho:=hiT ho
 replace he:=hiT he
 have i1:InW sb w:=⟨lt_of_block hblk⟩
 have htop:=h.top
 by_cases h8:q = 8
 ·subst h8
  have hA:=hiT h
  clear h hV hO
  go_enter Tryz.func147,Tryz.ntmps147
  go_wp2
  go_returns
  unfold q6t
  rw [if_pos hq]
  exact ⟨rfl,_,_,_,_,z2h hA.out gzT⟩
 ·have e8:((q:Int) == 8) = false:=beq_eq_false_iff_ne.2 omT
  obtain ⟨j0,hj,hy1,hy2,hy3⟩:=info_parts Tryz.infoBlk
  have hA:=hiT h
  have hVk:=hiT hV
  rw [hq,he.out] at hO
  have hOk:=hiT hO
  have hak:=hiT ha
  have hbk:=hiT hblk
  have hcur:=hiT ((cell_of_row w sb o _ _ _ hblk).symm.trans hc)
  have hqk:=hiT hq
  clear h hV hO ha hblk hq
  go_enter Tryz.func147,Tryz.ntmps147
  go_wp2_with (at_builtin;refine wpList_append_lies _ rfl _ _ 82 rfl B 158 j0 _ 1 24 Tryz.underlying82 hj hy1 hy2 hy3 rfl deT (.slice eo q ec) q vs rfl (z0a hOk.out gzT) ⟨_,0,none⟩ 1 1 [.slice ao cs.length ac] rfl rfl (World.news_of_block (z0s (by simp))) (by intro u hu;simp at hu;subst hu;rfl) deT (by unfold maxLen;omega) omT (by simp [go_sem];omega) _ rfl ?_)
  intro g' cap' w1 hown1 hgrow hat1 hg1
  have hb1:=z0h (z0a hOk.out gzT) (z0c hbk.out gzT) deT hgrow
  have i2:InW sb w1:=⟨lt_of_block hb1⟩
  have f1:=frozen_of_row w1 sb o _ _ hb1
  have c1:=(cell_of_row w1 sb o _ _ _ hb1).trans hcur.out
  have hown2:=hiT hown1
  have hgrow2:=hiT hgrow
  have hat2:=hiT hat1
  clear hb1 hown1 hgrow hat1 hg1
  go_wp2
  go_returns
  have hgr:=hgrow2.out
  have hrows:=(z2h hA.out (show Below w.heap.size w (w.alloc (.cells #[.slice ao cs.length ac] 158 (0,0))) from gzT)).rows
  have hO2:=z0a hOk.out (show Below w.heap.size w (w.alloc (.cells #[.slice ao cs.length ac] 158 (0,0))) from gzT)
  have hfx:Fx ct0 B B w (w.alloc (.cells #[.slice ao cs.length ac] 158 (0,0))):=z1q gzT
  obtain rfl:=hqk.out
  have hfg:=z8v (τ:=ct0) (B:=B) hO2 deT deT deT hgr
  have hnew:=q5e hfg (z3h hVk.out fun _ _=>q4e hfx) (q2r hfx hak.out) hown2.out
  rw [← he.out] at hgr hO2
  have hat3:=hat2.out
  rw [← he.out] at hat3
  obtain ⟨p1,p2,p3,p4,_⟩:=q8m r (c.states.getD i st0) cs
  have hs:=z9r hi
  unfold q6t
  rw [if_neg h8,ho.out]
  exact ⟨rfl,_,_,_,_,v1d (z2h hA.out gzT) omT hi hO2 (.inl rfl) hgr (by rw [p1,hs]) (by rw [p2,hs]) (by rw [p3,hs]) (by rw [p4,hs]) (k3g hrows hi hr hfg hgr hnew hat3 (by simp))⟩
end
theorem Tryz.infoTr:(Tryz.prog.info? 162).map (fun i=>(i.zero,i.size,i.bytes)) = some (some (.agg #[.string ⟨#[]⟩,.slice none 0 0,.slice none 0 0,.bool false,.slice none 0 0]),5,96):=by kernel_rfl
section
variable {w0:World} {B bb:Nat} {c:Ch} {op:List Nat} {m:Nat} {w:World}
theorem j3g {i r:Nat} {cs:List Ac} {e:Ending} {w':World} (h:q6t w0 B bb c op m i r cs e w'):∃ v,e = .returned (.int .i64 v):=by
 unfold q6t at h
 split at h <;> exact ⟨_,h.1⟩
theorem y2c {i r:Nat} {cs:List Ac} {e:Ending} {w1 w2:World} (h:q6t w0 B bb c op m i r cs e w1) (hb:Below w1.heap.size w1 w2):q6t w0 B bb c op m i r cs e w2:=by
 unfold q6t at h ⊢
 split at h
 ·rw [if_pos (by assumption)]
  exact ⟨h.1,z2x h.2 hb⟩
 ·rw [if_neg (by assumption)]
  exact ⟨h.1,z2x h.2 hb⟩
set_option maxRecDepth 100000 in
set_option maxHeartbeats 4000000 in
theorem q5d {i r:Nat} {pre:List Nat} (n:Ln) (av iv gv tv:Value) (hr:r < 2) (hk:n.kind = 8 + (r:Int)) (hop:op = pre ++ [i]) (hp:pre.length ≤ 1000) (hi:i < c.states.length) (hl:(j6k r (c.states.getD i st0)).length ≤ 8) (h:q1h w0 B bb c op m w) (hn:LnV B w n av iv gv tv) :
  Calls Tryz.prog 113 #[.pointer (some ⟨bb,0,none⟩),.agg (lnC n av iv gv tv)] w (q6t w0 B bb c op m i r n.acts):=by
 obtain ⟨rv,vv,sv,ov,h⟩:=h
 obtain ⟨sb,sc,cur,rfl,_,hblk⟩:=q3o h hi (r:=r) omT
 subst hop
 obtain ⟨ao,ac,rfl⟩:∃ ao ac,av = .slice ao n.acts.length ac:=by
  obtain ⟨_,_,hh⟩:=hn.acts
  exact z0g hh
 obtain ⟨c0,c1,c2,c3,c4,hbb,hfr⟩:=five h.blk
 have i1:InW bb w:=⟨hbb⟩
 have i2:InW sb w:=⟨lt_of_block hblk⟩
 have H:=hiT (fun wx hb=>q2v (w:=wx) hp (z2h h hb))
 have F:=hiT (fun wx (hb:Below w.heap.size w wx)=>j5q (o:=i * 7 + (4 + r)) n.acts _ hi hr rfl hl (z2h h hb) (z6e hn.acts hb))
 have hI:(i:Int) < (c.states.length:Int):=by omega
 clear h hn hblk hfr c0 c1 c3 c4 hbb hl
 unfold lnC
 rcases (by omega:r = 0 ∨ r = 1) with rfl | rfl
 ·have e8:(n.kind == 8) = true:=by rw [hk];rfl
  go_enter Tryz.func113,Tryz.ntmps113
  go_wp2_with fail
  (refine z0d krT krT ?_;(repeat (go_big_quiet_step (exact z1i (H.out _ gzT))));refine wpQuiet_nil ?_;intro _ hw';obtain ⟨pg,hw''⟩:=hw';subst hw'')
  go_wp2_with fail
  go_still_tail 5,krT
  change wpList _ _ _ _ _ (G pg _).drew
  go_wp2_with fail
  refine (F.out _ gzT).mono ?_
  intro e w1 hr
  obtain ⟨v,rfl⟩:=j3g hr
  replace hr:=hiT hr
  clear F H
  go_wp2
  go_returns
  exact y2c hr.out gzT
 ·have e8:(n.kind == 8) = false:=by rw [hk];rfl
  have e9:(n.kind == 9) = true:=by rw [hk];rfl
  go_enter Tryz.func113,Tryz.ntmps113
  go_wp2_with fail
  (refine z0d krT krT ?_;(repeat (go_big_quiet_step (exact z1i (H.out _ gzT))));refine wpQuiet_nil ?_;intro _ hw';obtain ⟨pg,hw''⟩:=hw';subst hw'')
  go_wp2_with fail
  go_still_tail 5,krT
  change wpList _ _ _ _ _ (G pg _).drew
  go_wp2_with fail
  refine (F.out _ gzT).mono ?_
  intro e w1 hr
  obtain ⟨v,rfl⟩:=j3g hr
  replace hr:=hiT hr
  clear F H
  go_wp2
  go_returns
  exact y2c hr.out gzT
set_option maxRecDepth 100000 in
set_option maxHeartbeats 4000000 in
theorem j8t {i:Nat} {pre:List Nat} (n:Ln) (av iv gv tv:Value) (hk:n.kind = 12) (hop:op = pre ++ [i]) (hp:pre.length ≤ 1000) (hi:i < c.states.length) (h:q1h w0 B bb c op m w) :
  Calls Tryz.prog 113 #[.pointer (some ⟨bb,0,none⟩),.agg (lnC n av iv gv tv)] w fun e w'=>e = .returned (.int .i64 0) ∧ q1h w0 B bb c pre m w':=by
 obtain ⟨rv,vv,sv,ov,h⟩:=h
 obtain ⟨sb,sc,cur,rfl,_,hblk⟩:=q3o h hi (r:=0) omT
 subst hop
 obtain ⟨ob,oc,rfl,hob,hc1,_,_⟩:=z1g h.opn (by simp)
 obtain ⟨c0,c1,c2,c3,c4,hbb,hfr⟩:=five h.blk
 have f3:=hfr 3
 have i1:InW bb w:=⟨hbb⟩
 have i2:InW sb w:=⟨lt_of_block hblk⟩
 have H:=hiT (fun wx hb=>q2v (w:=wx) hp (z2h h hb))
 have hI:(i:Int) < (c.states.length:Int):=by omega
 have hl:(pre ++ [i]).length = pre.length + 1:=by simp
 rw [hl] at c3 hc1
 have hA:=hiT h
 clear h hblk hfr c0 c1 c4 hbb hob hl
 have e8:(n.kind == 8) = false:=by rw [hk];rfl
 have e9:(n.kind == 9) = false:=by rw [hk];rfl
 have e12:(n.kind == 12) = true:=by rw [hk];rfl
 unfold lnC
 go_enter Tryz.func113,Tryz.ntmps113
 go_wp2_with fail
 (refine z0d krT krT ?_;(repeat (go_big_quiet_step (exact z1i (H.out _ gzT))));refine wpQuiet_nil ?_;intro _ hw';obtain ⟨pg,hw''⟩:=hw';subst hw'')
 go_wp2_with fail
 go_region
 all_goals
  go_wp2
  go_returns
  have hq:=v7x (k:=pre.length) hA.out (by simp)
  rw [List.take_left] at hq
  exact ⟨rfl,_,_,_,_,z2h hq gzT⟩
def q6w (w0:World) (B bb:Nat) (c:Ch) (op:List Nat) (m i:Nat) (n:Ln) (e:Ending) (w':World):Prop :=
 if m = 96 then e = .returned (.int .i64 13) ∧ q1h w0 B bb c op m w'
 else e = .returned (.int .i64 0) ∧ q1h w0 B bb { c with states:=c.states.set i { c.states.getD i st0 with trans:=(c.states.getD i st0).trans ++ [x0z n] } } op (m + 1) w'
theorem k6c {rv:Nat → Value} {vv ov:Value} {i sb sc q g cap H:Nat} {tr:Tr} {v vs:List Value} {w2 W w3:World} (h:BdIs w0 B bb c op m rv vv (.slice (some ⟨sb,0,none⟩) c.states.length sc) ov w2) (hi:i < c.states.length) (hv:TrR ct0 B w2 tr v) (hV:Vs (TrR ct0 B w2) (c.states.getD i st0).trans vs)
  (hO:w2.ownsRow B ct0.tr 5 (rv (3 * i + 2)) q vs) (hq:(c.states.getD i st0).trans.length = q) (hb:Below w2.heap.size w2 W) (hg:W.grownBy w3 (rv (3 * i + 2)).ownBlock) (hown:w3.ownsRow B ct0.tr 5 (.slice (some ⟨g,0,none⟩) (q + 1) cap) (q + 1) (vs ++ v)) (hat:(rv (3 * i + 2)).ownBlock = some g ∨ g = H) (hH:W.heap.size ≤ H) :
  ∃ rv',BdIs w0 B bb { c with states:=c.states.set i { c.states.getD i st0 with trans:=(c.states.getD i st0).trans ++ [tr] } } op m rv' vv (.slice (some ⟨sb,0,none⟩) c.states.length sc) ov (w3.setCell ⟨sb,i * 7 + (4 + 2),none⟩ (.slice (some ⟨g,0,none⟩) (q + 1) cap)):=by
 subst hq
 have hfx:Fx ct0 B B w2 W:=z1q hb
 have hO2:=z0a hO hb
 have hfg:=z8v (τ:=ct0) (B:=B) hO2 deT deT deT hg
 have hs:=z9r hi
 exact ⟨_,v1d (z2h h hb) deT hi hO2 (.inr rfl) hg (by rw [hs]) (by rw [hs]) (by rw [hs]) (by rw [hs]) (y6z (z2h h hb).rows hi hfg hg (y7z hfg (z3h hV fun _ _=>q1u hfx) (q1u hfx hv) hown) rfl rfl hat hH)⟩
set_option maxRecDepth 100000 in
set_option maxHeartbeats 4000000 in
theorem j2y {i:Nat} {pre:List Nat} (n:Ln) (av iv gv tv:Value) (h8:n.kind ≠ 8) (h9:n.kind ≠ 9) (h12:n.kind ≠ 12) (hop:op = pre ++ [i]) (hp:pre.length ≤ 1000) (hm:m ≤ 96) (hi:i < c.states.length) (hl:(c.states.getD i st0).trans.length ≤ 96) (h:q1h w0 B bb c op m w) (hn:LnV B w n av iv gv tv) :
  Calls Tryz.prog 113 #[.pointer (some ⟨bb,0,none⟩),.agg (lnC n av iv gv tv)] w (q6w w0 B bb c op m i n):=by
 obtain ⟨rv,vv,sv,ov,h⟩:=h
 obtain ⟨sb,sc,cur,rfl,hc,hblk⟩:=q3o h hi (r:=2) omT
 subst hop
 obtain ⟨c0,c1,c2,c3,c4,hbb,hfr⟩:=five h.blk
 have f4:=hfr 4
 have i1:InW bb w:=⟨hbb⟩
 have i2:InW sb w:=⟨lt_of_block hblk⟩
 have H:=hiT (fun wx hb=>q2v (w:=wx) hp (z2h h hb))
 have hI:(i:Int) < (c.states.length:Int):=by omega
 have e8:(n.kind == 8) = false:=by simpa using h8
 have e9:(n.kind == 9) = false:=by simpa using h9
 have e12:(n.kind == 12) = false:=by simpa using h12
 have hA:=hiT h
 have hnk:=hiT hn
 have hbk:=hiT hblk
 have hck:=hiT hc
 by_cases h96:m = 96
 ·subst h96
  clear h hn hblk hfr hc c0 c1 c3 hbb h8 h9 h12
  unfold lnC
  go_enter Tryz.func113,Tryz.ntmps113
  go_wp2_with fail
  (refine z0d krT krT ?_;(repeat (go_big_quiet_step (exact z1i (H.out _ gzT))));refine wpQuiet_nil ?_;intro _ hw';obtain ⟨pg,hw''⟩:=hw';subst hw'')
  go_wp2
  go_returns
  unfold q6w
  rw [if_pos rfl]
  exact ⟨rfl,_,_,_,_,z2h hA.out gzT⟩
 ·have e96:((m:Int) == 96) = false:=beq_eq_false_iff_ne.2 omT
  clear h hn hblk hfr hc c0 c1 c3 hbb h8 h9 h12
  unfold lnC
  go_enter Tryz.func113,Tryz.ntmps113
  go_wp2_with fail
  (refine z0d krT krT ?_;(repeat (go_big_quiet_step (exact z1i (H.out _ gzT))));refine wpQuiet_nil ?_;intro _ hw';obtain ⟨pg,hw''⟩:=hw';subst hw'')
  go_wp2_with fail
  have hB2:=k6b (m + 1) hA.out
  have hn2:LnV B (w.setCell ⟨bb,4,none⟩ (.int .i64 ((m + 1:Nat):Int))) n av iv gv tv:=z5g hnk.out hA.out.blk deT deT deT
  have hE:(w.setCell ⟨bb,4,none⟩ (.int .i64 ((m:Int) + 1))) = w.setCell ⟨bb,4,none⟩ (.int .i64 ((m + 1:Nat):Int)):=rfl
  have hz:w.heap.size = (w.setCell ⟨bb,4,none⟩ (.int .i64 ((m + 1:Nat):Int))).heap.size:=(z1w _ _ _ _).symm
  rw [hE,hz]
  clear hE hz H hA hnk hbk hck c2 c4 f4 i1 i2
  generalize w.setCell ⟨bb,4,none⟩ (.int .i64 ((m + 1:Nat):Int)) = w2 at *
  obtain ⟨sb',sc',cur',hv,hc,hblk⟩:=q3o hB2 hi (r:=2) omT
  cases hv
  obtain ⟨vs,hV,hO⟩:=hB2.rows.trs i
  obtain ⟨to',tc,he⟩:=z0g hO
  obtain ⟨io,ic,rfl⟩:=z0g hn2.cond
  obtain ⟨go,gc,rfl⟩:=z0g hn2.goes
  obtain ⟨uo,uc,rfl⟩:∃ ao ac,tv = .slice ao n.thn.length ac:=by
   obtain ⟨_,_,hh⟩:=hn2.thn
   exact z0g hh
  obtain ⟨q,hq⟩:∃ q,(c.states.getD i st0).trans.length = q:=⟨_,rfl⟩
  rw [hq] at he hO hl
  rw [he] at hc
  obtain ⟨j0,hj,hy1,hy2,hy3⟩:=info_parts Tryz.infoTr
  have i2:InW sb w2:=⟨lt_of_block hblk⟩
  have htop:=hB2.top
  have hcur:=hiT ((cell_of_row w2 sb (i * 7 + (4 + 2)) _ _ _ hblk).symm.trans hc)
  have hTr:TrR ct0 B w2 (x0z n) [str n.event,.slice io n.cond.length ic,.slice go n.goes.length gc,.bool n.inner,.slice uo n.thn.length uc]:=⟨_,_,_,rfl,hn2.cond,hn2.goes,hn2.thn⟩
  have hTk:=hiT hTr
  have hOv:=hO
  rw [he] at hOv
  have hOk:=hiT hOv
  have hOr:=hiT hO
  have hVk:=hiT hV
  have hBk:=hiT hB2
  have hbk:=hiT hblk
  have hqk:=hiT hq
  replace he:=hiT he
  clear hTr hO hOv hV hB2 hblk hn2 hq
  go_region_law (refine step_append_lies _ rfl (.tmp 64) (.tmp 67) 139 rfl B 162 j0 _ 5 96 Tryz.underlying139 hj hy1 hy2 hy3 rfl deT (.slice to' q tc) q vs (by simp [Act.eval]) (z0a hOk.out gzT) ⟨_,0,none⟩ 1 1 [str n.event,.slice io n.cond.length ic,.slice go n.goes.length gc,.bool n.inner,.slice uo n.thn.length uc] (by simp [Act.eval]) rfl (World.news_of_block (z2k _ _)) (by intro u hu;simp at hu;rcases hu with rfl | rfl | rfl | rfl | rfl <;> rfl) deT (by unfold maxLen;omega) omT (Nat.le_trans htop (Below.size (B:=w2.heap.size) (w:=w2) gzT)) _ rfl ?_;intro g cap' w3 hown1 hgrow hat1 hg1;have hb1:=z0h (z0a hOk.out gzT) (z0c hbk.out gzT) deT hgrow;have i3:InW sb w3:=⟨lt_of_block hb1⟩;have f1:=frozen_of_row w3 sb (i * 7 + 6) _ _ hb1;have c1:=(cell_of_row w3 sb (i * 7 + 6) _ _ _ hb1).trans hcur.out;clear hb1)
  all_goals
   go_wp2_with fail
   go_returns
   rw [← he.out] at hgrow hat1
   obtain ⟨rv',hq2⟩:=k6c hBk.out hi hTk.out hVk.out hOr.out hqk.out gzT hgrow hown1 hat1 (Nat.le_refl _)
   unfold q6w
   rw [if_neg h96]
   exact ⟨rfl,rv',_,_,_,hq2⟩
end
theorem Tryz.infoVr:(Tryz.prog.info? 80).map (fun i=>(i.zero,i.size,i.bytes)) = some (some (.agg #[.string ⟨#[]⟩,.int .i64 0,.int .i64 0,.string ⟨#[]⟩]),4,48):=by kernel_rfl
def x3o (n:Ln):Vr:=⟨n.name,n.vk,n.vn,n.vs⟩
section
variable {w0:World} {B bb:Nat} {c:Ch} {op:List Nat} {m:Nat} {w:World}
def y8t (w0:World) (B bb:Nat) (c:Ch) (op:List Nat) (m:Nat) (n:Ln) (e:Ending) (w':World):Prop :=
 if 1 < c.states.length then e = .returned (.int .i64 30) ∧ q1h w0 B bb c op m w'
 else if c.vars.length = 16 then e = .returned (.int .i64 13) ∧ q1h w0 B bb c op m w'
 else e = .returned (.int .i64 0) ∧ q1h w0 B bb { c with vars:=c.vars ++ [x3o n] } op m w'
set_option maxRecDepth 100000 in
set_option maxHeartbeats 4000000 in
theorem j3a (n:Ln) (av iv gv tv:Value) (hss:c.states.length ≤ 1000) (hvs:c.vars.length ≤ 16) (h:q1h w0 B bb c op m w) :
  Calls Tryz.prog 111 #[.pointer (some ⟨bb,0,none⟩),.agg (lnC n av iv gv tv)] w (y8t w0 B bb c op m n):=by
 obtain ⟨rv,vv,sv,ov,h⟩:=h
 obtain ⟨sa,sc,rfl⟩:=z0g h.sts
 obtain ⟨va,vc,rfl⟩:=z0g h.vars
 obtain ⟨c0,c1,c2,c3,c4,hbb,hfr⟩:=five h.blk
 have f1:=hfr 1
 have i1:InW bb w:=⟨hbb⟩
 have htop:=h.top
 have hA:=hiT h
 have hO:=hiT h.vars
 clear h hfr c0 c3 c4 hbb
 by_cases h1:1 < c.states.length
 ·have e1:(1:Int) < (c.states.length:Int):=by omega
  unfold lnC
  go_enter Tryz.func111,Tryz.ntmps111
  go_wp2
  go_returns
  unfold y8t
  rw [if_pos h1]
  exact ⟨rfl,_,_,_,_,z2h hA.out gzT⟩
 ·have e1:¬ (1:Int) < (c.states.length:Int):=by omega
  by_cases h16:c.vars.length = 16
  ·have e16:((c.vars.length:Int) == 16) = true:=by rw [beq_iff_eq];omega
   unfold lnC
   replace h16:=hiT h16
   go_enter Tryz.func111,Tryz.ntmps111
   go_wp2
   go_returns
   unfold y8t
   rw [if_neg h1,if_pos h16.out]
   exact ⟨rfl,_,_,_,_,z2h hA.out gzT⟩
  ·have e16:((c.vars.length:Int) == 16) = false:=beq_eq_false_iff_ne.2 omT
   obtain ⟨j0,hj,hy1,hy2,hy3⟩:=info_parts Tryz.infoVr
   unfold lnC
   go_enter Tryz.func111,Tryz.ntmps111
   go_wp2_with fail
   go_region_law (refine step_append_lies _ rfl (.tmp 26) (.tmp 32) 23 rfl B 80 j0 _ 4 48 Tryz.underlying23 hj hy1 hy2 hy3 rfl deT (.slice va c.vars.length vc) c.vars.length (j0g c.vars) (by simp [Act.eval]) (z0a hO.out gzT) ⟨_,0,none⟩ 1 1 [str n.name,.int .i64 n.vk,.int .i64 n.vn,str n.vs] (by simp [Act.eval]) rfl (World.news_of_block (z2k _ _)) (by intro u hu;simp at hu;rcases hu with rfl | rfl | rfl | rfl <;> rfl) deT (by unfold maxLen;omega) omT (Nat.le_trans htop (Below.size (B:=w.heap.size) (w:=w) gzT)) _ rfl ?_;intro g cap' w2 hown1 hgrow hat1 hg1;obtain ⟨k1,_,_,_,kl,kf⟩:=j2w hgrow hA.out hO.out deT gzT)
   all_goals
    go_wp2_with fail
    go_returns
    unfold y8t
    rw [if_neg h1,if_neg h16]
    exact ⟨rfl,_,_,_,_,v3h (v:=x3o n) (z2h hA.out gzT) hgrow hown1 rfl⟩
def j2t (w0:World) (B bb:Nat) (c:Ch) (op:List Nat) (m i:Nat) (n:Ln) (e:Ending) (w':World):Prop :=
 if (c.states.getD i st0).kind = 5 then e = .returned (.int .i64 30) ∧ q1h w0 B bb c op m w'
 else if 48 < c.states.length then e = .returned (.int .i64 13) ∧ q1h w0 B bb c op m w'
 else if 8 < op.length then e = .returned (.int .i64 23) ∧ q1h w0 B bb c op m w'
 else e = .returned (.int .i64 0) ∧ q1h w0 B bb { c with states:=c.states ++ [⟨n.name,n.kind,(i:Int),n.start,[],[],[]⟩] } (if (n.kind == 6 || n.kind == 7) = true then op else op ++ [c.states.length]) m w'
set_option maxRecDepth 100000 in
set_option maxHeartbeats 4000000 in
theorem y4h {i:Nat} {pre:List Nat} (n:Ln) (av iv gv tv:Value) (hop:op = pre ++ [i]) (hp:pre.length ≤ 900) (hi:i < c.states.length) (hss:c.states.length ≤ 1000) (h:q1h w0 B bb c op m w) :
  Calls Tryz.prog 112 #[.pointer (some ⟨bb,0,none⟩),.agg (lnC n av iv gv tv)] w (j2t w0 B bb c op m i n):=by
 have hol:op.length ≤ 1000:=by rw [hop];simp;omega
 have P:=hiT (fun wx (hb:Below w.heap.size w wx)=>y1t n av iv gv tv (i:Int) hss hol (z2x h hb))
 obtain ⟨rv,vv,sv,ov,h⟩:=h
 obtain ⟨sb,sc,rfl,hsb,_,_,hcl⟩:=z1g h.sts omT
 have hk:=hcl (i * 7 + 1) (.int .i64 (c.states.getD i st0).kind) (by rw [q2h _ _ _ i hi 1 deT,z9r hi];rfl)
 obtain ⟨oa,oc,rfl⟩:=z0g h.opn
 obtain ⟨c0,c1,c2,c3,c4,hbb,hfr⟩:=five h.blk
 have i1:InW bb w:=⟨hbb⟩
 have i2:InW sb w:=⟨hsb⟩
 have hA:=hiT h
 have H:=hiT (fun wx (hb:Below w.heap.size w wx)=>q2v (w:=wx) (pre:=pre) (i:=i) omT (hop ▸ z2h h hb))
 have hI:(i:Int) < (c.states.length:Int):=by omega
 replace hop:=hiT hop
 clear h hfr c0 c1 c4 hbb hcl hsb
 obtain ⟨kk,hkk⟩:∃ k,(c.states.getD i st0).kind = k:=⟨_,rfl⟩
 rw [hkk] at hk
 replace hkk:=hiT hkk
 by_cases h5:kk = 5
 ·have e5:(kk == 5) = true:=by rw [beq_iff_eq];exact h5
  replace h5:=hiT h5
  unfold lnC
  go_enter Tryz.func112,Tryz.ntmps112
  go_wp2_with ((refine (H.out _ gzT).mono ?_);intro e w1 hr;obtain ⟨rfl,p,rfl⟩:=hr.out;clear hr)
  go_returns
  unfold j2t
  rw [if_pos (hkk.out.trans h5.out)]
  exact ⟨rfl,_,_,_,_,z2h hA.out gzT⟩
 ·have e5:(kk == 5) = false:=by simpa using h5
  replace h5:=hiT h5
  by_cases h48:48 < c.states.length
  ·have e48:(48:Int) < (c.states.length:Int):=by omega
   unfold lnC
   go_enter Tryz.func112,Tryz.ntmps112
   go_wp2_with ((refine (H.out _ gzT).mono ?_);intro e w1 hr;obtain ⟨rfl,p,rfl⟩:=hr.out;clear hr)
   go_returns
   unfold j2t
   rw [if_neg (hkk.out ▸ h5.out),if_pos h48]
   exact ⟨rfl,_,_,_,_,z2h hA.out gzT⟩
  ·have e48:¬ (48:Int) < (c.states.length:Int):=by omega
   by_cases h8:8 < op.length
   ·have e8:(8:Int) < (op.length:Int):=by omega
    unfold lnC
    go_enter Tryz.func112,Tryz.ntmps112
    go_wp2_with ((refine (H.out _ gzT).mono ?_);intro e w1 hr;obtain ⟨rfl,p,rfl⟩:=hr.out;clear hr)
    go_returns
    unfold j2t
    rw [if_neg (hkk.out ▸ h5.out),if_neg h48,if_pos h8]
    exact ⟨rfl,_,_,_,_,z2h hA.out gzT⟩
   ·have e8:¬ (8:Int) < (op.length:Int):=by omega
    unfold lnC
    go_enter Tryz.func112,Tryz.ntmps112
    go_wp2_with fail
    refine (H.out _ gzT).mono ?_
    intro e w1 hr
    obtain ⟨rfl,p,rfl⟩:=hr.out
    clear hr H
    go_wp2_with fail
    refine (P.out _ gzT).mono ?_
    intro e w2 hr
    obtain ⟨rfl,hr⟩:=hr
    replace hr:=hiT hr
    clear P
    go_wp2
    go_returns
    unfold j2t
    rw [if_neg (hkk.out ▸ h5.out),if_neg h48,if_neg h8]
    exact ⟨rfl,z2x hr.out gzT⟩
end
def BSt (w0:World) (B bb:Nat) (c:Ch) (o:Int) (w:World):Prop:=∃ op,q1h w0 B bb c op (z4p c.states) w ∧ ((o = -1 ∧ c = ch0 ∧ op = []) ∨ (GoodC c o ∧ Opn c.states op o ∧ op.length ≤ 9))
def z8p (w0:World) (B bb:Nat) (x:Except Int (Ch × Int)) (e:Ending) (w':World):Prop :=
 match x with
 | .error y=>e = .returned (.int .i64 y) ∧ (y == 0) = false ∧ Fr B bb w0 w' ∧ B ≤ w'.heap.size
 | .ok (d,p)=>e = .returned (.int .i64 0) ∧ BSt w0 B bb d p w'
section
variable {w0:World} {B bb:Nat} {c:Ch} {o:Int} {w:World}
theorem y9b {op:List Nat} {m:Nat} {rv:Nat → Value} {vv sv ov:Value} (h:BdIs w0 B bb c op m rv vv sv ov w):Fr B bb w0 w ∧ B ≤ w.heap.size:=⟨h.env,h.top⟩
theorem z5v {op:List Nat} {m:Nat} (h:q1h w0 B bb c op m w):Fr B bb w0 w ∧ B ≤ w.heap.size:=by
 obtain ⟨_,_,_,_,h⟩:=h
 exact ⟨h.env,h.top⟩
theorem z5e {x:Except Int (Ch × Int)} {e:Ending} {w1 w2:World} (h:z8p w0 B bb x e w1) (hb:Below w1.heap.size w1 w2) (hB:B ≤ w1.heap.size):z8p w0 B bb x e w2:=by
 cases x with
 | error y=>exact ⟨h.1,h.2.1,z3w h.2.2.1 (y2b hb hB),Nat.le_trans hB hb.size⟩
 | ok p =>
  obtain ⟨h1,op,h2,h3⟩:=h
  exact ⟨h1,op,z2x h2 hb,h3⟩
theorem y9a (n:Ln) (av iv gv tv:Value) (h:q1h w0 B bb ch0 [] 0 w):Calls Tryz.prog 75 #[.pointer (some ⟨bb,0,none⟩),.agg (lnC n av iv gv tv)] w (z8p w0 B bb (z3d ch0 (-1) n)):=by
 by_cases h1:n.kind = 1
 ·have e1:(n.kind == 1) = true:=by rw [h1];rfl
  obtain ⟨rv,vv,sv,ov,h⟩:=h
  obtain ⟨c0,c1,c2,c3,c4,hbb,hfr⟩:=five h.blk
  obtain ⟨sa,sc,hsv⟩:=z0g h.sts
  rw [hsv] at c2
  replace c2:w.cell? ⟨bb,2,none⟩ = some (.slice sa 0 sc):=c2
  have f0:=hfr 0
  have i1:InW bb w:=⟨hbb⟩
  have hN:q1h w0 B bb { ch0 with name:=n.name } [] 0 (w.setCell ⟨bb,0,none⟩ (str n.name)):=⟨_,_,_,_,v3f n.name h⟩
  have P:=hiT (fun wx hb=>y1t (c:={ ch0 with name:=n.name }) n av iv gv tv (-1) (by show 0 ≤ 1000;decide) deT (z2x (w':=wx) hN hb))
  have hst:z3d ch0 (-1) n = .ok (⟨n.name,[],[⟨n.name,1,-1,n.start,[],[],[]⟩]⟩,0):=by
   unfold z3d
   rw [if_pos h1,if_neg deT]
  have hgood:=z6p (o := -1) (.inl deT) hst
  rw [hst]
  replace h1:=hiT h1
  clear hfr h c1 c3 c4 hN hst
  unfold lnC
  go_enter Tryz.func75,Tryz.ntmps75
  go_wp2_with fail
  refine (P.out _ gzT).mono ?_
  intro e w2 hr
  obtain ⟨rfl,hr⟩:=hr
  replace hr:=hiT hr
  clear P
  go_wp2
  go_returns
  have hr2:=hr.out
  rw [h1.out,if_neg deT] at hr2
  exact ⟨rfl,[0],z2x hr2 gzT,.inr ⟨hgood,.root,by decide⟩⟩
 ·have e1:(n.kind == 1) = false:=by simpa using h1
  obtain ⟨rv,vv,sv,ov,h⟩:=h
  obtain ⟨c0,c1,c2,c3,c4,hbb,hfr⟩:=five h.blk
  obtain ⟨sa,sc,hsv⟩:=z0g h.sts
  rw [hsv] at c2
  replace c2:w.cell? ⟨bb,2,none⟩ = some (.slice sa 0 sc):=c2
  have i1:InW bb w:=⟨hbb⟩
  have hst:z3d ch0 (-1) n = .error 30:=by
   unfold z3d
   rw [if_neg h1,if_pos deT]
  rw [hst]
  have hA:=hiT h
  clear h hfr c0 c1 c3 c4 hst h1
  unfold lnC
  go_enter Tryz.func75,Tryz.ntmps75
  go_wp2
  go_returns
  exact ⟨rfl,rfl,y9b (z2h hA.out gzT)⟩
theorem y4d (n:Ln) (av iv gv tv:Value) {op:List Nat} (h:q1h w0 B bb c op (z4p c.states) w) (g:GoodC c o) (hk:n.kind = 1):Calls Tryz.prog 75 #[.pointer (some ⟨bb,0,none⟩),.agg (lnC n av iv gv tv)] w (z8p w0 B bb (z3d c o n)):=by
 have hst:z3d c o n = .error 30:=by
  unfold z3d
  rw [if_pos hk,if_pos g.lo]
 rw [hst]
 have e1:(n.kind == 1) = true:=by rw [hk];rfl
 have hlen:((c.states.length:Int) == 0) = false:=beq_eq_false_iff_ne.2 (by have:=g.some;omega)
 obtain ⟨rv,vv,sv,ov,h⟩:=h
 obtain ⟨c0,c1,c2,c3,c4,hbb,hfr⟩:=five h.blk
 obtain ⟨sa,sc,hsv⟩:=z0g h.sts
 rw [hsv] at c2
 have i1:InW bb w:=⟨hbb⟩
 have hA:=hiT h
 clear h hfr c0 c1 c3 c4 hst hk g
 unfold lnC
 go_enter Tryz.func75,Tryz.ntmps75
 go_wp2
 go_returns
 exact ⟨rfl,rfl,y9b (z2h hA.out gzT)⟩
theorem k6a (n:Ln) (av iv gv tv:Value) {op:List Nat} (h:q1h w0 B bb c op (z4p c.states) w) (g:GoodC c o) (hop:Opn c.states op o ∧ op.length ≤ 9) (hk:n.kind = 2):Calls Tryz.prog 75 #[.pointer (some ⟨bb,0,none⟩),.agg (lnC n av iv gv tv)] w (z8p w0 B bb (z3d c o n)):=by
 obtain ⟨x,hx⟩:∃ x,z3d c o n = x:=⟨_,rfl⟩
 rw [hx]
 have hgood:∀ d p,x = .ok (d,p) → GoodC d p:=fun d p he=>z6p (.inr g) (hx.trans he)
 unfold z3d at hx
 rw [if_neg omT,if_neg (by have:=g.lo;omega),if_pos hk] at hx
 have V:=hiT (fun wx (hb:Below w.heap.size w wx)=>j3a n av iv gv tv (by have:=g.few;omega) g.vars (z2x h hb))
 have e1:(n.kind == 1) = false:=by rw [hk];rfl
 have e2:(n.kind == 2) = true:=by rw [hk];rfl
 have hlen:((c.states.length:Int) == 0) = false:=beq_eq_false_iff_ne.2 (by have:=g.some;omega)
 obtain ⟨rv,vv,sv,ov,h⟩:=h
 obtain ⟨c0,c1,c2,c3,c4,hbb,hfr⟩:=five h.blk
 obtain ⟨sa,sc,hsv⟩:=z0g h.sts
 rw [hsv] at c2
 have i1:InW bb w:=⟨hbb⟩
 replace hx:=hiT hx
 replace hgood:=hiT hgood
 replace hop:=hiT hop
 clear h hfr c0 c1 c3 c4 hk g
 unfold lnC
 go_enter Tryz.func75,Tryz.ntmps75
 go_wp2_with fail
 refine (V.out _ gzT).mono ?_
 intro e w1 hr
 unfold y8t at hr
 have hx2:=hx.out
 by_cases h1:1 < c.states.length
 ·rw [if_pos h1] at hr hx2
  obtain ⟨rfl,hr⟩:=hr
  replace hr:=hiT hr
  clear V hx h1
  go_wp2
  go_returns
  rw [← hx2]
  exact ⟨rfl,rfl,z5v (z2x hr.out gzT)⟩
 ·rw [if_neg h1] at hr hx2
  by_cases h16:c.vars.length = 16
  ·rw [if_pos h16] at hr hx2
   obtain ⟨rfl,hr⟩:=hr
   replace hr:=hiT hr
   clear V hx h1 h16
   go_wp2
   go_returns
   rw [← hx2]
   exact ⟨rfl,rfl,z5v (z2x hr.out gzT)⟩
  ·rw [if_neg h16] at hr hx2
   obtain ⟨rfl,hr⟩:=hr
   replace hr:=hiT hr
   clear V hx h1 h16
   go_wp2
   go_returns
   have hg2:=hgood.out _ _ hx2.symm
   rw [← hx2]
   exact ⟨rfl,op,z2x hr.out gzT,.inr ⟨hg2,hop.out⟩⟩
theorem v6j {n:Ln} {op:List Nat} {i:Nat} {e:Ending} {w':World} (g:GoodC c o) (hop:Opn c.states op o) (h9:op.length ≤ 9) (ho:o = (i:Int)) (h3:3 ≤ n.kind) (h7:n.kind ≤ 7) (h:j2t w0 B bb c op (z4p c.states) i n e w'):z8p w0 B bb (z3d c o n) e w':=by
 obtain ⟨x,hx⟩:∃ x,z3d c o n = x:=⟨_,rfl⟩
 rw [hx]
 have hgood:∀ d p,x = .ok (d,p) → GoodC d p:=fun d p he=>z6p (.inr g) (hx.trans he)
 have hlo:=g.lo
 have hhi:=g.hi
 have hfew:=g.few
 have hd:=k8h hop 49 (by have:=v5o hop fun i h0 hi=>(g.par i h0 hi).2;omega)
 unfold z3d at hx
 unfold j2t at h
 rw [if_neg omT,if_neg omT,if_neg omT,if_neg omT,show o.toNat = i by omega] at hx
 by_cases h5:(c.states.getD i st0).kind = 5
 ·rw [if_pos h5] at hx h
  subst hx
  exact ⟨h.1,rfl,z5v h.2⟩
 ·rw [if_neg h5] at hx h
  by_cases h48:48 < c.states.length
  ·rw [if_pos omT] at hx
   rw [if_pos h48] at h
   subst hx
   exact ⟨h.1,rfl,z5v h.2⟩
  ·rw [if_neg omT] at hx
   rw [if_neg h48] at h
   by_cases h8:8 < op.length
   ·rw [if_pos h8] at h
    have:y4m c.states 49 o = 8:=by omega
    rw [if_pos this] at hx
    subst hx
    exact ⟨h.1,rfl,z5v h.2⟩
   ·rw [if_neg h8] at h
    rw [if_neg omT] at hx
    obtain ⟨h1,h2⟩:=h
    have hg2:=hgood _ _ hx.symm
    subst hx
    refine ⟨h1,if (n.kind == 6 || n.kind == 7) = true then op else op ++ [c.states.length],?_,.inr ⟨hg2,?_,by
     split
     ·omega
     ·rw [List.length_append]
      simp only [List.length_singleton]
      omega⟩⟩
    ·rw [j6p,ho]
     exact h2
    ·have hs:Opn (c.states ++ [⟨n.name,n.kind,o,n.start,[],[],[]⟩]) op o:=k8i hop
     by_cases h6:n.kind ≤ 5
     ·have e6:(n.kind == 6 || n.kind == 7) = false:=by simp;omega
      rw [if_pos h6,if_neg (by rw [e6];decide)]
      refine .more hs g.some (by simp) ?_
      rw [z6n,if_neg omT,if_pos rfl]
     ·have e6:(n.kind == 6 || n.kind == 7) = true:=by simp;omega
      rw [if_neg h6,if_pos e6]
      exact hs
theorem j2x {op:List Nat} {m:Nat} (h:q1h w0 B bb c op m w):B ≤ w.heap.size:=by
 obtain ⟨_,_,_,_,h⟩:=h
 exact h.top
theorem q9e {n:Ln} {op:List Nat} {m i:Nat} {e:Ending} {w':World} (h:j2t w0 B bb c op m i n e w'):(∃ v,e = .returned (.int .i64 v)) ∧ B ≤ w'.heap.size:=by
 unfold j2t at h
 split at h
 ·exact ⟨⟨_,h.1⟩,j2x h.2⟩
 ·split at h
  ·exact ⟨⟨_,h.1⟩,j2x h.2⟩
  ·split at h <;> exact ⟨⟨_,h.1⟩,j2x h.2⟩
theorem y4e (n:Ln) (av iv gv tv:Value) {op:List Nat} (h:q1h w0 B bb c op (z4p c.states) w) (g:GoodC c o) (hop:Opn c.states op o) (h9:op.length ≤ 9) (h3:3 ≤ n.kind) (h7:n.kind ≤ 7):Calls Tryz.prog 75 #[.pointer (some ⟨bb,0,none⟩),.agg (lnC n av iv gv tv)] w (z8p w0 B bb (z3d c o n)):=by
 obtain ⟨pre,i,hpre,ho⟩:=j3y hop
 have hhi:=g.hi
 have hfew:=g.few
 have S:=hiT (fun wx (hb:Below w.heap.size w wx)=>y4h n av iv gv tv hpre (by have:=congrArg List.length hpre;simp at this;omega) (show i < c.states.length by omega) omT (z2x h hb))
 have hfin:=hiT (fun e w' hr=>v6j (w0:=w0) (B:=B) (bb:=bb) (e:=e) (w':=w') g hop h9 ho h3 h7 hr)
 have hlen:((c.states.length:Int) == 0) = false:=beq_eq_false_iff_ne.2 (by have:=g.some;omega)
 have e1:(n.kind == 1) = false:=by simp;omega
 have e2:(n.kind == 2) = false:=by simp;omega
 have hks:n.kind = 3 ∨ n.kind = 4 ∨ n.kind = 5 ∨ n.kind = 6 ∨ n.kind = 7:=by omega
 have htop:B ≤ w.heap.size:=by
  obtain ⟨_,_,_,_,h⟩:=h
  exact h.top
 obtain ⟨x,hx⟩:∃ x,z3d c o n = x:=⟨_,rfl⟩
 rw [hx] at hfin ⊢
 obtain ⟨rv,vv,sv,ov,h⟩:=h
 obtain ⟨c0,c1,c2,c3,c4,hbb,hfr⟩:=five h.blk
 obtain ⟨sa,sc,hsv⟩:=z0g h.sts
 rw [hsv] at c2
 have i1:InW bb w:=⟨hbb⟩
 clear h hfr c0 c1 c3 c4 g hop h9 ho hpre hx
 unfold lnC
 rcases hks with hk | hk | hk | hk | hk
 ·have e3:(n.kind == 3) = true:=by rw [hk];rfl
  clear hk h3 h7
  go_enter Tryz.func75,Tryz.ntmps75
  go_wp2_with fail
  refine (S.out _ gzT).mono ?_
  intro e w1 hr
  obtain ⟨⟨v,rfl⟩,ht1⟩:=q9e hr
  have hq:=hiT (hfin.out _ _ hr)
  clear S hfin hr
  go_wp2
  go_returns
  exact z5e hq.out gzT ht1
 ·have e3:(n.kind == 3) = false:=by rw [hk];rfl
  have e4:(n.kind == 4) = true:=by rw [hk];rfl
  clear hk h3 h7
  go_enter Tryz.func75,Tryz.ntmps75
  go_wp2_with fail
  refine (S.out _ gzT).mono ?_
  intro e w1 hr
  obtain ⟨⟨v,rfl⟩,ht1⟩:=q9e hr
  have hq:=hiT (hfin.out _ _ hr)
  clear S hfin hr
  go_wp2
  go_returns
  exact z5e hq.out gzT ht1
 ·have e3:(n.kind == 3) = false:=by rw [hk];rfl
  have e4:(n.kind == 4) = false:=by rw [hk];rfl
  have e5:(n.kind == 5) = true:=by rw [hk];rfl
  clear hk h3 h7
  go_enter Tryz.func75,Tryz.ntmps75
  go_wp2_with fail
  refine (S.out _ gzT).mono ?_
  intro e w1 hr
  obtain ⟨⟨v,rfl⟩,ht1⟩:=q9e hr
  have hq:=hiT (hfin.out _ _ hr)
  clear S hfin hr
  go_wp2
  go_returns
  exact z5e hq.out gzT ht1
 ·have e3:(n.kind == 3) = false:=by rw [hk];rfl
  have e4:(n.kind == 4) = false:=by rw [hk];rfl
  have e5:(n.kind == 5) = false:=by rw [hk];rfl
  have e6:(n.kind == 6) = true:=by rw [hk];rfl
  clear hk h3 h7
  go_enter Tryz.func75,Tryz.ntmps75
  go_wp2_with fail
  refine (S.out _ gzT).mono ?_
  intro e w1 hr
  obtain ⟨⟨v,rfl⟩,ht1⟩:=q9e hr
  have hq:=hiT (hfin.out _ _ hr)
  clear S hfin hr
  go_wp2
  go_returns
  exact z5e hq.out gzT ht1
 ·have e3:(n.kind == 3) = false:=by rw [hk];rfl
  have e4:(n.kind == 4) = false:=by rw [hk];rfl
  have e5:(n.kind == 5) = false:=by rw [hk];rfl
  have e6:(n.kind == 6) = false:=by rw [hk];rfl
  have e7:(n.kind == 7) = true:=by rw [hk];rfl
  clear hk h3 h7
  go_enter Tryz.func75,Tryz.ntmps75
  go_wp2_with fail
  refine (S.out _ gzT).mono ?_
  intro e w1 hr
  obtain ⟨⟨v,rfl⟩,ht1⟩:=q9e hr
  have hq:=hiT (hfin.out _ _ hr)
  clear S hfin hr
  go_wp2
  go_returns
  exact z5e hq.out gzT ht1
theorem k0k {n:Ln} {op:List Nat} {i r:Nat} {e:Ending} {w':World} (g:GoodC c o) (hop:Opn c.states op o) (h9:op.length ≤ 9) (ho:o = (i:Int)) (h0:o ≠ 0) (hr:r < 2) (hk:n.kind = 8 + (r:Int)) (h:q6t w0 B bb c op (z4p c.states) i r n.acts e w'):z8p w0 B bb (z3d c o n) e w':=by
 obtain ⟨x,hx⟩:∃ x,z3d c o n = x:=⟨_,rfl⟩
 rw [hx]
 have hgood:∀ d p,x = .ok (d,p) → GoodC d p:=fun d p he=>z6p (.inr g) (hx.trans he)
 have hlo:=g.lo
 have hhi:=g.hi
 unfold z3d q5j at hx
 unfold q6t at h
 rw [if_neg omT,if_neg omT,if_neg omT,if_pos omT,if_neg h0,show o.toNat = i by omega] at hx
 have hm:=q6f c.states i (y8m r (c.states.getD i st0) n.acts) omT
 rw [(q8m r (c.states.getD i st0) n.acts).2.2.2.2] at hm
 have hw:∀ s,j0h c o s = { c with states:=c.states.set i s }:=fun s=>by
  unfold j0h
  rw [show o.toNat = i by omega]
 have fin:∀ d p,x = .ok (d,p) → d = { c with states:=c.states.set i (y8m r (c.states.getD i st0) n.acts) } → p = o → e = .returned (.int .i64 0) → q1h w0 B bb { c with states:=c.states.set i (y8m r (c.states.getD i st0) n.acts) } op (z4p c.states) w' → z8p w0 B bb x e w':=fun d p he hd hp h1 h2=>by
  have hg2:=hgood _ _ he
  subst he hd hp
  refine ⟨h1,op,?_,.inr ⟨hg2,k2f hop omT (q8m r (c.states.getD i st0) n.acts).2.2.1,h9⟩⟩
  rw [show z4p (c.states.set i (y8m r (c.states.getD i st0) n.acts)) = z4p c.states by omega]
  exact h2
 rcases (by omega:r = 0 ∨ r = 1) with rfl | rfl
 ·rw [if_pos omT] at hx
  unfold j6k at h
  simp only [if_true] at h
  by_cases h8:(c.states.getD i st0).enter.length = 8
  ·rw [if_pos h8] at hx h
   subst hx
   exact ⟨h.1,rfl,z5v h.2⟩
  ·rw [if_neg h8] at hx h
   exact fin _ _ hx.symm (hw _) rfl h.1 h.2
 ·rw [if_neg omT,if_pos omT] at hx
  unfold j6k at h
  rw [if_neg (show ¬ (1:Nat) = 0 by decide)] at h
  by_cases h8:(c.states.getD i st0).exit.length = 8
  ·rw [if_pos h8] at hx h
   subst hx
   exact ⟨h.1,rfl,z5v h.2⟩
  ·rw [if_neg h8] at hx h
   exact fin _ _ hx.symm (hw _) rfl h.1 h.2
theorem v0i {n:Ln} {op:List Nat} {i:Nat} {e:Ending} {w':World} (g:GoodC c o) (hop:Opn c.states op o) (h9:op.length ≤ 9) (ho:o = (i:Int)) (h0:o ≠ 0) (hk:10 ≤ n.kind) (hk2:n.kind ≠ 12) (h:q6w w0 B bb c op (z4p c.states) i n e w'):z8p w0 B bb (z3d c o n) e w':=by
 obtain ⟨x,hx⟩:∃ x,z3d c o n = x:=⟨_,rfl⟩
 rw [hx]
 have hgood:∀ d p,x = .ok (d,p) → GoodC d p:=fun d p he=>z6p (.inr g) (hx.trans he)
 have hlo:=g.lo
 have hhi:=g.hi
 unfold z3d q5j at hx
 unfold q6w at h
 simp only at hx
 rw [if_neg omT,if_neg omT,if_neg omT,if_pos omT,if_neg h0,if_neg omT,if_neg omT,if_neg hk2,show o.toNat = i by omega] at hx
 by_cases h96:z4p c.states = 96
 ·rw [if_pos h96] at hx h
  subst hx
  exact ⟨h.1,rfl,z5v h.2⟩
 ·rw [if_neg h96] at hx h
  have hg2:=hgood _ _ hx.symm
  unfold j0h at hx hg2
  rw [show o.toNat = i by omega] at hx hg2
  subst hx
  have key:∀ s:St,s.trans.length = (c.states.getD i st0).trans.length + 1 → z4p (c.states.set i s) = z4p c.states + 1:=fun s hs=>by
   have:=q6f c.states i s omT
   omega
  refine ⟨h.1,op,?_,.inr ⟨hg2,k2f hop omT rfl,h9⟩⟩
  show q1h w0 B bb _ op (z4p (c.states.set i _)) w'
  rw [key _ (by simp)]
  exact h.2
theorem v4a {n:Ln} {op pre:List Nat} {i:Nat} {e:Ending} {w':World} (g:GoodC c o) (hop:Opn c.states op o) (h9:op.length ≤ 9) (hpre:op = pre ++ [i]) (h0:o ≠ 0) (hk:n.kind = 12) (h:e = .returned (.int .i64 0) ∧ q1h w0 B bb c pre (z4p c.states) w'):z8p w0 B bb (z3d c o n) e w':=by
 obtain ⟨x,hx⟩:∃ x,z3d c o n = x:=⟨_,rfl⟩
 rw [hx]
 have hgood:∀ d p,x = .ok (d,p) → GoodC d p:=fun d p he=>z6p (.inr g) (hx.trans he)
 have hlo:=g.lo
 unfold z3d q5j at hx
 simp only at hx
 rw [if_neg omT,if_neg omT,if_neg omT,if_pos omT,if_neg h0,if_neg omT,if_neg omT,if_pos hk] at hx
 have hg2:=hgood _ _ hx.symm
 subst hx
 have hq:=v5p hop h0
 rw [hpre,List.length_append] at hq
 simp only [List.length_singleton,Nat.add_sub_cancel,List.take_left] at hq
 exact ⟨h.1,pre,h.2,.inr ⟨hg2,hq,by rw [hpre,List.length_append] at h9;omega⟩⟩
theorem v0j {n:Ln} {op:List Nat} {m i:Nat} {e:Ending} {w':World} (h:q6w w0 B bb c op m i n e w'):∃ v,e = .returned (.int .i64 v):=by
 unfold q6w at h
 split at h <;> exact ⟨_,h.1⟩
theorem j3r:∀ (ss:List St) (i:Nat),(ss.getD i st0).trans.length ≤ z4p ss
 | [],i=>by simp [st0]
 | s :: ss,0=>by simp [z4p]
 | s :: ss,i + 1=>by
  have:=j3r ss i
  unfold z4p at *
  simp at this ⊢
  omega
theorem j5l {x:Except Int (Ch × Int)} {e:Ending} {w1:World} (h:z8p w0 B bb x e w1):B ≤ w1.heap.size:=by
 cases x with
 | error y=>exact h.2.2.2
 | ok p =>
  obtain ⟨_,op,⟨_,_,_,_,h2⟩,_⟩:=h
  exact h2.top
theorem j8q (n:Ln) (av iv gv tv:Value) {op:List Nat} (h:q1h w0 B bb c op (z4p c.states) w) (hn:LnV B w n av iv gv tv) (g:GoodC c o) (hop:Opn c.states op o) (h9:op.length ≤ 9) (h8:8 ≤ n.kind) (h12:n.kind ≤ 12):Calls Tryz.prog 75 #[.pointer (some ⟨bb,0,none⟩),.agg (lnC n av iv gv tv)] w (z8p w0 B bb (z3d c o n)):=by
 obtain ⟨pre,i,hpre,ho⟩:=j3y hop
 have hhi:=g.hi
 have hfew:=g.few
 have hone:=(j3z hop).2
 have hpl:pre.length ≤ 1000:=by
  have:=congrArg List.length hpre
  simp at this
  omega
 have hlen:((c.states.length:Int) == 0) = false:=beq_eq_false_iff_ne.2 (by have:=g.some;omega)
 have e1:(n.kind == 1) = false:=by simp;omega
 have e2:(n.kind == 2) = false:=by simp;omega
 have e3:(n.kind == 3) = false:=by simp;omega
 have e4:(n.kind == 4) = false:=by simp;omega
 have e5:(n.kind == 5) = false:=by simp;omega
 have e6:(n.kind == 6) = false:=by simp;omega
 have e7:(n.kind == 7) = false:=by simp;omega
 by_cases h0:o = 0
 ·have hl1:((op.length:Int) == 1) = true:=by rw [beq_iff_eq];have:=hone.2 h0;omega
  have hst:z3d c o n = .error 30:=by
   unfold z3d q5j
   rw [if_neg omT,if_neg omT,if_neg omT,if_pos h8,if_pos h0]
  rw [hst]
  obtain ⟨rv,vv,sv,ov,h⟩:=h
  obtain ⟨c0,c1,c2,c3,c4,hbb,hfr⟩:=five h.blk
  obtain ⟨sa,sc,hsv⟩:=z0g h.sts
  obtain ⟨oa,oc,hov⟩:=z0g h.opn
  rw [hsv] at c2
  rw [hov] at c3
  have i1:InW bb w:=⟨hbb⟩
  have hA:=hiT h
  clear h hn hfr c0 c1 c4 g hop h9 ho hpre hst h8 h12 hone h0
  unfold lnC
  go_enter Tryz.func75,Tryz.ntmps75
  go_wp2
  go_returns
  exact ⟨rfl,rfl,y9b (z2h hA.out gzT)⟩
 ·have hl1:((op.length:Int) == 1) = false:=beq_eq_false_iff_ne.2 (by have:=fun e=>h0 (hone.1 e);omega)
  obtain ⟨x,hx⟩:∃ x,z3d c o n = x:=⟨_,rfl⟩
  have key:∀ wx,Below w.heap.size w wx → Calls Tryz.prog 113 #[.pointer (some ⟨bb,0,none⟩),.agg (lnC n av iv gv tv)] wx (fun e w'=>(∃ v,e = .returned (.int .i64 v)) ∧ z8p w0 B bb x e w'):=fun wx hb=>by
   have hi:i < c.states.length:=by omega
   have hlists:=g.lists i hi
   have hall:=j3r c.states i
   have htr:=g.trans
   have hbx:=z2x h hb
   have hnx:=q6e hn hb
   rw [← hx]
   by_cases k8:n.kind = 8
   ·exact (q5d (r:=0) n av iv gv tv deT omT hpre hpl hi hlists.1 hbx hnx).mono fun e w' hr=>⟨j3g hr,k0k g hop h9 ho h0 deT omT hr⟩
   ·by_cases k9:n.kind = 9
    ·exact (q5d (r:=1) n av iv gv tv deT omT hpre hpl hi hlists.2 hbx hnx).mono fun e w' hr=>⟨j3g hr,k0k g hop h9 ho h0 deT omT hr⟩
    ·by_cases k12:n.kind = 12
     ·exact (j8t n av iv gv tv k12 hpre hpl hi hbx).mono fun e w' hr=>⟨⟨_,hr.1⟩,v4a g hop h9 hpre h0 k12 hr⟩
     ·exact (j2y n av iv gv tv k8 k9 k12 hpre hpl htr hi omT hbx hnx).mono fun e w' hr=>⟨v0j hr,v0i g hop h9 ho h0 omT k12 hr⟩
  rw [hx]
  have hfin:∀ e w1,z8p w0 B bb x e w1 → B ≤ w1.heap.size:=fun e w1 hr=>j5l hr
  replace key:=hiT key
  replace hfin:=hiT hfin
  obtain ⟨rv,vv,sv,ov,h⟩:=h
  obtain ⟨c0,c1,c2,c3,c4,hbb,hfr⟩:=five h.blk
  obtain ⟨sa,sc,hsv⟩:=z0g h.sts
  obtain ⟨oa,oc,hov⟩:=z0g h.opn
  rw [hsv] at c2
  rw [hov] at c3
  have i1:InW bb w:=⟨hbb⟩
  clear h hn hfr c0 c1 c4 g hop h9 ho hpre hx h8 h12 hone h0
  unfold lnC
  go_enter Tryz.func75,Tryz.ntmps75
  go_wp2_with fail
  refine (key.out _ gzT).mono ?_
  intro e w1 hr
  obtain ⟨⟨v,rfl⟩,hr⟩:=hr
  have ht1:=hfin.out _ _ hr
  replace hr:=hiT hr
  clear key hfin
  go_wp2
  go_returns
  exact z5e hr.out gzT ht1
theorem k5z (n:Ln) (av iv gv tv:Value) (h:BSt w0 B bb c o w) (hn:LnV B w n av iv gv tv) (h1:1 ≤ n.kind) (h12:n.kind ≤ 12):Calls Tryz.prog 75 #[.pointer (some ⟨bb,0,none⟩),.agg (lnC n av iv gv tv)] w (z8p w0 B bb (z3d c o n)):=by
 obtain ⟨op,hb,⟨rfl,rfl,rfl⟩ | ⟨g,hop,h9⟩⟩:=h
 ·exact y9a n av iv gv tv hb
 ·by_cases k1:n.kind = 1
  ·exact y4d n av iv gv tv hb g k1
  ·by_cases k2:n.kind = 2
   ·exact k6a n av iv gv tv hb g ⟨hop,h9⟩ k2
   ·by_cases k8:8 ≤ n.kind
    ·exact j8q n av iv gv tv hb hn g hop h9 k8 h12
    ·exact y4e n av iv gv tv hb g hop h9 omT omT
end
end Go.Proofs.YtacnlghljmgdiaaGreatDoor
