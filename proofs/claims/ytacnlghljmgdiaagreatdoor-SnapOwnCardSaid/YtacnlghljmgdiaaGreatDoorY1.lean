/- Several texts of this proof, joined: NM, X0, TN, N1. -/
import Derived.Test.YtacnlghljmgdiaaGreatDoorZ7
import Derived.Test.YtacnlghljmgdiaaGreatDoorZ6
import Derived.Test.YtacnlghljmgdiaaGreatDoorZ4
import Derived.WalkKit
import Derived.ProofKit
import Derived.OpenShut
import Derived.Handy
import Derived.BigQuiet
import Derived.OwnWalk
import Derived.Lib.Hide
import Derived.WalkSmall
import Derived.WalkLawsBesides
import Derived.Deep.AppendLies
namespace Go.Proofs.YtacnlghljmgdiaaGreatDoor
def z5k (l:List UInt8):Int :=
 match z5b 120 0 l with
 | .ok [t]=>if t.s = l then t.k else 0
 | _=>0
def words:List (List UInt8):=[[99,104,97,114,116],[118,97,114],[115,116,97,116,101],[112,97,114,97,108,108,101,108],[102,105,110,97,108],[100,101,101,112],[115,104,97,108,108,111,119],
 [101,110,116,101,114],[101,120,105,116],[111,110],[97,117,116,111],[101,110,100],[105,102],[103,111],[105,110,110,101,114],[100,111],
 [115,101,116],[114,97,105,115,101],[115,101,110,100],[99,97,110,99,101,108],[108,111,103],[116,114,117,101],[102,97,108,115,101],[110,111,116],[97,110,100],[111,114],[105,110]]
def z4k (l:List UInt8):Bool:=words.contains l
theorem y4a {l:List UInt8} {x:Int × Nat} (h:z5b 120 0 l = .error x):z5k l = 0:=by unfold z5k;rw [h]
theorem j8p {l:List UInt8} {ts:List Tk} (h:z5b 120 0 l = .ok ts) (hn:ts.length ≠ 1):z5k l = 0:=by
 unfold z5k
 rw [h]
 match ts,hn with
 | [],_=>rfl
 | [_],h=>exact absurd rfl h
 | _ :: _ :: _,_=>rfl
theorem y4b {l:List UInt8} {t:Tk} (h:z5b 120 0 l = .ok [t]):z5k l = if t.s = l then t.k else 0:=by unfold z5k;rw [h]
structure Nd where
 op:Int
 k:Int
 n:Int
 s:List UInt8
 name:List UInt8
 l:Int
 r:Int
structure Rd where
 at_:Nat
 nodes:List Nd
 parts:List Nat
 wait:List Int
 within:Nat
def Rd.add (r:Rd) (n:Nd):Rd:={ r with nodes:=r.nodes ++ [n],parts:=r.nodes.length :: r.parts }
def cnt (op:Int):Nat:=if op = 1 ∨ op = 2 then 1 else if 3 ≤ op ∧ op ≤ 15 then 2 else 0
def z4o (op:Int):Int :=
 if op = -1 then 0 else if op = 15 then 1 else if op = 14 then 2 else if 8 ≤ op ∧ op ≤ 13 then 3 else if 6 ≤ op ∧ op ≤ 7 then 4 else if 3 ≤ op ∧ op ≤ 5 then 5 else 6
def q5u (op:Int):Int:=if z4o op = 3 then 4 else z4o op
def opn (op:Int) (ps:List Nat):Nd:=⟨op,0,0,[],[],(ps.getD 0 0:Nat),(ps.getD 1 0:Nat)⟩
def q0n (t:Tk) (x:List UInt8):Bool:=(t.k == 1 || t.k == 5) && t.s == x
def z2t (ts:List Tk) (a:Nat) (x:List UInt8):Bool :=
 match ts[a]? with
 | some t=>q0n t x
 | none=>false
def z7c:List (List UInt8):=[[],[110,111,116],[45],[42],[47],[37],[43],[45],[60],[60,61],[62],[62,61],[61],[33,61],[97,110,100],[111,114]]
def ahead (ts:List Tk) (r:Rd):Option Rd :=
 if z2t ts r.at_ [110,111,116] then some { r with at_:=r.at_ + 1,wait:=1 :: r.wait }
 else if z2t ts r.at_ [45] then some { r with at_:=r.at_ + 1,wait:=2 :: r.wait }
 else if z2t ts r.at_ [40] then some { r with at_:=r.at_ + 1,wait := -1 :: r.wait,within:=r.within + 1 }
 else none
def aheads:Nat → List Tk → Rd → Rd
 | 0,_,r=>r
 | f + 1,ts,r =>
  match ahead ts r with
  | some r'=>aheads f ts r'
  | none=>r
def z2b (ts:List Tk) (a:Nat):Option (List UInt8) :=
 match ts[a]? with
 | some t=>if t.k == 1 && !z4k t.s then some t.s else none
 | none=>none
def rname (op:Int) (ts:List Tk) (r:Rd):Option Rd :=
 match z2b ts r.at_ with
 | some s=>some { r.add ⟨op,0,0,[],s,0,0⟩ with at_:=r.at_ + 1 }
 | none=>none
def q0k (ts:List Tk) (a:Nat):Option Nd :=
 match ts[a]? with
 | some t=>if t.k == 3 then some ⟨0,1,t.n,[],[],0,0⟩ else if t.k == 4 then some ⟨0,3,0,t.s,[],0,0⟩ else if q0n t [116,114,117,101] then some ⟨0,2,1,[],[],0,0⟩ else if q0n t [102,97,108,115,101] then some ⟨0,2,0,[],[],0,0⟩ else none
 | none=>none
def rvalue (ts:List Tk) (r:Rd):Option Rd :=
 match q0k ts r.at_ with
 | some n=>some { r.add n with at_:=r.at_ + 1 }
 | none=>none
def takes (ts:List Tk) (x:List UInt8) (r:Rd):Option Rd:=if z2t ts r.at_ x then some { r with at_:=r.at_ + 1 } else none
def atom (ts:List Tk) (r:Rd):Option Rd :=
 match takes ts [105,110] r with
 | some r1 =>
  match takes ts [40] r1 with
  | some r2 =>
   match rname 17 ts r2 with
   | some r3=>takes ts [41] r3
   | none=>none
  | none=>none
 | none =>
  match rname 16 ts r with
  | some r1=>some r1
  | none=>rvalue ts r
def q5v (op:Int) (ws:List Int) (r:Rd):Rd:={ r with wait:=ws,parts:=r.parts.drop (cnt op) }.add (opn op (r.parts.take (cnt op)).reverse)
def y2a (least:Int):List Int → Rd → Rd
 | [],r=>{ r with wait:=[] }
 | op :: ws,r=>if z4o op < least then { r with wait:=op :: ws } else y2a least ws (q5v op ws r)
def finish (least:Int) (r:Rd):Rd:=y2a least r.wait r
def z6s (t:Tk):Nat → Int → Int
 | 0,_=>0
 | f + 1,i=>if q0n t (z7c.getD i.toNat []) then i else z6s t f (i + 1)
def between (ts:List Tk) (a:Nat):Int :=
 match ts[a]? with
 | some t=>z6s t 13 3
 | none=>0
def v6o (ws:List Int) (k:Int):Bool :=
 match ws with
 | o :: _=>z4o o == k
 | []=>false
def more (ts:List Tk) (r:Rd):Bool × Rd :=
 if between ts r.at_ == 0 then (false,r)
 else if v6o (finish (q5u (between ts r.at_)) r).wait (z4o (between ts r.at_)) then (false,finish (q5u (between ts r.at_)) r)
 else (true,{ finish (q5u (between ts r.at_)) r with wait:=between ts r.at_ :: (finish (q5u (between ts r.at_)) r).wait,at_:=r.at_ + 1 })
def close (r:Rd):Rd:={ finish 1 { r with at_:=r.at_ + 1 } with wait:=(finish 1 { r with at_:=r.at_ + 1 }).wait.tail,within:=r.within - 1 }
def closes:Nat → List Tk → Rd → Rd
 | 0,_,r=>r
 | f + 1,ts,r=>if 0 < r.within ∧ z2t ts r.at_ [41] = true then closes f ts (close r) else r
def one (ts:List Tk) (r:Rd):Option Rd :=
 match atom ts (aheads 128 ts r) with
 | some r1=>some (closes 128 ts r1)
 | none=>none
def whole:Nat → List Tk → Rd → Option Rd
 | 0,_,_=>none
 | f + 1,ts,r =>
  match one ts r with
  | none=>none
  | some r1 =>
   match more ts r1 with
   | (true,r2)=>whole f ts r2
   | (false,r2)=>if (finish 1 r2).within = 0 then some (finish 1 r2) else none
def y9q (ds:List Nat) (n:Nd):Nat:=([n.l,n.r].take (cnt n.op)).foldl (fun d p=>if 0 ≤ p ∧ p < (ds.length:Int) then max d (ds.getD p.toNat 0 + 1) else d) 1
def j0f:List Nat → List Nd → Int
 | _,[]=>0
 | ds,n :: r=>if 8 < y9q ds n then 23 else j0f (ds ++ [y9q ds n]) r
def z7d (ns:List Nd):Int:=if 32 < ns.length then 13 else j0f [] ns
def z3f (ts:List Tk) (a:Int):Except Int (List Nd × Nat) :=
 if a < 0 ∨ (ts.length:Int) < a then .error 11 else
 match whole 128 ts ⟨a.toNat,[],[],[],0⟩ with
 | none => .error 11
 | some r=>if z7d r.nodes ≠ 0 then .error (z7d r.nodes) else .ok (r.nodes,r.at_)
def bins:List Int → Nat
 | []=>0
 | o :: ws=>bins ws + if 3 ≤ o then 1 else 0
def opens:List Int → Nat
 | []=>0
 | o :: ws=>opens ws + if o = -1 then 1 else 0
structure Good (k:Nat) (ts:List Tk) (r:Rd):Prop where
 ops:∀ o ∈ r.wait,o = -1 ∨ 1 ≤ o ∧ o ≤ 15
 par:r.parts.length = bins r.wait + k
 sum:r.nodes.length + r.wait.length ≤ r.at_
 at_:r.at_ ≤ ts.length
 wth:r.within = opens r.wait
theorem z4w {ts:List Tk} {a:Nat} {x:List UInt8} (h:z2t ts a x = true):a < ts.length:=by
 unfold z2t at h
 rcases Nat.lt_or_ge a ts.length with h1 | h1
 ·exact h1
 ·rw [List.getElem?_eq_none h1] at h;cases h
theorem q3i {ts:List Tk} {a:Nat} {s:List UInt8} (h:z2b ts a = some s):a < ts.length:=by
 unfold z2b at h
 rcases Nat.lt_or_ge a ts.length with h1 | h1
 ·exact h1
 ·rw [List.getElem?_eq_none h1] at h;cases h
theorem y8e {ts:List Tk} {a:Nat} {s:Nd} (h:q0k ts a = some s):a < ts.length:=by
 unfold q0k at h
 rcases Nat.lt_or_ge a ts.length with h1 | h1
 ·exact h1
 ·rw [List.getElem?_eq_none h1] at h;cases h
theorem y4f {ts:List Tk} {a:Nat} (h:¬ between ts a = 0):a < ts.length:=by
 unfold between at h
 rcases Nat.lt_or_ge a ts.length with h1 | h1
 ·exact h1
 ·rw [List.getElem?_eq_none h1] at h;exact absurd rfl h
theorem j6v (t:Tk):∀ f i,0 < i → z6s t f i = 0 ∨ i ≤ z6s t f i ∧ z6s t f i < i + f
 | 0,_,_ => .inl rfl
 | f + 1,i,hi=>by
  rw [z6s]
  split
  ·right;omega
  ·rcases j6v t f (i + 1) omT with h | h
   ·exact .inl h
   ·right;omega
theorem j0q (ts:List Tk) (a:Nat):between ts a = 0 ∨ 3 ≤ between ts a ∧ between ts a ≤ 15:=by
 unfold between
 split
 ·rcases j6v ‹_› 13 3 omT with h | h
  ·exact .inl h
  ·right;omega
 ·exact .inl rfl
theorem j0n {ts:List Tk} {r r':Rd} (g:Good 0 ts r) (h:ahead ts r = some r'):Good 0 ts r' ∧ r'.at_ = r.at_ + 1:=by
 obtain ⟨a,nodes,parts,wait,within⟩:=r
 obtain ⟨g1,g2,g3,g4,g5⟩:=g
 unfold ahead at h
 simp only at g1 g2 g3 g4 g5 h
 split at h
 ·cases h
  refine ⟨⟨fun o ho=>?_,by simpa [bins] using g2,by simp;omega,z4w ‹_›,by simpa [opens] using g5⟩,rfl⟩
  rcases List.mem_cons.1 ho with rfl | ho
  ·omega
  ·exact g1 o ho
 ·split at h
  ·cases h
   refine ⟨⟨fun o ho=>?_,by simpa [bins] using g2,by simp;omega,z4w ‹_›,by simpa [opens] using g5⟩,rfl⟩
   rcases List.mem_cons.1 ho with rfl | ho
   ·omega
   ·exact g1 o ho
  ·split at h
   ·cases h
    refine ⟨⟨fun o ho=>?_,by simpa [bins] using g2,by simp;omega,z4w ‹_›,by simp [opens,g5]⟩,rfl⟩
    rcases List.mem_cons.1 ho with rfl | ho
    ·omega
    ·exact g1 o ho
   ·cases h
theorem q7a {ts:List Tk}:∀ (f:Nat) {r:Rd},Good 0 ts r → Good 0 ts (aheads f ts r) ∧ r.at_ ≤ (aheads f ts r).at_
 | 0,r,g=>⟨g,Nat.le_refl _⟩
 | f + 1,r,g=>by
  rw [aheads]
  split
  ·rename_i r' h
   obtain ⟨g',e⟩:=j0n g h
   obtain ⟨h1,h2⟩:=q7a f g'
   exact ⟨h1,by omega⟩
  ·exact ⟨g,Nat.le_refl _⟩
theorem y1p {ts:List Tk} {r:Rd} (n:Nd) (g:Good 0 ts r) (h:r.at_ < ts.length):Good 1 ts { r.add n with at_:=r.at_ + 1 }:=by
 obtain ⟨g1,g2,g3,g4,g5⟩:=g
 exact ⟨g1,by simp [Rd.add,g2],by simp [Rd.add];omega,h,g5⟩
theorem q7z {op:Int} {ts:List Tk} {r r':Rd} (g:Good 0 ts r) (h:rname op ts r = some r'):Good 1 ts r' ∧ r'.at_ = r.at_ + 1:=by
 unfold rname at h
 split at h
 ·cases h
  exact ⟨y1p _ g (q3i ‹_›),rfl⟩
 ·cases h
theorem y8g {ts:List Tk} {r r':Rd} (g:Good 0 ts r) (h:rvalue ts r = some r'):Good 1 ts r' ∧ r'.at_ = r.at_ + 1:=by
 unfold rvalue at h
 split at h
 ·cases h
  exact ⟨y1p _ g (y8e ‹_›),rfl⟩
 ·cases h
theorem z8k {k:Nat} {x:List UInt8} {ts:List Tk} {r r':Rd} (g:Good k ts r) (h:takes ts x r = some r'):Good k ts r' ∧ r'.at_ = r.at_ + 1:=by
 unfold takes at h
 split at h
 ·cases h
  obtain ⟨g1,g2,g3,g4,g5⟩:=g
  exact ⟨⟨g1,g2,by show r.nodes.length + r.wait.length ≤ r.at_ + 1;omega,z4w ‹_›,g5⟩,rfl⟩
 ·cases h
theorem j5p {ts:List Tk} {r r':Rd} (g:Good 0 ts r) (h:atom ts r = some r'):Good 1 ts r' ∧ r.at_ < r'.at_:=by
 unfold atom at h
 split at h
 ·rename_i r1 h1
  obtain ⟨g1,e1⟩:=z8k g h1
  split at h
  ·rename_i r2 h2
   obtain ⟨g2,e2⟩:=z8k g1 h2
   split at h
   ·rename_i r3 h3
    obtain ⟨g3,e3⟩:=q7z g2 h3
    obtain ⟨g4,e4⟩:=z8k g3 h
    exact ⟨g4,by omega⟩
   ·cases h
  ·cases h
 ·split at h
  ·rename_i r1 h1
   cases h
   obtain ⟨g1,e1⟩:=q7z g h1
   exact ⟨g1,by omega⟩
  ·obtain ⟨g1,e1⟩:=y8g g h
   exact ⟨g1,by omega⟩
theorem j2h {o:Int} {least:Int} (h:1 ≤ least) (ht:¬ z4o o < least):¬ o = -1:=by
 rintro rfl
 apply ht
 show (0:Int) < least
 omega
theorem y1v {o:Int} (h:1 ≤ o ∧ o ≤ 15):cnt o = 1 + if 3 ≤ o then 1 else 0:=by
 unfold cnt
 repeat' split
 all_goals omega
theorem y2z {ts:List Tk} {r:Rd} {op:Int} {ws:List Int} (hw:r.wait = op :: ws) (ho:¬ op = -1) (g:Good 1 ts r):Good 1 ts (q5v op ws r) ∧ cnt op ≤ r.parts.length:=by
 obtain ⟨a,nodes,parts,wait,within⟩:=r
 simp only at hw
 subst hw
 obtain ⟨g1,g2,g3,g4,g5⟩:=g
 simp only [bins,opens,List.length_cons,if_neg ho] at g1 g2 g3 g4 g5
 have hc:=y1v ((g1 op (by simp)).resolve_left ho)
 refine ⟨⟨fun o h=>g1 o (by simp [q5v,Rd.add] at h;simp [h]),?_,?_,g4,by simpa [q5v,Rd.add] using g5⟩,?_⟩
 ·simp only [q5v,Rd.add,List.length_cons,List.length_drop]
  omega
 ·simp only [q5v,Rd.add,List.length_append,List.length_cons,List.length_nil]
  omega
 ·simp only
  omega
theorem j5z {ts:List Tk} {least:Int} (hl:1 ≤ least):∀ (ws:List Int) {r:Rd},r.wait = ws → Good 1 ts r → Good 1 ts (y2a least ws r) ∧ (y2a least ws r).at_ = r.at_ ∧ (y2a least ws r).within = r.within ∧ (∀ o u,(y2a least ws r).wait = o :: u → z4o o < least)
 | [],r,hw,g=>by
  have e:y2a least [] r = r:=by obtain ⟨a,nodes,parts,wait,within⟩:=r;simp only at hw;subst hw;rfl
  rw [e]
  exact ⟨g,rfl,rfl,fun o u h=>by rw [hw] at h;cases h⟩
 | op :: ws,r,hw,g=>by
  rw [y2a]
  split
  ·rename_i ht
   have e:{ r with wait:=op :: ws } = r:=by rw [← hw]
   rw [e]
   exact ⟨g,rfl,rfl,fun o u h=>by rw [hw] at h;cases h;exact ht⟩
  ·rename_i ht
   obtain ⟨g',_⟩:=y2z hw (j2h hl ht) g
   obtain ⟨h1,h2,h3,h4⟩:=j5z hl ws (r:=q5v op ws r) rfl g'
   exact ⟨h1,by rw [h2];rfl,by rw [h3];rfl,h4⟩
theorem z6m {ts:List Tk} {least:Int} (hl:1 ≤ least) {r:Rd} (g:Good 1 ts r):Good 1 ts (finish least r) ∧ (finish least r).at_ = r.at_ ∧ (finish least r).within = r.within ∧ (∀ o u,(finish least r).wait = o :: u → z4o o < least) :=
 j5z hl _ rfl g
theorem y2h {op:Int} (h:3 ≤ op ∧ op ≤ 15):1 ≤ q5u op:=by
 unfold q5u z4o
 repeat' split
 all_goals omega
theorem j6q {ts:List Tk} {r:Rd} (g:Good 1 ts r):((more ts r).1 = true → Good 0 ts (more ts r).2 ∧ (more ts r).2.at_ = r.at_ + 1) ∧ ((more ts r).1 = false → Good 1 ts (more ts r).2 ∧ (more ts r).2.at_ = r.at_):=by
 unfold more
 split
 ·exact ⟨fun h=>(by cases h),fun _=>⟨g,rfl⟩⟩
 ·rename_i hb
  have hb':¬ between ts r.at_ = 0:=by simpa using hb
  have hin:=(j0q ts r.at_).resolve_left hb'
  obtain ⟨⟨f1,f2,f3,f4,f5⟩,e1,e2,_⟩:=z6m (y2h hin) g
  split
  ·exact ⟨fun h=>(by cases h),fun _=>⟨⟨f1,f2,f3,f4,f5⟩,e1⟩⟩
  ·refine ⟨fun _=>⟨⟨fun o ho=>?_,?_,?_,y4f hb',?_⟩,rfl⟩,fun h=>(by cases h)⟩
   ·rcases List.mem_cons.1 ho with rfl | ho
    ·exact .inr omT
    ·exact f1 o ho
   ·show _ = bins (_ :: _) + 0
    rw [bins,if_pos hin.1,f2]
   ·show _ + (_ :: _).length ≤ _
    rw [List.length_cons]
    show (finish (q5u (between ts r.at_)) r).nodes.length + _ ≤ r.at_ + 1
    omega
   ·show _ = opens (_ :: _)
    rw [opens,if_neg omT]
    exact f5
theorem j0t {ts:List Tk} {r:Rd} (g:Good 1 ts r) (h0:0 < r.within) (h:z2t ts r.at_ [41] = true):Good 1 ts (close r) ∧ (close r).at_ = r.at_ + 1 ∧ ∃ u,(finish 1 { r with at_:=r.at_ + 1 }).wait = -1 :: u:=by
 have g':Good 1 ts { r with at_:=r.at_ + 1 }:=⟨g.ops,g.par,Nat.le_succ_of_le g.sum,z4w h,g.wth⟩
 obtain ⟨f,e1,e2,e3⟩:=z6m (least:=1) (Int.le_refl _) g'
 unfold close
 generalize finish 1 { r with at_:=r.at_ + 1 } = q at *
 obtain ⟨a,nodes,parts,wait,within⟩:=q
 obtain ⟨f1,f2,f3,f4,f5⟩:=f
 simp only at f1 f2 f3 f4 f5 e1 e2 e3 ⊢
 cases wait with
 | nil =>
  simp only [opens] at f5
  omega
 | cons o u =>
  have ho:=e3 o u rfl
  have ho1:o = -1:=by
   rcases f1 o (by simp) with h | h
   ·exact h
   ·exfalso
    unfold z4o at ho
    repeat' split at ho
    all_goals omega
  subst ho1
  simp only [bins,opens,List.length_cons] at f2 f3 f5
  refine ⟨⟨fun o ho=>f1 o (by simp at ho;simp [ho]),?_,?_,f4,?_⟩,e1,⟨u,rfl⟩⟩
  ·simpa using f2
  ·simp only [List.tail_cons];omega
  ·simp only [List.tail_cons];rw [if_pos trivial] at f5;omega
theorem q7g {ts:List Tk}:∀ (f:Nat) {r:Rd},Good 1 ts r → Good 1 ts (closes f ts r) ∧ r.at_ ≤ (closes f ts r).at_
 | 0,r,g=>⟨g,Nat.le_refl _⟩
 | f + 1,r,g=>by
  rw [closes]
  split
  ·rename_i h
   obtain ⟨g',e,_⟩:=j0t g h.1 h.2
   obtain ⟨h1,h2⟩:=q7g f g'
   exact ⟨h1,by omega⟩
  ·exact ⟨g,Nat.le_refl _⟩
theorem y2s {ts:List Tk} {r r':Rd} (g:Good 0 ts r) (h:one ts r = some r'):Good 1 ts r' ∧ r.at_ < r'.at_:=by
 unfold one at h
 split at h
 ·rename_i r1 h1
  cases h
  obtain ⟨g0,e0⟩:=q7a 128 g
  obtain ⟨g1,e1⟩:=j5p g0 h1
  obtain ⟨g2,e2⟩:=q7g 128 g1
  exact ⟨g2,by omega⟩
 ·cases h
theorem q4y {ts:List Tk}:∀ (f:Nat) {r r':Rd},Good 0 ts r → whole f ts r = some r' → Good 1 ts r'
 | 0,_,_,_,h=>by cases h
 | f + 1,r,r',g,h=>by
  rw [whole] at h
  split at h
  ·cases h
  ·rename_i r1 h1
   obtain ⟨g1,_⟩:=y2s g h1
   obtain ⟨m1,m2⟩:=j6q g1
   split at h
   ·rename_i r2 h2
    rw [h2] at m1
    exact q4y f (m1 rfl).1 h
   ·rename_i r2 h2
    rw [h2] at m2
    split at h
    ·cases h
     exact (z6m (Int.le_refl _) (m2 rfl).1).1
    ·cases h
theorem j1c (ts:List Tk) (a:Nat) (h:a ≤ ts.length):Good 0 ts ⟨a,[],[],[],0⟩:=⟨fun o h=>(by cases h),rfl,Nat.zero_le _,h,rfl⟩
section
variable {ts rest:List Tk} {c:Tk}
end
end Go.Proofs.YtacnlghljmgdiaaGreatDoor
namespace Go.Proofs.YtacnlghljmgdiaaGreatDoor
open Go.RowKit
def v2o (t:Tk) (w:World) (e:Ending) (w':World):Prop:=∃ g cap,e = .returned (.tuple #[.slice (some ⟨g,0,none⟩) 1 cap,.int .i64 0,.int .i64 0]) ∧ g < w'.heap.size ∧ w'.cell? ⟨g,0,none⟩ = some (.int .i64 t.k) ∧ w'.cell? ⟨g,1,none⟩ = some (.string ⟨t.s.toArray⟩) ∧ Below w.heap.size w w'
theorem v9h {t:Tk} {w:World} {e:Ending} {w':World} (h:x2w [t] w e w'):v2o t w e w':=by
 obtain ⟨ao,cap,he,h1,hb⟩:=h
 obtain ⟨g,rfl,hg,ht⟩:=h1 Nat.one_pos
 obtain ⟨a0,a1,_,_⟩:=ht 0 Nat.one_pos
 exact ⟨g,cap,he,hg,a0,a1,hb⟩
def j2s (w:World) (e:Ending) (w':World):Prop:=∃ (x:Int) (j:Int) (ao:Option Addr) (n cap:Nat),e = .returned (.tuple #[.slice ao n cap,.int .i64 x,.int .i64 j]) ∧ ((x == 0) = false ∨ x = 0 ∧ ((n:Int) == 1) = false) ∧ Below w.heap.size w w'
theorem y5z {ty:TypeId} {l:List UInt8} {w:World} {e:Ending} {w':World} {x:Int} {j:Nat} (h:z5b 120 0 l = .error (x,j)) (hr:j5h ty l w e w'):j2s w e w':=by
 obtain ⟨he,hb⟩:=(q3c h).mp hr
 exact ⟨x,_,none,0,0,he,.inl (k7o h),hb⟩
theorem k1x {ty:TypeId} {l:List UInt8} {w:World} {e:Ending} {w':World} {ts:List Tk} (h:z5b 120 0 l = .ok ts) (hn:ts.length ≠ 1) (hr:j5h ty l w e w'):j2s w e w':=by
 obtain ⟨ao,cap,he,_,hb⟩:=k1i h hr
 exact ⟨0,0,ao,ts.length,cap,he,.inr ⟨rfl,by rw [beq_eq_false_iff_ne];omega⟩,hb⟩
theorem x0e (t:Tk) (s:ByteArray):((⟨t.s.toArray⟩:ByteArray).toList == s.toList) = decide (t.s = s.data.toList):=by
 rw [Lib.toList_data,Lib.toList_data,Bool.eq_iff_iff,beq_iff_eq,decide_eq_true_eq]
set_option maxRecDepth 100000 in
theorem j7x (s:ByteArray) (w:World) (T:∀ wx,Below w.heap.size w wx → Calls Tryz.prog 107 #[.string s] wx (j2s wx)):Calls Tryz.prog 222 #[.string s] w (Ret (.int .i64 0) w):=by
 replace T:=hiT T
 go_enter Tryz.func222,Tryz.ntmps222
 go_wp2_with fail
 refine (T.out _ gzT).mono ?_
 intro e w1 hr
 obtain ⟨x,j,ao,n,cap,rfl,hx,hb⟩:=hr
 clear T
 rcases hx with hx | ⟨rfl,hn⟩
 ·have hx':¬ x = 0:=by simpa using hx
  go_wp2
  go_returns
  exact ⟨rfl,gzT⟩
 ·have hn':¬ (n:Int) = 1:=by simpa using hn
  go_wp2
  go_returns
  exact ⟨rfl,gzT⟩
set_option maxRecDepth 100000 in
theorem y7s (s:ByteArray) (t:Tk) (w:World) (T:∀ wx,Below w.heap.size w wx → Calls Tryz.prog 107 #[.string s] wx (v2o t wx)):Calls Tryz.prog 222 #[.string s] w (Ret (.int .i64 (if t.s = s.data.toList then t.k else 0)) w):=by
 have he:=x0e t s
 obtain ⟨d,hd⟩:∃ d,decide (t.s = s.data.toList) = d:=⟨_,rfl⟩
 have hr:(if t.s = s.data.toList then t.k else 0) = if d then t.k else 0:=by rw [← hd];simp
 rw [hr]
 rw [hd] at he
 clear hr hd
 unfold v2o at T
 generalize t.k = k at *
 generalize (⟨t.s.toArray⟩:ByteArray) = q at *
 replace T:=hiT T
 cases d
 all_goals
  go_enter Tryz.func222,Tryz.ntmps222
  go_wp2_with fail
  refine (T.out _ gzT).mono ?_
  intro e w1 hr
  obtain ⟨g,cap,rfl,hg,a0,a1,hb⟩:=hr
  clear T
  go_wp2
  go_returns
  exact ⟨rfl,gzT⟩
theorem j2f (s:ByteArray) (hs:s.size ≤ 140737488351232) (w:World) (hw:Lb w):Calls Tryz.prog 222 #[.string s] w (Ret (.int .i64 (z5k s.data.toList)) w):=by
 rcases hl:z5b 120 0 s.data.toList with ⟨x,j⟩ | ts
 ·rw [y4a hl]
  exact j7x s w fun wx h=>(q6q s hs wx (z1v hw h)).mono fun e w' hr=>y5z hl hr
 ·by_cases hn:ts.length = 1
  ·obtain ⟨t,rfl⟩:=List.length_eq_one_iff.1 hn
   rw [y4b hl]
   exact y7s s t w fun wx h=>(q6q s hs wx (z1v hw h)).mono fun e w' hr=>v9h (k1i hl hr)
  ·rw [j8p hl hn]
   exact j7x s w fun wx h=>(q6q s hs wx (z1v hw h)).mono fun e w' hr=>k1x hl hn hr
set_option maxHeartbeats 2000000 in
set_option maxRecDepth 100000 in
theorem k4i (s:ByteArray) (h:z4k s.data.toList = false) (w:World):Calls Tryz.prog 203 #[.string s] w (z6k (.bool false) w):=by
 have f:∀ l,l ∈ words → (s.toList == l) = false:=fun l hl=>by
  rw [beq_eq_false_iff_ne,Lib.toList_data]
  intro he
  unfold z4k at h
  rw [he,← Bool.not_eq_true,List.contains_iff_mem] at h
  exact h hl
 have h0:(s.toList == [99,104,97,114,116]) = false:=f [99,104,97,114,116] deT
 have h1:(s.toList == [118,97,114]) = false:=f [118,97,114] deT
 have h2:(s.toList == [115,116,97,116,101]) = false:=f [115,116,97,116,101] deT
 have h3:(s.toList == [112,97,114,97,108,108,101,108]) = false:=f [112,97,114,97,108,108,101,108] deT
 have h4:(s.toList == [102,105,110,97,108]) = false:=f [102,105,110,97,108] deT
 have h5:(s.toList == [100,101,101,112]) = false:=f [100,101,101,112] deT
 have h6:(s.toList == [115,104,97,108,108,111,119]) = false:=f [115,104,97,108,108,111,119] deT
 have h7:(s.toList == [101,110,116,101,114]) = false:=f [101,110,116,101,114] deT
 have h8:(s.toList == [101,120,105,116]) = false:=f [101,120,105,116] deT
 have h9:(s.toList == [111,110]) = false:=f [111,110] deT
 have h10:(s.toList == [97,117,116,111]) = false:=f [97,117,116,111] deT
 have h11:(s.toList == [101,110,100]) = false:=f [101,110,100] deT
 have h12:(s.toList == [105,102]) = false:=f [105,102] deT
 have h13:(s.toList == [103,111]) = false:=f [103,111] deT
 have h14:(s.toList == [105,110,110,101,114]) = false:=f [105,110,110,101,114] deT
 have h15:(s.toList == [100,111]) = false:=f [100,111] deT
 have h16:(s.toList == [115,101,116]) = false:=f [115,101,116] deT
 have h17:(s.toList == [114,97,105,115,101]) = false:=f [114,97,105,115,101] deT
 have h18:(s.toList == [115,101,110,100]) = false:=f [115,101,110,100] deT
 have h19:(s.toList == [99,97,110,99,101,108]) = false:=f [99,97,110,99,101,108] deT
 have h20:(s.toList == [108,111,103]) = false:=f [108,111,103] deT
 have h21:(s.toList == [116,114,117,101]) = false:=f [116,114,117,101] deT
 have h22:(s.toList == [102,97,108,115,101]) = false:=f [102,97,108,115,101] deT
 have h23:(s.toList == [110,111,116]) = false:=f [110,111,116] deT
 have h24:(s.toList == [97,110,100]) = false:=f [97,110,100] deT
 have h25:(s.toList == [111,114]) = false:=f [111,114] deT
 have h26:(s.toList == [105,110]) = false:=f [105,110] deT
 clear f h
 go_enter Tryz.func203,Tryz.ntmps203
 go_wp2
 go_returns
 exact ⟨rfl,rfl⟩
set_option maxHeartbeats 4000000 in
set_option maxRecDepth 100000 in
theorem y7u (s:ByteArray) (h:z4k s.data.toList = true) (w:World):Calls Tryz.prog 203 #[.string s] w (z6k (.bool true) w):=by
 have hs:∃ l,l ∈ words ∧ s = ⟨l.toArray⟩:=⟨s.data.toList,by unfold z4k at h;rwa [List.contains_iff_mem] at h,rfl⟩
 obtain ⟨l,hl,rfl⟩:=hs
 clear h
 simp only [words,List.mem_cons,List.not_mem_nil,or_false] at hl
 rcases hl with rfl | rfl | rfl | rfl | rfl | rfl | rfl | rfl | rfl | rfl | rfl | rfl | rfl | rfl | rfl | rfl | rfl | rfl | rfl | rfl | rfl | rfl | rfl | rfl | rfl | rfl | rfl
 all_goals
  go_enter Tryz.func203,Tryz.ntmps203
  go_wp2
  go_returns
  exact ⟨rfl,rfl⟩
theorem q1e (s:ByteArray) (w:World):Calls Tryz.prog 203 #[.string s] w (z6k (.bool (z4k s.data.toList)) w):=by
 rcases h:z4k s.data.toList
 ·exact k4i s h w
 ·exact y7u s h w
def nmB (l:List UInt8):Bool:=z5k l == 1 && !z4k l
theorem j8c (s:ByteArray) (hs:s.size ≤ 140737488351232) (w:World) (hw:Lb w):Calls Tryz.prog 263 #[.string s] w (Ret (.bool (nmB s.data.toList)) w):=by
 have T:=hiT (fun wx h=>j2f s hs wx (z1v hw h))
 have M:=hiT (fun wx=>q1e s wx)
 unfold nmB
 generalize z5k s.data.toList = k at *
 generalize z4k s.data.toList = m at *
 clear hw
 rcases h1:(k == 1) <;> cases m
 all_goals
  go_enter Tryz.func263,Tryz.ntmps263
  go_wp2_with (first | ((with_reducible refine (T.out _ gzT).mono ?_);intro e w1 hr;obtain ⟨rfl,p,rfl⟩:=hr.out;clear hr) | ((with_reducible refine (M.out _).mono ?_);rintro e w1 ⟨rfl,rfl⟩))
  all_goals
   go_returns
   exact ⟨rfl,gzT⟩
def Txts (w:World) (ao:Option Addr) (zs:List ByteArray):Prop:=∀ i (h:i < zs.length),∃ a,ao = some a ∧ w.cell? (a.add i) = some (.string zs[i])
def j3i (zs:List ByteArray) (x:ByteArray):Bool:=zs.any fun y=>y.toList == x.toList
theorem y3e (x y:ByteArray):(x.toList == y.toList) = (y.toList == x.toList):=by
 rw [Bool.eq_iff_iff,beq_iff_eq,beq_iff_eq]
 exact ⟨Eq.symm,Eq.symm⟩
theorem k0n (zs:List ByteArray) (x:ByteArray) (i:Nat) (h:i < zs.length):j3i (zs.take (i + 1)) x = (j3i (zs.take i) x || (zs[i].toList == x.toList)):=by
 unfold j3i
 rw [List.take_succ_eq_append_getElem h,List.any_append]
 simp
theorem v4m (zs:List ByteArray) (x:ByteArray) (i:Nat) (h:i < zs.length) (he:(zs[i].toList == x.toList) = true):j3i zs x = true:=by
 unfold j3i
 rw [List.any_eq_true]
 exact ⟨zs[i],List.getElem_mem h,he⟩
def x1j (b:Bool) (w:World) (e:Ending) (w':World):Prop:=∃ r:Int,e = .returned (.int .i64 r) ∧ decide (0 ≤ r) = b ∧ w = w'
theorem k0s (ao:Option Addr) (zs:List ByteArray) (cap:Nat) (x:ByteArray) (hn:zs.length ≤ 1000) (w:World) (hz:Txts w ao zs):Calls Tryz.prog 218 #[.slice ao zs.length cap,.string x] w (x1j (j3i zs x) w):=by
 have hat:=hiT (fun i h he=>v4m zs x i h he)
 have hsucc:=hiT (fun i h=>k0n zs x i h)
 replace hz:=hiT hz
 go_enter Tryz.func218,Tryz.ntmps218
 go_wp2
 go_loop [8] (fun v=>∃ i:Nat,i ≤ zs.length ∧ v = .int .i64 i ∧ j3i (zs.take i) x = false) (fun v=>zs.length - (intOf v).toNat)
 case atStart=>exact ⟨0,Nat.zero_le _,rfl,rfl⟩
 case round =>
  obtain ⟨i,hi,rfl,hall⟩:=hrel
  by_cases hlt:i < zs.length
  ·obtain ⟨a,rfl,hc⟩:=hz.out i hlt
   rcases he:(zs[i].toList == x.toList)
   ·have hnext:=hiT (show j3i (zs.take (i + 1)) x = false by rw [hsucc.out i hlt,hall,he];rfl)
    rw [y3e] at he
    clear hall
    go_wp2
    go_round
    case rel=>exact ⟨i + 1,by omega,by go_num,hnext.out⟩
    case measure=>simp [intOf];omega
   ·have hres:=hiT (hat.out i hlt he)
    rw [y3e] at he
    clear hall
    go_wp2
    go_returns
    exact ⟨i,rfl,by rw [hres.out];simp,rfl⟩
  ·obtain rfl:i = zs.length:=by omega
   have hres:=hiT (show j3i zs x = false by rw [List.take_length] at hall;exact hall)
   clear hall
   go_wp2
   go_returns
   exact ⟨-1,rfl,by rw [hres.out];rfl,rfl⟩
theorem q5f (ao:Option Addr) (zs:List ByteArray) (cap:Nat) (x:ByteArray) (hn:zs.length ≤ 1000) (w:World) (hz:Txts w ao zs):Calls Tryz.prog 199 #[.slice ao zs.length cap,.string x] w (z6k (.bool (j3i zs x)) w):=by
 have I:=hiT (k0s ao zs cap x hn w hz)
 clear hz
 go_enter Tryz.func199,Tryz.ntmps199
 go_wp2_with fail
 refine I.out.mono ?_
 intro e w1 hr
 obtain ⟨r,rfl,hb,rfl⟩:=hr
 replace hb:=hiT hb
 by_cases h:0 ≤ r
 ·go_wp2
  go_returns
  exact ⟨by rw [← hb.out,decide_eq_true h];try rfl,rfl⟩
 ·go_wp2
  go_returns
  exact ⟨by rw [← hb.out];try rfl,rfl⟩
theorem j2k {w w':World} {ao:Option Addr} {zs:List ByteArray} (h:Txts w ao zs) (hb:Below w.heap.size w w'):Txts w' ao zs:=by
 intro i hi
 obtain ⟨a,ha,hc⟩:=h i hi
 exact ⟨a,ha,(hb.cell (World.block_lt_of_cell? _ _ hc)).trans hc⟩
theorem v1m (k:Int) (x:ByteArray) (n a:Int) (ao:Option Addr) (zs:List ByteArray) (cap:Nat) (hn:zs.length ≤ 1000) (w:World) (hz:Txts w ao zs) :
  Calls Tryz.prog 175 #[.agg #[.int .i64 k,.string x,.int .i64 n,.int .i64 a],.slice ao zs.length cap] w (Ret (.bool (((k == 1) || (k == 5)) && j3i zs x)) w):=by
 have C:=hiT (fun wx hb=>q5f ao zs cap x hn wx (j2k hz hb))
 generalize j3i zs x = b at *
 clear hz
 rcases h1:(k == 1) <;> rcases h2:(k == 5) <;> cases b
 all_goals
  go_enter Tryz.func175,Tryz.ntmps175
  go_wp2_with ((with_reducible refine (C.out _ gzT).mono ?_);rintro e w1 ⟨rfl,rfl⟩)
  all_goals
   go_returns
   exact ⟨rfl,gzT⟩
def evB (l:List UInt8):Bool:=z5k l == 1 || z5k l == 2
theorem y7t (s:ByteArray) (hs:s.size ≤ 140737488351232) (w:World) (hw:Lb w):Calls Tryz.prog 202 #[.string s] w (Ret (.bool (evB s.data.toList)) w):=by
 have T:=hiT (fun wx h=>j2f s hs wx (z1v hw h))
 unfold evB
 generalize z5k s.data.toList = k at *
 clear hw
 rcases h1:(k == 1) <;> rcases h2:(k == 2)
 all_goals
  go_enter Tryz.func202,Tryz.ntmps202
  go_wp2_with ((with_reducible refine (T.out _ gzT).mono ?_);intro e w1 hr;obtain ⟨rfl,p,rfl⟩:=hr.out;clear hr)
  all_goals
   go_returns
   exact ⟨rfl,gzT⟩
end Go.Proofs.YtacnlghljmgdiaaGreatDoor
