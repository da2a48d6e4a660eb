/- Several texts of this proof, joined: NM, X0, TN, N1. -/
import Derived.Test.YtfgpmcepppcmiaaGreatDoorZ7
import Derived.Test.YtfgpmcepppcmiaaGreatDoorZ6
import Derived.Test.YtfgpmcepppcmiaaGreatDoorZ4
import Derived.WalkKit
import Derived.ProofKit
import Derived.OpenShut
import Derived.Handy
import Derived.BigQuiet
import Derived.OwnWalk
import Derived.Lib.Hide
import Derived.WalkSmall
import Derived.WalkLawsBesides
import Derived.Deep.AppendLies
namespace Go.Proofs.YtfgpmcepppcmiaaGreatDoor
def aloneK (l:List UInt8):Int :=
 match lexT 120 0 l with
 | .ok [t]=>if t.s = l then t.k else 0
 | _=>0
def words:List (List UInt8):=[[99,104,97,114,116],[118,97,114],[115,116,97,116,101],[112,97,114,97,108,108,101,108],[102,105,110,97,108],[100,101,101,112],[115,104,97,108,108,111,119],
 [101,110,116,101,114],[101,120,105,116],[111,110],[97,117,116,111],[101,110,100],[105,102],[103,111],[105,110,110,101,114],[100,111],
 [115,101,116],[114,97,105,115,101],[115,101,110,100],[99,97,110,99,101,108],[108,111,103],[116,114,117,101],[102,97,108,115,101],[110,111,116],[97,110,100],[111,114],[105,110]]
def meansB (l:List UInt8):Bool:=words.contains l
theorem aloneK_err {l:List UInt8} {x:Int × Nat} (h:lexT 120 0 l = .error x):aloneK l = 0:=by unfold aloneK;rw [h]
theorem aloneK_more {l:List UInt8} {ts:List Tk} (h:lexT 120 0 l = .ok ts) (hn:ts.length ≠ 1):aloneK l = 0:=by
 unfold aloneK
 rw [h]
 match ts,hn with
 | [],_=>rfl
 | [_],h=>exact absurd rfl h
 | _ :: _ :: _,_=>rfl
theorem aloneK_one {l:List UInt8} {t:Tk} (h:lexT 120 0 l = .ok [t]):aloneK l = if t.s = l then t.k else 0:=by unfold aloneK;rw [h]
end Go.Proofs.YtfgpmcepppcmiaaGreatDoor
namespace Go.Proofs.YtfgpmcepppcmiaaGreatDoor
structure Nd where
 op:Int
 k:Int
 n:Int
 s:List UInt8
 name:List UInt8
 l:Int
 r:Int
structure Rd where
 at_:Nat
 nodes:List Nd
 parts:List Nat
 wait:List Int
 within:Nat
def Rd.add (r:Rd) (n:Nd):Rd:={ r with nodes:=r.nodes ++ [n],parts:=r.nodes.length :: r.parts }
def cnt (op:Int):Nat:=if op = 1 ∨ op = 2 then 1 else if 3 ≤ op ∧ op ≤ 15 then 2 else 0
def tightI (op:Int):Int :=
 if op = -1 then 0 else if op = 15 then 1 else if op = 14 then 2 else if 8 ≤ op ∧ op ≤ 13 then 3 else if 6 ≤ op ∧ op ≤ 7 then 4 else if 3 ≤ op ∧ op ≤ 5 then 5 else 6
def leftI (op:Int):Int:=if tightI op = 3 then 4 else tightI op
def opn (op:Int) (ps:List Nat):Nd:=⟨op,0,0,[],[],(ps.getD 0 0:Nat),(ps.getD 1 0:Nat)⟩
def wordB (t:Tk) (x:List UInt8):Bool:=(t.k == 1 || t.k == 5) && t.s == x
def tkAt (ts:List Tk) (a:Nat) (x:List UInt8):Bool :=
 match ts[a]? with
 | some t=>wordB t x
 | none=>false
def signL:List (List UInt8):=[[],[110,111,116],[45],[42],[47],[37],[43],[45],[60],[60,61],[62],[62,61],[61],[33,61],[97,110,100],[111,114]]
def ahead (ts:List Tk) (r:Rd):Option Rd :=
 if tkAt ts r.at_ [110,111,116] then some { r with at_:=r.at_ + 1,wait:=1 :: r.wait }
 else if tkAt ts r.at_ [45] then some { r with at_:=r.at_ + 1,wait:=2 :: r.wait }
 else if tkAt ts r.at_ [40] then some { r with at_:=r.at_ + 1,wait := -1 :: r.wait,within:=r.within + 1 }
 else none
def aheads:Nat → List Tk → Rd → Rd
 | 0,_,r=>r
 | f + 1,ts,r =>
  match ahead ts r with
  | some r'=>aheads f ts r'
  | none=>r
def nameAt (ts:List Tk) (a:Nat):Option (List UInt8) :=
 match ts[a]? with
 | some t=>if t.k == 1 && !meansB t.s then some t.s else none
 | none=>none
def rname (op:Int) (ts:List Tk) (r:Rd):Option Rd :=
 match nameAt ts r.at_ with
 | some s=>some { r.add ⟨op,0,0,[],s,0,0⟩ with at_:=r.at_ + 1 }
 | none=>none
def valueAt (ts:List Tk) (a:Nat):Option Nd :=
 match ts[a]? with
 | some t=>if t.k == 3 then some ⟨0,1,t.n,[],[],0,0⟩ else if t.k == 4 then some ⟨0,3,0,t.s,[],0,0⟩ else if wordB t [116,114,117,101] then some ⟨0,2,1,[],[],0,0⟩ else if wordB t [102,97,108,115,101] then some ⟨0,2,0,[],[],0,0⟩ else none
 | none=>none
def rvalue (ts:List Tk) (r:Rd):Option Rd :=
 match valueAt ts r.at_ with
 | some n=>some { r.add n with at_:=r.at_ + 1 }
 | none=>none
def takes (ts:List Tk) (x:List UInt8) (r:Rd):Option Rd:=if tkAt ts r.at_ x then some { r with at_:=r.at_ + 1 } else none
def atom (ts:List Tk) (r:Rd):Option Rd :=
 match takes ts [105,110] r with
 | some r1 =>
  match takes ts [40] r1 with
  | some r2 =>
   match rname 17 ts r2 with
   | some r3=>takes ts [41] r3
   | none=>none
  | none=>none
 | none =>
  match rname 16 ts r with
  | some r1=>some r1
  | none=>rvalue ts r
def popOp (op:Int) (ws:List Int) (r:Rd):Rd:={ r with wait:=ws,parts:=r.parts.drop (cnt op) }.add (opn op (r.parts.take (cnt op)).reverse)
def finL (least:Int):List Int → Rd → Rd
 | [],r=>{ r with wait:=[] }
 | op :: ws,r=>if tightI op < least then { r with wait:=op :: ws } else finL least ws (popOp op ws r)
def finish (least:Int) (r:Rd):Rd:=finL least r.wait r
def opFrom (t:Tk):Nat → Int → Int
 | 0,_=>0
 | f + 1,i=>if wordB t (signL.getD i.toNat []) then i else opFrom t f (i + 1)
def between (ts:List Tk) (a:Nat):Int :=
 match ts[a]? with
 | some t=>opFrom t 13 3
 | none=>0
def topIs (ws:List Int) (k:Int):Bool :=
 match ws with
 | o :: _=>tightI o == k
 | []=>false
def more (ts:List Tk) (r:Rd):Bool × Rd :=
 if between ts r.at_ == 0 then (false,r)
 else if topIs (finish (leftI (between ts r.at_)) r).wait (tightI (between ts r.at_)) then (false,finish (leftI (between ts r.at_)) r)
 else (true,{ finish (leftI (between ts r.at_)) r with wait:=between ts r.at_ :: (finish (leftI (between ts r.at_)) r).wait,at_:=r.at_ + 1 })
def close (r:Rd):Rd:={ finish 1 { r with at_:=r.at_ + 1 } with wait:=(finish 1 { r with at_:=r.at_ + 1 }).wait.tail,within:=r.within - 1 }
def closes:Nat → List Tk → Rd → Rd
 | 0,_,r=>r
 | f + 1,ts,r=>if 0 < r.within ∧ tkAt ts r.at_ [41] = true then closes f ts (close r) else r
def one (ts:List Tk) (r:Rd):Option Rd :=
 match atom ts (aheads 128 ts r) with
 | some r1=>some (closes 128 ts r1)
 | none=>none
def whole:Nat → List Tk → Rd → Option Rd
 | 0,_,_=>none
 | f + 1,ts,r =>
  match one ts r with
  | none=>none
  | some r1 =>
   match more ts r1 with
   | (true,r2)=>whole f ts r2
   | (false,r2)=>if (finish 1 r2).within = 0 then some (finish 1 r2) else none
def deepOf (ds:List Nat) (n:Nd):Nat:=([n.l,n.r].take (cnt n.op)).foldl (fun d p=>if 0 ≤ p ∧ p < (ds.length:Int) then max d (ds.getD p.toNat 0 + 1) else d) 1
def sizeL:List Nat → List Nd → Int
 | _,[]=>0
 | ds,n :: r=>if 8 < deepOf ds n then 23 else sizeL (ds ++ [deepOf ds n]) r
def sizeT (ns:List Nd):Int:=if 32 < ns.length then 13 else sizeL [] ns
def parseT (ts:List Tk) (a:Int):Except Int (List Nd × Nat) :=
 if a < 0 ∨ (ts.length:Int) < a then .error 11 else
 match whole 128 ts ⟨a.toNat,[],[],[],0⟩ with
 | none => .error 11
 | some r=>if sizeT r.nodes ≠ 0 then .error (sizeT r.nodes) else .ok (r.nodes,r.at_)
def bins:List Int → Nat
 | []=>0
 | o :: ws=>bins ws + if 3 ≤ o then 1 else 0
def opens:List Int → Nat
 | []=>0
 | o :: ws=>opens ws + if o = -1 then 1 else 0
structure Good (k:Nat) (ts:List Tk) (r:Rd):Prop where
 ops:∀ o ∈ r.wait,o = -1 ∨ 1 ≤ o ∧ o ≤ 15
 par:r.parts.length = bins r.wait + k
 sum:r.nodes.length + r.wait.length ≤ r.at_
 at_:r.at_ ≤ ts.length
 wth:r.within = opens r.wait
theorem tkAt_lt {ts:List Tk} {a:Nat} {x:List UInt8} (h:tkAt ts a x = true):a < ts.length:=by
 unfold tkAt at h
 rcases Nat.lt_or_ge a ts.length with h1 | h1
 ·exact h1
 ·rw [List.getElem?_eq_none h1] at h;cases h
theorem nameAt_lt {ts:List Tk} {a:Nat} {s:List UInt8} (h:nameAt ts a = some s):a < ts.length:=by
 unfold nameAt at h
 rcases Nat.lt_or_ge a ts.length with h1 | h1
 ·exact h1
 ·rw [List.getElem?_eq_none h1] at h;cases h
theorem valueAt_lt {ts:List Tk} {a:Nat} {s:Nd} (h:valueAt ts a = some s):a < ts.length:=by
 unfold valueAt at h
 rcases Nat.lt_or_ge a ts.length with h1 | h1
 ·exact h1
 ·rw [List.getElem?_eq_none h1] at h;cases h
theorem between_lt {ts:List Tk} {a:Nat} (h:¬ between ts a = 0):a < ts.length:=by
 unfold between at h
 rcases Nat.lt_or_ge a ts.length with h1 | h1
 ·exact h1
 ·rw [List.getElem?_eq_none h1] at h;exact absurd rfl h
theorem opFrom_in (t:Tk):∀ f i,0 < i → opFrom t f i = 0 ∨ i ≤ opFrom t f i ∧ opFrom t f i < i + f
 | 0,_,_ => .inl rfl
 | f + 1,i,hi=>by
  rw [opFrom]
  split
  ·right;omega
  ·rcases opFrom_in t f (i + 1) (by omega) with h | h
   ·exact .inl h
   ·right;omega
theorem between_in (ts:List Tk) (a:Nat):between ts a = 0 ∨ 3 ≤ between ts a ∧ between ts a ≤ 15:=by
 unfold between
 split
 ·rcases opFrom_in ‹_› 13 3 (by omega) with h | h
  ·exact .inl h
  ·right;omega
 ·exact .inl rfl
theorem ahead_good {ts:List Tk} {r r':Rd} (g:Good 0 ts r) (h:ahead ts r = some r'):Good 0 ts r' ∧ r'.at_ = r.at_ + 1:=by
 obtain ⟨a,nodes,parts,wait,within⟩:=r
 obtain ⟨g1,g2,g3,g4,g5⟩:=g
 unfold ahead at h
 simp only at g1 g2 g3 g4 g5 h
 split at h
 ·cases h
  refine ⟨⟨fun o ho=>?_,by simpa [bins] using g2,by simp;omega,tkAt_lt ‹_›,by simpa [opens] using g5⟩,rfl⟩
  rcases List.mem_cons.1 ho with rfl | ho
  ·omega
  ·exact g1 o ho
 ·split at h
  ·cases h
   refine ⟨⟨fun o ho=>?_,by simpa [bins] using g2,by simp;omega,tkAt_lt ‹_›,by simpa [opens] using g5⟩,rfl⟩
   rcases List.mem_cons.1 ho with rfl | ho
   ·omega
   ·exact g1 o ho
  ·split at h
   ·cases h
    refine ⟨⟨fun o ho=>?_,by simpa [bins] using g2,by simp;omega,tkAt_lt ‹_›,by simp [opens,g5]⟩,rfl⟩
    rcases List.mem_cons.1 ho with rfl | ho
    ·omega
    ·exact g1 o ho
   ·cases h
theorem aheads_good {ts:List Tk}:∀ (f:Nat) {r:Rd},Good 0 ts r → Good 0 ts (aheads f ts r) ∧ r.at_ ≤ (aheads f ts r).at_
 | 0,r,g=>⟨g,Nat.le_refl _⟩
 | f + 1,r,g=>by
  rw [aheads]
  split
  ·rename_i r' h
   obtain ⟨g',e⟩:=ahead_good g h
   obtain ⟨h1,h2⟩:=aheads_good f g'
   exact ⟨h1,by omega⟩
  ·exact ⟨g,Nat.le_refl _⟩
theorem add_good {ts:List Tk} {r:Rd} (n:Nd) (g:Good 0 ts r) (h:r.at_ < ts.length):Good 1 ts { r.add n with at_:=r.at_ + 1 }:=by
 obtain ⟨g1,g2,g3,g4,g5⟩:=g
 exact ⟨g1,by simp [Rd.add,g2],by simp [Rd.add];omega,h,g5⟩
theorem name_good {op:Int} {ts:List Tk} {r r':Rd} (g:Good 0 ts r) (h:rname op ts r = some r'):Good 1 ts r' ∧ r'.at_ = r.at_ + 1:=by
 unfold rname at h
 split at h
 ·cases h
  exact ⟨add_good _ g (nameAt_lt ‹_›),rfl⟩
 ·cases h
theorem value_good {ts:List Tk} {r r':Rd} (g:Good 0 ts r) (h:rvalue ts r = some r'):Good 1 ts r' ∧ r'.at_ = r.at_ + 1:=by
 unfold rvalue at h
 split at h
 ·cases h
  exact ⟨add_good _ g (valueAt_lt ‹_›),rfl⟩
 ·cases h
theorem takes_good {k:Nat} {x:List UInt8} {ts:List Tk} {r r':Rd} (g:Good k ts r) (h:takes ts x r = some r'):Good k ts r' ∧ r'.at_ = r.at_ + 1:=by
 unfold takes at h
 split at h
 ·cases h
  obtain ⟨g1,g2,g3,g4,g5⟩:=g
  exact ⟨⟨g1,g2,by show r.nodes.length + r.wait.length ≤ r.at_ + 1;omega,tkAt_lt ‹_›,g5⟩,rfl⟩
 ·cases h
theorem atom_good {ts:List Tk} {r r':Rd} (g:Good 0 ts r) (h:atom ts r = some r'):Good 1 ts r' ∧ r.at_ < r'.at_:=by
 unfold atom at h
 split at h
 ·rename_i r1 h1
  obtain ⟨g1,e1⟩:=takes_good g h1
  split at h
  ·rename_i r2 h2
   obtain ⟨g2,e2⟩:=takes_good g1 h2
   split at h
   ·rename_i r3 h3
    obtain ⟨g3,e3⟩:=name_good g2 h3
    obtain ⟨g4,e4⟩:=takes_good g3 h
    exact ⟨g4,by omega⟩
   ·cases h
  ·cases h
 ·split at h
  ·rename_i r1 h1
   cases h
   obtain ⟨g1,e1⟩:=name_good g h1
   exact ⟨g1,by omega⟩
  ·obtain ⟨g1,e1⟩:=value_good g h
   exact ⟨g1,by omega⟩
theorem tight_open {o:Int} {least:Int} (h:1 ≤ least) (ht:¬ tightI o < least):¬ o = -1:=by
 rintro rfl
 apply ht
 show (0:Int) < least
 omega
theorem cnt_of {o:Int} (h:1 ≤ o ∧ o ≤ 15):cnt o = 1 + if 3 ≤ o then 1 else 0:=by
 unfold cnt
 repeat' split
 all_goals omega
theorem pop_good {ts:List Tk} {r:Rd} {op:Int} {ws:List Int} (hw:r.wait = op :: ws) (ho:¬ op = -1) (g:Good 1 ts r):Good 1 ts (popOp op ws r) ∧ cnt op ≤ r.parts.length:=by
 obtain ⟨a,nodes,parts,wait,within⟩:=r
 simp only at hw
 subst hw
 obtain ⟨g1,g2,g3,g4,g5⟩:=g
 simp only [bins,opens,List.length_cons,if_neg ho] at g1 g2 g3 g4 g5
 have hc:=cnt_of ((g1 op (by simp)).resolve_left ho)
 refine ⟨⟨fun o h=>g1 o (by simp [popOp,Rd.add] at h;simp [h]),?_,?_,g4,by simpa [popOp,Rd.add] using g5⟩,?_⟩
 ·simp only [popOp,Rd.add,List.length_cons,List.length_drop]
  omega
 ·simp only [popOp,Rd.add,List.length_append,List.length_cons,List.length_nil]
  omega
 ·simp only
  omega
theorem finL_good {ts:List Tk} {least:Int} (hl:1 ≤ least):∀ (ws:List Int) {r:Rd},r.wait = ws → Good 1 ts r → Good 1 ts (finL least ws r) ∧ (finL least ws r).at_ = r.at_ ∧ (finL least ws r).within = r.within ∧ (∀ o u,(finL least ws r).wait = o :: u → tightI o < least)
 | [],r,hw,g=>by
  have e:finL least [] r = r:=by obtain ⟨a,nodes,parts,wait,within⟩:=r;simp only at hw;subst hw;rfl
  rw [e]
  exact ⟨g,rfl,rfl,fun o u h=>by rw [hw] at h;cases h⟩
 | op :: ws,r,hw,g=>by
  rw [finL]
  split
  ·rename_i ht
   have e:{ r with wait:=op :: ws } = r:=by rw [← hw]
   rw [e]
   exact ⟨g,rfl,rfl,fun o u h=>by rw [hw] at h;cases h;exact ht⟩
  ·rename_i ht
   obtain ⟨g',_⟩:=pop_good hw (tight_open hl ht) g
   obtain ⟨h1,h2,h3,h4⟩:=finL_good hl ws (r:=popOp op ws r) rfl g'
   exact ⟨h1,by rw [h2];rfl,by rw [h3];rfl,h4⟩
theorem finish_good {ts:List Tk} {least:Int} (hl:1 ≤ least) {r:Rd} (g:Good 1 ts r):Good 1 ts (finish least r) ∧ (finish least r).at_ = r.at_ ∧ (finish least r).within = r.within ∧ (∀ o u,(finish least r).wait = o :: u → tightI o < least) :=
 finL_good hl _ rfl g
theorem left_pos {op:Int} (h:3 ≤ op ∧ op ≤ 15):1 ≤ leftI op:=by
 unfold leftI tightI
 repeat' split
 all_goals omega
theorem more_good {ts:List Tk} {r:Rd} (g:Good 1 ts r):((more ts r).1 = true → Good 0 ts (more ts r).2 ∧ (more ts r).2.at_ = r.at_ + 1) ∧ ((more ts r).1 = false → Good 1 ts (more ts r).2 ∧ (more ts r).2.at_ = r.at_):=by
 unfold more
 split
 ·exact ⟨fun h=>(by cases h),fun _=>⟨g,rfl⟩⟩
 ·rename_i hb
  have hb':¬ between ts r.at_ = 0:=by simpa using hb
  have hin:=(between_in ts r.at_).resolve_left hb'
  obtain ⟨⟨f1,f2,f3,f4,f5⟩,e1,e2,_⟩:=finish_good (left_pos hin) g
  split
  ·exact ⟨fun h=>(by cases h),fun _=>⟨⟨f1,f2,f3,f4,f5⟩,e1⟩⟩
  ·refine ⟨fun _=>⟨⟨fun o ho=>?_,?_,?_,between_lt hb',?_⟩,rfl⟩,fun h=>(by cases h)⟩
   ·rcases List.mem_cons.1 ho with rfl | ho
    ·exact .inr (by omega)
    ·exact f1 o ho
   ·show _ = bins (_ :: _) + 0
    rw [bins,if_pos hin.1,f2]
   ·show _ + (_ :: _).length ≤ _
    rw [List.length_cons]
    show (finish (leftI (between ts r.at_)) r).nodes.length + _ ≤ r.at_ + 1
    omega
   ·show _ = opens (_ :: _)
    rw [opens,if_neg (by omega)]
    exact f5
theorem close_good {ts:List Tk} {r:Rd} (g:Good 1 ts r) (h0:0 < r.within) (h:tkAt ts r.at_ [41] = true):Good 1 ts (close r) ∧ (close r).at_ = r.at_ + 1 ∧ ∃ u,(finish 1 { r with at_:=r.at_ + 1 }).wait = -1 :: u:=by
 have g':Good 1 ts { r with at_:=r.at_ + 1 }:=⟨g.ops,g.par,Nat.le_succ_of_le g.sum,tkAt_lt h,g.wth⟩
 obtain ⟨f,e1,e2,e3⟩:=finish_good (least:=1) (Int.le_refl _) g'
 unfold close
 generalize finish 1 { r with at_:=r.at_ + 1 } = q at *
 obtain ⟨a,nodes,parts,wait,within⟩:=q
 obtain ⟨f1,f2,f3,f4,f5⟩:=f
 simp only at f1 f2 f3 f4 f5 e1 e2 e3 ⊢
 cases wait with
 | nil =>
  simp only [opens] at f5
  omega
 | cons o u =>
  have ho:=e3 o u rfl
  have ho1:o = -1:=by
   rcases f1 o (by simp) with h | h
   ·exact h
   ·exfalso
    unfold tightI at ho
    repeat' split at ho
    all_goals omega
  subst ho1
  simp only [bins,opens,List.length_cons] at f2 f3 f5
  refine ⟨⟨fun o ho=>f1 o (by simp at ho;simp [ho]),?_,?_,f4,?_⟩,e1,⟨u,rfl⟩⟩
  ·simpa using f2
  ·simp only [List.tail_cons];omega
  ·simp only [List.tail_cons];rw [if_pos trivial] at f5;omega
theorem closes_good {ts:List Tk}:∀ (f:Nat) {r:Rd},Good 1 ts r → Good 1 ts (closes f ts r) ∧ r.at_ ≤ (closes f ts r).at_
 | 0,r,g=>⟨g,Nat.le_refl _⟩
 | f + 1,r,g=>by
  rw [closes]
  split
  ·rename_i h
   obtain ⟨g',e,_⟩:=close_good g h.1 h.2
   obtain ⟨h1,h2⟩:=closes_good f g'
   exact ⟨h1,by omega⟩
  ·exact ⟨g,Nat.le_refl _⟩
theorem one_good {ts:List Tk} {r r':Rd} (g:Good 0 ts r) (h:one ts r = some r'):Good 1 ts r' ∧ r.at_ < r'.at_:=by
 unfold one at h
 split at h
 ·rename_i r1 h1
  cases h
  obtain ⟨g0,e0⟩:=aheads_good 128 g
  obtain ⟨g1,e1⟩:=atom_good g0 h1
  obtain ⟨g2,e2⟩:=closes_good 128 g1
  exact ⟨g2,by omega⟩
 ·cases h
theorem whole_good {ts:List Tk}:∀ (f:Nat) {r r':Rd},Good 0 ts r → whole f ts r = some r' → Good 1 ts r'
 | 0,_,_,_,h=>by cases h
 | f + 1,r,r',g,h=>by
  rw [whole] at h
  split at h
  ·cases h
  ·rename_i r1 h1
   obtain ⟨g1,_⟩:=one_good g h1
   obtain ⟨m1,m2⟩:=more_good g1
   split at h
   ·rename_i r2 h2
    rw [h2] at m1
    exact whole_good f (m1 rfl).1 h
   ·rename_i r2 h2
    rw [h2] at m2
    split at h
    ·cases h
     exact (finish_good (Int.le_refl _) (m2 rfl).1).1
    ·cases h
theorem good_start (ts:List Tk) (a:Nat) (h:a ≤ ts.length):Good 0 ts ⟨a,[],[],[],0⟩:=⟨fun o h=>(by cases h),rfl,Nat.zero_le _,h,rfl⟩
section
variable {ts rest:List Tk} {c:Tk}
end
end Go.Proofs.YtfgpmcepppcmiaaGreatDoor
namespace Go.Proofs.YtfgpmcepppcmiaaGreatDoor
open Go.RowKit
def OneIs (t:Tk) (w:World) (e:Ending) (w':World):Prop:=∃ g cap,e = .returned (.tuple #[.slice (some ⟨g,0,none⟩) 1 cap,.int .i64 0,.int .i64 0]) ∧ g < w'.heap.size ∧ w'.cell? ⟨g,0,none⟩ = some (.int .i64 t.k) ∧ w'.cell? ⟨g,1,none⟩ = some (.string ⟨t.s.toArray⟩) ∧ Below w.heap.size w w'
theorem one_of {t:Tk} {w:World} {e:Ending} {w':World} (h:SlIs [t] w e w'):OneIs t w e w':=by
 obtain ⟨ao,cap,he,h1,hb⟩:=h
 obtain ⟨g,rfl,hg,ht⟩:=h1 Nat.one_pos
 obtain ⟨a0,a1,_,_⟩:=ht 0 Nat.one_pos
 exact ⟨g,cap,he,hg,a0,a1,hb⟩
def NotOneIs (w:World) (e:Ending) (w':World):Prop:=∃ (x:Int) (j:Int) (ao:Option Addr) (n cap:Nat),e = .returned (.tuple #[.slice ao n cap,.int .i64 x,.int .i64 j]) ∧ ((x == 0) = false ∨ x = 0 ∧ ((n:Int) == 1) = false) ∧ Below w.heap.size w w'
theorem notOne_err {ty:TypeId} {l:List UInt8} {w:World} {e:Ending} {w':World} {x:Int} {j:Nat} (h:lexT 120 0 l = .error (x,j)) (hr:LexIs ty l w e w'):NotOneIs w e w':=by
 obtain ⟨he,hb⟩:=(lexIs_err h).mp hr
 exact ⟨x,_,none,0,0,he,.inl (lexT_err h),hb⟩
theorem notOne_ok {ty:TypeId} {l:List UInt8} {w:World} {e:Ending} {w':World} {ts:List Tk} (h:lexT 120 0 l = .ok ts) (hn:ts.length ≠ 1) (hr:LexIs ty l w e w'):NotOneIs w e w':=by
 obtain ⟨ao,cap,he,_,hb⟩:=lex_sl h hr
 exact ⟨0,0,ao,ts.length,cap,he,.inr ⟨rfl,by rw [beq_eq_false_iff_ne];omega⟩,hb⟩
theorem txt_eq (t:Tk) (s:ByteArray):((⟨t.s.toArray⟩:ByteArray).toList == s.toList) = decide (t.s = s.data.toList):=by
 rw [Lib.toList_data,Lib.toList_data,Bool.eq_iff_iff,beq_iff_eq,decide_eq_true_eq]
set_option maxRecDepth 100000 in
theorem talone_no (s:ByteArray) (w:World) (T:∀ wx,Below w.heap.size w wx → Calls Tryz.prog 108 #[.string s] wx (NotOneIs wx)):Calls Tryz.prog 223 #[.string s] w (Ret (.int .i64 0) w):=by
 replace T:=Lib.hid T
 go_enter Tryz.func223,Tryz.ntmps223
 go_wp2_with fail
 refine (T.out _ (by (first | exact gwT | exact lzT))).mono ?_
 intro e w1 hr
 obtain ⟨x,j,ao,n,cap,rfl,hx,hb⟩:=hr
 clear T
 rcases hx with hx | ⟨rfl,hn⟩
 ·have hx':¬ x = 0:=by simpa using hx
  go_wp2
  go_returns
  exact ⟨rfl,by (first | exact gwT | exact lzT)⟩
 ·have hn':¬ (n:Int) = 1:=by simpa using hn
  go_wp2
  go_returns
  exact ⟨rfl,by (first | exact gwT | exact lzT)⟩
set_option maxRecDepth 100000 in
theorem talone_yes (s:ByteArray) (t:Tk) (w:World) (T:∀ wx,Below w.heap.size w wx → Calls Tryz.prog 108 #[.string s] wx (OneIs t wx)):Calls Tryz.prog 223 #[.string s] w (Ret (.int .i64 (if t.s = s.data.toList then t.k else 0)) w):=by
 have he:=txt_eq t s
 obtain ⟨d,hd⟩:∃ d,decide (t.s = s.data.toList) = d:=⟨_,rfl⟩
 have hr:(if t.s = s.data.toList then t.k else 0) = if d then t.k else 0:=by rw [← hd];simp
 rw [hr]
 rw [hd] at he
 clear hr hd
 unfold OneIs at T
 generalize t.k = k at *
 generalize (⟨t.s.toArray⟩:ByteArray) = q at *
 replace T:=Lib.hid T
 cases d
 all_goals
  go_enter Tryz.func223,Tryz.ntmps223
  go_wp2_with fail
  refine (T.out _ (by (first | exact gwT | exact lzT))).mono ?_
  intro e w1 hr
  obtain ⟨g,cap,rfl,hg,a0,a1,hb⟩:=hr
  clear T
  go_wp2
  go_returns
  exact ⟨rfl,by (first | exact gwT | exact lzT)⟩
theorem talone_any (s:ByteArray) (hs:s.size ≤ 140737488351232) (w:World) (hw:Lb w):Calls Tryz.prog 223 #[.string s] w (Ret (.int .i64 (aloneK s.data.toList)) w):=by
 rcases hl:lexT 120 0 s.data.toList with ⟨x,j⟩ | ts
 ·rw [aloneK_err hl]
  exact talone_no s w fun wx h=>(tlex_any s hs wx (lb_below hw h)).mono fun e w' hr=>notOne_err hl hr
 ·by_cases hn:ts.length = 1
  ·obtain ⟨t,rfl⟩:=List.length_eq_one_iff.1 hn
   rw [aloneK_one hl]
   exact talone_yes s t w fun wx h=>(tlex_any s hs wx (lb_below hw h)).mono fun e w' hr=>one_of (lex_sl hl hr)
  ·rw [aloneK_more hl hn]
   exact talone_no s w fun wx h=>(tlex_any s hs wx (lb_below hw h)).mono fun e w' hr=>notOne_ok hl hn hr
set_option maxHeartbeats 2000000 in
set_option maxRecDepth 100000 in
theorem tmeans_no (s:ByteArray) (h:meansB s.data.toList = false) (w:World):Calls Tryz.prog 204 #[.string s] w (RetW (.bool false) w):=by
 have f:∀ l,l ∈ words → (s.toList == l) = false:=fun l hl=>by
  rw [beq_eq_false_iff_ne,Lib.toList_data]
  intro he
  unfold meansB at h
  rw [he,← Bool.not_eq_true,List.contains_iff_mem] at h
  exact h hl
 have h0:(s.toList == [99,104,97,114,116]) = false:=f [99,104,97,114,116] (by decide)
 have h1:(s.toList == [118,97,114]) = false:=f [118,97,114] (by decide)
 have h2:(s.toList == [115,116,97,116,101]) = false:=f [115,116,97,116,101] (by decide)
 have h3:(s.toList == [112,97,114,97,108,108,101,108]) = false:=f [112,97,114,97,108,108,101,108] (by decide)
 have h4:(s.toList == [102,105,110,97,108]) = false:=f [102,105,110,97,108] (by decide)
 have h5:(s.toList == [100,101,101,112]) = false:=f [100,101,101,112] (by decide)
 have h6:(s.toList == [115,104,97,108,108,111,119]) = false:=f [115,104,97,108,108,111,119] (by decide)
 have h7:(s.toList == [101,110,116,101,114]) = false:=f [101,110,116,101,114] (by decide)
 have h8:(s.toList == [101,120,105,116]) = false:=f [101,120,105,116] (by decide)
 have h9:(s.toList == [111,110]) = false:=f [111,110] (by decide)
 have h10:(s.toList == [97,117,116,111]) = false:=f [97,117,116,111] (by decide)
 have h11:(s.toList == [101,110,100]) = false:=f [101,110,100] (by decide)
 have h12:(s.toList == [105,102]) = false:=f [105,102] (by decide)
 have h13:(s.toList == [103,111]) = false:=f [103,111] (by decide)
 have h14:(s.toList == [105,110,110,101,114]) = false:=f [105,110,110,101,114] (by decide)
 have h15:(s.toList == [100,111]) = false:=f [100,111] (by decide)
 have h16:(s.toList == [115,101,116]) = false:=f [115,101,116] (by decide)
 have h17:(s.toList == [114,97,105,115,101]) = false:=f [114,97,105,115,101] (by decide)
 have h18:(s.toList == [115,101,110,100]) = false:=f [115,101,110,100] (by decide)
 have h19:(s.toList == [99,97,110,99,101,108]) = false:=f [99,97,110,99,101,108] (by decide)
 have h20:(s.toList == [108,111,103]) = false:=f [108,111,103] (by decide)
 have h21:(s.toList == [116,114,117,101]) = false:=f [116,114,117,101] (by decide)
 have h22:(s.toList == [102,97,108,115,101]) = false:=f [102,97,108,115,101] (by decide)
 have h23:(s.toList == [110,111,116]) = false:=f [110,111,116] (by decide)
 have h24:(s.toList == [97,110,100]) = false:=f [97,110,100] (by decide)
 have h25:(s.toList == [111,114]) = false:=f [111,114] (by decide)
 have h26:(s.toList == [105,110]) = false:=f [105,110] (by decide)
 clear f h
 go_enter Tryz.func204,Tryz.ntmps204
 go_wp2
 go_returns
 exact ⟨rfl,rfl⟩
set_option maxHeartbeats 4000000 in
set_option maxRecDepth 100000 in
theorem tmeans_yes (s:ByteArray) (h:meansB s.data.toList = true) (w:World):Calls Tryz.prog 204 #[.string s] w (RetW (.bool true) w):=by
 have hs:∃ l,l ∈ words ∧ s = ⟨l.toArray⟩:=⟨s.data.toList,by unfold meansB at h;rwa [List.contains_iff_mem] at h,rfl⟩
 obtain ⟨l,hl,rfl⟩:=hs
 clear h
 simp only [words,List.mem_cons,List.not_mem_nil,or_false] at hl
 rcases hl with rfl | rfl | rfl | rfl | rfl | rfl | rfl | rfl | rfl | rfl | rfl | rfl | rfl | rfl | rfl | rfl | rfl | rfl | rfl | rfl | rfl | rfl | rfl | rfl | rfl | rfl | rfl
 all_goals
  go_enter Tryz.func204,Tryz.ntmps204
  go_wp2
  go_returns
  exact ⟨rfl,rfl⟩
theorem tmeans_any (s:ByteArray) (w:World):Calls Tryz.prog 204 #[.string s] w (RetW (.bool (meansB s.data.toList)) w):=by
 rcases h:meansB s.data.toList
 ·exact tmeans_no s h w
 ·exact tmeans_yes s h w
def nmB (l:List UInt8):Bool:=aloneK l == 1 && !meansB l
theorem tname_any (s:ByteArray) (hs:s.size ≤ 140737488351232) (w:World) (hw:Lb w):Calls Tryz.prog 264 #[.string s] w (Ret (.bool (nmB s.data.toList)) w):=by
 have T:=Lib.hid (fun wx h=>talone_any s hs wx (lb_below hw h))
 have M:=Lib.hid (fun wx=>tmeans_any s wx)
 unfold nmB
 generalize aloneK s.data.toList = k at *
 generalize meansB s.data.toList = m at *
 clear hw
 rcases h1:(k == 1) <;> cases m
 all_goals
  go_enter Tryz.func264,Tryz.ntmps264
  go_wp2_with (first | ((with_reducible refine (T.out _ (by (first | exact gwT | exact lzT))).mono ?_);intro e w1 hr;obtain ⟨rfl,p,rfl⟩:=hr.out;clear hr) | ((with_reducible refine (M.out _).mono ?_);rintro e w1 ⟨rfl,rfl⟩))
  all_goals
   go_returns
   exact ⟨rfl,by (first | exact gwT | exact lzT)⟩
def Txts (w:World) (ao:Option Addr) (zs:List ByteArray):Prop:=∀ i (h:i < zs.length),∃ a,ao = some a ∧ w.cell? (a.add i) = some (.string zs[i])
def hasB (zs:List ByteArray) (x:ByteArray):Bool:=zs.any fun y=>y.toList == x.toList
theorem same_sym (x y:ByteArray):(x.toList == y.toList) = (y.toList == x.toList):=by
 rw [Bool.eq_iff_iff,beq_iff_eq,beq_iff_eq]
 exact ⟨Eq.symm,Eq.symm⟩
theorem hasB_succ (zs:List ByteArray) (x:ByteArray) (i:Nat) (h:i < zs.length):hasB (zs.take (i + 1)) x = (hasB (zs.take i) x || (zs[i].toList == x.toList)):=by
 unfold hasB
 rw [List.take_succ_eq_append_getElem h,List.any_append]
 simp
theorem hasB_at (zs:List ByteArray) (x:ByteArray) (i:Nat) (h:i < zs.length) (he:(zs[i].toList == x.toList) = true):hasB zs x = true:=by
 unfold hasB
 rw [List.any_eq_true]
 exact ⟨zs[i],List.getElem_mem h,he⟩
def IdxIs (b:Bool) (w:World) (e:Ending) (w':World):Prop:=∃ r:Int,e = .returned (.int .i64 r) ∧ decide (0 ≤ r) = b ∧ w = w'
theorem index_any (ao:Option Addr) (zs:List ByteArray) (cap:Nat) (x:ByteArray) (hn:zs.length ≤ 1000) (w:World) (hz:Txts w ao zs):Calls Tryz.prog 219 #[.slice ao zs.length cap,.string x] w (IdxIs (hasB zs x) w):=by
 have hat:=Lib.hid (fun i h he=>hasB_at zs x i h he)
 have hsucc:=Lib.hid (fun i h=>hasB_succ zs x i h)
 replace hz:=Lib.hid hz
 go_enter Tryz.func219,Tryz.ntmps219
 go_wp2
 go_loop [8] (fun v=>∃ i:Nat,i ≤ zs.length ∧ v = .int .i64 i ∧ hasB (zs.take i) x = false) (fun v=>zs.length - (intOf v).toNat)
 case atStart=>exact ⟨0,Nat.zero_le _,rfl,rfl⟩
 case round =>
  obtain ⟨i,hi,rfl,hall⟩:=hrel
  by_cases hlt:i < zs.length
  ·obtain ⟨a,rfl,hc⟩:=hz.out i hlt
   rcases he:(zs[i].toList == x.toList)
   ·have hnext:=Lib.hid (show hasB (zs.take (i + 1)) x = false by rw [hsucc.out i hlt,hall,he];rfl)
    rw [same_sym] at he
    clear hall
    go_wp2
    go_round
    case rel=>exact ⟨i + 1,by omega,by go_num,hnext.out⟩
    case measure=>simp [intOf];omega
   ·have hres:=Lib.hid (hat.out i hlt he)
    rw [same_sym] at he
    clear hall
    go_wp2
    go_returns
    exact ⟨i,rfl,by rw [hres.out];simp,rfl⟩
  ·obtain rfl:i = zs.length:=by omega
   have hres:=Lib.hid (show hasB zs x = false by rw [List.take_length] at hall;exact hall)
   clear hall
   go_wp2
   go_returns
   exact ⟨-1,rfl,by rw [hres.out];rfl,rfl⟩
theorem contains_any (ao:Option Addr) (zs:List ByteArray) (cap:Nat) (x:ByteArray) (hn:zs.length ≤ 1000) (w:World) (hz:Txts w ao zs):Calls Tryz.prog 200 #[.slice ao zs.length cap,.string x] w (RetW (.bool (hasB zs x)) w):=by
 have I:=Lib.hid (index_any ao zs cap x hn w hz)
 clear hz
 go_enter Tryz.func200,Tryz.ntmps200
 go_wp2_with fail
 refine I.out.mono ?_
 intro e w1 hr
 obtain ⟨r,rfl,hb,rfl⟩:=hr
 replace hb:=Lib.hid hb
 by_cases h:0 ≤ r
 ·go_wp2
  go_returns
  exact ⟨by rw [← hb.out,decide_eq_true h];try rfl,rfl⟩
 ·go_wp2
  go_returns
  exact ⟨by rw [← hb.out];try rfl,rfl⟩
theorem txts_below {w w':World} {ao:Option Addr} {zs:List ByteArray} (h:Txts w ao zs) (hb:Below w.heap.size w w'):Txts w' ao zs:=by
 intro i hi
 obtain ⟨a,ha,hc⟩:=h i hi
 exact ⟨a,ha,(hb.cell (World.block_lt_of_cell? _ _ hc)).trans hc⟩
theorem is_any (k:Int) (x:ByteArray) (n a:Int) (ao:Option Addr) (zs:List ByteArray) (cap:Nat) (hn:zs.length ≤ 1000) (w:World) (hz:Txts w ao zs) :
  Calls Tryz.prog 176 #[.agg #[.int .i64 k,.string x,.int .i64 n,.int .i64 a],.slice ao zs.length cap] w (Ret (.bool (((k == 1) || (k == 5)) && hasB zs x)) w):=by
 have C:=Lib.hid (fun wx hb=>contains_any ao zs cap x hn wx (txts_below hz hb))
 generalize hasB zs x = b at *
 clear hz
 rcases h1:(k == 1) <;> rcases h2:(k == 5) <;> cases b
 all_goals
  go_enter Tryz.func176,Tryz.ntmps176
  go_wp2_with ((with_reducible refine (C.out _ (by (first | exact gwT | exact lzT))).mono ?_);rintro e w1 ⟨rfl,rfl⟩)
  all_goals
   go_returns
   exact ⟨rfl,by (first | exact gwT | exact lzT)⟩
end Go.Proofs.YtfgpmcepppcmiaaGreatDoor
namespace Go.Proofs.YtfgpmcepppcmiaaGreatDoor
open Go.RowKit
def evB (l:List UInt8):Bool:=aloneK l == 1 || aloneK l == 2
theorem tevent_any (s:ByteArray) (hs:s.size ≤ 140737488351232) (w:World) (hw:Lb w):Calls Tryz.prog 203 #[.string s] w (Ret (.bool (evB s.data.toList)) w):=by
 have T:=Lib.hid (fun wx h=>talone_any s hs wx (lb_below hw h))
 unfold evB
 generalize aloneK s.data.toList = k at *
 clear hw
 rcases h1:(k == 1) <;> rcases h2:(k == 2)
 all_goals
  go_enter Tryz.func203,Tryz.ntmps203
  go_wp2_with ((with_reducible refine (T.out _ (by (first | exact gwT | exact lzT))).mono ?_);intro e w1 hr;obtain ⟨rfl,p,rfl⟩:=hr.out;clear hr)
  all_goals
   go_returns
   exact ⟨rfl,by (first | exact gwT | exact lzT)⟩
end Go.Proofs.YtfgpmcepppcmiaaGreatDoor
