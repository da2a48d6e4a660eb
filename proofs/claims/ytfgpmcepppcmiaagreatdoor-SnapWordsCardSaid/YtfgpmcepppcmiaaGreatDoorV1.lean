/- Several texts of this proof, joined: XP, AP. -/
import Derived.Test.YtfgpmcepppcmiaaGreatDoorY6
import Derived.Test.YtfgpmcepppcmiaaGreatDoorZ7
namespace Go.Proofs.YtfgpmcepppcmiaaGreatDoor
def key (t:Tk):Int × List UInt8 × Int:=(t.k,t.s,t.n)
section
variable {T ts:List Tk} {o w0:Nat} {N:List Nd} {P:List Nat} {W:List Int}
end
end Go.Proofs.YtfgpmcepppcmiaaGreatDoor
namespace Go.Proofs.YtfgpmcepppcmiaaGreatDoor
structure Ac where
 kind:Int
 cond:List Nd
 name:List UInt8
 x:List Nd
 n:Int
def actAt (ts:List Tk) (a:Nat):Int :=
 if tkAt ts a [115,101,116] then 1 else if tkAt ts a [114,97,105,115,101] then 2 else if tkAt ts a [115,101,110,100] then 3 else if tkAt ts a [99,97,110,99,101,108] then 4 else if tkAt ts a [108,111,103] then 5 else 0
def namedB (event:Bool) (s:List UInt8):Bool:=if event then (aloneK s == 1 || aloneK s == 2) && !meansB s else aloneK s == 1 && !meansB s
def eventAt (event:Bool) (ts:List Tk) (a:Nat):Option (List UInt8) :=
 match ts[a]? with
 | some t=>if (t.k == 1 || t.k == 2) && namedB event t.s then some t.s else none
 | none=>none
def numAt (ts:List Tk) (a:Nat):Option Int :=
 match ts[a]? with
 | some t=>if t.k == 3 then some t.n else none
 | none=>none
def tailA (ts:List Tk) (cond:List Nd) (k:Int) (name:List UInt8) (a:Nat):Except Int (Ac × Nat) :=
 if k = 1 ∨ k = 5 then
  match parseT ts (a:Int) with
  | .error x => .error x
  | .ok (ns,n) => .ok (⟨k,cond,name,ns,0⟩,n)
 else if k = 3 then
  match numAt ts a with
  | none => .error 11
  | some n=>if 1048576 < n then .error 10 else .ok (⟨k,cond,name,[],n⟩,a + 1)
 else .ok (⟨k,cond,name,[],0⟩,a)
def doA (ts:List Tk) (cond:List Nd) (a:Nat):Except Int (Ac × Nat) :=
 if actAt ts a = 0 then .error 11
 else if actAt ts a = 5 then tailA ts cond 5 [] (a + 1)
 else match eventAt (decide (1 < actAt ts a)) ts (a + 1) with
  | none => .error 11
  | some name=>tailA ts cond (actAt ts a) name (a + 2)
def oneA (ts:List Tk) (a:Nat):Except Int (Ac × Nat) :=
 if tkAt ts a [105,102] then
  match parseT ts ((a + 1:Nat):Int) with
  | .error x => .error x
  | .ok (ns,n)=>if tkAt ts n [58] then doA ts ns (n + 1) else .error 11
 else doA ts [] a
def takeA:Nat → List Tk → Nat → Except Int (List Ac × Nat)
 | 0,_,_ => .error 13
 | f + 1,ts,a =>
  match oneA ts a with
  | .error x => .error x
  | .ok (c,n) =>
   if tkAt ts n [59] then
    match takeA f ts (n + 1) with
    | .error x => .error x
    | .ok (cs,q) => .ok (c :: cs,q)
   else .ok ([c],n)
def takeT (ts:List Tk) (a:Int):Except Int (List Ac × Nat) :=
 if a < 0 ∨ (ts.length:Int) < a then .error 11 else takeA 8 ts a.toNat
section
variable {T ts:List Tk} {o:Nat}
end
section
variable {ts:List Tk} {c:Tk} {rest:List Tk}
theorem actAt_lt {ts:List Tk} {a:Nat} (h:¬ actAt ts a = 0):a < ts.length:=by
 unfold actAt at h
 repeat' split at h
 all_goals first | exact tkAt_lt ‹_› | exact absurd rfl h
theorem eventAt_lt {ts:List Tk} {e:Bool} {a:Nat} {s:List UInt8} (h:eventAt e ts a = some s):a < ts.length:=by
 unfold eventAt at h
 rcases Nat.lt_or_ge a ts.length with h1 | h1
 ·exact h1
 ·rw [List.getElem?_eq_none h1] at h;cases h
theorem numAt_lt {ts:List Tk} {a:Nat} {n:Int} (h:numAt ts a = some n):a < ts.length:=by
 unfold numAt at h
 rcases Nat.lt_or_ge a ts.length with h1 | h1
 ·exact h1
 ·rw [List.getElem?_eq_none h1] at h;cases h
theorem tailA_le {ts:List Tk} {cond:List Nd} {k:Int} {name:List UInt8} {a:Nat} (h:a ≤ ts.length) {x:Ac × Nat} (e:tailA ts cond k name a = .ok x):x.2 ≤ ts.length:=by
 unfold tailA at e
 split at e
 ·split at e
  ·cases e
  ·rename_i hp
   cases e
   exact (parseT_at hp).1
 ·split at e
  ·split at e
   ·cases e
   ·rename_i hn
    have:=numAt_lt hn
    split at e
    ·cases e
    ·cases e
     exact this
  ·cases e
   exact h
theorem doA_le {ts:List Tk} {cond:List Nd} {a:Nat} {x:Ac × Nat} (e:doA ts cond a = .ok x):x.2 ≤ ts.length:=by
 unfold doA at e
 split at e
 ·cases e
 ·rename_i h0
  have ha:=actAt_lt h0
  split at e
  ·exact tailA_le (by omega) e
  ·split at e
   ·cases e
   ·rename_i he
    have:=eventAt_lt he
    exact tailA_le (by omega) e
theorem oneA_le {ts:List Tk} {a:Nat} {x:Ac × Nat} (e:oneA ts a = .ok x):x.2 ≤ ts.length:=by
 unfold oneA at e
 split at e
 ·split at e
  ·cases e
  ·split at e
   ·exact doA_le e
   ·cases e
 ·exact doA_le e
end
theorem takeA_room {ts:List Tk}:∀ (f a:Nat) (cs:List Ac) (q:Nat),takeA f ts a = .ok (cs,q) → cs.length ≤ f ∧ ∀ g,takeA g ts a = if cs.length ≤ g then .ok (cs,q) else .error 13
 | 0,_,_,_,h=>by cases h
 | f + 1,a,cs,q,h=>by
  rw [takeA] at h
  split at h
  ·cases h
  ·rename_i d n h1
   split at h
   ·rename_i ht
    split at h
    ·cases h
    ·rename_i ds q' h2
     cases h
     obtain ⟨hle,ih⟩:=takeA_room f (n + 1) ds q h2
     refine ⟨by rw [List.length_cons];omega,fun g=>?_⟩
     cases g with
     | zero=>rw [takeA,if_neg (by rw [List.length_cons];omega)]
     | succ g =>
      rw [takeA,h1]
      simp only
      rw [if_pos ht,ih g,List.length_cons]
      by_cases hg:ds.length ≤ g
      ·rw [if_pos hg,if_pos (by omega)]
      ·rw [if_neg hg,if_neg (by omega)]
   ·rename_i ht
    cases h
    refine ⟨by simp,fun g=>?_⟩
    cases g with
    | zero=>rw [takeA,if_neg (by simp)]
    | succ g =>
     rw [takeA,h1]
     simp only
     rw [if_neg ht,if_pos (by simp)]
end Go.Proofs.YtfgpmcepppcmiaaGreatDoor
