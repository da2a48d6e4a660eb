/- Several texts of this proof, joined: XP, XQ, AP. -/
import Derived.Test.YtpgibloeinphaaaGreatDoorY6
import Derived.Test.YtpgibloeinphaaaGreatDoorZ7
namespace Go.Proofs.YtpgibloeinphaaaGreatDoor
def key (t : Tk) : Int × List UInt8 × Int := (t.k,t.s,t.n)
theorem lexT_shift (b : Nat) : ∀ (m a : Nat) (l : List UInt8),lexT m (a + b) l = match lexT m a l with | .ok ts => .ok (ts.map fun t => ⟨t.k,t.s,t.n,t.a + b⟩) | .error (x,j) => .error (x,j + b)
 | 0,a,l => by
  rw [lexT,lexT]
  split
  ·rfl
  ·simp only
   congr 2
   omega
 | m + 1,a,l => by
  rw [lexT,lexT]
  split
  ·rfl
  ·rename_i c r hd
   split
   ·simp only
    congr 2
    omega
   ·rename_i k t n z ht
    have ih := lexT_shift b m (a + spanL blankL l + z) ((c :: r).drop z)
    rw [show a + b + spanL blankL l + z = a + spanL blankL l + z + b by omega,ih]
    cases lexT m (a + spanL blankL l + z) ((c :: r).drop z) with
    | error x => rfl
    | ok ts =>
     simp only [List.map_cons]
     congr 3
     omega
theorem lexT_key {m a b : Nat} {l : List UInt8} {ts : List Tk} (h : lexT m a l = .ok ts) : ∃ us,lexT m (a + b) l = .ok us ∧ us.map key = ts.map key := by
 refine ⟨_,by rw [lexT_shift,h],?_⟩
 rw [List.map_map]
 rfl
def shN (d : Nat) (n : Nd) : Nd := { n with l := if 1 ≤ n.op ∧ n.op ≤ 15 then n.l + d else n.l,r := if 3 ≤ n.op ∧ n.op ≤ 15 then n.r + d else n.r }
section
variable {T ts : List Tk} {o w0 : Nat} {N : List Nd} {P : List Nat} {W : List Int}
end
end Go.Proofs.YtpgibloeinphaaaGreatDoor
namespace Go.Proofs.YtpgibloeinphaaaGreatDoor
theorem finL_at (least : Int) : ∀ (ws : List Int) (r : Rd),(finL least ws r).at_ = r.at_ ∧ (finL least ws r).within = r.within
 | [],_ => ⟨rfl,rfl⟩
 | op :: ws,r => by
  rw [finL]
  split
  ·exact ⟨rfl,rfl⟩
  ·have := finL_at least ws (popOp op ws r)
   exact ⟨this.1,this.2⟩
theorem finish_at (least : Int) (r : Rd) : (finish least r).at_ = r.at_ ∧ (finish least r).within = r.within := finL_at least _ r
theorem finL_move (least : Int) (a : Nat) : ∀ (ws : List Int) (r : Rd),finL least ws { r with at_ := a } = { finL least ws r with at_ := a }
 | [],_ => rfl
 | op :: ws,r => by
  rw [finL,finL]
  split
  ·rfl
  ·exact finL_move least a ws (popOp op ws r)
theorem finish_move (least : Int) (a : Nat) (r : Rd) : finish least { r with at_ := a } = { finish least r with at_ := a } := finL_move least a _ r
theorem close_at (r : Rd) : (close r).at_ = r.at_ + 1 := by
 unfold close
 rw [finish_move]
theorem ahead_at {ts : List Tk} {r r' : Rd} (h : ahead ts r = some r') : r'.at_ = r.at_ + 1 ∧ r.at_ < ts.length := by
 unfold ahead at h
 split at h
 ·cases h;exact ⟨rfl,tkAt_lt ‹_›⟩
 ·split at h
  ·cases h;exact ⟨rfl,tkAt_lt ‹_›⟩
  ·split at h
   ·cases h;exact ⟨rfl,tkAt_lt ‹_›⟩
   ·cases h
theorem aheads_stable (T : List Tk) : ∀ (F G : Nat) (r : Rd),T.length - r.at_ < F → T.length - r.at_ < G → aheads F T r = aheads G T r
 | 0,_,_,h,_ => absurd h (Nat.not_lt_zero _)
 | _ + 1,0,_,_,h => absurd h (Nat.not_lt_zero _)
 | F + 1,G + 1,r,h1,h2 => by
  rw [aheads,aheads]
  cases ha : ahead T r with
  | none => rfl
  | some r' =>
   obtain ⟨e,hlt⟩ := ahead_at ha
   exact aheads_stable T F G r' (by omega) (by omega)
theorem closes_stable (T : List Tk) : ∀ (F G : Nat) (r : Rd),T.length - r.at_ < F → T.length - r.at_ < G → closes F T r = closes G T r
 | 0,_,_,h,_ => absurd h (Nat.not_lt_zero _)
 | _ + 1,0,_,_,h => absurd h (Nat.not_lt_zero _)
 | F + 1,G + 1,r,h1,h2 => by
  rw [closes,closes]
  split
  ·rename_i hc
   have hlt := tkAt_lt hc.2
   have e := close_at r
   exact closes_stable T F G (close r) (by omega) (by omega)
  ·rfl
theorem closes_step {T : List Tk} {r : Rd} (hT : T.length < 128) (h : 0 < r.within ∧ tkAt T r.at_ [41] = true) : closes 128 T r = closes 128 T (close r) := by
 have e : closes 128 T r = closes 127 T (close r) := by
  show closes (127 + 1) T r = _
  rw [closes,if_pos h]
 have hlt := tkAt_lt h.2
 have := close_at r
 rw [e]
 exact closes_stable T 127 128 _ (by omega) (by omega)
theorem closes_stop {T : List Tk} {r : Rd} (h : ¬ (0 < r.within ∧ tkAt T r.at_ [41] = true)) : closes 128 T r = r := by
 show closes (127 + 1) T r = _
 rw [closes,if_neg h]
theorem whole_stable (T : List Tk) : ∀ (F G : Nat) (r : Rd),Good 0 T r → T.length - r.at_ < F → T.length - r.at_ < G → whole F T r = whole G T r
 | 0,_,_,_,h,_ => absurd h (Nat.not_lt_zero _)
 | _ + 1,0,_,_,_,h => absurd h (Nat.not_lt_zero _)
 | F + 1,G + 1,r,g,h1,h2 => by
  rw [whole,whole]
  cases ho : one T r with
  | none => rfl
  | some r1 =>
   obtain ⟨g1,e1⟩ := one_good g ho
   obtain ⟨m1,_⟩ := more_good g1
   simp only
   cases hm : more T r1 with
   | mk b r2 =>
    rw [hm] at m1
    cases b with
    | true =>
     obtain ⟨g2,e2⟩ := m1 rfl
     simp only at g2 e2
     have := g1.at_
     exact whole_stable T F G r2 g2 (by omega) (by omega)
    | false => rfl
def contW (f : Nat) (T : List Tk) (r1 : Rd) : Option Rd :=
 match more T r1 with
 | (true,r2) => whole f T r2
 | (false,r2) => if (finish 1 r2).within = 0 then some (finish 1 r2) else none
theorem whole_step {f : Nat} {T : List Tk} {r r1 : Rd} (h : one T r = some r1) : whole (f + 1) T r = contW f T r1 := by
 rw [whole,h]
 rfl
section
variable {T ts : List Tk} {o w0 : Nat} {N : List Nd} {P : List Nat} {W : List Int}
theorem close_eq (r : Rd) : close r = ⟨r.at_ + 1,(finish 1 r).nodes,(finish 1 r).parts,(finish 1 r).wait.tail,r.within - 1⟩ := by
 unfold close
 rw [finish_move]
def shut (o w0 : Nat) (N : List Nd) (P : List Nat) (W : List Int) (n : Nat) (rf : Rd) : Rd := ⟨o + n + 1,N ++ rf.nodes.map (shN N.length),rf.parts.map (· + N.length) ++ P,W,w0⟩
end
end Go.Proofs.YtpgibloeinphaaaGreatDoor
namespace Go.Proofs.YtpgibloeinphaaaGreatDoor
structure Ac where
 kind : Int
 cond : List Nd
 name : List UInt8
 x : List Nd
 n : Int
def actAt (ts : List Tk) (a : Nat) : Int :=
 if tkAt ts a [115,101,116] then 1 else if tkAt ts a [114,97,105,115,101] then 2 else if tkAt ts a [115,101,110,100] then 3 else if tkAt ts a [99,97,110,99,101,108] then 4 else if tkAt ts a [108,111,103] then 5 else 0
def namedB (event : Bool) (s : List UInt8) : Bool := if event then (aloneK s == 1 || aloneK s == 2) && !meansB s else aloneK s == 1 && !meansB s
def eventAt (event : Bool) (ts : List Tk) (a : Nat) : Option (List UInt8) :=
 match ts[a]? with
 | some t => if (t.k == 1 || t.k == 2) && namedB event t.s then some t.s else none
 | none => none
def numAt (ts : List Tk) (a : Nat) : Option Int :=
 match ts[a]? with
 | some t => if t.k == 3 then some t.n else none
 | none => none
def tailA (ts : List Tk) (cond : List Nd) (k : Int) (name : List UInt8) (a : Nat) : Except Int (Ac × Nat) :=
 if k = 1 ∨ k = 5 then
  match parseT ts (a : Int) with
  | .error x => .error x
  | .ok (ns,n) => .ok (⟨k,cond,name,ns,0⟩,n)
 else if k = 3 then
  match numAt ts a with
  | none => .error 11
  | some n => if 1048576 < n then .error 10 else .ok (⟨k,cond,name,[],n⟩,a + 1)
 else .ok (⟨k,cond,name,[],0⟩,a)
def doA (ts : List Tk) (cond : List Nd) (a : Nat) : Except Int (Ac × Nat) :=
 if actAt ts a = 0 then .error 11
 else if actAt ts a = 5 then tailA ts cond 5 [] (a + 1)
 else match eventAt (decide (1 < actAt ts a)) ts (a + 1) with
  | none => .error 11
  | some name => tailA ts cond (actAt ts a) name (a + 2)
def oneA (ts : List Tk) (a : Nat) : Except Int (Ac × Nat) :=
 if tkAt ts a [105,102] then
  match parseT ts ((a + 1 : Nat) : Int) with
  | .error x => .error x
  | .ok (ns,n) => if tkAt ts n [58] then doA ts ns (n + 1) else .error 11
 else doA ts [] a
def takeA : Nat → List Tk → Nat → Except Int (List Ac × Nat)
 | 0,_,_ => .error 13
 | f + 1,ts,a =>
  match oneA ts a with
  | .error x => .error x
  | .ok (c,n) =>
   if tkAt ts n [59] then
    match takeA f ts (n + 1) with
    | .error x => .error x
    | .ok (cs,q) => .ok (c :: cs,q)
   else .ok ([c],n)
def takeT (ts : List Tk) (a : Int) : Except Int (List Ac × Nat) :=
 if a < 0 ∨ (ts.length : Int) < a then .error 11 else takeA 8 ts a.toNat
section
variable {T ts : List Tk} {o : Nat}
end
section
variable {ts : List Tk} {c : Tk} {rest : List Tk}
theorem actAt_lt {ts : List Tk} {a : Nat} (h : ¬ actAt ts a = 0) : a < ts.length := by
 unfold actAt at h
 repeat' split at h
 all_goals first | exact tkAt_lt ‹_› | exact absurd rfl h
theorem eventAt_lt {ts : List Tk} {e : Bool} {a : Nat} {s : List UInt8} (h : eventAt e ts a = some s) : a < ts.length := by
 unfold eventAt at h
 rcases Nat.lt_or_ge a ts.length with h1 | h1
 ·exact h1
 ·rw [List.getElem?_eq_none h1] at h;cases h
theorem numAt_lt {ts : List Tk} {a : Nat} {n : Int} (h : numAt ts a = some n) : a < ts.length := by
 unfold numAt at h
 rcases Nat.lt_or_ge a ts.length with h1 | h1
 ·exact h1
 ·rw [List.getElem?_eq_none h1] at h;cases h
theorem tailA_le {ts : List Tk} {cond : List Nd} {k : Int} {name : List UInt8} {a : Nat} (h : a ≤ ts.length) {x : Ac × Nat} (e : tailA ts cond k name a = .ok x) : x.2 ≤ ts.length := by
 unfold tailA at e
 split at e
 ·split at e
  ·cases e
  ·rename_i hp
   cases e
   exact (parseT_at hp).1
 ·split at e
  ·split at e
   ·cases e
   ·rename_i hn
    have := numAt_lt hn
    split at e
    ·cases e
    ·cases e
     exact this
  ·cases e
   exact h
theorem doA_le {ts : List Tk} {cond : List Nd} {a : Nat} {x : Ac × Nat} (e : doA ts cond a = .ok x) : x.2 ≤ ts.length := by
 unfold doA at e
 split at e
 ·cases e
 ·rename_i h0
  have ha := actAt_lt h0
  split at e
  ·exact tailA_le (by omega) e
  ·split at e
   ·cases e
   ·rename_i he
    have := eventAt_lt he
    exact tailA_le (by omega) e
theorem oneA_le {ts : List Tk} {a : Nat} {x : Ac × Nat} (e : oneA ts a = .ok x) : x.2 ≤ ts.length := by
 unfold oneA at e
 split at e
 ·split at e
  ·cases e
  ·split at e
   ·exact doA_le e
   ·cases e
 ·exact doA_le e
end
theorem takeA_room {ts : List Tk} : ∀ (f a : Nat) (cs : List Ac) (q : Nat),takeA f ts a = .ok (cs,q) → cs.length ≤ f ∧ ∀ g,takeA g ts a = if cs.length ≤ g then .ok (cs,q) else .error 13
 | 0,_,_,_,h => by cases h
 | f + 1,a,cs,q,h => by
  rw [takeA] at h
  split at h
  ·cases h
  ·rename_i d n h1
   split at h
   ·rename_i ht
    split at h
    ·cases h
    ·rename_i ds q' h2
     cases h
     obtain ⟨hle,ih⟩ := takeA_room f (n + 1) ds q h2
     refine ⟨by rw [List.length_cons];omega,fun g => ?_⟩
     cases g with
     | zero => rw [takeA,if_neg (by rw [List.length_cons];omega)]
     | succ g =>
      rw [takeA,h1]
      simp only
      rw [if_pos ht,ih g,List.length_cons]
      by_cases hg : ds.length ≤ g
      ·rw [if_pos hg,if_pos (by omega)]
      ·rw [if_neg hg,if_neg (by omega)]
   ·rename_i ht
    cases h
    refine ⟨by simp,fun g => ?_⟩
    cases g with
    | zero => rw [takeA,if_neg (by simp)]
    | succ g =>
     rw [takeA,h1]
     simp only
     rw [if_neg ht,if_pos (by simp)]
end Go.Proofs.YtpgibloeinphaaaGreatDoor
