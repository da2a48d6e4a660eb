/- Several texts of this proof, joined: LM, LP, LN. -/
import Derived.Test.YtpgibloeinphaaaGreatDoorV1
import Derived.Test.YtpgibloeinphaaaGreatDoorY6
import Derived.Test.YtpgibloeinphaaaGreatDoorZ7
import Derived.Test.YtpgibloeinphaaaGreatDoorY1
namespace Go.Proofs.YtpgibloeinphaaaGreatDoor
structure Ln where
 kind : Int
 name : List UInt8
 start : List UInt8
 vk : Int
 vn : Int
 vs : List UInt8
 acts : List Ac
 event : List UInt8
 cond : List Nd
 goes : List (List UInt8)
 inner : Bool
 thn : List Ac
def ln0 (k : Int) : Ln := ⟨k,[],[],0,0,[],[],[],[],[],false,[]⟩
def lineWs : List (List UInt8) :=
 [[],[99,104,97,114,116],[118,97,114],[115,116,97,116,101],[112,97,114,97,108,108,101,108],[102,105,110,97,108],[100,101,101,112],[115,104,97,108,108,111,119],[101,110,116,101,114],[101,120,105,116],[111,110],[97,117,116,111],[101,110,100]]
def lwL (k : Nat) : List UInt8 := lineWs.getD k []
def kindFrom (ts : List Tk) (a : Nat) : Nat → Nat → Nat
 | 0,_ => 0
 | f + 1,k => if tkAt ts a (lwL k) then k else kindFrom ts a f (k + 1)
def kindAt (ts : List Tk) (a : Nat) : Nat := kindFrom ts a 12 1
def valueL (ts : List Tk) (a : Nat) : Option (Int × Int × List UInt8 × Nat) :=
 if tkAt ts a [45] then
  match ts[a + 1]? with
  | some t => if t.k == 3 then some (1,-t.n,[],a + 2) else none
  | none => none
 else
  match ts[a]? with
  | some t =>
   if t.k == 3 then some (1,t.n,[],a + 1)
   else if t.k == 4 then some (3,0,t.s,a + 1)
   else if wordB t [116,114,117,101] then some (2,1,[],a + 1)
   else if wordB t [102,97,108,115,101] then some (2,0,[],a + 1)
   else none
  | none => none
def eventL (ts : List Tk) (a : Nat) : Option (List UInt8) :=
 match ts[a]? with
 | some t => if ((t.k == 1 || t.k == 2) && namedB true t.s) || wordB t [42] then some t.s else none
 | none => none
def goesA (ts : List Tk) : Nat → List (List UInt8) → Nat → Except Int (List (List UInt8) × Nat)
 | f,gs,a =>
  match nameAt ts a with
  | none => if gs.length = 0 then .error 11 else .ok (gs,a)
  | some s =>
   match f with
   | 0 => .error 13
   | f + 1 => goesA ts f (gs ++ [s]) (a + 1)
def ifL (ts : List Tk) (a : Nat) : Except Int (List Nd × Nat) := if tkAt ts a [105,102] then parseT ts ((a + 1 : Nat) : Int) else .ok ([],a)
def goL (ts : List Tk) (a : Nat) : Except Int (List (List UInt8) × Nat) := if tkAt ts a [103,111] then goesA ts 4 [] (a + 1) else .ok ([],a)
def innerL (ts : List Tk) (a : Nat) : Bool := tkAt ts a [105,110,110,101,114]
def doL (ts : List Tk) (a : Nat) : Except Int (List Ac × Nat) := if tkAt ts a [100,111] then takeT ts ((a + 1 : Nat) : Int) else .ok ([],a)
def transL (ts : List Tk) (n : Ln) (a : Nat) : Except Int (Ln × Nat) :=
 match ifL ts a with
 | .error x => .error x
 | .ok (cond,a1) =>
  match goL ts a1 with
  | .error x => .error x
  | .ok (goes,a2) =>
   match doL ts (if innerL ts a2 then a2 + 1 else a2) with
   | .error x => .error x
   | .ok (thn,a3) => .ok ({ n with cond := cond,goes := goes,inner := innerL ts a2,thn := thn },a3)
def namedL (ts : List Tk) (k : Nat) (a : Nat) : Option (Ln × Nat) :=
 match nameAt ts a with
 | none => none
 | some s =>
  if k = 2 then
   match valueL ts (a + 1) with
   | none => none
   | some (vk,vn,vs,b) => some ({ ln0 k with name := s,vk := vk,vn := vn,vs := vs },b)
  else if k = 1 ∨ k = 3 then
   match nameAt ts (a + 1) with
   | none => some ({ ln0 k with name := s },a + 1)
   | some t => some ({ ln0 k with name := s,start := t },a + 2)
  else if k = 6 ∨ k = 7 then
   match nameAt ts (a + 1) with
   | none => none
   | some t => some ({ ln0 k with name := s,start := t },a + 2)
  else some ({ ln0 k with name := s },a + 1)
def restL (ts : List Tk) (k : Nat) (a : Nat) : Except Int (Ln × Nat) :=
 if k = 12 then .ok (ln0 k,a)
 else if k = 8 ∨ k = 9 then
  match takeT ts (a : Int) with
  | .error x => .error x
  | .ok (cs,b) => .ok ({ ln0 k with acts := cs },b)
 else if k = 10 then
  match eventL ts a with
  | none => .error 11
  | some s => transL ts { ln0 k with event := s } (a + 1)
 else if k = 11 then transL ts (ln0 k) a
 else
  match namedL ts k a with
  | none => .error 11
  | some x => .ok x
def lineT (ts : List Tk) : Except Int Ln :=
 if kindAt ts 0 = 0 then .error 25
 else
  match restL ts (kindAt ts 0) 1 with
  | .error x => .error x
  | .ok (n,b) => if b < ts.length then .error 11 else .ok n
def parseL (l : List UInt8) : Except Int Ln :=
 match lexT 120 0 l with
 | .error (e,_) => .error e
 | .ok ts => lineT ts
theorem kindFrom_lt {ts : List Tk} {a : Nat} : ∀ (f k : Nat),kindFrom ts a f k = 0 ∨ (k ≤ kindFrom ts a f k ∧ kindFrom ts a f k < k + f ∧ tkAt ts a (lwL (kindFrom ts a f k)) = true)
 | 0,k => .inl rfl
 | f + 1,k => by
  rw [kindFrom]
  by_cases h : tkAt ts a (lwL k) = true
  ·rw [if_pos h]
   exact .inr ⟨Nat.le_refl _,by omega,h⟩
  ·rw [if_neg h]
   rcases kindFrom_lt (ts := ts) (a := a) f (k + 1) with h1 | ⟨h1,h2,h3⟩
   ·exact .inl h1
   ·exact .inr ⟨by omega,by omega,h3⟩
theorem kindAt_lt {ts : List Tk} {a : Nat} (h : ¬ kindAt ts a = 0) : 1 ≤ kindAt ts a ∧ kindAt ts a ≤ 12 ∧ a < ts.length := by
 rcases kindFrom_lt (ts := ts) (a := a) 12 1 with h1 | ⟨h1,h2,h3⟩
 ·exact absurd h1 h
 ·exact ⟨h1,by unfold kindAt;omega,tkAt_lt h3⟩
end Go.Proofs.YtpgibloeinphaaaGreatDoor
namespace Go.Proofs.YtpgibloeinphaaaGreatDoor
theorem lexT_fit : ∀ (M m a : Nat) (l : List UInt8) (ts : List Tk),lexT M a l = .ok ts → ts.length ≤ m → lexT m a l = .ok ts
 | 0,m,a,l,ts,h,_ => by
  rw [lexT] at h
  split at h
  ·rename_i hd
   cases h
   cases m with
   | zero => rw [lexT,hd]
   | succ m => rw [lexT,hd]
  ·cases h
 | M + 1,m,a,l,ts,h,hm => by
  rw [lexT] at h
  split at h
  ·rename_i hd
   cases h
   cases m with
   | zero => rw [lexT,hd]
   | succ m => rw [lexT,hd]
  ·rename_i c r hd
   split at h
   ·cases h
   ·rename_i k t n z ht
    split at h
    ·cases h
    ·rename_i us h2
     cases h
     cases m with
     | zero => simp at hm
     | succ m =>
      have := lexT_fit M m _ _ us h2 (by simpa using hm)
      rw [lexT,hd]
      simp only [ht,this]
theorem name_one {l : List UInt8} (h : (aloneK l == 1 && !meansB l) = true) : ∃ n a,lexT 120 0 l = .ok [⟨1,l,n,a⟩] ∧ meansB l = false := by
 rw [Bool.and_eq_true,beq_iff_eq,Bool.not_eq_true'] at h
 obtain ⟨h1,h2⟩ := h
 unfold aloneK at h1
 split at h1
 ·rename_i t ht
  split at h1
  ·rename_i hs
   obtain ⟨k,s,n,a⟩ := t
   simp only at h1 hs
   subst h1 hs
   exact ⟨n,a,ht,h2⟩
  ·cases h1
 ·cases h1
theorem lex_behind {l more : List UInt8} {ts ms : List Tk} (h1 : lexT 120 0 l = .ok ts) (h2 : lexT 120 0 more = .ok ms) (hn : ts.length + ms.length ≤ 120) : ∃ us,lexT 120 0 (l ++ 32 :: more) = .ok (ts ++ us) ∧ us.map key = ms.map key := by
 obtain ⟨us,h3,h4⟩ := lexT_key (b := 0 + l.length + 1) h2
 rw [Nat.zero_add (0 + l.length + 1)] at h3
 have hl : us.length = ms.length := by
  have := congrArg List.length h4
  simpa using this
 have h5 := lexT_fit 120 (120 - ts.length) _ _ us h3 (by omega)
 refine ⟨us,?_,h4⟩
 rw [lexT_ahead (32 :: more) (.inr ⟨_,rfl⟩) 120 0 l ts h1,lexT_blank _ _ _ _ (by decide),h5]
 rfl
theorem key_one {us : List Tk} {k n : Int} {l : List UInt8} {a : Nat} (h : us.map key = [(⟨k,l,n,a⟩ : Tk)].map key) : ∃ b,us = [⟨k,l,n,b⟩] := by
 match us with
 | [] => simp at h
 | [u] =>
  obtain ⟨k',s',n',b⟩ := u
  simp [key] at h
  obtain ⟨rfl,rfl,rfl⟩ := h
  exact ⟨b,rfl⟩
 | _ :: _ :: _ => simp at h
theorem lex_word_name {wd l : List UInt8} {t : Tk} (hw : lexT 120 0 wd = .ok [t]) (h : (aloneK l == 1 && !meansB l) = true) : ∃ n a,lexT 120 0 (wd ++ 32 :: l) = .ok [t,⟨1,l,n,a⟩] ∧ meansB l = false := by
 obtain ⟨n,a,h1,h2⟩ := name_one h
 obtain ⟨us,h3,h4⟩ := lex_behind hw h1 (by simp)
 obtain ⟨b,rfl⟩ := key_one h4
 exact ⟨n,b,h3,h2⟩
end Go.Proofs.YtpgibloeinphaaaGreatDoor
namespace Go.Proofs.YtpgibloeinphaaaGreatDoor
theorem kind_head {k : Nat} (h1 : 1 ≤ k) (h2 : k ≤ 12) (n : Int) (a : Nat) (r : List Tk) : kindAt (⟨1,lwL k,n,a⟩ :: r) 0 = k := by
 rcases (by omega : k = 1 ∨ k = 2 ∨ k = 3 ∨ k = 4 ∨ k = 5 ∨ k = 6 ∨ k = 7 ∨ k = 8 ∨ k = 9 ∨ k = 10 ∨ k = 11 ∨ k = 12) with rfl | rfl | rfl | rfl | rfl | rfl | rfl | rfl | rfl | rfl | rfl | rfl <;> rfl
theorem lex_lw {k : Nat} (h1 : 1 ≤ k) (h2 : k ≤ 12) : lexT 120 0 (lwL k) = .ok [⟨1,lwL k,0,0⟩] := by
 rcases (by omega : k = 1 ∨ k = 2 ∨ k = 3 ∨ k = 4 ∨ k = 5 ∨ k = 6 ∨ k = 7 ∨ k = 8 ∨ k = 9 ∨ k = 10 ∨ k = 11 ∨ k = 12) with rfl | rfl | rfl | rfl | rfl | rfl | rfl | rfl | rfl | rfl | rfl | rfl <;> rfl
theorem line_one {k : Nat} (hk : k = 1 ∨ k = 3 ∨ k = 4 ∨ k = 5) {l : List UInt8} (hl : nmB l = true) : parseL (lwL k ++ 32 :: l) = .ok { ln0 k with name := l } := by
 obtain ⟨n,a,h1,h2⟩ := lex_word_name (lex_lw (k := k) (by omega) (by omega)) hl
 unfold parseL
 rw [h1]
 have e1 : nameAt [⟨1,lwL k,0,0⟩,⟨1,l,n,a⟩] 1 = some l := by simp [nameAt,h2]
 have e2 : nameAt [⟨1,lwL k,0,0⟩,⟨1,l,n,a⟩] 2 = none := rfl
 simp only [lineT,kind_head (k := k) (by omega) (by omega)]
 rw [if_neg (by omega)]
 unfold restL
 rw [if_neg (by omega),if_neg (by omega),if_neg (by omega),if_neg (by omega)]
 unfold namedL
 rw [e1]
 simp only [e2]
 rcases hk with rfl | rfl | rfl | rfl <;> rfl
end Go.Proofs.YtpgibloeinphaaaGreatDoor
