import Derived.Test.YtphdnfijefddlaaDoorT2
import Derived.WalkKit
import Derived.ProofKit
import Derived.OpenShut
import Derived.Handy
import Derived.BigQuiet
import Derived.Lib.Hide
import Derived.WalkSmall
import Derived.Deep.MidRow
import Derived.WalkLawsBesides
import Derived.OwnWalk
import Derived.Deep.AppendLies
namespace Go.Proofs.YtphdnfijefddlaaDoor
open Go.RowKit
/-- A token's cells. -/
def tkC (t : Tk) : List Value := [.int .i64 t.k, .string ⟨t.s.toArray⟩, .int .i64 t.n, .int .i64 (t.a : Int)]
def tksC (ts : List Tk) : List Value := ts.flatMap tkC
theorem tksC_snoc (ts : List Tk) (t : Tk) : tksC (ts ++ [t]) = tksC ts ++ tkC t := by simp [tksC]
theorem owns_below {w w' : World} {b e s : Nat} {v : Value} {n : Nat} {xs : List Value} (h : w.ownsRow b e s v n xs) (hb : Below w.heap.size w w') : w'.ownsRow b e s v n xs := by
  refine ⟨h.1, ?_⟩
  rcases h.2 with hn | ⟨g, cap, cur, rfl, hg, hgg, rest⟩
  · exact .inl hn
  · refine .inr ⟨g, cap, cur, rfl, hg, ?_, rest⟩
    rw [hb.block g (Array.getElem?_eq_some_iff.1 hgg).1]
    exact hgg
/-- What lexing a line answers; ty: the tokens' type. -/
def LexIs (ty : TypeId) (l : List UInt8) (w : World) (e : Ending) (w' : World) : Prop :=
  match lexT 120 0 l with
  | .ok ts => ∃ v, e = .returned (.tuple #[v, .int .i64 0, .int .i64 0]) ∧ w'.ownsRow w.heap.size ty 4 v ts.length (tksC ts) ∧ Below w.heap.size w w'
  | .error (x, p) => e = .returned (.tuple #[.slice none 0 0, .int .i64 x, .int .i64 (p : Int)]) ∧ Below w.heap.size w w'
theorem lexIs_ok {ty : TypeId} {l : List UInt8} {w : World} {e : Ending} {w' : World} {ts : List Tk} (h : lexT 120 0 l = .ok ts) :
    LexIs ty l w e w' = ∃ v, e = .returned (.tuple #[v, .int .i64 0, .int .i64 0]) ∧ w'.ownsRow w.heap.size ty 4 v ts.length (tksC ts) ∧ Below w.heap.size w w' := by unfold LexIs; rw [h]
theorem lexIs_err {ty : TypeId} {l : List UInt8} {w : World} {e : Ending} {w' : World} {x : Int} {p : Nat} (h : lexT 120 0 l = .error (x, p)) :
    LexIs ty l w e w' = (e = .returned (.tuple #[.slice none 0 0, .int .i64 x, .int .i64 (p : Int)]) ∧ Below w.heap.size w w') := by unfold LexIs; rw [h]
/-- Where the lexer stands: ts are the tokens so far, p is the place. -/
def AtL (l : List UInt8) (ts : List Tk) (p : Nat) : Prop := ts.length ≤ 120 ∧ lexT 120 0 l = pre ts (lexT (120 - ts.length) p (l.drop p))
theorem atL_zero (l : List UInt8) : AtL l [] 0 := ⟨by simp, by rw [pre_nil]; rfl⟩
theorem atL_end {l : List UInt8} {ts : List Tk} {p : Nat} (hp : l.length ≤ p) (h : AtL l ts p) : lexT 120 0 l = .ok ts := by
  rw [h.2, List.drop_of_length_le hp, lexT_end]
  simp [pre]
theorem atL_many {l : List UInt8} {ts : List Tk} {p : Nat} {c : UInt8} {r : List UInt8} (hl : l.drop p = c :: r) (hb : ((c.toNat : Int) == 32) = false) (hn : ts.length = 120) (h : AtL l ts p) : lexT 120 0 l = .error (13, p) := by
  rw [h.2, hl, hn, Nat.sub_self, lexT_many _ _ _ hb]
  rfl
theorem atL_bad {l : List UInt8} {ts : List Tk} {p : Nat} {c : UInt8} {r : List UInt8} {x : Int} (hl : l.drop p = c :: r) (hb : ((c.toNat : Int) == 32) = false) (hn : ts.length < 120) (ht : tokT (c :: r) = .error x) (h : AtL l ts p) : lexT 120 0 l = .error (x, p) := by
  obtain ⟨m, hm⟩ : ∃ m, 120 - ts.length = m + 1 := ⟨120 - ts.length - 1, by omega⟩
  rw [h.2, hl, hm, lexT_bad _ _ _ _ _ hb ht]
  rfl
theorem atL_tok {l : List UInt8} {ts : List Tk} {p : Nat} {c : UInt8} {r : List UInt8} {k : Int} {t : List UInt8} {n : Int} {z : Nat} (hl : l.drop p = c :: r) (hb : ((c.toNat : Int) == 32) = false) (hn : ts.length < 120) (ht : tokT (c :: r) = .ok (k, t, n, z)) (h : AtL l ts p) : AtL l (ts ++ [⟨k, t, n, p⟩]) (p + z) := by
  obtain ⟨m, hm⟩ : ∃ m, 120 - ts.length = m + 1 := ⟨120 - ts.length - 1, by omega⟩
  refine ⟨by simp; omega, ?_⟩
  rw [h.2, hl, hm, lexT_tok _ _ _ _ _ _ _ _ hb ht, pre_pre]
  rw [← hl, List.drop_drop]
  congr 2
  simp; omega
theorem wordT_len {c : UInt8} {r : List UInt8} {k : Int} {t : List UInt8} {n : Int} {z : Nat} (hc : letB c = true) (h : wordT (c :: r) = .ok (k, t, n, z)) : 1 ≤ z ∧ z ≤ (c :: r).length ∧ t.length ≤ z := by
  have hw : wordL (c :: r) = true := by simp [wordL, innB, hc]
  have hs := spanL_le wordL (c :: r)
  have h1 := span_yes hw
  unfold wordT at h
  simp only at h
  split at h
  · cases h
  · simp only [Except.ok.injEq, Prod.mk.injEq] at h
    obtain ⟨_, rfl, _, rfl⟩ := h
    rw [List.length_take]
    omega
theorem numT_len {c : UInt8} {r : List UInt8} {k : Int} {t : List UInt8} {n : Int} {z : Nat} (hc : digB c = true) (h : numT (c :: r) = .ok (k, t, n, z)) : 1 ≤ z ∧ z ≤ (c :: r).length ∧ t.length ≤ z := by
  have hs := spanL_le digL (c :: r)
  have h1 := span_yes (p := digL) (c := c) (r := r) hc
  unfold numT at h
  simp only at h
  split at h
  · cases h
  · split at h
    · cases h
    · simp only [Except.ok.injEq, Prod.mk.injEq] at h
      obtain ⟨_, rfl, _, rfl⟩ := h
      rw [List.length_take]
      omega
theorem quoT_len {c : UInt8} {r : List UInt8} {k : Int} {t : List UInt8} {n : Int} {z : Nat} (h : quoT r = .ok (k, t, n, z)) : 1 ≤ z ∧ z ≤ (c :: r).length ∧ t.length ≤ z := by
  have hs := spanL_le textL r
  unfold quoT at h
  simp only at h
  split at h
  · cases h
  · split at h
    · cases h
    · split at h
      · simp only [Except.ok.injEq, Prod.mk.injEq] at h
        obtain ⟨_, rfl, _, rfl⟩ := h
        rw [List.length_take, List.length_cons]
        omega
      · cases h
theorem sgnT_len {c : UInt8} {r : List UInt8} {k : Int} {t : List UInt8} {n : Int} {z : Nat} (h : sgnT c r = .ok (k, t, n, z)) : 1 ≤ z ∧ z ≤ (c :: r).length ∧ t.length ≤ z := by
  unfold sgnT at h
  split at h
  · rename_i h2
    simp only [Except.ok.injEq, Prod.mk.injEq] at h
    obtain ⟨_, rfl, _, rfl⟩ := h
    cases r with
    | nil => simp [eqL] at h2
    | cons d r => simp
  · split at h
    · simp only [Except.ok.injEq, Prod.mk.injEq] at h
      obtain ⟨_, rfl, _, rfl⟩ := h
      simp
    · cases h
theorem tokT_len {l : List UInt8} {k : Int} {t : List UInt8} {n : Int} {z : Nat} (h : tokT l = .ok (k, t, n, z)) : 1 ≤ z ∧ z ≤ l.length ∧ t.length ≤ z := by
  cases l with
  | nil => cases h
  | cons c r =>
    rw [tokT] at h
    split at h
    · exact wordT_len ‹_› h
    · split at h
      · exact numT_len ‹_› h
      · split at h
        · exact quoT_len h
        · exact sgnT_len h
theorem tokT_err {l : List UInt8} {x : Int} (h : tokT l = .error x) : (x == 0) = false := by
  rw [beq_eq_false_iff_ne]
  rintro rfl
  cases l with
  | nil => cases h
  | cons c r =>
    simp only [tokT, wordT, numT, quoT, sgnT] at h
    repeat (first | (split at h) | (cases h))
end Go.Proofs.YtphdnfijefddlaaDoor

