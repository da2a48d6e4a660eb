import Derived.Test.YtphdnfijefddlaaDoorT4
import Derived.WalkKit
import Derived.ProofKit
import Derived.OpenShut
import Derived.Handy
import Derived.BigQuiet
import Derived.OwnWalk
import Derived.Lib.Hide
import Derived.WalkSmall
import Derived.WalkLawsBesides
namespace Go.Proofs.YtphdnfijefddlaaDoor
open Go.RowKit
/-- The tokens ts lie in block g. -/
def Toks (w : World) (g : Nat) (ts : List Tk) : Prop := ∀ i (h : i < ts.length), w.cell? ⟨g, i * 4, none⟩ = some (.int .i64 ts[i].k) ∧ w.cell? ⟨g, i * 4 + 1, none⟩ = some (.string ⟨ts[i].s.toArray⟩) ∧
  w.cell? ⟨g, i * 4 + 2, none⟩ = some (.int .i64 ts[i].n) ∧ w.cell? ⟨g, i * 4 + 3, none⟩ = some (.int .i64 (ts[i].a : Int))
theorem tksC_at : ∀ (ts : List Tk) (i : Nat) (h : i < ts.length) (j : Nat), j < 4 → (tksC ts)[i * 4 + j]? = (tkC ts[i])[j]?
  | [], i, h, _, _ => absurd h (Nat.not_lt_zero _)
  | t :: r, 0, _, j, hj => by
    unfold tksC
    rw [List.flatMap_cons, Nat.zero_mul, Nat.zero_add, List.getElem?_append_left (by simpa [tkC] using hj)]
    rfl
  | t :: r, i + 1, h, j, hj => by
    have ih := tksC_at r i (by simpa using h) j hj
    unfold tksC at *
    rw [List.flatMap_cons, List.getElem?_append_right (by simp [tkC]; omega), show (i + 1) * 4 + j - (tkC t).length = i * 4 + j by simp [tkC]; omega, ih]
    rfl
theorem owns_head {w : World} {b e : Nat} {v : Value} {ts : List Tk} (h : w.ownsRow b e 4 v ts.length (tksC ts)) :
    (v = .slice none 0 0 ∧ ts = []) ∨ ∃ g cap, v = .slice (some ⟨g, 0, none⟩) ts.length cap ∧ b ≤ g ∧ g < w.heap.size ∧ Toks w g ts := by
  rcases h.2 with ⟨hv, hn⟩ | ⟨g, cap, cur, hv, hb, hg, _⟩
  · exact .inl ⟨hv, List.eq_nil_of_length_eq_zero hn⟩
  · refine .inr ⟨g, cap, hv, hb, (Array.getElem?_eq_some_iff.1 hg).1, ?_⟩
    have hc := h.cells (g := g) (by rw [hv]; rfl)
    have hadd : ∀ j, (⟨g, 0, none⟩ : Addr).add j = ⟨g, j, none⟩ := fun j => by unfold Addr.add; split <;> simp_all
    intro i hi
    refine ⟨?_, ?_, ?_, ?_⟩
    · rw [← hadd]; exact hc _ _ ((tksC_at ts i hi 0 (by decide)).trans rfl)
    · rw [← hadd]; exact hc _ _ ((tksC_at ts i hi 1 (by decide)).trans rfl)
    · rw [← hadd]; exact hc _ _ ((tksC_at ts i hi 2 (by decide)).trans rfl)
    · rw [← hadd]; exact hc _ _ ((tksC_at ts i hi 3 (by decide)).trans rfl)
/-- Lex's answer at a line that has tokens. -/
def SlIs (ts : List Tk) (w : World) (e : Ending) (w' : World) : Prop := ∃ ao cap, e = .returned (.tuple #[.slice ao ts.length cap, .int .i64 0, .int .i64 0]) ∧ (0 < ts.length → ∃ g, ao = some ⟨g, 0, none⟩ ∧ g < w'.heap.size ∧ Toks w' g ts) ∧ Below w.heap.size w w'
theorem lex_sl {ty : TypeId} {l : List UInt8} {w : World} {e : Ending} {w' : World} {ts : List Tk} (h : lexT 120 0 l = .ok ts) (hr : LexIs ty l w e w') : SlIs ts w e w' := by
  obtain ⟨v, he, hown, hb⟩ := (lexIs_ok h).mp hr
  rcases owns_head hown with ⟨rfl, rfl⟩ | ⟨g, cap, rfl, hg, hgl, ht⟩
  · exact ⟨none, 0, he, fun h => absurd h (Nat.lt_irrefl _), hb⟩
  · exact ⟨_, cap, he, fun _ => ⟨g, rfl, hgl, ht⟩, hb⟩
theorem lexT_err {m a : Nat} {l : List UInt8} {x : Int} {j : Nat} (h : lexT m a l = .error (x, j)) : (x == 0) = false := by
  induction m generalizing a l with
  | zero =>
    rw [lexT] at h
    split at h
    · cases h
    · cases h; decide
  | succ m ih =>
    rw [lexT] at h
    split at h
    · cases h
    · split at h
      · rename_i h2
        cases h
        exact tokT_err h2
      · split at h
        · rename_i h2
          cases h
          exact ih h2
        · cases h
end Go.Proofs.YtphdnfijefddlaaDoor

