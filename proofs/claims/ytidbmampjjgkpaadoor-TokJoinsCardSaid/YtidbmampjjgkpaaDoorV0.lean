import Derived.Test.YtidbmampjjgkpaaDoorT4
import Derived.WalkKit
import Derived.ProofKit
import Derived.OpenShut
import Derived.Handy
import Derived.BigQuiet
import Derived.OwnWalk
import Derived.Lib.Hide
import Derived.WalkSmall
import Derived.WalkLawsBesides
namespace Go.Proofs.YtidbmampjjgkpaaDoor
open Go.RowKit
/-- The tokens ts lie in block g. -/
def Toks (w : World) (g : Nat) (ts : List Tk) : Prop := ∀ i (h : i < ts.length), w.cell? ⟨g, i * 4, none⟩ = some (.int .i64 ts[i].k) ∧ w.cell? ⟨g, i * 4 + 1, none⟩ = some (.string ⟨ts[i].s.toArray⟩) ∧
  w.cell? ⟨g, i * 4 + 2, none⟩ = some (.int .i64 ts[i].n) ∧ w.cell? ⟨g, i * 4 + 3, none⟩ = some (.int .i64 (ts[i].a : Int))
theorem tksC_length : ∀ ts : List Tk, (tksC ts).length = ts.length * 4
  | [] => rfl
  | t :: r => by
    have := tksC_length r
    unfold tksC at *
    rw [List.flatMap_cons, List.length_append, this]
    simp [tkC]; omega
theorem tksC_at : ∀ (ts : List Tk) (i : Nat) (h : i < ts.length) (j : Nat), j < 4 → (tksC ts)[i * 4 + j]? = (tkC ts[i])[j]?
  | [], i, h, _, _ => absurd h (Nat.not_lt_zero _)
  | t :: r, 0, _, j, hj => by
    unfold tksC
    rw [List.flatMap_cons, Nat.zero_mul, Nat.zero_add, List.getElem?_append_left (by simpa [tkC] using hj)]
    rfl
  | t :: r, i + 1, h, j, hj => by
    have ih := tksC_at r i (by simpa using h) j hj
    unfold tksC at *
    rw [List.flatMap_cons, List.getElem?_append_right (by simp [tkC]; omega), show (i + 1) * 4 + j - (tkC t).length = i * 4 + j by simp [tkC]; omega, ih]
    rfl
theorem owns_head {w : World} {b e : Nat} {v : Value} {ts : List Tk} (h : w.ownsRow b e 4 v ts.length (tksC ts)) :
    (v = .slice none 0 0 ∧ ts = []) ∨ ∃ g cap, v = .slice (some ⟨g, 0, none⟩) ts.length cap ∧ b ≤ g ∧ g < w.heap.size ∧ Toks w g ts := by
  rcases h.2 with ⟨hv, hn⟩ | ⟨g, cap, cur, hv, hb, hg, _⟩
  · exact .inl ⟨hv, List.eq_nil_of_length_eq_zero hn⟩
  · refine .inr ⟨g, cap, hv, hb, (Array.getElem?_eq_some_iff.1 hg).1, ?_⟩
    have hc := h.cells (g := g) (by rw [hv]; rfl)
    have hadd : ∀ j, (⟨g, 0, none⟩ : Addr).add j = ⟨g, j, none⟩ := fun j => by unfold Addr.add; split <;> simp_all
    intro i hi
    refine ⟨?_, ?_, ?_, ?_⟩
    · rw [← hadd]; exact hc _ _ ((tksC_at ts i hi 0 (by decide)).trans rfl)
    · rw [← hadd]; exact hc _ _ ((tksC_at ts i hi 1 (by decide)).trans rfl)
    · rw [← hadd]; exact hc _ _ ((tksC_at ts i hi 2 (by decide)).trans rfl)
    · rw [← hadd]; exact hc _ _ ((tksC_at ts i hi 3 (by decide)).trans rfl)
theorem toks_below {w w' : World} {g : Nat} {ts : List Tk} (h : Toks w g ts) (hg : g < w.heap.size) (hb : Below w.heap.size w w') : Toks w' g ts := by
  intro i hi
  obtain ⟨h1, h2, h3, h4⟩ := h i hi
  exact ⟨(hb.cell (p := ⟨g, _, none⟩) hg).trans h1, (hb.cell (p := ⟨g, _, none⟩) hg).trans h2, (hb.cell (p := ⟨g, _, none⟩) hg).trans h3, (hb.cell (p := ⟨g, _, none⟩) hg).trans h4⟩
def lineA : ByteArray := ⟨#[120, 49, 60, 61, 97, 46, 98]⟩
theorem line_toks : lexT 120 0 lineA.data.toList = .ok [⟨1, [120, 49], 0, 0⟩, ⟨5, [60, 61], 0, 2⟩, ⟨2, [97, 46, 98], 0, 4⟩] := by kernel_rfl
set_option maxRecDepth 100000 in
set_option maxHeartbeats 1000000 in
theorem anchor2_any (w : World) (hw : Lb w) : Calls Tryd.prog 32 #[] w (Ret (.bool true) w) := by
  have T := tlex_any lineA (by decide) w hw
  have T := T.mono fun e w' h => (lexIs_ok line_toks).mp h
  replace T := Lib.hid T
  go_enter Tryd.func32, Tryd.ntmps32
  go_wp2_with fail
  refine T.out.mono ?_
  intro e w1 hr
  obtain ⟨v, rfl, hown, hb⟩ := hr
  rcases owns_head hown with ⟨_, hn⟩ | ⟨g, cap, rfl, hg, hgl, ht⟩
  · cases hn
  · have c0 := ht 0 (by decide)
    have c1 := ht 1 (by decide)
    have c2 := ht 2 (by decide)
    simp only [List.length_cons, List.length_nil] at *
    obtain ⟨a0, a1, a2, a3⟩ := c0
    obtain ⟨b0, b1, b2, b3⟩ := c1
    obtain ⟨d0, d1, d2, d3⟩ := c2
    simp only [Nat.zero_mul, Nat.one_mul, Nat.reduceMul, Nat.reduceAdd, Nat.zero_add, List.getElem_cons_zero, List.getElem_cons_succ] at a0 a1 a2 a3 b0 b1 b2 b3 d0 d1 d2 d3
    clear ht hown T
    go_wp2
    go_returns
    exact ⟨rfl, by repeat' (first | (with_reducible exact Below.refl _ _) | (with_reducible assumption) | (with_reducible refine Below.alloc ?_ ?_ _) | (with_reducible refine Below.drew ?_) | (with_reducible refine belowN ?_ _) | (with_reducible refine Below.setCell ?_ ?_ _) | (with_reducible refine belowG ?_ ?_) | (with_reducible exact Nat.le_refl _) | (with_reducible refine le_sizeG ?_) | (with_reducible refine le_sizeA ?_) | (with_reducible refine le_sizeC ?_) | (with_reducible refine le_sizeD ?_) | (with_reducible refine le_sizeN ?_) | go_size | (simp [go_sem]; done))⟩
/-- Lex's answer at a line that has tokens. -/
def SlIs (ts : List Tk) (w : World) (e : Ending) (w' : World) : Prop := ∃ ao cap, e = .returned (.tuple #[.slice ao ts.length cap, .int .i64 0, .int .i64 0]) ∧ (0 < ts.length → ∃ g, ao = some ⟨g, 0, none⟩ ∧ g < w'.heap.size ∧ Toks w' g ts) ∧ Below w.heap.size w w'
theorem lex_sl {ty : TypeId} {l : List UInt8} {w : World} {e : Ending} {w' : World} {ts : List Tk} (h : lexT 120 0 l = .ok ts) (hr : LexIs ty l w e w') : SlIs ts w e w' := by
  obtain ⟨v, he, hown, hb⟩ := (lexIs_ok h).mp hr
  rcases owns_head hown with ⟨rfl, rfl⟩ | ⟨g, cap, rfl, hg, hgl, ht⟩
  · exact ⟨none, 0, he, fun h => absurd h (Nat.lt_irrefl _), hb⟩
  · exact ⟨_, cap, he, fun _ => ⟨g, rfl, hgl, ht⟩, hb⟩
theorem lexT_count {m a : Nat} {l : List UInt8} {ts : List Tk} (h : lexT m a l = .ok ts) : ts.length ≤ m := by
  induction m generalizing a l ts with
  | zero =>
    rw [lexT] at h
    split at h
    · cases h; exact Nat.le_refl _
    · cases h
  | succ m ih =>
    rw [lexT] at h
    split at h
    · cases h; simp
    · split at h
      · cases h
      · split at h
        · cases h
        · rename_i h2
          cases h
          have := ih h2
          simp; omega
theorem lexT_err {m a : Nat} {l : List UInt8} {x : Int} {j : Nat} (h : lexT m a l = .error (x, j)) : (x == 0) = false := by
  induction m generalizing a l with
  | zero =>
    rw [lexT] at h
    split at h
    · cases h
    · cases h; decide
  | succ m ih =>
    rw [lexT] at h
    split at h
    · cases h
    · split at h
      · rename_i h2
        cases h
        exact tokT_err h2
      · split at h
        · rename_i h2
          cases h
          exact ih h2
        · cases h
end Go.Proofs.YtidbmampjjgkpaaDoor
