/- A range over a function that gives a list's things, one by one: what the function does, and the range. -/
import Derived.Test.YtniecghigmgbnaaDoorChecked
import Derived.Test.YtniecghigmgbnaaDoorQ0
import Derived.Test.YtniecghigmgbnaaDoorMS
import Derived.Test.YtniecghigmgbnaaDoorMJ
import Derived.RangeFuncNested
import Derived.RangeFuncCalls
import Derived.RangeFuncLeaves
import Derived.WalkKit
import Derived.OwnWalkIn
import Derived.TacticsInMore
import Derived.LoopNIn
import Derived.LoopIn
namespace Go.Proofs.YtniecghigmgbnaaDoor
open Go.RowKit
/-- A function that is ranged over gives these, in their order, as far as they are asked; between two rounds it asks for no more than Keep. -/
def GivesL (n gf : Nat) (lb : Array Value) (vs : List (Array Value)) (Keep : World → Prop) : Prop :=
  ∀ (l : Nat) (J Jx : Nat → World → Prop), (∀ j W, J j W → Keep W) →
    (∀ j (hj : j < vs.length) W, J j W → YieldAt Fence.wide (n - 1) Tryd.prog l vs[j] W fun e W' => (e = .returned (.bool true) ∧ J (j + 1) W') ∨ (e = .returned (.bool false) ∧ Jx j W')) →
    ∀ W, J 0 W → CallsIn Fence.wide n Tryd.prog gf (#[.func (.yield l) #[] #[]] ++ lb) W fun e W' => (∃ v, e = .returned v) ∧ (J vs.length W' ∨ ∃ j, j < vs.length ∧ Jx j W')
/-- How a round may end. -/
def roundG (H : Nat) (I : Nat → World → Prop) (Ix : Code → Nat → World → Prop) (j : Nat) (W : World) : Exit → Act → World → Prop
  | .normal, _, W' => (∀ k, k = H ∨ k = H + 1 → W'.heap[k]? = W.heap[k]?) ∧ I (j + 1) W'
  | .ret, _, W' => (∀ k, k = H ∨ k = H + 1 → W'.heap[k]? = W.heap[k]?) ∧ Ix .ret j W'
  | .exit id, _, W' => (∀ k, k = H ∨ k = H + 1 → W'.heap[k]? = W.heap[k]?) ∧ Ix (.exit id) j W'
  | .goto _, _, _ => False
  | .panic _, _, _ => False
  | .outgrown, _, _ => False
theorem range_gen {g : Operand} {ps : Array Tmp} {assign body : Code} {Q : Exit → Act → World → Prop} {a : Act} {w : World} {n gf : Nat} {lb : Array Value} {vs : List (Array Value)} {Keep : World → Prop} (hn : 1 ≤ n)
    (hgf : ∀ args wx, (callFunc gf args).run Tryd.prog wx = .ok (.enter gf args) wx) (hg : a.eval g = .func (.func gf) #[] lb) (hps : ∀ j (hj : j < vs.length), vs[j].size = ps.size) (C : GivesL (n - 1) gf lb vs Keep)
    (I : Nat → World → Prop) (Ix : Code → Nat → World → Prop) (hK : ∀ j W, I j W → Keep W)
    (hI : ∀ p W W' r, I p W → W.grownBy W' (some (w.heap.size + 1)) → W.heap[w.heap.size + 1]? = some (.loop r) → I p W') (hIx : ∀ c p W W' r, Ix c p W → W.grownBy W' (some (w.heap.size + 1)) → W.heap[w.heap.size + 1]? = some (.loop r) → Ix c p W')
    (h0 : ∀ o o', I 0 ((w.alloc o).alloc o')) (a₁ : Nat → Act)
    (hassign : ∀ (l j : Nat) (hj : j < vs.length) (W : World) (K : Act → World → Prop), K (a₁ j) W →
      assign.wpIn (Fence.wide.inRound l) (n - 1 - 1) Tryd.prog (Exit.then K (fun _ _ _ => False)) { tmps := (ps.zip vs[j]).foldl (fun t (p, v) => t.setIfInBounds p v) a.tmps, defers := [] } W)
    (hbody : ∀ (l j : Nat) (_ : j < vs.length) (W : World), I j W → W.heap[w.heap.size]? = some (.deferred (some [])) → (∃ r, W.heap[w.heap.size + 1]? = some (.loop r)) → body.wpIn (Fence.wide.inRound l) (n - 1 - 1) Tryd.prog (roundG w.heap.size I Ix j W) (a₁ j) W)
    (hdone : ∀ (D : Nat) (W : World), D = w.heap.size → I vs.length W → W.heap[D]? = some (.deferred (some [])) → Q .normal { a with defers := { target := .collected D, args := #[] } :: a.defers } W)
    (hstop : ∀ (c : Code) (D j : Nat) (W : World), D = w.heap.size → j < vs.length → Ix c j W → W.heap[D]? = some (.deferred (some [])) → c.wpIn Fence.wide n Tryd.prog Q { a with defers := { target := .collected D, args := #[] } :: a.defers } W) :
    (Code.rangeFunc g ps assign body).wpIn Fence.wide n Tryd.prog Q a w := by
  refine wpIn_rangeFunc fun fn hfn => ?_
  obtain ⟨H, hH⟩ : ∃ H, w.heap.size = H := ⟨_, rfl⟩
  rw [hH] at hI hIx
  obtain ⟨W1, hW1⟩ : ∃ W1, (w.alloc (.deferred (some []))).alloc (.loop (recL fn a.tmps ps assign body H .ready none)) = W1 := ⟨_, rfl⟩
  have hl1 : W1.heap[H + 1]? = some (.loop (recL fn a.tmps ps assign body H .ready none)) := by
    have := World.alloc_heap_new (w.alloc (.deferred (some []))) (.loop (recL fn a.tmps ps assign body H .ready none))
    rwa [World.size_alloc, hH, hW1] at this
  have hk1 : W1.heap[H]? = some (.deferred (some [])) := by
    rw [← hW1, ← hH]
    exact (Below.heap_alloc _ _ _ (by simp)).trans (World.alloc_heap_new w _)
  refine ⟨H + 1, [{ target := .collected H, args := #[] }], W1, { target := .fn (.func gf) lb, args := #[.func (.yield (H + 1)) #[] #[]] }, W1, gf, #[.func (.yield (H + 1)) #[] #[]] ++ lb, W1, ?_, ?_, fun _ _ => trivial, ?_, fun _ => hn, ?_⟩
  · rw [← hW1, ← hH]
    exact run_enterLoop_outer _ _ _ _ _
  · simp only [resolve, hg]
    simp [go_sem]
  · simp only [invoke]
    exact hgf _ _
  have turn : ∀ (W : World) (o' : Obj), W.grownBy (W.putObj (H + 1) o') (some (H + 1)) := fun W o' => grownBy_putObj' W (H + 1) o'
  refine (C (H + 1)
    (fun j W => I j W ∧ W.heap[H + 1]? = some (.loop (recL fn a.tmps ps assign body H .ready none)) ∧ W.heap[H]? = some (.deferred (some [])))
    (fun j W => ∃ c, Ix c j W ∧ W.heap[H + 1]? = some (.loop (recL fn a.tmps ps assign body H .done (some c))) ∧ W.heap[H]? = some (.deferred (some [])))
    (fun j W h => hK j W h.1) (fun j hj W h => ?_) W1 ⟨by rw [← hW1]; exact h0 _ _, hl1, hk1⟩).mono ?_
  · obtain ⟨hi, hl, hd⟩ := h
    have hlt := (Array.getElem?_eq_some_iff.1 hl).1
    refine ⟨fn, _, assign, body, run_yield hl (hps j hj), roundIn_of_wpIn trivial (hassign _ j hj W _ ⟨_, run_beginRound hl rfl, ?_⟩)⟩
    obtain ⟨W2, hW2⟩ : ∃ W2, W.putObj (H + 1) (.loop { recL fn a.tmps ps assign body H .ready none with state := .busy }) = W2 := ⟨_, rfl⟩
    rw [hW2]
    have g2 : W.grownBy W2 (some (H + 1)) := hW2 ▸ turn W _
    have hl2 : W2.heap[H + 1]? = some (.loop (recL fn a.tmps ps assign body H .busy none)) := hW2 ▸ World.putObj_heap_same hlt
    have hd2 : W2.heap[H]? = some (.deferred (some [])) := (g2.block _ (by omega) (by simp)).trans hd
    refine wpIn_mono (hbody _ j hj W2 (hI _ _ _ _ hi g2 hl) (by rw [hH]; exact hd2) ⟨_, by rw [hH]; exact hl2⟩) ?_
    rw [hH]
    rintro e a3 W3 hp
    have fin : ∀ (jump : Option Code), W3.heap[H + 1]? = W2.heap[H + 1]? → (Instr.endRound (H + 1) jump).run Tryd.prog W3 = .ok (.bool jump.isNone) (W3.putObj (H + 1) (.loop (recL fn a.tmps ps assign body H (if jump.isNone then .ready else .done) jump))) ∧
        (W3.putObj (H + 1) (.loop (recL fn a.tmps ps assign body H (if jump.isNone then .ready else .done) jump))).heap[H + 1]? = some (.loop (recL fn a.tmps ps assign body H (if jump.isNone then .ready else .done) jump)) := fun jump he => by
      have h3 := he.trans hl2
      exact ⟨run_endRound jump h3, World.putObj_heap_same (Array.getElem?_eq_some_iff.1 h3).1⟩
    have fd : ∀ o', W3.heap[H]? = W2.heap[H]? → (W3.putObj (H + 1) o').heap[H]? = some (.deferred (some [])) := fun o' he => by
      have h3 := he.trans hd2
      exact ((turn W3 o').block _ (Array.getElem?_eq_some_iff.1 h3).1 (by simp)).trans h3
    cases e with
    | normal =>
      obtain ⟨hs3, hi3⟩ := hp
      obtain ⟨hr, hl4⟩ := fin none (hs3 _ (by simp))
      exact ⟨_, _, hr, .inl ⟨rfl, hI _ _ _ _ hi3 (turn W3 _) ((hs3 _ (by simp)).trans hl2), hl4, fd _ (hs3 _ (by simp))⟩⟩
    | ret =>
      obtain ⟨hs3, hi3⟩ := hp
      obtain ⟨hr, hl4⟩ := fin (some .ret) (hs3 _ (by simp))
      exact ⟨_, _, hr, .inr ⟨rfl, _, hIx _ _ _ _ _ hi3 (turn W3 _) ((hs3 _ (by simp)).trans hl2), hl4, fd _ (hs3 _ (by simp))⟩⟩
    | exit id =>
      obtain ⟨hs3, hi3⟩ := hp
      obtain ⟨hr, hl4⟩ := fin (some (.exit id)) (hs3 _ (by simp))
      exact ⟨_, _, hr, .inr ⟨rfl, _, hIx _ _ _ _ _ hi3 (turn W3 _) ((hs3 _ (by simp)).trans hl2), hl4, fd _ (hs3 _ (by simp))⟩⟩
    | goto t => exact hp.elim
    | panic ch => exact hp.elim
    | outgrown => exact hp.elim
  · rintro e W2 ⟨⟨v, rfl⟩, (⟨hi, hl, hd⟩ | ⟨j, hj, c, hi, hl, hd⟩)⟩
    · have ht := turn W2 (.loop (recL fn a.tmps ps assign body H .exhausted none))
      have hd' := (ht.block _ (Array.getElem?_eq_some_iff.1 hd).1 (by simp)).trans hd
      exact ⟨none, _, run_endLoop hl (by simp), hdone H _ hH.symm (hI _ _ _ _ hi ht hl) hd'⟩
    · have ht := turn W2 (.loop (recL fn a.tmps ps assign body H .exhausted (some c)))
      have hd' := (ht.block _ (Array.getElem?_eq_some_iff.1 hd).1 (by simp)).trans hd
      exact ⟨some c, _, run_endLoop hl (by simp), hstop c H j _ hH.symm hj (hIx _ _ _ _ _ hi ht hl) hd'⟩
end Go.Proofs.YtniecghigmgbnaaDoor

