/- Plain: what the document's example (layer 5) is read as, and comes to. No program. -/
import Derived.Test.YtlekmpjmcbnjdaaGreatDoorEA
namespace Go.Proofs.YtlekmpjmcbnjdaaGreatDoor
def lineP : ByteArray := ⟨#[120, 32, 33, 61, 32, 48, 32, 97, 110, 100, 32, 49, 48, 32, 47, 32, 120, 32, 62, 32, 50]⟩
def lineQ : ByteArray := ⟨#[49, 48, 32, 47, 32, 120]⟩
def nodesP : List Nd := [⟨16, 0, 0, [], [120], 0, 0⟩, ⟨0, 1, 0, [], [], 0, 0⟩, ⟨13, 0, 0, [], [], 0, 1⟩, ⟨0, 1, 10, [], [], 0, 0⟩, ⟨16, 0, 0, [], [120], 0, 0⟩, ⟨4, 0, 0, [], [], 3, 4⟩, ⟨0, 1, 2, [], [], 0, 0⟩, ⟨10, 0, 0, [], [], 5, 6⟩, ⟨14, 0, 0, [], [], 2, 7⟩]
def nodesQ : List Nd := [⟨0, 1, 10, [], [], 0, 0⟩, ⟨16, 0, 0, [], [120], 0, 0⟩, ⟨4, 0, 0, [], [], 0, 1⟩]
theorem read_P : readT lineP.data.toList = .ok nodesP := by kernel_rfl
theorem read_Q : readT lineQ.data.toList = .ok nodesQ := by kernel_rfl
def xC : Cl := ⟨⟨#[120]⟩, 1, 0, ⟨#[]⟩⟩
theorem find_xC : findC [xC] ⟨[120].toArray⟩ = some xC := by
  show findC [xC] ⟨#[120]⟩ = some xC
  unfold findC
  rw [if_pos (by show (ByteArray.toList ⟨#[120]⟩ == ByteArray.toList ⟨#[120]⟩) = true; exact beq_self_eq_true _)]
theorem leaf_xC (l r : Int) : leafR [xC] [] ⟨16, 0, 0, [], [120], l, r⟩ = ⟨1, 0, ⟨#[]⟩, 0⟩ := by
  rw [leaf_var _ _ rfl]
  unfold cellR
  rw [find_xC]
  rfl
theorem good_xC : CsGood [xC] := by
  refine ⟨fun c hc => ?_, fun c hc => ?_⟩
  · simp at hc; subst hc; simp [xC, rightB, Lib.toList_data]
  · simp at hc; subst hc; exact i64_0
theorem eq_self (n : Int) (s : ByteArray) : eqB n s n s = true := by simp [eqB]
theorem stop_xC : stopB 14 (trR false) = true := by simp [stopB, trR, bI, Lib.toList_data]
theorem ev_P : evT [xC] [] nodesP = trR false := by
  show evR [xC] [] nodesP 9 8 = _
  rw [ev_two (a := 2) (b := 7) (n := ⟨14, 0, 0, [], [], 2, 7⟩) rfl (by decide) rfl rfl]
  have h : evR [xC] [] nodesP 8 2 = trR false := by
    rw [ev_two (a := 0) (b := 1) (n := ⟨13, 0, 0, [], [], 0, 1⟩) rfl (by decide) rfl rfl, ev_leaf (n := ⟨16, 0, 0, [], [120], 0, 0⟩) rfl (by decide), ev_leaf (n := ⟨0, 1, 0, [], [], 0, 0⟩) rfl (by decide), leaf_xC, leaf_lit _ _ rfl]
    show trR (!eqB 0 ⟨#[]⟩ 0 ⟨#[]⟩) = trR false
    rw [eq_self]
    rfl
  rw [h]
  exact short_stop rfl stop_xC
theorem ev_Q : evT [xC] [] nodesQ = errR 22 := by
  show evR [xC] [] nodesQ 3 2 = _
  rw [ev_two (a := 0) (b := 1) (n := ⟨4, 0, 0, [], [], 0, 1⟩) rfl (by decide) rfl rfl, ev_leaf (n := ⟨0, 1, 10, [], [], 0, 0⟩) rfl (by decide), ev_leaf (n := ⟨16, 0, 0, [], [120], 0, 0⟩) rfl (by decide), leaf_xC, leaf_lit _ _ rfl]
  rfl
end Go.Proofs.YtlekmpjmcbnjdaaGreatDoor

