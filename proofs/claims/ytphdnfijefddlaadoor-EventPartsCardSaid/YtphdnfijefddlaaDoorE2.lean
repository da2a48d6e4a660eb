/- event: what is called for, the first one that is, words joined. -/
import Derived.Test.YtphdnfijefddlaaDoorE1
import Derived.Test.YtphdnfijefddlaaDoorSJ
import Derived.WalkKit
import Derived.ProofKit
import Derived.OpenShut
import Derived.Handy
import Derived.BigQuiet
import Derived.Lib.Hide
import Derived.Lib.Strings
import Derived.WalkSmall
import Derived.WalkLawsBesides
namespace Go.Proofs.YtphdnfijefddlaaDoor
open Go.RowKit
theorem ehas0_any (s p : ByteArray) (w : World) : Calls Tryd.prog 25 #[.string s, .string p] w (RetW (.bool (Lib.hasPrefix s.data.toList p.data.toList)) w) := by
  rw [← Lib.hasPrefix_of_take, ← Lib.size_eq, ← Lib.size_eq]
  by_cases h : p.size ≤ s.size
  · have hI : (p.size : Int) ≤ (s.size : Int) := by omega
    go_enter Tryd.func25, Tryd.ntmps25
    go_wp2
    go_returns
    refine ⟨?_, rfl⟩
    show Ending.returned (Value.bool ((s.extract 0 p.size).toList == p.toList)) = _
    rw [Lib.extract_toList, Lib.toList_data]
    simp [h]
  · have hI : ¬ (p.size : Int) ≤ (s.size : Int) := by omega
    go_enter Tryd.func25, Tryd.ntmps25
    go_wp2
    go_returns
    exact ⟨rfl, rfl⟩
theorem ehas_any (s p : ByteArray) (w : World) : Calls Tryd.prog 15 #[.string s, .string p] w (RetW (.bool (Lib.hasPrefix s.data.toList p.data.toList)) w) := by
  have H := Lib.hid (fun wx => ehas0_any s p wx)
  go_enter Tryd.func15, Tryd.ntmps15
  go_wp2_with ((with_reducible refine (H.out _).mono ?_); rintro e w1 ⟨rfl, rfl⟩)
  go_returns
  exact ⟨rfl, rfl⟩
/-- What strings.CutPrefix answers. -/
def cutV (n c : ByteArray) : Value := .tuple #[.string (if Lib.hasPrefix n.data.toList c.data.toList then n.extract c.size n.size else n), .bool (Lib.hasPrefix n.data.toList c.data.toList)]
theorem pre_size {n c : ByteArray} (h : Lib.hasPrefix n.data.toList c.data.toList = true) : c.size ≤ n.size := by
  rw [← Lib.hasPrefix_of_take, ← Lib.size_eq, ← Lib.size_eq, Bool.and_eq_true, decide_eq_true_eq] at h
  exact h.1
theorem ecut0_any (n c : ByteArray) (w : World) : Calls Tryd.prog 24 #[.string n, .string c] w (RetW (cutV n c) w) := by
  have H := Lib.hid (fun wx => ehas0_any n c wx)
  have hz := pre_size (n := n) (c := c)
  unfold cutV
  generalize Lib.hasPrefix n.data.toList c.data.toList = b at *
  cases b with
  | false =>
    clear hz
    go_enter Tryd.func24, Tryd.ntmps24
    go_wp2_with ((with_reducible refine (H.out _).mono ?_); rintro e w1 ⟨rfl, rfl⟩)
    go_returns
    exact ⟨rfl, rfl⟩
  | true =>
    have hz' := hz rfl
    clear hz
    have hI : (c.size : Int) ≤ (n.size : Int) := by omega
    go_enter Tryd.func24, Tryd.ntmps24
    go_wp2_with ((with_reducible refine (H.out _).mono ?_); rintro e w1 ⟨rfl, rfl⟩)
    go_returns
    exact ⟨rfl, rfl⟩
theorem ecut_any (n c : ByteArray) (w : World) : Calls Tryd.prog 14 #[.string n, .string c] w (RetW (cutV n c) w) := by
  have H := Lib.hid (fun wx => ecut0_any n c wx)
  unfold cutV at *
  generalize Lib.hasPrefix n.data.toList c.data.toList = b at *
  generalize (if b = true then n.extract c.size n.size else n) = m at *
  go_enter Tryd.func14, Tryd.ntmps14
  go_wp2_with ((with_reducible refine (H.out _).mono ?_); rintro e w1 ⟨rfl, rfl⟩)
  go_returns
  exact ⟨rfl, rfl⟩
/-- Is an event called for? -/
def emB (c n : ByteArray) : Bool := matchE c.data.toList n.data.toList
theorem em_nil {c n : ByteArray} (h : (c.toList == []) = true) : emB c n = false := by
  rw [Lib.toList_data, beq_iff_eq] at h
  unfold emB matchE
  rw [h]
  rfl
theorem em_any {c n : ByteArray} (h : (c.toList == [42]) = true) : emB c n = !n.toList.isEmpty := by
  rw [Lib.toList_data, beq_iff_eq] at h
  unfold emB matchE
  rw [h, if_pos rfl, Lib.toList_data]
  cases n.data.toList <;> simp
theorem drop_data (n c : ByteArray) : (n.extract c.size n.size).data.toList = n.data.toList.drop c.data.toList.length := by
  rw [Lib.extract_eq, Lib.size_eq, Lib.size_eq, List.take_of_length_le (by rw [List.length_drop]; exact Nat.le_refl _)]
theorem em_cut {c n : ByteArray} (h0 : (c.toList == []) = false) (h1 : (c.toList == [42]) = false) : emB c n = (Lib.hasPrefix n.data.toList c.data.toList && (((n.extract c.size n.size).toList == []) || Lib.hasPrefix (n.extract c.size n.size).data.toList [46])) := by
  rw [Lib.toList_data] at h0 h1 ⊢
  rw [beq_eq_false_iff_ne] at h0 h1
  rw [drop_data]
  unfold emB
  generalize n.data.toList = n at *
  generalize c.data.toList = c at *
  rw [Bool.eq_iff_iff, matchE_iff]
  unfold Lib.hasPrefix
  rw [Bool.and_eq_true, Bool.or_eq_true, List.isPrefixOf_iff_prefix, List.isPrefixOf_iff_prefix, beq_iff_eq]
  constructor
  · rintro (⟨k, _⟩ | ⟨_, _, rfl | ⟨r, rfl⟩⟩)
    · exact absurd k h1
    · exact ⟨List.prefix_refl _, .inl (by rw [List.drop_length])⟩
    · refine ⟨⟨_, rfl⟩, .inr ?_⟩
      rw [List.drop_left]
      exact ⟨r, rfl⟩
  · rintro ⟨⟨r, rfl⟩, h⟩
    rw [List.drop_left] at h
    refine .inr ⟨h1, h0, ?_⟩
    rcases h with rfl | ⟨s, rfl⟩
    · exact .inl (by simp)
    · exact .inr ⟨s, rfl⟩
set_option maxRecDepth 100000 in
theorem ematch_any (c n : ByteArray) (w : World) : Calls Tryd.prog 9 #[.string c, .string n] w (RetW (.bool (emB c n)) w) := by
  rcases h0 : (c.toList == [])
  · rcases h1 : (c.toList == [42])
    · have E := em_cut (n := n) h0 h1
      rw [E]
      have C := Lib.hid (fun wx => ecut_any n c wx)
      have H := Lib.hid (fun wx => ehas_any (n.extract c.size n.size) ⟨#[46]⟩ wx)
      unfold cutV at C
      clear E
      generalize n.extract c.size n.size = m at *
      generalize Lib.hasPrefix n.data.toList c.data.toList = b at *
      rw [show ((⟨#[46]⟩ : ByteArray).data.toList) = [46] from rfl] at H
      generalize Lib.hasPrefix m.data.toList [46] = d at *
      cases b
      · go_enter Tryd.func9, Tryd.ntmps9
        go_wp2_with ((with_reducible refine (C.out _).mono ?_); rintro e w1 ⟨rfl, rfl⟩)
        go_returns
        exact ⟨rfl, rfl⟩
      · rcases h2 : (m.toList == [])
        all_goals
          go_enter Tryd.func9, Tryd.ntmps9
          go_wp2_with (first | ((with_reducible refine (C.out _).mono ?_); rintro e w1 ⟨rfl, rfl⟩) | ((with_reducible refine (H.out _).mono ?_); rintro e w1 ⟨rfl, rfl⟩))
          go_returns
          exact ⟨rfl, rfl⟩
    · have E := em_any (n := n) h1
      rw [E]
      clear E
      go_enter Tryd.func9, Tryd.ntmps9
      go_wp2
      go_returns
      exact ⟨rfl, rfl⟩
  · have E := em_nil (n := n) h0
    rw [E]
    clear E
    go_enter Tryd.func9, Tryd.ntmps9
    go_wp2
    go_returns
    exact ⟨rfl, rfl⟩
end Go.Proofs.YtphdnfijefddlaaDoor

