/- event: what is called for, the first one that is, words joined. -/
import Derived.Test.YtphdnfijefddlaaE1
import Derived.Test.YtphdnfijefddlaaSJ
import Derived.WalkKit
import Derived.ProofKit
import Derived.OpenShut
import Derived.Handy
import Derived.BigQuiet
import Derived.Lib.Hide
import Derived.Lib.Strings
import Derived.WalkSmall
import Derived.WalkLawsBesides
namespace Go.Proofs.Ytphdnfijefddlaa
open Go.RowKit
theorem ehas0_any (s p : ByteArray) (w : World) : Calls Try.prog 16 #[.string s, .string p] w (RetW (.bool (Lib.hasPrefix s.data.toList p.data.toList)) w) := by
  rw [← Lib.hasPrefix_of_take, ← Lib.size_eq, ← Lib.size_eq]
  by_cases h : p.size ≤ s.size
  · have hI : (p.size : Int) ≤ (s.size : Int) := by omega
    go_enter Try.func16, Try.ntmps16
    go_wp2
    go_returns
    refine ⟨?_, rfl⟩
    show Ending.returned (Value.bool ((s.extract 0 p.size).toList == p.toList)) = _
    rw [Lib.extract_toList, Lib.toList_data]
    simp [h]
  · have hI : ¬ (p.size : Int) ≤ (s.size : Int) := by omega
    go_enter Try.func16, Try.ntmps16
    go_wp2
    go_returns
    exact ⟨rfl, rfl⟩
theorem ehas_any (s p : ByteArray) (w : World) : Calls Try.prog 11 #[.string s, .string p] w (RetW (.bool (Lib.hasPrefix s.data.toList p.data.toList)) w) := by
  have H := Lib.hid (fun wx => ehas0_any s p wx)
  go_enter Try.func11, Try.ntmps11
  go_wp2_with ((with_reducible refine (H.out _).mono ?_); rintro e w1 ⟨rfl, rfl⟩)
  go_returns
  exact ⟨rfl, rfl⟩
/-- What strings.CutPrefix answers. -/
def cutV (n c : ByteArray) : Value := .tuple #[.string (if Lib.hasPrefix n.data.toList c.data.toList then n.extract c.size n.size else n), .bool (Lib.hasPrefix n.data.toList c.data.toList)]
theorem pre_size {n c : ByteArray} (h : Lib.hasPrefix n.data.toList c.data.toList = true) : c.size ≤ n.size := by
  rw [← Lib.hasPrefix_of_take, ← Lib.size_eq, ← Lib.size_eq, Bool.and_eq_true, decide_eq_true_eq] at h
  exact h.1
theorem ecut0_any (n c : ByteArray) (w : World) : Calls Try.prog 15 #[.string n, .string c] w (RetW (cutV n c) w) := by
  have H := Lib.hid (fun wx => ehas0_any n c wx)
  have hz := pre_size (n := n) (c := c)
  unfold cutV
  generalize Lib.hasPrefix n.data.toList c.data.toList = b at *
  cases b with
  | false =>
    clear hz
    go_enter Try.func15, Try.ntmps15
    go_wp2_with ((with_reducible refine (H.out _).mono ?_); rintro e w1 ⟨rfl, rfl⟩)
    go_returns
    exact ⟨rfl, rfl⟩
  | true =>
    have hz' := hz rfl
    clear hz
    have hI : (c.size : Int) ≤ (n.size : Int) := by omega
    go_enter Try.func15, Try.ntmps15
    go_wp2_with ((with_reducible refine (H.out _).mono ?_); rintro e w1 ⟨rfl, rfl⟩)
    go_returns
    exact ⟨rfl, rfl⟩
theorem ecut_any (n c : ByteArray) (w : World) : Calls Try.prog 10 #[.string n, .string c] w (RetW (cutV n c) w) := by
  have H := Lib.hid (fun wx => ecut0_any n c wx)
  unfold cutV at *
  generalize Lib.hasPrefix n.data.toList c.data.toList = b at *
  generalize (if b = true then n.extract c.size n.size else n) = m at *
  go_enter Try.func10, Try.ntmps10
  go_wp2_with ((with_reducible refine (H.out _).mono ?_); rintro e w1 ⟨rfl, rfl⟩)
  go_returns
  exact ⟨rfl, rfl⟩
/-- Is an event called for? -/
def emB (c n : ByteArray) : Bool := matchE c.data.toList n.data.toList
theorem em_nil {c n : ByteArray} (h : (c.toList == []) = true) : emB c n = false := by
  rw [Lib.toList_data, beq_iff_eq] at h
  unfold emB matchE
  rw [h]
  rfl
theorem em_any {c n : ByteArray} (h : (c.toList == [42]) = true) : emB c n = !n.toList.isEmpty := by
  rw [Lib.toList_data, beq_iff_eq] at h
  unfold emB matchE
  rw [h, if_pos rfl, Lib.toList_data]
  cases n.data.toList <;> simp
theorem drop_data (n c : ByteArray) : (n.extract c.size n.size).data.toList = n.data.toList.drop c.data.toList.length := by
  rw [Lib.extract_eq, Lib.size_eq, Lib.size_eq, List.take_of_length_le (by rw [List.length_drop]; exact Nat.le_refl _)]
theorem em_cut {c n : ByteArray} (h0 : (c.toList == []) = false) (h1 : (c.toList == [42]) = false) : emB c n = (Lib.hasPrefix n.data.toList c.data.toList && (((n.extract c.size n.size).toList == []) || Lib.hasPrefix (n.extract c.size n.size).data.toList [46])) := by
  rw [Lib.toList_data] at h0 h1 ⊢
  rw [beq_eq_false_iff_ne] at h0 h1
  rw [drop_data]
  unfold emB
  generalize n.data.toList = n at *
  generalize c.data.toList = c at *
  rw [Bool.eq_iff_iff, matchE_iff]
  unfold Lib.hasPrefix
  rw [Bool.and_eq_true, Bool.or_eq_true, List.isPrefixOf_iff_prefix, List.isPrefixOf_iff_prefix, beq_iff_eq]
  constructor
  · rintro (⟨k, _⟩ | ⟨_, _, rfl | ⟨r, rfl⟩⟩)
    · exact absurd k h1
    · exact ⟨List.prefix_refl _, .inl (by rw [List.drop_length])⟩
    · refine ⟨⟨_, rfl⟩, .inr ?_⟩
      rw [List.drop_left]
      exact ⟨r, rfl⟩
  · rintro ⟨⟨r, rfl⟩, h⟩
    rw [List.drop_left] at h
    refine .inr ⟨h1, h0, ?_⟩
    rcases h with rfl | ⟨s, rfl⟩
    · exact .inl (by simp)
    · exact .inr ⟨s, rfl⟩
set_option maxRecDepth 100000 in
theorem ematch_any (c n : ByteArray) (w : World) : Calls Try.prog 6 #[.string c, .string n] w (RetW (.bool (emB c n)) w) := by
  rcases h0 : (c.toList == [])
  · rcases h1 : (c.toList == [42])
    · have E := em_cut (n := n) h0 h1
      rw [E]
      have C := Lib.hid (fun wx => ecut_any n c wx)
      have H := Lib.hid (fun wx => ehas_any (n.extract c.size n.size) ⟨#[46]⟩ wx)
      unfold cutV at C
      clear E
      generalize n.extract c.size n.size = m at *
      generalize Lib.hasPrefix n.data.toList c.data.toList = b at *
      rw [show ((⟨#[46]⟩ : ByteArray).data.toList) = [46] from rfl] at H
      generalize Lib.hasPrefix m.data.toList [46] = d at *
      cases b
      · go_enter Try.func6, Try.ntmps6
        go_wp2_with ((with_reducible refine (C.out _).mono ?_); rintro e w1 ⟨rfl, rfl⟩)
        go_returns
        exact ⟨rfl, rfl⟩
      · rcases h2 : (m.toList == [])
        all_goals
          go_enter Try.func6, Try.ntmps6
          go_wp2_with (first | ((with_reducible refine (C.out _).mono ?_); rintro e w1 ⟨rfl, rfl⟩) | ((with_reducible refine (H.out _).mono ?_); rintro e w1 ⟨rfl, rfl⟩))
          go_returns
          exact ⟨rfl, rfl⟩
    · have E := em_any (n := n) h1
      rw [E]
      clear E
      go_enter Try.func6, Try.ntmps6
      go_wp2
      go_returns
      exact ⟨rfl, rfl⟩
  · have E := em_nil (n := n) h0
    rw [E]
    clear E
    go_enter Try.func6, Try.ntmps6
    go_wp2
    go_returns
    exact ⟨rfl, rfl⟩
theorem same_len {c n : ByteArray} (h : n.size = c.size) (hp : (n.extract 0 c.size).toList = c.toList) : n = c := by
  rw [Lib.extract_toList, Lib.toList_data] at hp
  have : n.data.toList = c.data.toList := by
    rw [← hp, List.drop_zero, List.take_of_length_le (by rw [← Lib.size_eq]; omega)]
  exact ByteArray.ext (Array.ext' this)
theorem em_len {c n : ByteArray} (h : n.size < c.size) : c.toList ≠ [42] → emB c n = false := by
  intro h1
  rw [Lib.toList_data] at h1
  unfold emB
  rw [← Bool.not_eq_true, matchE_iff]
  rintro (⟨k, _⟩ | ⟨_, _, k | ⟨r, k⟩⟩)
  · exact h1 k
  · rw [Lib.size_eq, Lib.size_eq, k] at h; omega
  · rw [Lib.size_eq, Lib.size_eq, k, List.length_append] at h; omega
theorem em_head {c n : ByteArray} (hp : ((n.extract 0 c.size).toList == c.toList) = false) : c.toList ≠ [42] → emB c n = false := by
  intro h1
  rcases h0 : (c.toList == [])
  · rw [em_cut h0 (beq_eq_false_iff_ne.2 h1), ← Lib.hasPrefix_raw, hp, Bool.and_false, Bool.false_and]
  · exact em_nil h0
theorem em_same {c n : ByteArray} (h0 : (c.toList == []) = false) (h1 : (c.toList == [42]) = false) (hz : n.size = c.size) (hp : ((n.extract 0 c.size).toList == c.toList) = true) : emB c n = true := by
  obtain rfl := same_len hz (eq_of_beq hp)
  rw [Lib.toList_data, beq_eq_false_iff_ne] at h0 h1
  exact matchE_iff.2 (.inr ⟨h1, h0, .inl rfl⟩)
theorem em_more {c n : ByteArray} (h0 : (c.toList == []) = false) (h1 : (c.toList == [42]) = false) (hz : c.size < n.size) (hp : ((n.extract 0 c.size).toList == c.toList) = true) : emB c n = (((n.data[c.size]'hz).toNat : Int) == 46) := by
  rw [em_cut h0 h1]
  have h2 : Lib.hasPrefix n.data.toList c.data.toList = true := by rw [← Lib.hasPrefix_raw, hp, decide_eq_true (Nat.le_of_lt hz)]; rfl
  have hl : c.size < n.data.toList.length := by rw [← Lib.size_eq]; exact hz
  rw [h2, Bool.true_and, Lib.toList_data, drop_data, ← Lib.size_eq, List.drop_eq_getElem_cons hl, dot_eq]
  rw [show n.data.toList[c.size]'hl = n.data[c.size]'hz from by simp]
  generalize (n.data[c.size]'hz) = x
  generalize n.data.toList.drop (c.size + 1) = r
  show (false || ((46 : UInt8) == x && true)) = (x == 46)
  rw [Bool.false_or, Bool.and_true, Bool.eq_iff_iff, beq_iff_eq, beq_iff_eq]
  exact ⟨Eq.symm, Eq.symm⟩
set_option maxRecDepth 100000 in
theorem ermatch_any (c n : ByteArray) (w : World) : Calls Try.prog 7 #[.string c, .string n] w (RetW (.bool (emB c n)) w) := by
  rcases h1 : (c.toList == [42])
  · have h1' : c.toList ≠ [42] := beq_eq_false_iff_ne.1 h1
    rcases h0 : (c.toList == [])
    · by_cases hz : n.size < c.size
      · have hI : (n.size : Int) < (c.size : Int) := by omega
        rw [em_len hz h1']
        clear h1'
        go_enter Try.func7, Try.ntmps7
        go_wp2
        go_returns
        exact ⟨rfl, rfl⟩
      · have hI : ¬ (n.size : Int) < (c.size : Int) := by omega
        rcases hp : ((n.extract 0 c.size).toList == c.toList)
        · rw [em_head hp h1']
          clear h1'
          go_enter Try.func7, Try.ntmps7
          go_wp2
          go_returns
          exact ⟨rfl, rfl⟩
        · by_cases he : n.size = c.size
          · rw [em_same h0 h1 he hp]
            have hE : ((n.size : Int) == (c.size : Int)) = true := by rw [he, beq_self_eq_true]
            clear h1'
            go_enter Try.func7, Try.ntmps7
            go_wp2
            go_returns
            exact ⟨rfl, rfl⟩
          · have hlt : c.size < n.size := by omega
            have hE : ((n.size : Int) == (c.size : Int)) = false := beq_eq_false_iff_ne.2 (by omega)
            have E := em_more h0 h1 hlt hp
            rw [E]
            clear h1' E
            go_enter Try.func7, Try.ntmps7
            go_wp2
            go_returns
            exact ⟨rfl, rfl⟩
    · rw [em_nil h0]
      clear h1'
      go_enter Try.func7, Try.ntmps7
      go_wp2
      go_returns
      exact ⟨rfl, rfl⟩
  · rw [em_any h1]
    go_enter Try.func7, Try.ntmps7
    go_wp2
    go_returns
    exact ⟨rfl, rfl⟩
end Go.Proofs.Ytphdnfijefddlaa

