import Derived.Test.YtphdnfijefddlaaDoorU2
import Derived.Test.YtphdnfijefddlaaDoorU3
import Derived.WalkKit
import Derived.ProofKit
import Derived.OpenShut
import Derived.Handy
import Derived.BigQuiet
import Derived.Lib.Hide
import Derived.WalkSmall
import Derived.WalkLawsBesides
namespace Go.Proofs.YtphdnfijefddlaaDoor
open Go.RowKit
theorem ones_size : (⟨#[40, 41, 59, 58, 43, 45, 42, 47, 37, 60, 62, 61]⟩ : ByteArray).size = 12 := rfl
theorem ones_at (i : Nat) (h : i < (⟨#[40, 41, 59, 58, 43, 45, 42, 47, 37, 60, 62, 61]⟩ : ByteArray).size) : (⟨#[40, 41, 59, 58, 43, 45, 42, 47, 37, 60, 62, 61]⟩ : ByteArray)[i] ∈ ones := by
  show (#[40, 41, 59, 58, 43, 45, 42, 47, 37, 60, 62, 61] : Array UInt8)[i] ∈ ones
  have := Array.getElem_mem (xs := (#[40, 41, 59, 58, 43, 45, 42, 47, 37, 60, 62, 61] : Array UInt8)) h
  rw [Array.mem_def] at this
  exact this
theorem ones_all (c : UInt8) (h : ∀ j (hj : j < (⟨#[40, 41, 59, 58, 43, 45, 42, 47, 37, 60, 62, 61]⟩ : ByteArray).size), (⟨#[40, 41, 59, 58, 43, 45, 42, 47, 37, 60, 62, 61]⟩ : ByteArray)[j] ≠ c) : ones.contains c = false := by
  rw [← Bool.not_eq_true, List.contains_iff_mem]
  intro hm
  obtain ⟨j, hj, he⟩ := List.getElem_of_mem hm
  exact h j hj he
set_option maxRecDepth 100000 in
set_option maxHeartbeats 2000000 in
theorem usign_two (s : ByteArray) (a : Nat) (ha : a + 1 < s.size) (hs : s.size ≤ 140737488351232) (he : ((s[a + 1].toNat : Int) == 61) = true) (ht : twoB s[a] = true) (w : World) :
    Calls Tryd.prog 37 #[.string s, .int .i64 a] w (Ret (urV a (sgnT s[a] (s.data.toList.drop (a + 1)))) w) := by
  obtain ⟨t, htt⟩ : ∃ t, s.extract a (a + 2) = t := ⟨_, rfl⟩
  have hsl : ∀ wx, (Instr.slice 9 (.string s) (some (.int .i64 (a : Int))) (some (.int .i64 ((a : Int) + 2))) none).run Tryd.prog wx = .ok (.string t) wx := by
    intro wx
    have := slice_s s a (a + 2) (by omega) (by omega) t htt wx
    rw [show (((a + 2 : Nat) : Int)) = (a : Int) + 2 by omega] at this
    exact this
  have h61 : s[a + 1] = 61 := UInt8.toNat_inj.1 (by rw [beq_iff_eq] at he; have : (61 : UInt8).toNat = 61 := rfl
                                                    omega)
  have htx : t = ⟨#[s[a], 61]⟩ := by
    apply ByteArray.ext
    apply Array.ext'
    have := take_data s a 2
    rw [htt, dropK s a (by omega), dropK s (a + 1) ha, h61] at this
    exact this
  have hres := Lib.hid (show urV a (sgnT s[a] (s.data.toList.drop (a + 1))) = .tuple #[.agg #[.int .i64 5, .string t, .int .i64 0, .int .i64 (a : Int)], .int .i64 ((a : Int) + 2), .int .i64 0] from by
    have e : eqL (s.data.toList.drop (a + 1)) = true := by rw [dropK s (a + 1) ha]; exact he
    unfold sgnT
    rw [ht, e, if_pos (by decide), urV_ok, htx]
    rfl)
  clear htt h61 htx
  have hw : ((s[a].toNat : Int) == 60) = true ∨ ((s[a].toNat : Int) == 60) = false ∧ ((s[a].toNat : Int) == 62) = true ∨ ((s[a].toNat : Int) == 60) = false ∧ ((s[a].toNat : Int) == 62) = false ∧ ((s[a].toNat : Int) == 33) = true := by
    unfold twoB at ht
    rcases h1 : ((s[a].toNat : Int) == 60) <;> rcases h2 : ((s[a].toNat : Int) == 62) <;> rcases h3 : ((s[a].toNat : Int) == 33) <;> simp_all
  clear ht
  have ha' : a < s.size := by omega
  rcases hw with h1 | ⟨h1, h2⟩ | ⟨h1, h2, h3⟩
  all_goals
    go_enter Tryd.func37, Tryd.ntmps37
    go_wp2
    go_returns
    exact ⟨by rw [hres.out]; try rfl, by (first | exact gwT | exact lzT)⟩
set_option maxRecDepth 100000 in
set_option maxHeartbeats 4000000 in
theorem usign_one (s : ByteArray) (a : Nat) (ha : a < s.size) (hs : s.size ≤ 140737488351232) (hn : (twoB s[a] && eqL (s.data.toList.drop (a + 1))) = false) (w : World) :
    Calls Tryd.prog 37 #[.string s, .int .i64 a] w (Ret (urV a (sgnT s[a] (s.data.toList.drop (a + 1)))) w) := by
  obtain ⟨t, htt⟩ : ∃ t, s.extract a (a + 1) = t := ⟨_, rfl⟩
  have hsl : ∀ wx, (Instr.slice 9 (.string s) (some (.int .i64 (a : Int))) (some (.int .i64 ((a : Int) + 1))) none).run Tryd.prog wx = .ok (.string t) wx := by
    intro wx
    have := slice_s s a (a + 1) (by omega) (by omega) t htt wx
    rw [show (((a + 1 : Nat) : Int)) = (a : Int) + 1 by omega] at this
    exact this
  have htx : t = ⟨#[s[a]]⟩ := by
    apply ByteArray.ext
    apply Array.ext'
    have := take_data s a 1
    rw [htt, dropK s a (by omega)] at this
    exact this
  have hyes := Lib.hid (show ones.contains s[a] = true → urV a (sgnT s[a] (s.data.toList.drop (a + 1))) = .tuple #[.agg #[.int .i64 5, .string t, .int .i64 0, .int .i64 (a : Int)], .int .i64 ((a : Int) + 1), .int .i64 0] from fun h => by
    unfold sgnT
    rw [hn, if_neg (by decide), if_pos h, urV_ok, htx]
    rfl)
  have hno := Lib.hid (show ones.contains s[a] = false → urV a (sgnT s[a] (s.data.toList.drop (a + 1))) = _ from fun h => by
    unfold sgnT
    rw [hn, h, if_neg (by decide), if_neg (by decide), urV_err])
  clear htt htx
  have hw : ¬ a + 1 < s.size ∨ (∃ h : a + 1 < s.size, ((s[a + 1].toNat : Int) == 61) = false) ∨ ∃ h : a + 1 < s.size, ((s[a + 1].toNat : Int) == 61) = true ∧ ((s[a].toNat : Int) == 60) = false ∧ ((s[a].toNat : Int) == 62) = false ∧ ((s[a].toNat : Int) == 33) = false := by
    by_cases h1 : a + 1 < s.size
    · right
      have e : eqL (s.data.toList.drop (a + 1)) = ((s[a + 1].toNat : Int) == 61) := by rw [dropK s (a + 1) h1]; rfl
      rcases h2 : ((s[a + 1].toNat : Int) == 61)
      · exact .inl ⟨h1, h2⟩
      · refine .inr ⟨h1, h2, ?_⟩
        rw [e, h2, Bool.and_true] at hn
        unfold twoB at hn
        rw [Bool.or_eq_false_iff, Bool.or_eq_false_iff] at hn
        exact ⟨hn.1.1, hn.1.2, hn.2⟩
    · exact .inl h1
  clear hn
  have hos := ones_size
  have hfirst := Lib.hid (fun (i : Nat) (h : i < (⟨#[40, 41, 59, 58, 43, 45, 42, 47, 37, 60, 62, 61]⟩ : ByteArray).size) (he : (((⟨#[40, 41, 59, 58, 43, 45, 42, 47, 37, 60, 62, 61]⟩ : ByteArray)[i].toNat : Int) == (s[a].toNat : Int)) = true) => hyes.out (by
    rw [List.contains_iff_mem]
    have := ones_at i h
    rw [beq_iff_eq] at he
    rw [UInt8.toNat_inj.1 (by omega : (⟨#[40, 41, 59, 58, 43, 45, 42, 47, 37, 60, 62, 61]⟩ : ByteArray)[i].toNat = s[a].toNat)] at this
    exact this))
  have hlast := Lib.hid (fun (h : ∀ j (hj : j < (⟨#[40, 41, 59, 58, 43, 45, 42, 47, 37, 60, 62, 61]⟩ : ByteArray).size), (((⟨#[40, 41, 59, 58, 43, 45, 42, 47, 37, 60, 62, 61]⟩ : ByteArray)[j].toNat : Int) == (s[a].toNat : Int)) = false) => hno.out (ones_all s[a] (fun j hj he => by
    have := h j hj
    rw [he, beq_eq_false_iff_ne] at this
    exact this rfl)))
  clear hyes hno
  rcases hw with h1 | ⟨h1, h2⟩ | ⟨h1, h2, h3, h4, h5⟩
  all_goals
    go_enter Tryd.func37, Tryd.ntmps37
    go_wp2
    go_loop [9] (fun v => ∃ i : Nat, i ≤ 12 ∧ v = .int .i64 i ∧ ∀ j (hj : j < (⟨#[40, 41, 59, 58, 43, 45, 42, 47, 37, 60, 62, 61]⟩ : ByteArray).size), j < i → (((⟨#[40, 41, 59, 58, 43, 45, 42, 47, 37, 60, 62, 61]⟩ : ByteArray)[j].toNat : Int) == (s[a].toNat : Int)) = false) (fun v => 12 - (intOf v).toNat)
    case atStart => exact ⟨0, Nat.zero_le _, rfl, fun j _ h => absurd h (Nat.not_lt_zero _)⟩
    case round =>
      obtain ⟨i, hi, rfl, hall⟩ := hrel
      by_cases hlt : i < 12
      · have hlt' : i < (⟨#[40, 41, 59, 58, 43, 45, 42, 47, 37, 60, 62, 61]⟩ : ByteArray).size := hlt
        rcases hc : (((⟨#[40, 41, 59, 58, 43, 45, 42, 47, 37, 60, 62, 61]⟩ : ByteArray)[i].toNat : Int) == (s[a].toNat : Int))
        · have hnext := Lib.hid (show ∀ j (hj : j < (⟨#[40, 41, 59, 58, 43, 45, 42, 47, 37, 60, 62, 61]⟩ : ByteArray).size), j < i + 1 → (((⟨#[40, 41, 59, 58, 43, 45, 42, 47, 37, 60, 62, 61]⟩ : ByteArray)[j].toNat : Int) == (s[a].toNat : Int)) = false from fun j hj hji => by
            rcases Nat.lt_or_eq_of_le (Nat.le_of_lt_succ hji) with h | rfl
            · exact hall j hj h
            · exact hc)
          clear hall
          go_wp2
          go_round
          case rel => exact ⟨i + 1, by omega, by go_num, hnext.out⟩
          case measure => simp [intOf]; omega
        · have hres := Lib.hid (hfirst.out i hlt' hc)
          clear hall
          go_wp2
          go_returns
          exact ⟨by rw [hres.out]; try rfl, by (first | exact gwT | exact lzT)⟩
      · obtain rfl : i = 12 := by omega
        have hres := Lib.hid (hlast.out (fun j hj => hall j hj hj))
        clear hall
        go_wp2
        go_returns
        exact ⟨by rw [hres.out]; try rfl, by (first | exact gwT | exact lzT)⟩
end Go.Proofs.YtphdnfijefddlaaDoor

