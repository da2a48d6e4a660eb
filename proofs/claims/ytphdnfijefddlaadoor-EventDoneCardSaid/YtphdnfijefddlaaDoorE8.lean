/- EventDone: the event of a state that has come to its end. -/
import Derived.Test.YtphdnfijefddlaaDoorE7
import Derived.Test.YtphdnfijefddlaaDoorE9
import Derived.Test.YtphdnfijefddlaaDoorK9
import Derived.Test.YtphdnfijefddlaaDoorAR
import Derived.WalkKit
import Derived.ProofKit
import Derived.OpenShut
import Derived.Handy
import Derived.BigQuiet
import Derived.Lib.Hide
import Derived.WalkSmall
import Derived.WalkLawsBesides
namespace Go.Proofs.YtphdnfijefddlaaDoor
open Go.RowKit
def doneB (s : ByteArray) : ByteArray := ⟨(doneL s.data.toList).toArray⟩
theorem doneB_data (s : ByteArray) : (doneB s).data.toList = doneL s.data.toList := by unfold doneB; simp
theorem done_other (a b : ByteArray) (ha : ∀ x ∈ a.data.toList, x ≠ 46) : emB (doneB b) (doneB a) = (a.toList == b.toList) := by
  unfold emB
  rw [doneB_data, doneB_data, Lib.toList_data, Lib.toList_data]
  exact calls_behind _ (by decide) ha
theorem done_1 (a : ByteArray) : emB ⟨#[100, 111, 110, 101]⟩ (doneB a) = true := by
  unfold emB
  rw [doneB_data]
  exact matchE_iff.2 (.inr ⟨by decide, by decide, .inr ⟨[115, 116, 97, 116, 101, 46] ++ a.data.toList, rfl⟩⟩)
theorem done_2 (a : ByteArray) : emB ⟨#[100, 111, 110, 101, 46, 115, 116, 97, 116, 101]⟩ (doneB a) = true := by
  unfold emB
  rw [doneB_data]
  exact matchE_iff.2 (.inr ⟨by decide, by decide, .inr ⟨a.data.toList, rfl⟩⟩)
theorem done_3 (a : ByteArray) : emB ⟨#[100, 111, 110, 101, 46, 115, 116, 97, 116, 101, 115]⟩ (doneB a) = false := by
  unfold emB
  rw [doneB_data, ← Bool.not_eq_true, matchE_iff]
  rintro (⟨k, _⟩ | ⟨_, _, k | ⟨r, k⟩⟩)
  · exact absurd k (by decide)
  · have := congrArg (fun l => l[10]?) k
    exact absurd (show some (115 : UInt8) = some 46 from this) (by decide)
  · have := congrArg (fun l => l[10]?) k
    exact absurd (show some (46 : UInt8) = some 115 from this) (by decide)
theorem done_first (a : ByteArray) : emF (doneB a) [⟨#[100, 111, 110, 101, 46, 115, 116, 97, 116, 101, 115]⟩, ⟨#[100, 111, 110, 101, 46, 115, 116, 97, 116, 101]⟩, ⟨#[100, 111, 110, 101]⟩] 0 = 1 := by
  rw [emF, done_3, emF, done_2]
  rfl
theorem done_parts (a : ByteArray) (ha : ∀ x ∈ a.data.toList, x ≠ 46) : (pieces (doneB a)).length = 3 := by
  have := congrArg List.length (pieces_parts (doneB a))
  rw [List.length_map] at this
  rw [this, doneB_data, show doneL a.data.toList = [100, 111, 110, 101] ++ 46 :: ([115, 116, 97, 116, 101] ++ 46 :: a.data.toList) from rfl, parts_cut _ _ (by decide), parts_cut _ _ (by decide), parts_plain ha]
  rfl
set_option maxRecDepth 100000 in
theorem edone_out (a b : ByteArray) (ha : a.size ≤ maxLen) (hb : b.size ≤ maxLen) (h : 200 < a.size ∨ 200 < b.size) (w : World) : Calls Tryd.prog 4 #[.string a, .string b] w (Ret (.bool true) w) := by
  have A := Lib.hid (anchor12_any w)
  unfold maxLen at ha hb
  by_cases h1 : 200 < a.size
  · have hI : (200 : Int) < (a.size : Int) := by omega
    go_enter Tryd.func4, Tryd.ntmps4
    go_wp2_with (first | ((with_reducible refine (A.out).mono ?_); intro e w1 hr; obtain ⟨rfl, p, rfl⟩ := hr.out; clear hr))
    go_returns
    exact ⟨rfl, by (first | exact gwT | exact lzT)⟩
  · have hI : ¬ (200 : Int) < (a.size : Int) := by omega
    have hJ : (200 : Int) < (b.size : Int) := by omega
    go_enter Tryd.func4, Tryd.ntmps4
    go_wp2_with (first | ((with_reducible refine (A.out).mono ?_); intro e w1 hr; obtain ⟨rfl, p, rfl⟩ := hr.out; clear hr))
    go_returns
    exact ⟨rfl, by (first | exact gwT | exact lzT)⟩
set_option maxRecDepth 100000 in
set_option maxHeartbeats 1000000 in
theorem edone_no (a b : ByteArray) (ha : a.size ≤ 200) (hb : b.size ≤ 200) (h : nmB a.data.toList = false ∨ nmB b.data.toList = false) (w : World) : Calls Tryd.prog 4 #[.string a, .string b] w (Ret (.bool true) w) := by
  have A := Lib.hid (anchor12_any w)
  have hI : ¬ (200 : Int) < (a.size : Int) := by omega
  have hJ : ¬ (200 : Int) < (b.size : Int) := by omega
  have N1 := Lib.hid (fun wx => uname_any a (by omega) wx)
  have N2 := Lib.hid (fun wx => uname_any b (by omega) wx)
  generalize nmB a.data.toList = x at *
  generalize nmB b.data.toList = y at *
  cases x with
  | false =>
    clear h
    go_enter Tryd.func4, Tryd.ntmps4
    go_wp2_with (first | ((with_reducible refine (A.out).mono ?_); intro e w1 hr; obtain ⟨rfl, p, rfl⟩ := hr.out; clear hr) | ((with_reducible refine (N1.out _).mono ?_); intro e w1 hr; obtain ⟨rfl, p, rfl⟩ := hr.out; clear hr))
    go_returns
    exact ⟨rfl, by (first | exact gwT | exact lzT)⟩
  | true =>
    obtain rfl : y = false := by
      rcases h with h | h
      · cases h
      · exact h
    clear h
    go_enter Tryd.func4, Tryd.ntmps4
    go_wp2_with (first | ((with_reducible refine (A.out).mono ?_); intro e w1 hr; obtain ⟨rfl, p, rfl⟩ := hr.out; clear hr) | ((with_reducible refine (N1.out _).mono ?_); intro e w1 hr; obtain ⟨rfl, p, rfl⟩ := hr.out; clear hr) | ((with_reducible refine (N2.out _).mono ?_); intro e w1 hr; obtain ⟨rfl, p, rfl⟩ := hr.out; clear hr))
    go_returns
    exact ⟨rfl, by (first | exact gwT | exact lzT)⟩
set_option maxRecDepth 100000 in
set_option maxHeartbeats 2000000 in
theorem edone_yes (a b : ByteArray) (ha : a.size ≤ 200) (hb : b.size ≤ 200) (hna : nmB a.data.toList = true) (hnb : nmB b.data.toList = true) (w : World) (hM : MaxL w) : Calls Tryd.prog 4 #[.string a, .string b] w (Ret (.bool true) w) := by
  have A := Lib.hid (anchor12_any w)
  have hI : ¬ (200 : Int) < (a.size : Int) := by omega
  have hJ : ¬ (200 : Int) < (b.size : Int) := by omega
  have N1 := Lib.hid (fun wx => uname_any a (by omega) wx)
  have N2 := Lib.hid (fun wx => uname_any b (by omega) wx)
  have hd := name_dots hna
  rw [hna] at N1
  rw [hnb] at N2
  have D1 := Lib.hid (show ∀ wx, Calls Tryd.prog 6 #[.string a] wx (Ret (.string (doneB a)) wx) from fun wx => edone_any a (by omega) wx)
  have D2 := Lib.hid (show ∀ wx, Calls Tryd.prog 6 #[.string b] wx (Ret (.string (doneB b)) wx) from fun wx => edone_any b (by omega) wx)
  have F := Lib.hid (show ∀ (g : Nat) (wx : World), wx.heap[g]? = some (.cells #[.string ⟨#[100, 111, 110, 101, 46, 115, 116, 97, 116, 101, 115]⟩, .string ⟨#[100, 111, 110, 101, 46, 115, 116, 97, 116, 101]⟩, .string ⟨#[100, 111, 110, 101]⟩] 9 (0, 0)) → Calls Tryd.prog 11 #[.string (doneB a), .slice (some ⟨g, 0, none⟩) 3 3] wx (Ret (.int .i64 1) wx) from fun g wx hg => by
    rw [← done_first a]
    refine efirst_any (doneB a) (some ⟨g, 0, none⟩) 3 [⟨#[100, 111, 110, 101, 46, 115, 116, 97, 116, 101, 115]⟩, ⟨#[100, 111, 110, 101, 46, 115, 116, 97, 116, 101]⟩, ⟨#[100, 111, 110, 101]⟩] (show (3 : Nat) ≤ 1000000 by decide) wx fun i hi => ⟨_, rfl, ?_⟩
    have hz : (⟨g, 0, none⟩ : Addr).add i = ⟨g, i, none⟩ := by rw [add_plain, Nat.zero_add]
    rw [hz, cell_of_row wx g i _ _ _ hg]
    match i, hi with
    | 0, _ => rfl
    | 1, _ => rfl
    | 2, _ => rfl)
  have M1 := Lib.hid (fun wx => ematch_any ⟨#[100, 111, 110, 101]⟩ (doneB a) wx)
  rw [done_1] at M1
  have M2 := Lib.hid (fun wx => ematch_any (doneB b) (doneB a) wx)
  rw [done_other a b hd] at M2
  have hsz : (doneB a).size ≤ 2000000 := by
    have := done_size a
    have h' : ((doneB a).size : Int) = (a.size : Int) + 11 := this
    omega
  have P := Lib.hid (fun wx (hb : Below w.heap.size w wx) => eparts_any (doneB a) hsz wx (maxl_below hM hb))
  have hp3 := Lib.hid (done_parts a hd)
  generalize doneB a = da at *
  generalize doneB b = db at *
  obtain ⟨q, hq⟩ : ∃ q, (a.toList == b.toList) = q := ⟨_, rfl⟩
  rw [hq] at M2
  clear hM hsz hna hnb hd
  cases q
  all_goals
    as_aux_lemma =>
      go_enter Tryd.func4, Tryd.ntmps4
      go_wp2_with (first | ((with_reducible refine (A.out).mono ?_); intro e w1 hr; obtain ⟨rfl, p, rfl⟩ := hr.out; clear hr) | ((with_reducible refine (N1.out _).mono ?_); intro e w1 hr; obtain ⟨rfl, p, rfl⟩ := hr.out; clear hr) | ((with_reducible refine (N2.out _).mono ?_); intro e w1 hr; obtain ⟨rfl, p, rfl⟩ := hr.out; clear hr) | ((with_reducible refine (D1.out _).mono ?_); intro e w1 hr; obtain ⟨rfl, p, rfl⟩ := hr.out; clear hr) | ((with_reducible refine (D2.out _).mono ?_); intro e w1 hr; obtain ⟨rfl, p, rfl⟩ := hr.out; clear hr) | ((with_reducible refine (F.out _ _ (new_at (by simp))).mono ?_); intro e w1 hr; obtain ⟨rfl, p, rfl⟩ := hr.out; clear hr) | ((with_reducible refine (M1.out _).mono ?_); rintro e w1 ⟨rfl, rfl⟩) | ((with_reducible refine (M2.out _).mono ?_); rintro e w1 ⟨rfl, rfl⟩))
      refine (P.out _ (by (first | exact gwT | exact lzT))).mono ?_
      intro e w1 hr
      obtain ⟨g, rfl, hg, hc, hb⟩ := hr
      obtain ⟨p, rfl⟩ := toG hb
      rw [hp3.out]
      clear hc P
      go_wp2
      go_returns
      exact ⟨rfl, by (first | exact gwT | exact lzT)⟩
theorem edone_walk (a b : ByteArray) (ha : a.size ≤ maxLen) (hb : b.size ≤ maxLen) (w : World) (hM : MaxL w) : Calls Tryd.prog 4 #[.string a, .string b] w (Ret (.bool true) w) := by
  by_cases h1 : 200 < a.size
  · exact edone_out a b ha hb (.inl h1) w
  · by_cases h2 : 200 < b.size
    · exact edone_out a b ha hb (.inr h2) w
    · cases hna : nmB a.data.toList with
      | false => exact edone_no a b (by omega) (by omega) (.inl hna) w
      | true =>
        cases hnb : nmB b.data.toList with
        | false => exact edone_no a b (by omega) (by omega) (.inr hnb) w
        | true => exact edone_yes a b (by omega) (by omega) hna hnb w hM
end Go.Proofs.YtphdnfijefddlaaDoor

