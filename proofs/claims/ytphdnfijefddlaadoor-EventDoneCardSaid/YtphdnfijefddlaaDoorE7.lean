/- EventParts: a name's parts, joined, are it; it is called for by its beginnings. -/
import Derived.Test.YtphdnfijefddlaaDoorE4
import Derived.Test.YtphdnfijefddlaaDoorE9
import Derived.Test.YtphdnfijefddlaaDoorT1
import Derived.Test.YtphdnfijefddlaaDoorLB
import Derived.WalkKit
import Derived.ProofKit
import Derived.OpenShut
import Derived.Handy
import Derived.BigQuiet
import Derived.Lib.Hide
import Derived.WalkSmall
import Derived.WalkLawsBesides
namespace Go.Proofs.YtphdnfijefddlaaDoor
open Go.RowKit
theorem eparts_any (t : ByteArray) (ht : t.size ≤ 2000000) (w : World) (hw : MaxL w) : Calls Tryd.prog 7 #[.string t] w (SplitIs (pieces t) w) := by
  have S := Lib.hid (fun wx (hb : Below w.heap.size w wx) => split_any t ht wx (maxl_below hw hb))
  clear hw
  go_enter Tryd.func7, Tryd.ntmps7
  go_wp2_with fail
  refine (S.out _ (by (first | exact gwT | exact lzT))).mono ?_
  intro e w1 hr
  obtain ⟨g, rfl, hg, hc, hb⟩ := hr
  replace hc := Lib.hid hc
  go_wp2
  go_returns
  exact ⟨g, rfl, hg, hc.out, hb⟩
theorem same_txt (l : List UInt8) (s : ByteArray) (h : l = s.data.toList) : (⟨l.toArray⟩ : ByteArray) = s := by
  subst h
  exact ByteArray.ext (by simp)
/-- A name's first parts, joined. -/
def headB (s : ByteArray) (k : Nat) : ByteArray := ⟨(joinE (((pieces s).take k).map (·.data.toList))).toArray⟩
theorem joinE_le (ps : List (List UInt8)) (k : Nat) (h1 : 1 ≤ k) : (joinE (ps.take k)).length ≤ (joinE ps).length := by
  rcases Nat.lt_or_ge k ps.length with h | h
  · rw [joinE_take ps k h1 h, List.length_append]
    omega
  · rw [List.take_of_length_le h]
    exact Nat.le_refl _
theorem pieces_join (s : ByteArray) : joinE ((pieces s).map (·.data.toList)) = s.data.toList := by rw [pieces_parts, joinE_parts]
theorem head_emB (s : ByteArray) (k : Nat) (h1 : 1 ≤ k) : emB (headB s k) s = (!((headB s k).toList == []) && (!((headB s k).toList == [42]) || !(s.toList == []))) := by
  have hd : (headB s k).data.toList = joinE ((partsE s.data.toList).take k) := by
    unfold headB
    rw [List.map_take, pieces_parts]
  unfold emB
  rw [Lib.toList_data, Lib.toList_data, hd, head_calls (head_parts _ h1)]
  congr 1
  · rw [Bool.eq_iff_iff, decide_eq_true_eq, Bool.not_eq_true', beq_eq_false_iff_ne]
  · congr 1
    · rw [Bool.eq_iff_iff, decide_eq_true_eq, Bool.not_eq_true', beq_eq_false_iff_ne]
    · rw [Bool.eq_iff_iff, decide_eq_true_eq, Bool.not_eq_true', beq_eq_false_iff_ne]
theorem done_size (s : ByteArray) : ((⟨(doneL s.data.toList).toArray⟩ : ByteArray).size : Int) = (s.size : Int) + 11 := by
  rw [Lib.size_eq]
  show ((doneL s.data.toList).length : Int) = _
  unfold doneL
  rw [List.length_append, ← Lib.size_eq]
  show ((11 + s.size : Nat) : Int) = _
  omega
set_option maxRecDepth 100000 in
set_option maxHeartbeats 2000000 in
theorem eparts_walk (s : ByteArray) (n : Int) (hn : I64 n) (hs : s.size ≤ maxLen) (w : World) (hM : MaxL w) : Calls Tryd.prog 3 #[.string s, .int .i64 n] w (Ret (.bool true) w) := by
  have A := Lib.hid (anchor12_any w)
  unfold maxLen at hs
  by_cases h3 : 300 < s.size
  · have hI : (300 : Int) < (s.size : Int) := by omega
    clear hM
    go_enter Tryd.func3, Tryd.ntmps3
    go_wp2_with (first | ((with_reducible refine (A.out).mono ?_); intro e w1 hr; obtain ⟨rfl, p, rfl⟩ := hr.out; clear hr))
    go_returns
    exact ⟨rfl, by (first | exact gwT | exact lzT)⟩
  · have hI : ¬ (300 : Int) < (s.size : Int) := by omega
    have D := Lib.hid (fun wx => edone_any s (by omega) wx)
    have hD := done_size s
    generalize (⟨(doneL s.data.toList).toArray⟩ : ByteArray) = d at *
    have hDb : ((d.size : Int) != (s.size : Int) + 11) = false := by rw [hD]; simp
    replace hD := Lib.hid hD
    have P := Lib.hid (fun wx (hb : Below w.heap.size w wx) => eparts_any s (by omega) wx (maxl_below hM hb))
    have hpl := pieces_len s
    have J := Lib.hid (show ∀ (g cap k : Nat) (wx : World), 1 ≤ k → k ≤ (pieces s).length → k ≤ cap → g < wx.heap.size → (∀ i (h : i < (pieces s).length), wx.cell? ⟨g, i, none⟩ = some (.string (pieces s)[i])) → Calls Tryd.prog 8 #[.slice (some ⟨g, 0, none⟩) k cap] wx (Ret (.string (headB s k)) wx) from fun g cap k wx h1 hk hcap hg hc => by
      have e : ((pieces s).take k).length = k := by rw [List.length_take]; omega
      have := ejoin_any g cap ((pieces s).take k) (by rw [e]; omega) (by rw [e]; exact hcap) (by
        rw [List.map_take]
        refine Nat.le_trans (joinE_le _ _ h1) ?_
        rw [pieces_join, ← Lib.size_eq]
        omega) wx hg (fun j hj => by
        rw [List.getElem_take]
        exact hc j (by rw [e] at hj; omega))
      rw [e] at this
      exact this)
    have hall : headB s (pieces s).length = s := by
      unfold headB
      rw [List.take_length]
      exact same_txt _ s (pieces_join s)
    have hp1 : 1 ≤ (pieces s).length := by rw [pieces_length]; omega
    have hE := Lib.hid (fun k h1 => head_emB s k h1)
    have M := Lib.hid (fun k wx => ematch_any (headB s k) s wx)
    replace hall := Lib.hid hall
    unfold I64 at hn
    clear hM
    go_enter Tryd.func3, Tryd.ntmps3
    go_upto_region 5 with (first | ((with_reducible refine (A.out).mono ?_); intro e w1 hr; obtain ⟨rfl, p, rfl⟩ := hr.out; clear hr) | ((with_reducible refine (D.out _).mono ?_); intro e w1 hr; obtain ⟨rfl, p, rfl⟩ := hr.out; clear hr))
    go_cut [5] (fun v5 wx => ∃ g : Nat, v5 = .slice (some ⟨g, 0, none⟩) (pieces s).length (pieces s).length ∧ g < wx.heap.size ∧ (∀ i (h : i < (pieces s).length), wx.cell? ⟨g, i, none⟩ = some (.string (pieces s)[i])) ∧ Below w.heap.size w wx)
    case first =>
      as_aux_lemma =>
        go_wp2_with fail
        refine (P.out _ (by (first | exact gwT | exact lzT))).mono ?_
        intro e w1 hr
        obtain ⟨g, rfl, hg, hc, hb⟩ := hr
        go_wp2
        go_meet
        exact ⟨g, rfl, hg, hc, Below.trans (show Below w.heap.size w _ by (first | exact gwT | exact lzT)) (hb.mono (by (first | exact gwT | exact lzT)))⟩
    case rest =>
      obtain ⟨g, rfl, hg, hc, hb⟩ := hcut
      rename World => wr
      have hwz := hb.size
      have i1 : InW g wr := ⟨hg⟩
      have J1 := Lib.hid (J.out g (pieces s).length (pieces s).length wr hp1 (Nat.le_refl _) (Nat.le_refl _) hg hc)
      rw [hall.out] at J1
      have J2 := Lib.hid (fun k h1 hk wx (hx : Below wr.heap.size wr wx) => J.out g (pieces s).length k wx h1 hk hk (Nat.lt_of_lt_of_le hg hx.size) (fun i hi => (hx.cell (p := ⟨g, i, none⟩) hg).trans (hc i hi)))
      clear hc J A D P hD hDb hall
      generalize (pieces s).length = L at *
      have hI1 : ¬ (L : Int) < 1 := by omega
      by_cases hn1 : n < 1
      · go_wp2_with (first | ((with_reducible refine (J1.out).mono ?_); intro e w1 hr; obtain ⟨rfl, p, rfl⟩ := hr.out; clear hr))
        go_returns
        exact ⟨rfl, by (first | exact gwT | exact lzT)⟩
      · by_cases hn2 : (L : Int) < n
        · go_wp2_with (first | ((with_reducible refine (J1.out).mono ?_); intro e w1 hr; obtain ⟨rfl, p, rfl⟩ := hr.out; clear hr))
          go_returns
          exact ⟨rfl, by (first | exact gwT | exact lzT)⟩
        · obtain ⟨k, rfl⟩ : ∃ k : Nat, n = (k : Int) := ⟨n.toNat, by omega⟩
          have hk1 : 1 ≤ k := by omega
          have hk2 : k ≤ L := by omega
          have hE1 := hE.out k hk1
          have M1 := Lib.hid (M.out k)
          have J3 := Lib.hid (J2.out k hk1 hk2)
          generalize headB s k = h at *
          rw [hE1] at M1
          obtain ⟨q0, hq0⟩ : ∃ q, (h.toList == []) = q := ⟨_, rfl⟩
          obtain ⟨q1, hq1⟩ : ∃ q, (h.toList == [42]) = q := ⟨_, rfl⟩
          obtain ⟨q2, hq2⟩ : ∃ q, (s.toList == []) = q := ⟨_, rfl⟩
          rw [hq0, hq1, hq2] at M1
          clear hE hE1 M J2
          cases q0 <;> cases q1 <;> cases q2
          all_goals
            as_aux_lemma =>
              go_wp2_with (first | ((with_reducible refine (J1.out).mono ?_); intro e w1 hr; obtain ⟨rfl, p, rfl⟩ := hr.out; clear hr) | ((with_reducible refine (J3.out _ (by (first | exact gwT | exact lzT))).mono ?_); intro e w1 hr; obtain ⟨rfl, p, rfl⟩ := hr.out; clear hr) | ((with_reducible refine (M1.out _).mono ?_); rintro e w1 ⟨rfl, rfl⟩))
              go_returns
              exact ⟨rfl, by (first | exact gwT | exact lzT)⟩
end Go.Proofs.YtphdnfijefddlaaDoor

