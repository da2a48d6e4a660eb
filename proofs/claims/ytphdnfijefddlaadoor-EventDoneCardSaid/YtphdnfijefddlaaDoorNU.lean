import Derived.Test.YtphdnfijefddlaaDoorDG
import Derived.Test.YtphdnfijefddlaaDoorPI
import Derived.WalkKit
import Derived.ProofKit
import Derived.OpenShut
import Derived.Handy
import Derived.BigQuiet
import Derived.Lib.Hide
import Derived.Lib.Strings
import Derived.WalkSmall
import Derived.WalkLawsBesides
namespace Go.Proofs.YtphdnfijefddlaaDoor
open Go.RowKit
/-- Minus the number that some digits make behind v; none: a byte that is no digit, or too great. -/
def negV : List UInt8 → Int → Option Int
  | [], v => some v
  | c :: r, v => if (c.toNat : Int) < 48 ∨ 57 < (c.toNat : Int) then none else if v < (-9223372036854775808 + ((c.toNat : Int) - 48)).tdiv 10 then none else negV r (10 * v - ((c.toNat : Int) - 48))
theorem negV_append : ∀ (l r : List UInt8) (v x : Int), negV l v = some x → negV (l ++ r) v = negV r x
  | [], r, v, x, h => by
    simp only [negV, Option.some.injEq] at h
    rw [h]; rfl
  | c :: l, r, v, x, h => by
    rw [List.cons_append]
    rw [negV] at h
    rw [negV]
    by_cases h1 : (c.toNat : Int) < 48 ∨ 57 < (c.toNat : Int)
    · rw [if_pos h1] at h; cases h
    · rw [if_neg h1] at h ⊢
      by_cases h2 : v < (-9223372036854775808 + ((c.toNat : Int) - 48)).tdiv 10
      · rw [if_pos h2] at h; cases h
      · rw [if_neg h2] at h ⊢
        exact negV_append l r _ x h
theorem guard_eq (d : Int) (h0 : 0 ≤ d) (h1 : d ≤ 9) : (-9223372036854775808 + d).tdiv 10 = -((9223372036854775808 - d) / 10) := by
  rw [show -9223372036854775808 + d = -(9223372036854775808 - d) by omega, Int.neg_tdiv, Int.tdiv_eq_ediv_of_nonneg (by omega)]
theorem negV_one (q d : Nat) (hd : d < 10) (h : q * 10 + d ≤ 9223372036854775808) : negV [UInt8.ofNat (48 + d)] (-(q : Int)) = some (-((q * 10 + d : Nat) : Int)) := by
  have hc : (UInt8.ofNat (48 + d)).toNat = 48 + d := by
    rw [UInt8.toNat_ofNat']; exact Nat.mod_eq_of_lt (by omega)
  have e : ((48 + d : Nat) : Int) - 48 = (d : Int) := by omega
  rw [negV, hc, if_neg (by omega), e, guard_eq _ (by omega) (by omega), if_neg (by omega), negV]
  congr 1; omega
theorem negV_digits (u : Nat) (h : u ≤ 9223372036854775808) : negV (Lib.decDigits u) 0 = some (-(u : Int)) := by
  induction u using Nat.strongRecOn with
  | _ u ih =>
    by_cases hu : u < 10
    · rw [Lib.decDigits, dif_pos hu]
      have := negV_one 0 u hu (by omega)
      simpa using this
    · rw [Lib.decDigits, dif_neg hu, negV_append _ _ _ _ (ih (u / 10) (by omega) (by omega)), negV_one _ _ (by omega) (by omega)]
      congr 2; omega
theorem drop_at (t : ByteArray) (k : Nat) (h : k < t.size) : t.data.toList.drop k = t[k] :: t.data.toList.drop (k + 1) := by
  rw [List.drop_eq_getElem_cons (by rw [← Lib.size_eq]; exact h)]
  rfl
theorem negV_bad {c : UInt8} {r : List UInt8} {x : Int} (h : (c.toNat : Int) < 48 ∨ 57 < (c.toNat : Int)) : negV (c :: r) x = none := by rw [negV, if_pos h]
theorem negV_over {c : UInt8} {r : List UInt8} {x : Int} (h : 48 ≤ (c.toNat : Int) ∧ (c.toNat : Int) ≤ 57) (h2 : x < (-9223372036854775808 + ((c.toNat : Int) - 48)).tdiv 10) : negV (c :: r) x = none := by
  rw [negV, if_neg (by omega), if_pos h2]
theorem negV_go {c : UInt8} {r : List UInt8} {x : Int} (h : 48 ≤ (c.toNat : Int) ∧ (c.toNat : Int) ≤ 57) (h2 : (-9223372036854775808 + ((c.toNat : Int) - 48)).tdiv 10 ≤ x) : negV (c :: r) x = negV r (10 * x - ((c.toNat : Int) - 48)) := by
  rw [negV, if_neg (by omega), if_neg (by omega)]
theorem negV_wrap {d x : Int} (h : 48 ≤ d ∧ d ≤ 57) (h2 : (-9223372036854775808 + (d - 48)).tdiv 10 ≤ x) (h3 : x ≤ 0) : wrap64 (wrap64 (10 * x) - (d - 48)) = 10 * x - (d - 48) ∧ -9223372036854775808 ≤ 10 * x - (d - 48) := by
  rw [guard_eq _ (by omega) (by omega)] at h2
  have h4 : -9223372036854775808 ≤ 10 * x - (d - 48) := by omega
  rw [wrap_of (10 * x) (by unfold I64; omega), wrap_of _ (by unfold I64; omega)]
  exact ⟨rfl, h4⟩
theorem of_lists {a b : ByteArray} (h : (a.toList == b.toList) = true) : a = b := by
  rw [Lib.toList_data, Lib.toList_data, beq_iff_eq] at h
  exact ByteArray.ext (Array.ext' h)
/-- What the reference's Number says of s: a number with that very numeral, if there is one. -/
def NumIs (s : ByteArray) (w : World) (e : Ending) (w' : World) : Prop := ∃ v b, e = .returned (.tuple #[.int .i64 v, .bool b]) ∧ I64 v ∧ (b = true → itoaS v = s) ∧ (b = false → ∀ n, I64 n → s ≠ itoaS n) ∧ Below w.heap.size w w'
set_option maxHeartbeats 2000000 in
theorem number_pos (s : ByteArray) (hs : s.size ≤ 9223372036854775000) (hne : 0 < s.size → (((s.data.toList.getD 0 0).toNat : Int) == 45) = false)
    (C : ∀ n, I64 n → s = itoaS n → 1 ≤ s.size ∧ s.size ≤ 19 ∧ negV s.data.toList 0 = some (-n) ∧ 0 ≤ n) (w : World) : Calls Tryd.prog 45 #[.string s] w (NumIs s w) := by
  have D := fun n wx hn => Lib.hid (digits_any n.natAbs n wx (Nat.le_refl _) hn)
  have D := Lib.hid D
  have C := Lib.hid C
  have hq : ∀ h : 0 < s.size, ((s[0].toNat : Int) == 45) = false := fun h => by
    have := hne h
    have e : s.data.toList.getD 0 0 = s[0] := by
      rw [List.getD_eq_getElem?_getD, List.getElem?_eq_getElem (by rw [← Lib.size_eq]; exact h)]
      rfl
    rw [e] at this; exact this
  clear hne
  have z0 : (0 : Int) = 0 → I64 0 := fun _ => by unfold I64; omega
  by_cases hb : s.size = 0 ∨ 19 < s.size
  · have hno : ∀ n, I64 n → s ≠ itoaS n := fun n h1 h2 => by
      have := C.out n h1 h2
      omega
    clear C D z0
    rcases hb with hb | hb
    · go_enter Tryd.func45, Tryd.ntmps45
      go_wp2
      go_returns
      exact ⟨0, false, rfl, by unfold I64; omega, (fun h => by cases h), fun _ => hno, Below.refl _ _⟩
    · have e0 : ((s.size : Int) == 0) = false := by rw [beq_eq_false_iff_ne]; omega
      have e1 : (19 < (s.size : Int)) := by omega
      go_enter Tryd.func45, Tryd.ntmps45
      go_wp2
      go_returns
      exact ⟨0, false, rfl, by unfold I64; omega, (fun h => by cases h), fun _ => hno, Below.refl _ _⟩
  · have hb1 : 1 ≤ s.size := by omega
    have hb2 : s.size ≤ 19 := by omega
    have e0 : ((s.size : Int) == 0) = false := by rw [beq_eq_false_iff_ne]; omega
    have e1 : ¬ (19 < (s.size : Int)) := by omega
    have e2 := hq (by omega)
    clear hq
    go_enter Tryd.func45, Tryd.ntmps45
    go_wp2
    go_loop [5, 6] (fun v i => ∃ (k : Nat) (x : Int), k ≤ s.size ∧ i = .int .i64 k ∧ v = .int .i64 x ∧ -9223372036854775808 ≤ x ∧ x ≤ 0 ∧ negV (s.data.toList.drop k) x = negV s.data.toList 0) (fun v i => s.size - (intOf i).toNat)
    case atStart => exact ⟨0, 0, Nat.zero_le _, rfl, rfl, by omega, by omega, rfl⟩
    case round =>
      obtain ⟨k, x, hk, rfl, rfl, hx1, hx2, hv⟩ := hrel
      by_cases hlt : k < s.size
      · have hd := Lib.hid (drop_at s k hlt)
        have hv := Lib.hid hv
        have hno : negV s.data.toList 0 = none → ∀ n, I64 n → s ≠ itoaS n := fun h n h1 h2 => by
          have := (C.out n h1 h2).2.2.1
          rw [h] at this; cases this
        have hno := Lib.hid hno
        have hdv : negV (s[k] :: s.data.toList.drop (k + 1)) x = negV s.data.toList 0 := by rw [← hd.out, hv.out]
        have hdv := Lib.hid hdv
        clear hd hv
        go_wp2
        all_goals first
          | (have hw := negV_wrap (x := x) (d := (s[k].toNat : Int)) (by assumption) (by assumption) hx2
             refine ⟨⟨k + 1, 10 * x - ((s[k].toNat : Int) - 48), by omega, rfl, by rw [hw.1], hw.2, by omega, ?_⟩, by simp [intOf]; omega⟩
             rw [← hdv.out]; exact (negV_go (by assumption) (by assumption)).symm)
          | (go_returns
             refine ⟨0, false, rfl, by unfold I64; omega, (fun h => by cases h), fun _ => hno.out ?_, Below.refl _ _⟩
             rw [← hdv.out]
             first | exact negV_bad (by assumption) | exact negV_bad (Or.inl (by assumption)) | exact negV_over (by assumption) (by assumption))
      · obtain rfl : k = s.size := by omega
        have hv : negV s.data.toList 0 = some x := by
          rw [← hv, List.drop_of_length_le (by rw [← Lib.size_eq]; exact Nat.le_refl _)]
          rfl
        have hn : ∀ n, I64 n → s = itoaS n → -n = x ∧ 0 ≤ n := fun n h1 h2 => by
          have := C.out n h1 h2
          rw [hv] at this
          exact ⟨(Option.some.inj this.2.2.1).symm, this.2.2.2⟩
        have hn := Lib.hid hn
        clear hv
        by_cases hm : x = -9223372036854775808
        · subst hm
          go_wp2
          go_returns
          refine ⟨0, false, rfl, by unfold I64; omega, (fun h => by cases h), fun _ n h1 h2 => ?_, Below.refl _ _⟩
          have := hn.out n h1 h2
          unfold I64 at h1; omega
        · have hm' : (x == -9223372036854775808) = false := by rw [beq_eq_false_iff_ne]; exact hm
          have hi : I64 (-x) := by unfold I64; omega
          have hw : wrap64 (-x) = -x := wrap_of _ hi
          have D' := fun wx => Lib.hid (D.out (-x) wx hi)
          have D' := Lib.hid D'
          generalize hy : itoaS (-x) = y at D'
          have hy := Lib.hid hy
          have hn := Lib.hid hn
          go_wp2_with fail
          refine ((D'.out _).out).mono ?_
          intro e w1 hr
          obtain ⟨rfl, p, rfl⟩ := hr.out
          clear hr
          go_wp2
          go_returns
          refine ⟨-x, (y.toList == s.toList), rfl, hi, fun h => ?_, fun h n h1 h2 => ?_, by (first | exact gwT | exact lzT)⟩
          · rw [hy.out]; exact of_lists h
          · have hz := (hn.out.out n h1 h2).1
            have e : -x = n := by omega
            rw [← hy.out, e, ← h2] at h
            simp at h
set_option maxHeartbeats 2000000 in
theorem number_neg (s : ByteArray) (hs : s.size ≤ 9223372036854775000) (h0 : 0 < s.size) (hc : ((s[0].toNat : Int) == 45) = true)
    (C : ∀ n, I64 n → s = itoaS n → 2 ≤ s.size ∧ s.size ≤ 20 ∧ negV (s.data.toList.drop 1) 0 = some n) (w : World) : Calls Tryd.prog 45 #[.string s] w (NumIs s w) := by
  have D := fun n wx hn => Lib.hid (digits_any n.natAbs n wx (Nat.le_refl _) hn)
  have D := Lib.hid D
  have C := Lib.hid C
  by_cases hb : s.size = 1 ∨ 20 < s.size
  · have hno : ∀ n, I64 n → s ≠ itoaS n := fun n h1 h2 => by
      have := C.out n h1 h2
      omega
    clear C D
    rcases hb with hb | hb
    · have e0 : (((s.size - 1 : Nat) : Int) == 0) = true := by rw [beq_iff_eq]; omega
      go_enter Tryd.func45, Tryd.ntmps45
      go_wp2
      go_returns
      exact ⟨0, false, rfl, by unfold I64; omega, (fun h => by cases h), fun _ => hno, Below.refl _ _⟩
    · have e0 : (((s.size - 1 : Nat) : Int) == 0) = false := by rw [beq_eq_false_iff_ne]; omega
      have e1 : (19 < ((s.size - 1 : Nat) : Int)) := by omega
      go_enter Tryd.func45, Tryd.ntmps45
      go_wp2
      go_returns
      exact ⟨0, false, rfl, by unfold I64; omega, (fun h => by cases h), fun _ => hno, Below.refl _ _⟩
  · have hb1 : 2 ≤ s.size := by omega
    have hb2 : s.size ≤ 20 := by omega
    have e0 : (((s.size - 1 : Nat) : Int) == 0) = false := by rw [beq_eq_false_iff_ne]; omega
    have e1 : ¬ (19 < ((s.size - 1 : Nat) : Int)) := by omega
    have e3 : (((s.size - 1 : Nat) : Int) == (s.size : Int)) = false := by rw [beq_eq_false_iff_ne]; omega
    go_enter Tryd.func45, Tryd.ntmps45
    go_wp2
    go_loop [5, 6] (fun v i => ∃ (k : Nat) (x : Int), k ≤ s.size - 1 ∧ i = .int .i64 k ∧ v = .int .i64 x ∧ -9223372036854775808 ≤ x ∧ x ≤ 0 ∧ negV (s.data.toList.drop (1 + k)) x = negV (s.data.toList.drop 1) 0) (fun v i => s.size - (intOf i).toNat)
    case atStart => exact ⟨0, 0, Nat.zero_le _, rfl, rfl, by omega, by omega, rfl⟩
    case round =>
      obtain ⟨k, x, hk, rfl, rfl, hx1, hx2, hv⟩ := hrel
      by_cases hlt : k < s.size - 1
      · have hlt' : 1 + k < s.size := by omega
        have hd := Lib.hid (drop_at s (1 + k) hlt')
        have hv := Lib.hid hv
        have hno : negV (s.data.toList.drop 1) 0 = none → ∀ n, I64 n → s ≠ itoaS n := fun h n h1 h2 => by
          have := (C.out n h1 h2).2.2
          rw [h] at this; cases this
        have hno := Lib.hid hno
        have hdv : negV (s[1 + k] :: s.data.toList.drop (1 + k + 1)) x = negV (s.data.toList.drop 1) 0 := by rw [← hd.out, hv.out]
        have hdv := Lib.hid hdv
        clear hd hv
        have hsz : k < (s.extract 1 s.size).size := by rw [ByteArray.size_extract]; omega
        have he : (s.extract 1 s.size)[k] = s[1 + k] := ByteArray.getElem_extract ..
        go_wp2
        all_goals first
          | (have hw := negV_wrap (x := x) (d := (s[1 + k].toNat : Int)) (by assumption) (by assumption) hx2
             refine ⟨⟨k + 1, 10 * x - ((s[1 + k].toNat : Int) - 48), by omega, rfl, by rw [hw.1], hw.2, by omega, ?_⟩, by simp [intOf]; omega⟩
             rw [← hdv.out]; exact (negV_go (by assumption) (by assumption)).symm)
          | (go_returns
             refine ⟨0, false, rfl, by unfold I64; omega, (fun h => by cases h), fun _ => hno.out ?_, Below.refl _ _⟩
             rw [← hdv.out]
             first | exact negV_bad (by assumption) | exact negV_bad (Or.inl (by assumption)) | exact negV_over (by assumption) (by assumption))
      · obtain rfl : k = s.size - 1 := by omega
        have hv : negV (s.data.toList.drop 1) 0 = some x := by
          rw [← hv, List.drop_of_length_le (by rw [← Lib.size_eq]; omega)]
          rfl
        have hn : ∀ n, I64 n → s = itoaS n → n = x := fun n h1 h2 => by
          have := C.out n h1 h2
          rw [hv] at this
          exact (Option.some.inj this.2.2).symm
        have hn := Lib.hid hn
        clear hv
        have hi : I64 x := by unfold I64; omega
        have D' := fun wx => Lib.hid (D.out x wx hi)
        have D' := Lib.hid D'
        generalize hy : itoaS x = y at D'
        have hy := Lib.hid hy
        have hn := Lib.hid hn
        go_wp2_with fail
        refine ((D'.out _).out).mono ?_
        intro e w1 hr
        obtain ⟨rfl, p, rfl⟩ := hr.out
        clear hr
        go_wp2
        go_returns
        refine ⟨x, (y.toList == s.toList), rfl, hi, fun h => ?_, fun h n h1 h2 => ?_, by (first | exact gwT | exact lzT)⟩
        · rw [hy.out]; exact of_lists h
        · have e := hn.out.out n h1 h2
          rw [← hy.out, ← e, ← h2] at h
          simp at h
theorem dd_len (u : Nat) (h : u ≤ 9223372036854775808) : 1 ≤ (Lib.decDigits u).length ∧ (Lib.decDigits u).length ≤ 19 := by
  have hb : u < 10 ^ (18 + 1) := by have : (10 : Nat) ^ (18 + 1) = 10000000000000000000 := by decide
                                    omega
  have hl := nDigits_le 18 u hb
  have hp := Lib.nDigits_pos u
  rw [Lib.decDigits_eq]
  simp only [List.length_map, List.length_range]
  omega
theorem number_any (s : ByteArray) (hs : s.size ≤ 9223372036854775000) (w : World) : Calls Tryd.prog 45 #[.string s] w (NumIs s w) := by
  by_cases hc : ∃ h : 0 < s.size, ((s[0].toNat : Int) == 45) = true
  · obtain ⟨h0, hc⟩ := hc
    refine number_neg s hs h0 hc (fun n hn he => ?_) w
    by_cases hneg : n < 0
    · have e : Lib.itoa n = 45 :: Lib.decDigits n.natAbs := by rw [Lib.itoa, if_pos hneg]
      have hl := dd_len n.natAbs (by unfold I64 at hn; omega)
      have hd := negV_digits n.natAbs (by unfold I64 at hn; omega)
      have e2 : s.data.toList = 45 :: Lib.decDigits n.natAbs := by rw [he, itoaS, e]
      have e3 : s.size = (Lib.decDigits n.natAbs).length + 1 := by rw [Lib.size_eq, e2]; rfl
      refine ⟨by omega, by omega, ?_⟩
      rw [e2, List.drop_succ_cons, List.drop_zero, hd]
      congr 1; omega
    · exfalso
      obtain ⟨c, r, hcr, h1, h2⟩ := digits_head n.toNat
      have e : s = ⟨(c :: r).toArray⟩ := by rw [he, itoaS, Lib.itoa, if_neg hneg, hcr]
      subst e
      rw [beq_iff_eq] at hc
      have : ((c.toNat : Int)) = 45 := hc
      omega
  · refine number_pos s hs (fun h => ?_) (fun n hn he => ?_) w
    · have e : s.data.toList.getD 0 0 = s[0] := by
        rw [List.getD_eq_getElem?_getD, List.getElem?_eq_getElem (by rw [← Lib.size_eq]; exact h)]
        rfl
      rw [e]
      rcases hx : ((s[0].toNat : Int) == 45)
      · rfl
      · exact absurd ⟨h, hx⟩ hc
    · by_cases hneg : n < 0
      · exfalso
        have e : s = ⟨((45 : UInt8) :: Lib.decDigits n.natAbs).toArray⟩ := by rw [he, itoaS, Lib.itoa, if_pos hneg]
        subst e
        exact hc ⟨Nat.succ_pos _, rfl⟩
      · have hl := dd_len n.toNat (by unfold I64 at hn; omega)
        have hd := negV_digits n.toNat (by unfold I64 at hn; omega)
        have e2 : s.data.toList = Lib.decDigits n.toNat := by rw [he, itoaS, Lib.itoa, if_neg hneg]
        have e3 : s.size = (Lib.decDigits n.toNat).length := by rw [Lib.size_eq, e2]
        refine ⟨by omega, by omega, ?_, by omega⟩
        rw [e2, hd]
        congr 1; omega
end Go.Proofs.YtphdnfijefddlaaDoor

