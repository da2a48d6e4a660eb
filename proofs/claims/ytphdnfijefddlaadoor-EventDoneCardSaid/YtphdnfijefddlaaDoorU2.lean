import Derived.Test.YtphdnfijefddlaaDoorU1
import Derived.WalkKit
import Derived.ProofKit
import Derived.OpenShut
import Derived.Handy
import Derived.BigQuiet
import Derived.Lib.Hide
import Derived.WalkSmall
import Derived.WalkLawsBesides
namespace Go.Proofs.YtphdnfijefddlaaDoor
open Go.RowKit
theorem lead_false {t : ByteArray} (hne : t.data.toList ≠ []) (h : leadB t = false) : t.data.toList.length = 1 ∨ ∀ c r, t.data.toList = c :: r → c.toNat ≠ 48 := by
  unfold leadB at h
  rw [Bool.and_eq_false_iff] at h
  rcases h with h | h
  · left
    have h1 : ¬ 1 < t.size := by simpa using h
    have h2 : t.data.toList.length ≠ 0 := fun h => hne (List.eq_nil_of_length_eq_zero h)
    rw [Lib.size_eq] at h1
    omega
  · right
    intro c r hcr hc
    rw [hcr, beq_eq_false_iff_ne] at h
    apply h
    show some c = some 48
    congr 1
    exact UInt8.toNat_inj.1 (by rw [hc]; rfl)
theorem num_shown {t : ByteArray} (hne : t.data.toList ≠ []) (hd : ∀ c ∈ t.data.toList, digB c = true) (h : leadB t = false) : t = itoaS (valL t.data.toList : Int) := by
  have e := dec_val _ t.data.toList rfl hne hd (lead_false hne h)
  apply ByteArray.ext
  apply Array.ext'
  show t.data.toList = Lib.itoa (valL t.data.toList : Int)
  rw [Lib.itoa, if_neg (by omega), Int.toNat_natCast, e]
theorem num_none {t : ByteArray} (_hne : t.data.toList ≠ []) (hd : ∀ c ∈ t.data.toList, digB c = true) (hv : 9223372036854775807 < valL t.data.toList) (n : Int) (hn : I64 n) : t ≠ itoaS n := by
  intro he
  have e : t.data.toList = Lib.itoa n := by rw [he, itoaS]
  by_cases hneg : n < 0
  · rw [Lib.itoa, if_pos hneg] at e
    have := dig_nat (hd 45 (by rw [e]; simp))
    exact absurd this.1 (by decide)
  · rw [Lib.itoa, if_neg hneg] at e
    rw [e, val_dec] at hv
    unfold I64 at hn
    omega
theorem lead_at (s : ByteArray) (a z : Nat) (haz : a < z) (hz : z ≤ s.size) (t : ByteArray) (ht : s.extract a z = t) : leadB t = (decide (a + 1 < z) && (((s[a]'(by omega)).toNat : Int) == 48)) := by
  have hl : t.size = z - a := by rw [← ht, ByteArray.size_extract]; omega
  have e : t.data.toList.head? = some (s[a]'(by omega)) := by
    have h := take_data s a (z - a)
    rw [show a + (z - a) = z by omega, ht] at h
    obtain ⟨m, hm⟩ : ∃ m, z - a = m + 1 := ⟨z - a - 1, by omega⟩
    rw [h, hm, dropK s a (by omega), List.take_succ_cons]; rfl
  unfold leadB
  rw [hl, e, byte48]
  congr 1
  rw [decide_eq_decide]
  omega
set_option maxRecDepth 100000 in
set_option maxHeartbeats 2000000 in
theorem unumber_any (s : ByteArray) (a : Nat) (ha : a < s.size) (hd : digB s[a] = true) (hs : s.size ≤ 140737488351232) (w : World) :
    Calls Tryd.prog 35 #[.string s, .int .i64 a] w (Ret (urV a (numT (s.data.toList.drop a))) w) := by
  obtain ⟨k, hk⟩ : ∃ k, spanL digL (s.data.toList.drop a) = k := ⟨_, rfl⟩
  have hk1 : 1 ≤ k := by
    rw [← hk, dropK s a ha, span_yes (p := digL) hd]; omega
  have hle : a + k ≤ s.size := by
    have := spanL_le digL (s.data.toList.drop a)
    rw [hk, List.length_drop] at this
    have e : s.data.toList.length = s.size := by simp
    omega
  obtain ⟨t, ht⟩ : ∃ t, s.extract a (a + k) = t := ⟨_, rfl⟩
  have hl : t.size = k := by rw [← ht, ByteArray.size_extract]; omega
  have h0 : 0 < t.size := by omega
  have hne : t.data.toList ≠ [] := by
    intro h; rw [Lib.size_eq, h] at h0; exact absurd h0 (by decide)
  have hall : ∀ c ∈ t.data.toList, digB c = true := by
    have := span_digits (s.data.toList.drop a)
    rw [hk, ← take_data, ht] at this
    exact this
  obtain ⟨z, hz⟩ : ∃ z, a + k = z := ⟨_, rfl⟩
  have haz : a < z := by omega
  have hzs : z ≤ s.size := by omega
  have hlead := lead_at s a z haz hzs t (by rw [← hz]; exact ht)
  have hsl := slice_s s a z (by omega) hzs t (by rw [← hz]; exact ht)
  have S := fun k hk hp => Lib.hid (span_step digL s a k hk hp)
  replace S := Lib.hid S
  have T := fun k' hk' hp => Lib.hid (fun h => (show a + spanL digL (s.data.toList.drop a) = z by rw [hk, hz]).symm.trans (span_stop digL s a k' hk' hp h))
  replace T := Lib.hid T
  have U := fun k' hk' => Lib.hid (fun h => (show a + spanL digL (s.data.toList.drop a) = z by rw [hk, hz]).symm.trans (span_end digL s a k' hk' h))
  replace U := Lib.hid U
  rcases hb : leadB t
  · rw [hb] at hlead
    have hways : (((s[a].toNat : Int) == 48) = false) ∨ ((s[a].toNat : Int) == 48) = true ∧ ¬ ((a : Int) + 1 < z) := by
      rcases h : ((s[a].toNat : Int) == 48)
      · exact .inl rfl
      · refine .inr ⟨rfl, ?_⟩
        rw [h, Bool.and_true] at hlead
        have := of_decide_eq_false hlead.symm
        omega
    by_cases hv : 9223372036854775807 < valL t.data.toList
    · have hres := Lib.hid (show urV a (numT (s.data.toList.drop a)) = _ from by rw [numT_over s a k hk t ht hb hv, urV_err])
      have N := fun wx => Lib.hid (number_none t (by omega) (fun n hn => num_none hne hall hv n hn) wx)
      replace N := Lib.hid N
      clear hk ht hl hne hall hb hv hlead hz hd
      rcases hways with hw | ⟨hw, hw'⟩
      all_goals
        go_enter Tryd.func35, Tryd.ntmps35
        go_wp2
        go_loop [7] (fun v => ∃ e : Nat, a ≤ e ∧ e ≤ s.size ∧ v = .int .i64 e ∧ SpanTo digL s a e) (fun v => s.size - (intOf v).toNat)
        case atStart => exact ⟨a, Nat.le_refl _, by omega, rfl, rfl⟩
        case round =>
          obtain ⟨e, hae, he, rfl, hr⟩ := hrel
          by_cases hlt : e < s.size
          · have hdg : digL (s.data.toList.drop e) = (decide (48 ≤ (s[e].toNat : Int)) && decide ((s[e].toNat : Int) ≤ 57)) := by rw [dropK s e hlt]; rfl
            by_cases h1 : 48 ≤ (s[e].toNat : Int)
            · by_cases h2 : (s[e].toNat : Int) ≤ 57
              · have hnext := Lib.hid ((S.out e hlt (by rw [hdg]; simp [h1, h2])).out hr)
                clear hdg hres
                go_wp2
                go_round
                case rel => exact ⟨e + 1, by omega, by omega, by go_num, hnext.out⟩
                case measure => simp [intOf]; omega
              · obtain rfl : z = e := (T.out e hlt (by rw [hdg]; simp [h2])).out hr
                clear hdg hr
                go_wp2_with (first | ((with_reducible refine ((N.out _).out).mono ?_); intro e w1 hr; obtain ⟨v, p, rfl, rfl⟩ := hr.out; clear hr; skip))
                all_goals
                  go_returns
                  exact ⟨by rw [hres.out]; try rfl, by (first | exact gwT | exact lzT)⟩
            · obtain rfl : z = e := (T.out e hlt (by rw [hdg]; simp [h1])).out hr
              clear hdg hr
              go_wp2_with (first | ((with_reducible refine ((N.out _).out).mono ?_); intro e w1 hr; obtain ⟨v, p, rfl, rfl⟩ := hr.out; clear hr; skip))
              all_goals
                go_returns
                exact ⟨by rw [hres.out]; try rfl, by (first | exact gwT | exact lzT)⟩
          · obtain rfl : z = e := (U.out e hlt).out hr
            clear hr
            go_wp2_with (first | ((with_reducible refine ((N.out _).out).mono ?_); intro e w1 hr; obtain ⟨v, p, rfl, rfl⟩ := hr.out; clear hr; skip))
            all_goals
              go_returns
              exact ⟨by rw [hres.out]; try rfl, by (first | exact gwT | exact lzT)⟩
    · have hi : I64 (valL t.data.toList : Int) := by unfold I64; omega
      obtain ⟨v, hvv⟩ : ∃ v : Int, (valL t.data.toList : Int) = v := ⟨_, rfl⟩
      have hres := Lib.hid (show urV a (numT (s.data.toList.drop a)) = .tuple #[.agg #[.int .i64 3, .string t, .int .i64 v, .int .i64 (a : Int)], .int .i64 (z : Int), .int .i64 0] from by
        rw [numT_ok s a k hk t ht hl hb hv, urV_ok, hz, hvv])
      have N := fun wx => Lib.hid (number_shown v (by rw [← hvv]; exact hi) t (by omega) (by rw [← hvv]; exact num_shown hne hall hb) wx)
      replace N := Lib.hid N
      clear hk ht hl hne hall hb hv hlead hz hi hvv hd
      rcases hways with hw | ⟨hw, hw'⟩
      all_goals
        go_enter Tryd.func35, Tryd.ntmps35
        go_wp2
        go_loop [7] (fun v => ∃ e : Nat, a ≤ e ∧ e ≤ s.size ∧ v = .int .i64 e ∧ SpanTo digL s a e) (fun v => s.size - (intOf v).toNat)
        case atStart => exact ⟨a, Nat.le_refl _, by omega, rfl, rfl⟩
        case round =>
          obtain ⟨e, hae, he, rfl, hr⟩ := hrel
          by_cases hlt : e < s.size
          · have hdg : digL (s.data.toList.drop e) = (decide (48 ≤ (s[e].toNat : Int)) && decide ((s[e].toNat : Int) ≤ 57)) := by rw [dropK s e hlt]; rfl
            by_cases h1 : 48 ≤ (s[e].toNat : Int)
            · by_cases h2 : (s[e].toNat : Int) ≤ 57
              · have hnext := Lib.hid ((S.out e hlt (by rw [hdg]; simp [h1, h2])).out hr)
                clear hdg hres
                go_wp2
                go_round
                case rel => exact ⟨e + 1, by omega, by omega, by go_num, hnext.out⟩
                case measure => simp [intOf]; omega
              · obtain rfl : z = e := (T.out e hlt (by rw [hdg]; simp [h2])).out hr
                clear hdg hr
                go_wp2_with (first | ((with_reducible refine ((N.out _).out).mono ?_); intro e w1 hr; obtain ⟨rfl, p, rfl⟩ := hr.out; clear hr))
                all_goals
                  go_returns
                  exact ⟨by rw [hres.out]; try rfl, by (first | exact gwT | exact lzT)⟩
            · obtain rfl : z = e := (T.out e hlt (by rw [hdg]; simp [h1])).out hr
              clear hdg hr
              go_wp2_with (first | ((with_reducible refine ((N.out _).out).mono ?_); intro e w1 hr; obtain ⟨rfl, p, rfl⟩ := hr.out; clear hr))
              all_goals
                go_returns
                exact ⟨by rw [hres.out]; try rfl, by (first | exact gwT | exact lzT)⟩
          · obtain rfl : z = e := (U.out e hlt).out hr
            clear hr
            go_wp2_with (first | ((with_reducible refine ((N.out _).out).mono ?_); intro e w1 hr; obtain ⟨rfl, p, rfl⟩ := hr.out; clear hr))
            all_goals
              go_returns
              exact ⟨by rw [hres.out]; try rfl, by (first | exact gwT | exact lzT)⟩
  · rw [hb] at hlead
    have hlead' := hlead.symm
    rw [Bool.and_eq_true, decide_eq_true_eq] at hlead'
    have hw := hlead'.2
    have hw' : (a : Int) + 1 < z := by omega
    have hres := Lib.hid (show urV a (numT (s.data.toList.drop a)) = _ from by rw [numT_lead s a k hk t ht hb, urV_err])
    clear hk ht hl hne hall hb hlead hlead' hz hd
    go_enter Tryd.func35, Tryd.ntmps35
    go_wp2
    go_loop [7] (fun v => ∃ e : Nat, a ≤ e ∧ e ≤ s.size ∧ v = .int .i64 e ∧ SpanTo digL s a e) (fun v => s.size - (intOf v).toNat)
    case atStart => exact ⟨a, Nat.le_refl _, by omega, rfl, rfl⟩
    case round =>
      obtain ⟨e, hae, he, rfl, hr⟩ := hrel
      by_cases hlt : e < s.size
      · have hdg : digL (s.data.toList.drop e) = (decide (48 ≤ (s[e].toNat : Int)) && decide ((s[e].toNat : Int) ≤ 57)) := by rw [dropK s e hlt]; rfl
        by_cases h1 : 48 ≤ (s[e].toNat : Int)
        · by_cases h2 : (s[e].toNat : Int) ≤ 57
          · have hnext := Lib.hid ((S.out e hlt (by rw [hdg]; simp [h1, h2])).out hr)
            clear hdg hres
            go_wp2
            go_round
            case rel => exact ⟨e + 1, by omega, by omega, by go_num, hnext.out⟩
            case measure => simp [intOf]; omega
          · obtain rfl : z = e := (T.out e hlt (by rw [hdg]; simp [h2])).out hr
            clear hdg hr
            go_wp2
            all_goals
              go_returns
              exact ⟨by rw [hres.out]; try rfl, by (first | exact gwT | exact lzT)⟩
        · obtain rfl : z = e := (T.out e hlt (by rw [hdg]; simp [h1])).out hr
          clear hdg hr
          go_wp2
          all_goals
            go_returns
            exact ⟨by rw [hres.out]; try rfl, by (first | exact gwT | exact lzT)⟩
      · obtain rfl : z = e := (U.out e hlt).out hr
        clear hr
        go_wp2
        all_goals
          go_returns
          exact ⟨by rw [hres.out]; try rfl, by (first | exact gwT | exact lzT)⟩
end Go.Proofs.YtphdnfijefddlaaDoor

