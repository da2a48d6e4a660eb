import Derived.Test.YtphdnfijefddlaaDoorU0
import Derived.Test.YtphdnfijefddlaaDoorT4
import Derived.WalkKit
import Derived.ProofKit
import Derived.OpenShut
import Derived.Handy
import Derived.BigQuiet
import Derived.Lib.Hide
import Derived.WalkSmall
import Derived.WalkLawsBesides
namespace Go.Proofs.YtphdnfijefddlaaDoor
open Go.RowKit
theorem uletter_any (c : UInt8) (w : World) : Calls Tryd.prog 33 #[.int .u8 c.toNat] w (RetW (.bool (letB c)) w) := by
  by_cases h1 : 97 ≤ (c.toNat : Int) <;> by_cases h2 : (c.toNat : Int) ≤ 122
  all_goals
    have e : letB c = (decide (97 ≤ (c.toNat : Int)) && decide ((c.toNat : Int) ≤ 122)) := rfl
    simp only [h1, h2, decide_true, decide_false, Bool.and_true, Bool.and_false] at e
    replace e := Lib.hid e
    go_enter Tryd.func33, Tryd.ntmps33
    go_wp2
    go_returns
    exact ⟨by rw [e.out]; rfl, rfl⟩
theorem uinner_any (c : UInt8) (w : World) : Calls Tryd.prog 38 #[.int .u8 c.toNat] w (RetW (.bool (innB c)) w) := by
  have L := fun wx => Lib.hid (uletter_any c wx)
  replace L := Lib.hid L
  have e : innB c = (letB c || (decide (48 ≤ (c.toNat : Int)) && decide ((c.toNat : Int) ≤ 57)) || (c.toNat : Int) == 95) := rfl
  generalize letB c = b at *
  rcases b with _ | _ <;> by_cases h1 : 48 ≤ (c.toNat : Int) <;> by_cases h2 : (c.toNat : Int) ≤ 57 <;> rcases h3 : ((c.toNat : Int) == 95)
  all_goals
    rw [h3] at e
    simp [h1, h2] at e
    replace e := Lib.hid e
    go_enter Tryd.func38, Tryd.ntmps38
    go_wp2_with ((with_reducible refine ((L.out _).out).mono ?_); rintro e w1 ⟨rfl, rfl⟩)
    all_goals
      go_returns
      exact ⟨by rw [e.out]; first | rfl | (simp; omega), rfl⟩
theorem uword_any (s : ByteArray) (a z : Nat) (hz : spanL innL (s.data.toList.drop a) = z) (ha : a ≤ s.size) (hs : s.size ≤ 140737488351232) (w : World) :
    Calls Tryd.prog 27 #[.string s, .int .i64 a] w (RetW (.int .i64 z) w) := by
  have I := fun c wx => Lib.hid (uinner_any c wx)
  replace I := Lib.hid I
  have S := fun k hk hp => Lib.hid (span_step innL s a k hk hp)
  replace S := Lib.hid S
  have T := fun k hk hp => Lib.hid (span_stop innL s a k hk hp)
  replace T := Lib.hid T
  have U := fun k hk => Lib.hid (span_end innL s a k hk)
  replace U := Lib.hid U
  go_enter Tryd.func27, Tryd.ntmps27
  go_wp2
  go_loop [5] (fun i => ∃ k : Nat, a + k ≤ s.size ∧ i = .int .i64 k ∧ SpanTo innL s a (a + k)) (fun i => s.size - (intOf i).toNat)
  case atStart => exact ⟨0, ha, rfl, rfl⟩
  case round =>
    obtain ⟨k, hk, rfl, hr⟩ := hrel
    by_cases hlt : a + k < s.size
    · have C := I.out s[a + k]
      replace C := Lib.hid C
      have hd : innL (s.data.toList.drop (a + k)) = innB s[a + k] := by rw [dropK s (a + k) hlt]; rfl
      rcases hp : innB s[a + k]
      · have T := (T.out (a + k) hlt (by rw [hd]; exact hp)).out hr
        have hzk : z = k := by omega
        replace hzk := Lib.hid hzk
        rw [hp] at C
        clear hz hd hp T
        go_wp2_with ((with_reducible refine ((C.out _).out).mono ?_); rintro e w1 ⟨rfl, rfl⟩)
        go_returns
        exact ⟨by rw [hzk.out]; rfl, rfl⟩
      · have S := Lib.hid ((S.out (a + k) hlt (by rw [hd]; exact hp)).out hr)
        rw [hp] at C
        clear hz hd hp
        go_wp2_with ((with_reducible refine ((C.out _).out).mono ?_); rintro e w1 ⟨rfl, rfl⟩)
        go_round
        case rel => exact ⟨k + 1, by omega, by go_num, S.out⟩
        case measure => simp [intOf]; omega
    · have U := (U.out (a + k) hlt).out hr
      have hzk : z = k := by omega
      replace hzk := Lib.hid hzk
      clear hz U
      go_wp2
      go_returns
      exact ⟨by rw [hzk.out]; rfl, rfl⟩
/-- What the reference's token is. -/
def urV (a : Nat) : Tok → Value
  | .ok (k, t, n, z) => .tuple #[.agg #[.int .i64 k, .string ⟨t.toArray⟩, .int .i64 n, .int .i64 (a : Int)], .int .i64 ((a + z : Nat) : Int), .int .i64 0]
  | .error x => .tuple #[.agg #[.int .i64 0, .string ⟨#[]⟩, .int .i64 0, .int .i64 0], .int .i64 (a : Int), .int .i64 x]
theorem urV_ok (a : Nat) (k : Int) (t : List UInt8) (n : Int) (z : Nat) : urV a (.ok (k, t, n, z)) = .tuple #[.agg #[.int .i64 k, .string ⟨t.toArray⟩, .int .i64 n, .int .i64 (a : Int)], .int .i64 ((a + z : Nat) : Int), .int .i64 0] := rfl
theorem urV_err (a : Nat) (x : Int) : urV a (.error x) = .tuple #[.agg #[.int .i64 0, .string ⟨#[]⟩, .int .i64 0, .int .i64 0], .int .i64 (a : Int), .int .i64 x] := rfl
def KindD (k : Int) (d : Bool) : Prop := k = if d then 2 else 1
set_option maxRecDepth 100000 in
set_option maxHeartbeats 2000000 in
theorem upath_any (s : ByteArray) (a : Nat) (ha : a ≤ s.size) (hs : s.size ≤ 140737488351232) (w : World) :
    Calls Tryd.prog 34 #[.string s, .int .i64 a] w (Ret (urV a (wordT (s.data.toList.drop a))) w) := by
  have hlen : s.data.toList.length = s.size := by simp
  have L := fun c wx => Lib.hid (uletter_any c wx)
  replace L := Lib.hid L
  have W := fun b z hz hb wx => Lib.hid (uword_any s b z hz hb hs wx)
  replace W := Lib.hid W
  obtain ⟨n0, hn0⟩ : ∃ n, spanL innL (s.data.toList.drop a) = n := ⟨_, rfl⟩
  have W0 := fun wx => W.out a n0 hn0 ha wx
  replace W0 := Lib.hid W0
  have hn0' : a + n0 ≤ s.size := by
    have := spanL_le innL (s.data.toList.drop a)
    rw [hn0, List.length_drop] at this
    omega
  have hfirst := Lib.hid (pathAt_first (s.data.toList.drop a))
  rw [hn0] at hfirst
  clear hn0
  go_enter Tryd.func34, Tryd.ntmps34
  go_wp2_with ((with_reducible refine ((W0.out _).out).mono ?_); rintro e w1 ⟨rfl, rfl⟩)
  go_loop [7, 8, 9, 10] (fun vn ve vk vl => ∃ (n e : Nat) (d : Bool) (k : Int), KindD k d ∧ a ≤ e ∧ e ≤ s.size ∧ n ≤ s.size ∧ vn = .int .i64 n ∧ ve = .int .i64 e ∧ vk = .int .i64 k ∧ vl = .bool (decide (16 < (n : Int))) ∧ PathAt (s.data.toList.drop a) n (e - a) d)
    (fun _ ve _ _ => s.size - (intOf ve).toNat)
  case atStart => exact ⟨n0, a + n0, false, 1, rfl, by omega, hn0', by omega, rfl, rfl, rfl, rfl, by rw [Nat.add_sub_cancel_left]; exact hfirst.out⟩
  case round =>
    obtain ⟨n, e, d, k, hk, hae, he, hn, rfl, rfl, rfl, rfl, hat⟩ := hrel
    have hdd : (s.data.toList.drop a).drop (e - a) = s.data.toList.drop e := by rw [List.drop_drop, show a + (e - a) = e by omega]
    by_cases h16 : 16 < n
    · have hres := Lib.hid (show urV a (wordT (s.data.toList.drop a)) = _ from by rw [pathAt_long hat h16, urV_err])
      clear hat hdd hlen
      have h16' : decide (16 < (n : Int)) = true := decide_eq_true (by omega)
      rw [h16']
      go_wp2
      go_returns
      exact ⟨by rw [hres.out]; try rfl, by (first | exact gwT | exact lzT)⟩
    · have h16' : decide (16 < (n : Int)) = false := decide_eq_false (by omega)
      rw [h16']
      by_cases hgo : ∃ h : e + 1 < s.size, ((s[e].toNat : Int) == 46) = true ∧ letB s[e + 1] = true
      · obtain ⟨h1, h2, h3⟩ := hgo
        obtain ⟨m, hm⟩ : ∃ m, spanL innL (s.data.toList.drop (e + 1)) = m := ⟨_, rfl⟩
        have hm' : e + 1 + m ≤ s.size := by
          have := spanL_le innL (s.data.toList.drop (e + 1))
          rw [hm, List.length_drop] at this
          omega
        have hnext := pathAt_next hat (by omega) (hdd.trans (dropK s e (by omega))) h2 (by rw [dropK s (e + 1) h1]; exact h3)
        rw [hm, show e - a + 1 + m = (e + 1 + m) - a by omega] at hnext
        replace hnext := Lib.hid hnext
        have W1 := Lib.hid (show ∀ wx, Calls Tryd.prog 27 #[.string s, .int .i64 ((e : Int) + 1)] wx (RetW (.int .i64 m) wx) from fun wx => (W.out (e + 1) m hm (by omega) wx).out)
        have L1 := fun wx => L.out s[e + 1] wx
        rw [h3] at L1
        replace L1 := Lib.hid L1
        clear hat hdd hm h3 W L W0
        go_wp2_with (first | ((with_reducible refine ((L1.out _).out).mono ?_); rintro e w1 ⟨rfl, rfl⟩) | ((with_reducible refine (W1.out _).mono ?_); rintro e w1 ⟨rfl, rfl⟩))
        go_round
        case rel => exact ⟨m, e + 1 + m, true, 2, rfl, by omega, hm', by omega, rfl, by go_num, rfl, rfl, hnext.out⟩
        case measure => simp [intOf]; omega
      · have hstop := pathAt_stop hat (by rw [List.length_drop]; omega) (by omega) (fun c q hcq => by
          rw [hdd] at hcq
          have hlt : e < s.size := by
            rcases Nat.lt_or_ge e s.size with h | h
            · exact h
            · rw [List.drop_of_length_le (by omega)] at hcq; cases hcq
          rw [dropK s e hlt] at hcq
          simp only [List.cons.injEq] at hcq
          obtain ⟨rfl, rfl⟩ := hcq
          rw [← Bool.not_eq_true, Bool.and_eq_true]
          rintro ⟨h2, h3⟩
          have h1 : e + 1 < s.size := by
            rcases Nat.lt_or_ge (e + 1) s.size with h | h
            · exact h
            · rw [List.drop_of_length_le (by omega)] at h3; cases h3
          rw [dropK s (e + 1) h1] at h3
          exact hgo ⟨h1, h2, h3⟩)
        have hways : ¬ e + 1 < s.size ∨ (∃ h : e + 1 < s.size, ((s[e].toNat : Int) == 46) = false) ∨ ∃ h : e + 1 < s.size, ((s[e].toNat : Int) == 46) = true ∧ letB s[e + 1] = false := by
          by_cases h1 : e + 1 < s.size
          · rcases h2 : ((s[e].toNat : Int) == 46)
            · exact .inr (.inl ⟨h1, h2⟩)
            · rcases h3 : letB s[e + 1]
              · exact .inr (.inr ⟨h1, h2, h3⟩)
              · exact absurd ⟨h1, h2, h3⟩ hgo
          · exact .inl h1
        obtain ⟨t, ht⟩ : ∃ t, s.extract a e = t := ⟨_, rfl⟩
        have htl : (s.data.toList.drop a).take (e - a) = t.data.toList := by
          rw [← take_data, show a + (e - a) = e by omega, ht]
        have hsl := slice_s s a e hae he t ht
        have hres : urV a (wordT (s.data.toList.drop a)) = if 32 < e - a then .tuple #[.agg #[.int .i64 0, .string ⟨#[]⟩, .int .i64 0, .int .i64 0], .int .i64 (a : Int), .int .i64 15]
            else .tuple #[.agg #[.int .i64 k, .string t, .int .i64 0, .int .i64 (a : Int)], .int .i64 (e : Int), .int .i64 0] := by
          rw [hstop.2, htl]
          by_cases h : 32 < e - a
          · rw [if_pos h, if_pos h, urV_err]
          · rw [if_neg h, if_neg h, urV_ok, show a + (e - a) = e by omega, ← show k = if d then 2 else 1 from hk]
        clear hat hdd hstop hgo htl ht W W0
        by_cases h32 : 32 < e - a
        · rw [if_pos h32] at hres
          replace hres := Lib.hid hres
          have h32' : (32 : Int) < (e : Int) - a := by omega
          clear h32 hsl
          rcases hways with h1 | ⟨h1, h2⟩ | ⟨h1, h2, h3⟩
          · go_wp2
            go_returns
            exact ⟨by rw [hres.out]; try rfl, by (first | exact gwT | exact lzT)⟩
          · go_wp2
            go_returns
            exact ⟨by rw [hres.out]; try rfl, by (first | exact gwT | exact lzT)⟩
          · have L1 := fun wx => L.out s[e + 1] wx
            rw [h3] at L1
            replace L1 := Lib.hid L1
            clear h3 L
            go_wp2_with ((with_reducible refine ((L1.out _).out).mono ?_); rintro e w1 ⟨rfl, rfl⟩)
            go_returns
            exact ⟨by rw [hres.out]; try rfl, by (first | exact gwT | exact lzT)⟩
        · rw [if_neg h32] at hres
          replace hres := Lib.hid hres
          have h32' : ¬ (32 : Int) < (e : Int) - a := by omega
          clear h32
          rcases hways with h1 | ⟨h1, h2⟩ | ⟨h1, h2, h3⟩
          · go_wp2
            go_returns
            exact ⟨by rw [hres.out]; try rfl, by (first | exact gwT | exact lzT)⟩
          · go_wp2
            go_returns
            exact ⟨by rw [hres.out]; try rfl, by (first | exact gwT | exact lzT)⟩
          · have L1 := fun wx => L.out s[e + 1] wx
            rw [h3] at L1
            replace L1 := Lib.hid L1
            clear h3 L
            go_wp2_with ((with_reducible refine ((L1.out _).out).mono ?_); rintro e w1 ⟨rfl, rfl⟩)
            go_returns
            exact ⟨by rw [hres.out]; try rfl, by (first | exact gwT | exact lzT)⟩
end Go.Proofs.YtphdnfijefddlaaDoor

