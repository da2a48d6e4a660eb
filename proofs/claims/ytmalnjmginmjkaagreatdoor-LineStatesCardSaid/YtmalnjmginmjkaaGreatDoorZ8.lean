/- Several texts of this proof, joined: U0, U1, U2. -/
import Derived.Test.YtmalnjmginmjkaaGreatDoorZ6
import Derived.Test.YtmalnjmginmjkaaGreatDoorZ4
import Derived.Test.YtmalnjmginmjkaaGreatDoorZ7
import Derived.WalkKit
import Derived.ProofKit
import Derived.OpenShut
import Derived.Handy
import Derived.BigQuiet
import Derived.Lib.Hide
import Derived.WalkSmall
import Derived.WalkLawsBesides
/- Plain: what the reference's scanner keeps while it goes. No program. -/
namespace Go.Proofs.YtmalnjmginmjkaaGreatDoor
open Go.Lib
def innL : List UInt8 → Bool
  | [] => false
  | c :: _ => innB c
theorem inn_dot {c : UInt8} (h : innB c = true) : ((c.toNat : Int) == 46) = false := by
  rw [beq_eq_false_iff_ne]
  simp only [innB, letB, digB, Bool.or_eq_true, Bool.and_eq_true, decide_eq_true_eq, beq_iff_eq] at h
  omega
/-- A word's bytes, taken off. -/
theorem inner_off : ∀ (r : List UInt8) (n : Nat), spanL wordL r = spanL innL r + spanL wordL (r.drop (spanL innL r)) ∧
    longL n (r.take (spanL wordL r)) = longL (n + spanL innL r) ((r.drop (spanL innL r)).take (spanL wordL (r.drop (spanL innL r)))) ∧
    dotL (r.take (spanL wordL r)) = dotL ((r.drop (spanL innL r)).take (spanL wordL (r.drop (spanL innL r)))) ∧ innL (r.drop (spanL innL r)) = false
  | [], n => ⟨rfl, rfl, rfl, rfl⟩
  | c :: r, n => by
    cases h : innB c
    · rw [span_no (p := innL) h]
      exact ⟨by rw [Nat.zero_add, List.drop_zero], by rw [Nat.add_zero, List.drop_zero], by rw [List.drop_zero], h⟩
    · have hw : wordL (c :: r) = true := by rw [wordL, h, Bool.true_or]
      have hd := inn_dot h
      obtain ⟨i1, i2, i3, i4⟩ := inner_off r (n + 1)
      rw [span_yes (p := innL) h, span_yes hw, List.drop_succ_cons, List.take_succ_cons]
      refine ⟨by omega, ?_, ?_, i4⟩
      · rw [longL, hd, if_neg (by decide), i2]
        congr 1; omega
      · rw [← i3]
        show ((((c.toNat : Int) == 46)) || _) = _
        rw [hd, Bool.false_or]
        rfl
theorem dot_off (c : UInt8) (r : List UInt8) (n : Nat) (hc : ((c.toNat : Int) == 46) = true) (hr : headL r = true) : spanL wordL (c :: r) = spanL wordL r + 1 ∧
    longL n ((c :: r).take (spanL wordL (c :: r))) = (decide (16 < n) || longL 0 (r.take (spanL wordL r))) ∧ dotL ((c :: r).take (spanL wordL (c :: r))) = true := by
  have hw : wordL (c :: r) = true := by rw [wordL, hc, hr]; simp
  rw [span_yes hw, List.take_succ_cons]
  refine ⟨rfl, ?_, ?_⟩
  · rw [longL, hc, if_pos rfl]
  · show ((((c.toNat : Int) == 46)) || _) = _
    rw [hc, Bool.true_or]
theorem word_stop (r : List UInt8) (hi : innL r = false) (h : ∀ c q, r = c :: q → (((c.toNat : Int) == 46) && headL q) = false) : spanL wordL r = 0 := by
  cases r with
  | nil => rfl
  | cons c q =>
    have hw : wordL (c :: q) = false := by
      have : innB c = false := hi
      rw [wordL, this, h c q rfl]; rfl
    exact span_no hw
theorem long_stop (r : List UInt8) (n : Nat) (hi : innL r = false) (hn : 16 < n) : longL n (r.take (spanL wordL r)) = true := by
  cases r with
  | nil => simpa [spanL, longL] using hn
  | cons c q =>
    have hin : innB c = false := hi
    cases hd : ((c.toNat : Int) == 46)
    · have hw : wordL (c :: q) = false := by rw [wordL, hin, hd]; rfl
      rw [span_no hw]
      simpa [longL] using hn
    · cases hh : headL q
      · have hw : wordL (c :: q) = false := by rw [wordL, hin, hd, hh]; rfl
        rw [span_no hw]
        simpa [longL] using hn
      · rw [(dot_off c q n hd hh).2.1]
        simp [hn]
/-- Where the reference stands in a word, or path: n bytes of the part are behind it, j bytes in all, d: there was a dot. -/
def PathAt (l : List UInt8) (n j : Nat) (d : Bool) : Prop := spanL wordL l = j + spanL wordL (l.drop j) ∧ innL (l.drop j) = false ∧
  longL 0 (l.take (spanL wordL l)) = longL n ((l.drop j).take (spanL wordL (l.drop j))) ∧ dotL (l.take (spanL wordL l)) = (d || dotL ((l.drop j).take (spanL wordL (l.drop j))))
theorem pathAt_first (l : List UInt8) : PathAt l (spanL innL l) (spanL innL l) false := by
  obtain ⟨i1, i2, i3, i4⟩ := inner_off l 0
  refine ⟨i1, i4, ?_, ?_⟩
  · rw [i2, Nat.zero_add]
  · rw [i3, Bool.false_or]
theorem pathAt_next {l : List UInt8} {n j : Nat} {d : Bool} (h : PathAt l n j d) (hn : n ≤ 16) {c : UInt8} {r : List UInt8} (hl : l.drop j = c :: r) (hc : ((c.toNat : Int) == 46) = true) (hr : headL r = true) :
    PathAt l (spanL innL r) (j + 1 + spanL innL r) true := by
  obtain ⟨h1, h2, h3, h4⟩ := h
  rw [hl] at h1 h2 h3 h4
  obtain ⟨d1, d2, d3⟩ := dot_off c r n hc hr
  obtain ⟨i1, i2, i3, i4⟩ := inner_off r 0
  have e : l.drop (j + 1 + spanL innL r) = r.drop (spanL innL r) := by
    rw [← List.drop_drop, ← List.drop_drop, hl, List.drop_succ_cons, List.drop_zero]
  have hn' : decide (16 < n) = false := by rw [decide_eq_false_iff_not]; omega
  refine ⟨?_, by rw [e]; exact i4, ?_, ?_⟩
  · rw [e]; omega
  · rw [h3, d2, hn', Bool.false_or, i2, Nat.zero_add, e]
  · rw [h4, d3]; simp
/-- The answer where it stops. -/
theorem pathAt_stop {l : List UInt8} {n j : Nat} {d : Bool} (h : PathAt l n j d) (hj : j ≤ l.length) (hn : n ≤ 16) (hs : ∀ c q, l.drop j = c :: q → (((c.toNat : Int) == 46) && headL q) = false) :
    spanL wordL l = j ∧ wordT l = if 32 < j then .error 15 else .ok (if d then 2 else 1, l.take j, 0, j) := by
  obtain ⟨h1, h2, h3, h4⟩ := h
  have h0 := word_stop _ h2 hs
  rw [h0] at h1 h3 h4
  rw [Nat.add_zero] at h1
  rw [h1] at h3 h4
  have hn' : decide (16 < n) = false := by rw [decide_eq_false_iff_not]; omega
  have e3 : longL 0 (l.take j) = false := by rw [h3]; exact hn'
  have e4 : dotL (l.take j) = d := by rw [h4]; simp [dotL]
  refine ⟨h1, ?_⟩
  unfold wordT
  simp only [h1, e3, e4, Bool.or_false, List.length_take, Nat.min_eq_left hj, decide_eq_true_eq]
theorem pathAt_long {l : List UInt8} {n j : Nat} {d : Bool} (h : PathAt l n j d) (hn : 16 < n) : wordT l = .error 15 := by
  obtain ⟨h1, h2, h3, h4⟩ := h
  have h0 := long_stop _ n h2 hn
  rw [h0] at h3
  unfold wordT
  simp only [h3, Bool.or_true, if_true]
theorem valF_snoc (l : List UInt8) (c : UInt8) (a : Nat) : valF a (l ++ [c]) = valF a l * 10 + (c.toNat - 48) := by simp [valF]
theorem valL_eq (l : List UInt8) : valL l = valF 0 l := rfl
theorem dig_of (d : Nat) (hd : d < 10) : (UInt8.ofNat (48 + d)).toNat = 48 + d := by
  rw [UInt8.toNat_ofNat']; exact Nat.mod_eq_of_lt (by omega)
theorem val_dec (u : Nat) : valL (decDigits u) = u := by
  induction u using Nat.strongRecOn with
  | _ u ih =>
    by_cases hu : u < 10
    · rw [decDigits, dif_pos hu]
      show 0 * 10 + ((UInt8.ofNat (48 + u)).toNat - 48) = u
      rw [dig_of u hu]; omega
    · rw [decDigits, dif_neg hu, valL_eq, valF_snoc, dig_of _ (by omega), ← valL_eq, ih (u / 10) (by omega)]
      omega
theorem dec_val : ∀ (k : Nat) (l : List UInt8), l.length = k → l ≠ [] → (∀ c ∈ l, digB c = true) → (l.length = 1 ∨ ∀ c r, l = c :: r → c.toNat ≠ 48) → decDigits (valL l) = l
  | 0, l, hk, hne, _, _ => absurd (List.eq_nil_of_length_eq_zero hk) hne
  | k + 1, l, hk, hne, hd, hz => by
    obtain ⟨m, c, rfl⟩ : ∃ m c, l = m ++ [c] := ⟨l.dropLast, l.getLast hne, (List.dropLast_concat_getLast hne).symm⟩
    have hc := dig_nat (hd c (by simp))
    have ec : UInt8.ofNat (48 + (c.toNat - 48)) = c := by
      rw [show 48 + (c.toNat - 48) = c.toNat by omega]; simp
    rw [valL_eq, valF_snoc, ← valL_eq]
    cases m with
    | nil =>
      have e : valL ([] : List UInt8) = 0 := rfl
      rw [e, Nat.zero_mul, Nat.zero_add, decDigits, dif_pos (by omega), ec]
      rfl
    | cons x m =>
      have hx : x.toNat ≠ 48 := by
        rcases hz with hz | hz
        · simp at hz
        · exact hz x (m ++ [c]) rfl
      have hxd := dig_nat (hd x (by simp))
      have hv : 1 ≤ valL (x :: m) := by
        have := valF_ge m (0 * 10 + (x.toNat - 48))
        show 1 ≤ valF (0 * 10 + (x.toNat - 48)) m
        omega
      have ih := dec_val k (x :: m) (by simpa using hk) (by simp) (fun d h => hd d (by simp at h ⊢; rcases h with h | h <;> simp [h])) (.inr fun c r h => by
        simp only [List.cons.injEq] at h
        rw [← h.1]; exact hx)
      rw [decDigits, dif_neg (by omega), show (valL (x :: m) * 10 + (c.toNat - 48)) / 10 = valL (x :: m) by omega, ih, show (valL (x :: m) * 10 + (c.toNat - 48)) % 10 = c.toNat - 48 by omega, ec]
end Go.Proofs.YtmalnjmginmjkaaGreatDoor
namespace Go.Proofs.YtmalnjmginmjkaaGreatDoor
open Go.RowKit
theorem uletter_any (c : UInt8) (w : World) : Calls Tryz.prog 33 #[.int .u8 c.toNat] w (RetW (.bool (letB c)) w) := by
  by_cases h1 : 97 ≤ (c.toNat : Int) <;> by_cases h2 : (c.toNat : Int) ≤ 122
  all_goals
    have e : letB c = (decide (97 ≤ (c.toNat : Int)) && decide ((c.toNat : Int) ≤ 122)) := rfl
    simp only [h1, h2, decide_true, decide_false, Bool.and_true, Bool.and_false] at e
    replace e := Lib.hid e
    go_enter Tryz.func33, Tryz.ntmps33
    go_wp2
    go_returns
    exact ⟨by rw [e.out]; rfl, rfl⟩
theorem uinner_any (c : UInt8) (w : World) : Calls Tryz.prog 38 #[.int .u8 c.toNat] w (RetW (.bool (innB c)) w) := by
  have L := fun wx => Lib.hid (uletter_any c wx)
  replace L := Lib.hid L
  have e : innB c = (letB c || (decide (48 ≤ (c.toNat : Int)) && decide ((c.toNat : Int) ≤ 57)) || (c.toNat : Int) == 95) := rfl
  generalize letB c = b at *
  rcases b with _ | _ <;> by_cases h1 : 48 ≤ (c.toNat : Int) <;> by_cases h2 : (c.toNat : Int) ≤ 57 <;> rcases h3 : ((c.toNat : Int) == 95)
  all_goals
    rw [h3] at e
    simp [h1, h2] at e
    replace e := Lib.hid e
    go_enter Tryz.func38, Tryz.ntmps38
    go_wp2_with ((with_reducible refine ((L.out _).out).mono ?_); rintro e w1 ⟨rfl, rfl⟩)
    all_goals
      go_returns
      exact ⟨by rw [e.out]; first | rfl | (simp; omega), rfl⟩
theorem uword_any (s : ByteArray) (a z : Nat) (hz : spanL innL (s.data.toList.drop a) = z) (ha : a ≤ s.size) (hs : s.size ≤ 140737488351232) (w : World) :
    Calls Tryz.prog 18 #[.string s, .int .i64 a] w (RetW (.int .i64 z) w) := by
  have I := fun c wx => Lib.hid (uinner_any c wx)
  replace I := Lib.hid I
  have S := fun k hk hp => Lib.hid (span_step innL s a k hk hp)
  replace S := Lib.hid S
  have T := fun k hk hp => Lib.hid (span_stop innL s a k hk hp)
  replace T := Lib.hid T
  have U := fun k hk => Lib.hid (span_end innL s a k hk)
  replace U := Lib.hid U
  go_enter Tryz.func18, Tryz.ntmps18
  go_wp2
  go_loop [5] (fun i => ∃ k : Nat, a + k ≤ s.size ∧ i = .int .i64 k ∧ SpanTo innL s a (a + k)) (fun i => s.size - (intOf i).toNat)
  case atStart => exact ⟨0, ha, rfl, rfl⟩
  case round =>
    obtain ⟨k, hk, rfl, hr⟩ := hrel
    by_cases hlt : a + k < s.size
    · have C := I.out s[a + k]
      replace C := Lib.hid C
      have hd : innL (s.data.toList.drop (a + k)) = innB s[a + k] := by rw [dropK s (a + k) hlt]; rfl
      rcases hp : innB s[a + k]
      · have T := (T.out (a + k) hlt (by rw [hd]; exact hp)).out hr
        have hzk : z = k := by omega
        replace hzk := Lib.hid hzk
        rw [hp] at C
        clear hz hd hp T
        go_wp2_with ((with_reducible refine ((C.out _).out).mono ?_); rintro e w1 ⟨rfl, rfl⟩)
        go_returns
        exact ⟨by rw [hzk.out]; rfl, rfl⟩
      · have S := Lib.hid ((S.out (a + k) hlt (by rw [hd]; exact hp)).out hr)
        rw [hp] at C
        clear hz hd hp
        go_wp2_with ((with_reducible refine ((C.out _).out).mono ?_); rintro e w1 ⟨rfl, rfl⟩)
        go_round
        case rel => exact ⟨k + 1, by omega, by go_num, S.out⟩
        case measure => simp [intOf]; omega
    · have U := (U.out (a + k) hlt).out hr
      have hzk : z = k := by omega
      replace hzk := Lib.hid hzk
      clear hz U
      go_wp2
      go_returns
      exact ⟨by rw [hzk.out]; rfl, rfl⟩
/-- What the reference's token is. -/
def urV (a : Nat) : Tok → Value
  | .ok (k, t, n, z) => .tuple #[.agg #[.int .i64 k, .string ⟨t.toArray⟩, .int .i64 n, .int .i64 (a : Int)], .int .i64 ((a + z : Nat) : Int), .int .i64 0]
  | .error x => .tuple #[.agg #[.int .i64 0, .string ⟨#[]⟩, .int .i64 0, .int .i64 0], .int .i64 (a : Int), .int .i64 x]
theorem urV_ok (a : Nat) (k : Int) (t : List UInt8) (n : Int) (z : Nat) : urV a (.ok (k, t, n, z)) = .tuple #[.agg #[.int .i64 k, .string ⟨t.toArray⟩, .int .i64 n, .int .i64 (a : Int)], .int .i64 ((a + z : Nat) : Int), .int .i64 0] := rfl
theorem urV_err (a : Nat) (x : Int) : urV a (.error x) = .tuple #[.agg #[.int .i64 0, .string ⟨#[]⟩, .int .i64 0, .int .i64 0], .int .i64 (a : Int), .int .i64 x] := rfl
def KindD (k : Int) (d : Bool) : Prop := k = if d then 2 else 1
set_option maxRecDepth 100000 in
set_option maxHeartbeats 2000000 in
theorem upath_any (s : ByteArray) (a : Nat) (ha : a ≤ s.size) (hs : s.size ≤ 140737488351232) (w : World) :
    Calls Tryz.prog 34 #[.string s, .int .i64 a] w (Ret (urV a (wordT (s.data.toList.drop a))) w) := by
  have hlen : s.data.toList.length = s.size := by simp
  have L := fun c wx => Lib.hid (uletter_any c wx)
  replace L := Lib.hid L
  have W := fun b z hz hb wx => Lib.hid (uword_any s b z hz hb hs wx)
  replace W := Lib.hid W
  obtain ⟨n0, hn0⟩ : ∃ n, spanL innL (s.data.toList.drop a) = n := ⟨_, rfl⟩
  have W0 := fun wx => W.out a n0 hn0 ha wx
  replace W0 := Lib.hid W0
  have hn0' : a + n0 ≤ s.size := by
    have := spanL_le innL (s.data.toList.drop a)
    rw [hn0, List.length_drop] at this
    omega
  have hfirst := Lib.hid (pathAt_first (s.data.toList.drop a))
  rw [hn0] at hfirst
  clear hn0
  go_enter Tryz.func34, Tryz.ntmps34
  go_wp2_with ((with_reducible refine ((W0.out _).out).mono ?_); rintro e w1 ⟨rfl, rfl⟩)
  go_loop [7, 8, 9, 10] (fun vn ve vk vl => ∃ (n e : Nat) (d : Bool) (k : Int), KindD k d ∧ a ≤ e ∧ e ≤ s.size ∧ n ≤ s.size ∧ vn = .int .i64 n ∧ ve = .int .i64 e ∧ vk = .int .i64 k ∧ vl = .bool (decide (16 < (n : Int))) ∧ PathAt (s.data.toList.drop a) n (e - a) d)
    (fun _ ve _ _ => s.size - (intOf ve).toNat)
  case atStart => exact ⟨n0, a + n0, false, 1, rfl, by omega, hn0', by omega, rfl, rfl, rfl, rfl, by rw [Nat.add_sub_cancel_left]; exact hfirst.out⟩
  case round =>
    obtain ⟨n, e, d, k, hk, hae, he, hn, rfl, rfl, rfl, rfl, hat⟩ := hrel
    have hdd : (s.data.toList.drop a).drop (e - a) = s.data.toList.drop e := by rw [List.drop_drop, show a + (e - a) = e by omega]
    by_cases h16 : 16 < n
    · have hres := Lib.hid (show urV a (wordT (s.data.toList.drop a)) = _ from by rw [pathAt_long hat h16, urV_err])
      clear hat hdd hlen
      have h16' : decide (16 < (n : Int)) = true := decide_eq_true (by omega)
      rw [h16']
      go_wp2
      go_returns
      exact ⟨by rw [hres.out]; try rfl, by repeat' (first | (with_reducible exact Below.refl _ _) | (with_reducible assumption) | (with_reducible refine Below.alloc ?_ ?_ _) | (with_reducible refine Below.drew ?_) | (with_reducible refine belowN ?_ _) | (with_reducible refine Below.setCell ?_ ?_ _) | (with_reducible refine belowG ?_ ?_) | (with_reducible exact Nat.le_refl _) | (with_reducible refine le_sizeG ?_) | (with_reducible refine le_sizeA ?_) | (with_reducible refine le_sizeC ?_) | (with_reducible refine le_sizeD ?_) | (with_reducible refine le_sizeN ?_) | go_size | (simp [go_sem]; done))⟩
    · have h16' : decide (16 < (n : Int)) = false := decide_eq_false (by omega)
      rw [h16']
      by_cases hgo : ∃ h : e + 1 < s.size, ((s[e].toNat : Int) == 46) = true ∧ letB s[e + 1] = true
      · obtain ⟨h1, h2, h3⟩ := hgo
        obtain ⟨m, hm⟩ : ∃ m, spanL innL (s.data.toList.drop (e + 1)) = m := ⟨_, rfl⟩
        have hm' : e + 1 + m ≤ s.size := by
          have := spanL_le innL (s.data.toList.drop (e + 1))
          rw [hm, List.length_drop] at this
          omega
        have hnext := pathAt_next hat (by omega) (hdd.trans (dropK s e (by omega))) h2 (by rw [dropK s (e + 1) h1]; exact h3)
        rw [hm, show e - a + 1 + m = (e + 1 + m) - a by omega] at hnext
        replace hnext := Lib.hid hnext
        have W1 := Lib.hid (show ∀ wx, Calls Tryz.prog 18 #[.string s, .int .i64 ((e : Int) + 1)] wx (RetW (.int .i64 m) wx) from fun wx => (W.out (e + 1) m hm (by omega) wx).out)
        have L1 := fun wx => L.out s[e + 1] wx
        rw [h3] at L1
        replace L1 := Lib.hid L1
        clear hat hdd hm h3 W L W0
        go_wp2_with (first | ((with_reducible refine ((L1.out _).out).mono ?_); rintro e w1 ⟨rfl, rfl⟩) | ((with_reducible refine (W1.out _).mono ?_); rintro e w1 ⟨rfl, rfl⟩))
        go_round
        case rel => exact ⟨m, e + 1 + m, true, 2, rfl, by omega, hm', by omega, rfl, by go_num, rfl, rfl, hnext.out⟩
        case measure => simp [intOf]; omega
      · have hstop := pathAt_stop hat (by rw [List.length_drop]; omega) (by omega) (fun c q hcq => by
          rw [hdd] at hcq
          have hlt : e < s.size := by
            rcases Nat.lt_or_ge e s.size with h | h
            · exact h
            · rw [List.drop_of_length_le (by omega)] at hcq; cases hcq
          rw [dropK s e hlt] at hcq
          simp only [List.cons.injEq] at hcq
          obtain ⟨rfl, rfl⟩ := hcq
          rw [← Bool.not_eq_true, Bool.and_eq_true]
          rintro ⟨h2, h3⟩
          have h1 : e + 1 < s.size := by
            rcases Nat.lt_or_ge (e + 1) s.size with h | h
            · exact h
            · rw [List.drop_of_length_le (by omega)] at h3; cases h3
          rw [dropK s (e + 1) h1] at h3
          exact hgo ⟨h1, h2, h3⟩)
        have hways : ¬ e + 1 < s.size ∨ (∃ h : e + 1 < s.size, ((s[e].toNat : Int) == 46) = false) ∨ ∃ h : e + 1 < s.size, ((s[e].toNat : Int) == 46) = true ∧ letB s[e + 1] = false := by
          by_cases h1 : e + 1 < s.size
          · rcases h2 : ((s[e].toNat : Int) == 46)
            · exact .inr (.inl ⟨h1, h2⟩)
            · rcases h3 : letB s[e + 1]
              · exact .inr (.inr ⟨h1, h2, h3⟩)
              · exact absurd ⟨h1, h2, h3⟩ hgo
          · exact .inl h1
        obtain ⟨t, ht⟩ : ∃ t, s.extract a e = t := ⟨_, rfl⟩
        have htl : (s.data.toList.drop a).take (e - a) = t.data.toList := by
          rw [← take_data, show a + (e - a) = e by omega, ht]
        have hsl := slice_s s a e hae he t ht
        have hres : urV a (wordT (s.data.toList.drop a)) = if 32 < e - a then .tuple #[.agg #[.int .i64 0, .string ⟨#[]⟩, .int .i64 0, .int .i64 0], .int .i64 (a : Int), .int .i64 15]
            else .tuple #[.agg #[.int .i64 k, .string t, .int .i64 0, .int .i64 (a : Int)], .int .i64 (e : Int), .int .i64 0] := by
          rw [hstop.2, htl]
          by_cases h : 32 < e - a
          · rw [if_pos h, if_pos h, urV_err]
          · rw [if_neg h, if_neg h, urV_ok, show a + (e - a) = e by omega, ← show k = if d then 2 else 1 from hk]
        clear hat hdd hstop hgo htl ht W W0
        by_cases h32 : 32 < e - a
        · rw [if_pos h32] at hres
          replace hres := Lib.hid hres
          have h32' : (32 : Int) < (e : Int) - a := by omega
          clear h32 hsl
          rcases hways with h1 | ⟨h1, h2⟩ | ⟨h1, h2, h3⟩
          · go_wp2
            go_returns
            exact ⟨by rw [hres.out]; try rfl, by repeat' (first | (with_reducible exact Below.refl _ _) | (with_reducible assumption) | (with_reducible refine Below.alloc ?_ ?_ _) | (with_reducible refine Below.drew ?_) | (with_reducible refine belowN ?_ _) | (with_reducible refine Below.setCell ?_ ?_ _) | (with_reducible refine belowG ?_ ?_) | (with_reducible exact Nat.le_refl _) | (with_reducible refine le_sizeG ?_) | (with_reducible refine le_sizeA ?_) | (with_reducible refine le_sizeC ?_) | (with_reducible refine le_sizeD ?_) | (with_reducible refine le_sizeN ?_) | go_size | (simp [go_sem]; done))⟩
          · go_wp2
            go_returns
            exact ⟨by rw [hres.out]; try rfl, by repeat' (first | (with_reducible exact Below.refl _ _) | (with_reducible assumption) | (with_reducible refine Below.alloc ?_ ?_ _) | (with_reducible refine Below.drew ?_) | (with_reducible refine belowN ?_ _) | (with_reducible refine Below.setCell ?_ ?_ _) | (with_reducible refine belowG ?_ ?_) | (with_reducible exact Nat.le_refl _) | (with_reducible refine le_sizeG ?_) | (with_reducible refine le_sizeA ?_) | (with_reducible refine le_sizeC ?_) | (with_reducible refine le_sizeD ?_) | (with_reducible refine le_sizeN ?_) | go_size | (simp [go_sem]; done))⟩
          · have L1 := fun wx => L.out s[e + 1] wx
            rw [h3] at L1
            replace L1 := Lib.hid L1
            clear h3 L
            go_wp2_with ((with_reducible refine ((L1.out _).out).mono ?_); rintro e w1 ⟨rfl, rfl⟩)
            go_returns
            exact ⟨by rw [hres.out]; try rfl, by repeat' (first | (with_reducible exact Below.refl _ _) | (with_reducible assumption) | (with_reducible refine Below.alloc ?_ ?_ _) | (with_reducible refine Below.drew ?_) | (with_reducible refine belowN ?_ _) | (with_reducible refine Below.setCell ?_ ?_ _) | (with_reducible refine belowG ?_ ?_) | (with_reducible exact Nat.le_refl _) | (with_reducible refine le_sizeG ?_) | (with_reducible refine le_sizeA ?_) | (with_reducible refine le_sizeC ?_) | (with_reducible refine le_sizeD ?_) | (with_reducible refine le_sizeN ?_) | go_size | (simp [go_sem]; done))⟩
        · rw [if_neg h32] at hres
          replace hres := Lib.hid hres
          have h32' : ¬ (32 : Int) < (e : Int) - a := by omega
          clear h32
          rcases hways with h1 | ⟨h1, h2⟩ | ⟨h1, h2, h3⟩
          · go_wp2
            go_returns
            exact ⟨by rw [hres.out]; try rfl, by repeat' (first | (with_reducible exact Below.refl _ _) | (with_reducible assumption) | (with_reducible refine Below.alloc ?_ ?_ _) | (with_reducible refine Below.drew ?_) | (with_reducible refine belowN ?_ _) | (with_reducible refine Below.setCell ?_ ?_ _) | (with_reducible refine belowG ?_ ?_) | (with_reducible exact Nat.le_refl _) | (with_reducible refine le_sizeG ?_) | (with_reducible refine le_sizeA ?_) | (with_reducible refine le_sizeC ?_) | (with_reducible refine le_sizeD ?_) | (with_reducible refine le_sizeN ?_) | go_size | (simp [go_sem]; done))⟩
          · go_wp2
            go_returns
            exact ⟨by rw [hres.out]; try rfl, by repeat' (first | (with_reducible exact Below.refl _ _) | (with_reducible assumption) | (with_reducible refine Below.alloc ?_ ?_ _) | (with_reducible refine Below.drew ?_) | (with_reducible refine belowN ?_ _) | (with_reducible refine Below.setCell ?_ ?_ _) | (with_reducible refine belowG ?_ ?_) | (with_reducible exact Nat.le_refl _) | (with_reducible refine le_sizeG ?_) | (with_reducible refine le_sizeA ?_) | (with_reducible refine le_sizeC ?_) | (with_reducible refine le_sizeD ?_) | (with_reducible refine le_sizeN ?_) | go_size | (simp [go_sem]; done))⟩
          · have L1 := fun wx => L.out s[e + 1] wx
            rw [h3] at L1
            replace L1 := Lib.hid L1
            clear h3 L
            go_wp2_with ((with_reducible refine ((L1.out _).out).mono ?_); rintro e w1 ⟨rfl, rfl⟩)
            go_returns
            exact ⟨by rw [hres.out]; try rfl, by repeat' (first | (with_reducible exact Below.refl _ _) | (with_reducible assumption) | (with_reducible refine Below.alloc ?_ ?_ _) | (with_reducible refine Below.drew ?_) | (with_reducible refine belowN ?_ _) | (with_reducible refine Below.setCell ?_ ?_ _) | (with_reducible refine belowG ?_ ?_) | (with_reducible exact Nat.le_refl _) | (with_reducible refine le_sizeG ?_) | (with_reducible refine le_sizeA ?_) | (with_reducible refine le_sizeC ?_) | (with_reducible refine le_sizeD ?_) | (with_reducible refine le_sizeN ?_) | go_size | (simp [go_sem]; done))⟩
end Go.Proofs.YtmalnjmginmjkaaGreatDoor
namespace Go.Proofs.YtmalnjmginmjkaaGreatDoor
open Go.RowKit
theorem lead_false {t : ByteArray} (hne : t.data.toList ≠ []) (h : leadB t = false) : t.data.toList.length = 1 ∨ ∀ c r, t.data.toList = c :: r → c.toNat ≠ 48 := by
  unfold leadB at h
  rw [Bool.and_eq_false_iff] at h
  rcases h with h | h
  · left
    have h1 : ¬ 1 < t.size := by simpa using h
    have h2 : t.data.toList.length ≠ 0 := fun h => hne (List.eq_nil_of_length_eq_zero h)
    rw [Lib.size_eq] at h1
    omega
  · right
    intro c r hcr hc
    rw [hcr, beq_eq_false_iff_ne] at h
    apply h
    show some c = some 48
    congr 1
    exact UInt8.toNat_inj.1 (by rw [hc]; rfl)
theorem num_shown {t : ByteArray} (hne : t.data.toList ≠ []) (hd : ∀ c ∈ t.data.toList, digB c = true) (h : leadB t = false) : t = itoaS (valL t.data.toList : Int) := by
  have e := dec_val _ t.data.toList rfl hne hd (lead_false hne h)
  apply ByteArray.ext
  apply Array.ext'
  show t.data.toList = Lib.itoa (valL t.data.toList : Int)
  rw [Lib.itoa, if_neg (by omega), Int.toNat_natCast, e]
theorem num_none {t : ByteArray} (_hne : t.data.toList ≠ []) (hd : ∀ c ∈ t.data.toList, digB c = true) (hv : 9223372036854775807 < valL t.data.toList) (n : Int) (hn : I64 n) : t ≠ itoaS n := by
  intro he
  have e : t.data.toList = Lib.itoa n := by rw [he, itoaS]
  by_cases hneg : n < 0
  · rw [Lib.itoa, if_pos hneg] at e
    have := dig_nat (hd 45 (by rw [e]; simp))
    exact absurd this.1 (by decide)
  · rw [Lib.itoa, if_neg hneg] at e
    rw [e, val_dec] at hv
    unfold I64 at hn
    omega
theorem lead_at (s : ByteArray) (a z : Nat) (haz : a < z) (hz : z ≤ s.size) (t : ByteArray) (ht : s.extract a z = t) : leadB t = (decide (a + 1 < z) && (((s[a]'(by omega)).toNat : Int) == 48)) := by
  have hl : t.size = z - a := by rw [← ht, ByteArray.size_extract]; omega
  have e : t.data.toList.head? = some (s[a]'(by omega)) := by
    have h := take_data s a (z - a)
    rw [show a + (z - a) = z by omega, ht] at h
    obtain ⟨m, hm⟩ : ∃ m, z - a = m + 1 := ⟨z - a - 1, by omega⟩
    rw [h, hm, dropK s a (by omega), List.take_succ_cons]; rfl
  unfold leadB
  rw [hl, e, byte48]
  congr 1
  rw [decide_eq_decide]
  omega
set_option maxRecDepth 100000 in
set_option maxHeartbeats 2000000 in
theorem unumber_any (s : ByteArray) (a : Nat) (ha : a < s.size) (hd : digB s[a] = true) (hs : s.size ≤ 140737488351232) (w : World) :
    Calls Tryz.prog 35 #[.string s, .int .i64 a] w (Ret (urV a (numT (s.data.toList.drop a))) w) := by
  obtain ⟨k, hk⟩ : ∃ k, spanL digL (s.data.toList.drop a) = k := ⟨_, rfl⟩
  have hk1 : 1 ≤ k := by
    rw [← hk, dropK s a ha, span_yes (p := digL) hd]; omega
  have hle : a + k ≤ s.size := by
    have := spanL_le digL (s.data.toList.drop a)
    rw [hk, List.length_drop] at this
    have e : s.data.toList.length = s.size := by simp
    omega
  obtain ⟨t, ht⟩ : ∃ t, s.extract a (a + k) = t := ⟨_, rfl⟩
  have hl : t.size = k := by rw [← ht, ByteArray.size_extract]; omega
  have h0 : 0 < t.size := by omega
  have hne : t.data.toList ≠ [] := by
    intro h; rw [Lib.size_eq, h] at h0; exact absurd h0 (by decide)
  have hall : ∀ c ∈ t.data.toList, digB c = true := by
    have := span_digits (s.data.toList.drop a)
    rw [hk, ← take_data, ht] at this
    exact this
  obtain ⟨z, hz⟩ : ∃ z, a + k = z := ⟨_, rfl⟩
  have haz : a < z := by omega
  have hzs : z ≤ s.size := by omega
  have hlead := lead_at s a z haz hzs t (by rw [← hz]; exact ht)
  have hsl := slice_s s a z (by omega) hzs t (by rw [← hz]; exact ht)
  have S := fun k hk hp => Lib.hid (span_step digL s a k hk hp)
  replace S := Lib.hid S
  have T := fun k' hk' hp => Lib.hid (fun h => (show a + spanL digL (s.data.toList.drop a) = z by rw [hk, hz]).symm.trans (span_stop digL s a k' hk' hp h))
  replace T := Lib.hid T
  have U := fun k' hk' => Lib.hid (fun h => (show a + spanL digL (s.data.toList.drop a) = z by rw [hk, hz]).symm.trans (span_end digL s a k' hk' h))
  replace U := Lib.hid U
  rcases hb : leadB t
  · rw [hb] at hlead
    have hways : (((s[a].toNat : Int) == 48) = false) ∨ ((s[a].toNat : Int) == 48) = true ∧ ¬ ((a : Int) + 1 < z) := by
      rcases h : ((s[a].toNat : Int) == 48)
      · exact .inl rfl
      · refine .inr ⟨rfl, ?_⟩
        rw [h, Bool.and_true] at hlead
        have := of_decide_eq_false hlead.symm
        omega
    by_cases hv : 9223372036854775807 < valL t.data.toList
    · have hres := Lib.hid (show urV a (numT (s.data.toList.drop a)) = _ from by rw [numT_over s a k hk t ht hb hv, urV_err])
      have N := fun wx => Lib.hid (number_none t (by omega) (fun n hn => num_none hne hall hv n hn) wx)
      replace N := Lib.hid N
      clear hk ht hl hne hall hb hv hlead hz hd
      rcases hways with hw | ⟨hw, hw'⟩
      all_goals
        go_enter Tryz.func35, Tryz.ntmps35
        go_wp2
        go_loop [7] (fun v => ∃ e : Nat, a ≤ e ∧ e ≤ s.size ∧ v = .int .i64 e ∧ SpanTo digL s a e) (fun v => s.size - (intOf v).toNat)
        case atStart => exact ⟨a, Nat.le_refl _, by omega, rfl, rfl⟩
        case round =>
          obtain ⟨e, hae, he, rfl, hr⟩ := hrel
          by_cases hlt : e < s.size
          · have hdg : digL (s.data.toList.drop e) = (decide (48 ≤ (s[e].toNat : Int)) && decide ((s[e].toNat : Int) ≤ 57)) := by rw [dropK s e hlt]; rfl
            by_cases h1 : 48 ≤ (s[e].toNat : Int)
            · by_cases h2 : (s[e].toNat : Int) ≤ 57
              · have hnext := Lib.hid ((S.out e hlt (by rw [hdg]; simp [h1, h2])).out hr)
                clear hdg hres
                go_wp2
                go_round
                case rel => exact ⟨e + 1, by omega, by omega, by go_num, hnext.out⟩
                case measure => simp [intOf]; omega
              · obtain rfl : z = e := (T.out e hlt (by rw [hdg]; simp [h2])).out hr
                clear hdg hr
                go_wp2_with (first | ((with_reducible refine ((N.out _).out).mono ?_); intro e w1 hr; obtain ⟨v, p, rfl, rfl⟩ := hr.out; clear hr; skip))
                all_goals
                  go_returns
                  exact ⟨by rw [hres.out]; try rfl, by repeat' (first | (with_reducible exact Below.refl _ _) | (with_reducible assumption) | (with_reducible refine Below.alloc ?_ ?_ _) | (with_reducible refine Below.drew ?_) | (with_reducible refine belowN ?_ _) | (with_reducible refine Below.setCell ?_ ?_ _) | (with_reducible refine belowG ?_ ?_) | (with_reducible exact Nat.le_refl _) | (with_reducible refine le_sizeG ?_) | (with_reducible refine le_sizeA ?_) | (with_reducible refine le_sizeC ?_) | (with_reducible refine le_sizeD ?_) | (with_reducible refine le_sizeN ?_) | go_size | (simp [go_sem]; done))⟩
            · obtain rfl : z = e := (T.out e hlt (by rw [hdg]; simp [h1])).out hr
              clear hdg hr
              go_wp2_with (first | ((with_reducible refine ((N.out _).out).mono ?_); intro e w1 hr; obtain ⟨v, p, rfl, rfl⟩ := hr.out; clear hr; skip))
              all_goals
                go_returns
                exact ⟨by rw [hres.out]; try rfl, by repeat' (first | (with_reducible exact Below.refl _ _) | (with_reducible assumption) | (with_reducible refine Below.alloc ?_ ?_ _) | (with_reducible refine Below.drew ?_) | (with_reducible refine belowN ?_ _) | (with_reducible refine Below.setCell ?_ ?_ _) | (with_reducible refine belowG ?_ ?_) | (with_reducible exact Nat.le_refl _) | (with_reducible refine le_sizeG ?_) | (with_reducible refine le_sizeA ?_) | (with_reducible refine le_sizeC ?_) | (with_reducible refine le_sizeD ?_) | (with_reducible refine le_sizeN ?_) | go_size | (simp [go_sem]; done))⟩
          · obtain rfl : z = e := (U.out e hlt).out hr
            clear hr
            go_wp2_with (first | ((with_reducible refine ((N.out _).out).mono ?_); intro e w1 hr; obtain ⟨v, p, rfl, rfl⟩ := hr.out; clear hr; skip))
            all_goals
              go_returns
              exact ⟨by rw [hres.out]; try rfl, by repeat' (first | (with_reducible exact Below.refl _ _) | (with_reducible assumption) | (with_reducible refine Below.alloc ?_ ?_ _) | (with_reducible refine Below.drew ?_) | (with_reducible refine belowN ?_ _) | (with_reducible refine Below.setCell ?_ ?_ _) | (with_reducible refine belowG ?_ ?_) | (with_reducible exact Nat.le_refl _) | (with_reducible refine le_sizeG ?_) | (with_reducible refine le_sizeA ?_) | (with_reducible refine le_sizeC ?_) | (with_reducible refine le_sizeD ?_) | (with_reducible refine le_sizeN ?_) | go_size | (simp [go_sem]; done))⟩
    · have hi : I64 (valL t.data.toList : Int) := by unfold I64; omega
      obtain ⟨v, hvv⟩ : ∃ v : Int, (valL t.data.toList : Int) = v := ⟨_, rfl⟩
      have hres := Lib.hid (show urV a (numT (s.data.toList.drop a)) = .tuple #[.agg #[.int .i64 3, .string t, .int .i64 v, .int .i64 (a : Int)], .int .i64 (z : Int), .int .i64 0] from by
        rw [numT_ok s a k hk t ht hl hb hv, urV_ok, hz, hvv])
      have N := fun wx => Lib.hid (number_shown v (by rw [← hvv]; exact hi) t (by omega) (by rw [← hvv]; exact num_shown hne hall hb) wx)
      replace N := Lib.hid N
      clear hk ht hl hne hall hb hv hlead hz hi hvv hd
      rcases hways with hw | ⟨hw, hw'⟩
      all_goals
        go_enter Tryz.func35, Tryz.ntmps35
        go_wp2
        go_loop [7] (fun v => ∃ e : Nat, a ≤ e ∧ e ≤ s.size ∧ v = .int .i64 e ∧ SpanTo digL s a e) (fun v => s.size - (intOf v).toNat)
        case atStart => exact ⟨a, Nat.le_refl _, by omega, rfl, rfl⟩
        case round =>
          obtain ⟨e, hae, he, rfl, hr⟩ := hrel
          by_cases hlt : e < s.size
          · have hdg : digL (s.data.toList.drop e) = (decide (48 ≤ (s[e].toNat : Int)) && decide ((s[e].toNat : Int) ≤ 57)) := by rw [dropK s e hlt]; rfl
            by_cases h1 : 48 ≤ (s[e].toNat : Int)
            · by_cases h2 : (s[e].toNat : Int) ≤ 57
              · have hnext := Lib.hid ((S.out e hlt (by rw [hdg]; simp [h1, h2])).out hr)
                clear hdg hres
                go_wp2
                go_round
                case rel => exact ⟨e + 1, by omega, by omega, by go_num, hnext.out⟩
                case measure => simp [intOf]; omega
              · obtain rfl : z = e := (T.out e hlt (by rw [hdg]; simp [h2])).out hr
                clear hdg hr
                go_wp2_with (first | ((with_reducible refine ((N.out _).out).mono ?_); intro e w1 hr; obtain ⟨rfl, p, rfl⟩ := hr.out; clear hr))
                all_goals
                  go_returns
                  exact ⟨by rw [hres.out]; try rfl, by repeat' (first | (with_reducible exact Below.refl _ _) | (with_reducible assumption) | (with_reducible refine Below.alloc ?_ ?_ _) | (with_reducible refine Below.drew ?_) | (with_reducible refine belowN ?_ _) | (with_reducible refine Below.setCell ?_ ?_ _) | (with_reducible refine belowG ?_ ?_) | (with_reducible exact Nat.le_refl _) | (with_reducible refine le_sizeG ?_) | (with_reducible refine le_sizeA ?_) | (with_reducible refine le_sizeC ?_) | (with_reducible refine le_sizeD ?_) | (with_reducible refine le_sizeN ?_) | go_size | (simp [go_sem]; done))⟩
            · obtain rfl : z = e := (T.out e hlt (by rw [hdg]; simp [h1])).out hr
              clear hdg hr
              go_wp2_with (first | ((with_reducible refine ((N.out _).out).mono ?_); intro e w1 hr; obtain ⟨rfl, p, rfl⟩ := hr.out; clear hr))
              all_goals
                go_returns
                exact ⟨by rw [hres.out]; try rfl, by repeat' (first | (with_reducible exact Below.refl _ _) | (with_reducible assumption) | (with_reducible refine Below.alloc ?_ ?_ _) | (with_reducible refine Below.drew ?_) | (with_reducible refine belowN ?_ _) | (with_reducible refine Below.setCell ?_ ?_ _) | (with_reducible refine belowG ?_ ?_) | (with_reducible exact Nat.le_refl _) | (with_reducible refine le_sizeG ?_) | (with_reducible refine le_sizeA ?_) | (with_reducible refine le_sizeC ?_) | (with_reducible refine le_sizeD ?_) | (with_reducible refine le_sizeN ?_) | go_size | (simp [go_sem]; done))⟩
          · obtain rfl : z = e := (U.out e hlt).out hr
            clear hr
            go_wp2_with (first | ((with_reducible refine ((N.out _).out).mono ?_); intro e w1 hr; obtain ⟨rfl, p, rfl⟩ := hr.out; clear hr))
            all_goals
              go_returns
              exact ⟨by rw [hres.out]; try rfl, by repeat' (first | (with_reducible exact Below.refl _ _) | (with_reducible assumption) | (with_reducible refine Below.alloc ?_ ?_ _) | (with_reducible refine Below.drew ?_) | (with_reducible refine belowN ?_ _) | (with_reducible refine Below.setCell ?_ ?_ _) | (with_reducible refine belowG ?_ ?_) | (with_reducible exact Nat.le_refl _) | (with_reducible refine le_sizeG ?_) | (with_reducible refine le_sizeA ?_) | (with_reducible refine le_sizeC ?_) | (with_reducible refine le_sizeD ?_) | (with_reducible refine le_sizeN ?_) | go_size | (simp [go_sem]; done))⟩
  · rw [hb] at hlead
    have hlead' := hlead.symm
    rw [Bool.and_eq_true, decide_eq_true_eq] at hlead'
    have hw := hlead'.2
    have hw' : (a : Int) + 1 < z := by omega
    have hres := Lib.hid (show urV a (numT (s.data.toList.drop a)) = _ from by rw [numT_lead s a k hk t ht hb, urV_err])
    clear hk ht hl hne hall hb hlead hlead' hz hd
    go_enter Tryz.func35, Tryz.ntmps35
    go_wp2
    go_loop [7] (fun v => ∃ e : Nat, a ≤ e ∧ e ≤ s.size ∧ v = .int .i64 e ∧ SpanTo digL s a e) (fun v => s.size - (intOf v).toNat)
    case atStart => exact ⟨a, Nat.le_refl _, by omega, rfl, rfl⟩
    case round =>
      obtain ⟨e, hae, he, rfl, hr⟩ := hrel
      by_cases hlt : e < s.size
      · have hdg : digL (s.data.toList.drop e) = (decide (48 ≤ (s[e].toNat : Int)) && decide ((s[e].toNat : Int) ≤ 57)) := by rw [dropK s e hlt]; rfl
        by_cases h1 : 48 ≤ (s[e].toNat : Int)
        · by_cases h2 : (s[e].toNat : Int) ≤ 57
          · have hnext := Lib.hid ((S.out e hlt (by rw [hdg]; simp [h1, h2])).out hr)
            clear hdg hres
            go_wp2
            go_round
            case rel => exact ⟨e + 1, by omega, by omega, by go_num, hnext.out⟩
            case measure => simp [intOf]; omega
          · obtain rfl : z = e := (T.out e hlt (by rw [hdg]; simp [h2])).out hr
            clear hdg hr
            go_wp2
            all_goals
              go_returns
              exact ⟨by rw [hres.out]; try rfl, by repeat' (first | (with_reducible exact Below.refl _ _) | (with_reducible assumption) | (with_reducible refine Below.alloc ?_ ?_ _) | (with_reducible refine Below.drew ?_) | (with_reducible refine belowN ?_ _) | (with_reducible refine Below.setCell ?_ ?_ _) | (with_reducible refine belowG ?_ ?_) | (with_reducible exact Nat.le_refl _) | (with_reducible refine le_sizeG ?_) | (with_reducible refine le_sizeA ?_) | (with_reducible refine le_sizeC ?_) | (with_reducible refine le_sizeD ?_) | (with_reducible refine le_sizeN ?_) | go_size | (simp [go_sem]; done))⟩
        · obtain rfl : z = e := (T.out e hlt (by rw [hdg]; simp [h1])).out hr
          clear hdg hr
          go_wp2
          all_goals
            go_returns
            exact ⟨by rw [hres.out]; try rfl, by repeat' (first | (with_reducible exact Below.refl _ _) | (with_reducible assumption) | (with_reducible refine Below.alloc ?_ ?_ _) | (with_reducible refine Below.drew ?_) | (with_reducible refine belowN ?_ _) | (with_reducible refine Below.setCell ?_ ?_ _) | (with_reducible refine belowG ?_ ?_) | (with_reducible exact Nat.le_refl _) | (with_reducible refine le_sizeG ?_) | (with_reducible refine le_sizeA ?_) | (with_reducible refine le_sizeC ?_) | (with_reducible refine le_sizeD ?_) | (with_reducible refine le_sizeN ?_) | go_size | (simp [go_sem]; done))⟩
      · obtain rfl : z = e := (U.out e hlt).out hr
        clear hr
        go_wp2
        all_goals
          go_returns
          exact ⟨by rw [hres.out]; try rfl, by repeat' (first | (with_reducible exact Below.refl _ _) | (with_reducible assumption) | (with_reducible refine Below.alloc ?_ ?_ _) | (with_reducible refine Below.drew ?_) | (with_reducible refine belowN ?_ _) | (with_reducible refine Below.setCell ?_ ?_ _) | (with_reducible refine belowG ?_ ?_) | (with_reducible exact Nat.le_refl _) | (with_reducible refine le_sizeG ?_) | (with_reducible refine le_sizeA ?_) | (with_reducible refine le_sizeC ?_) | (with_reducible refine le_sizeD ?_) | (with_reducible refine le_sizeN ?_) | go_size | (simp [go_sem]; done))⟩
end Go.Proofs.YtmalnjmginmjkaaGreatDoor
