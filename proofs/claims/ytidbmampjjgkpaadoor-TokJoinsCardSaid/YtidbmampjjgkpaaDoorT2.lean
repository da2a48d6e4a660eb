import Derived.Test.YtidbmampjjgkpaaDoorT1
import Derived.WalkKit
import Derived.ProofKit
import Derived.OpenShut
import Derived.Handy
import Derived.BigQuiet
import Derived.Lib.Hide
import Derived.WalkSmall
import Derived.WalkLawsBesides
namespace Go.Proofs.YtidbmampjjgkpaaDoor
open Go.RowKit
theorem dig_nat {c : UInt8} (h : digB c = true) : 48 ≤ c.toNat ∧ c.toNat ≤ 57 := by
  simp only [digB, Bool.and_eq_true, decide_eq_true_eq] at h
  omega
theorem span_digits : ∀ l : List UInt8, ∀ c ∈ l.take (spanL digL l), digB c = true
  | [], c, h => by simp at h
  | d :: r, c, h => by
    cases hd : digB d
    · rw [span_no (p := digL) hd] at h; simp at h
    · rw [span_yes (p := digL) hd, List.take_succ_cons, List.mem_cons] at h
      rcases h with rfl | h
      · exact hd
      · exact span_digits r c h
def valF (acc : Nat) (l : List UInt8) : Nat := l.foldl (fun a c => a * 10 + (c.toNat - 48)) acc
theorem valF_ge : ∀ (l : List UInt8) (acc : Nat), acc ≤ valF acc l
  | [], acc => Nat.le_refl _
  | c :: r, acc => by
    have := valF_ge r (acc * 10 + (c.toNat - 48))
    show acc ≤ valF (acc * 10 + (c.toNat - 48)) r
    omega
theorem parse_fits : ∀ (l : List UInt8) (acc : Nat), (∀ c ∈ l, digB c = true) → valF acc l ≤ 18446744073709551615 → Lib.parseUintM 18446744073709551615 acc l = .ok (valF acc l)
  | [], acc, _, _ => rfl
  | c :: r, acc, hd, h => by
    have h1 := dig_nat (hd c (by simp))
    have h2 : valF (acc * 10 + (c.toNat - 48)) r ≤ 18446744073709551615 := h
    have h3 := valF_ge r (acc * 10 + (c.toNat - 48))
    rw [Lib.parseUintM, if_pos h1, if_neg (by omega), if_neg (by omega), parse_fits r _ (fun d hd' => hd d (by simp [hd'])) h2]
    rfl
theorem parse_only : ∀ (l : List UInt8) (acc u : Nat), Lib.parseUintM 18446744073709551615 acc l = .ok u → u = valF acc l
  | [], acc, u, h => by
    simp only [Lib.parseUintM] at h
    exact (Lib.NumEnd.ok.inj h).symm
  | c :: r, acc, u, h => by
    rw [Lib.parseUintM] at h
    split at h
    · split at h
      · cases h
      · split at h
        · cases h
        · exact parse_only r _ u h
    · cases h
theorem parse_val (l : List UInt8) (hne : l ≠ []) (hd : ∀ c ∈ l, digB c = true) (h : valL l ≤ 9223372036854775807) : Lib.parseIntB 64 l = .ok (valL l : Int) := by
  obtain ⟨c, r, rfl⟩ : ∃ c r, l = c :: r := by cases l with | nil => exact absurd rfl hne | cons c r => exact ⟨c, r, rfl⟩
  have h1 := dig_nat (hd c (by simp))
  have hu : Lib.parseUintB 64 (c :: r) = .ok (valL (c :: r)) := by
    unfold Lib.parseUintB
    rw [if_neg (by simp)]
    exact parse_fits (c :: r) 0 hd (Nat.le_trans h (by decide))
  rw [Lib.parseIntB_plain 64 c r (by omega) (by omega), hu]
  have h3 : ¬ 9223372036854775808 ≤ valL (c :: r) := by omega
  simp [Lib.signlessC, h3]
theorem parse_over (l : List UInt8) (hne : l ≠ []) (hd : ∀ c ∈ l, digB c = true) (h : 9223372036854775807 < valL l) (v : Int) : Lib.parseIntB 64 l ≠ .ok v := by
  obtain ⟨c, r, rfl⟩ : ∃ c r, l = c :: r := by cases l with | nil => exact absurd rfl hne | cons c r => exact ⟨c, r, rfl⟩
  have h1 := dig_nat (hd c (by simp))
  rw [Lib.parseIntB_plain 64 c r (by omega) (by omega)]
  cases hu : Lib.parseUintB 64 (c :: r) with
  | ok u =>
    have : u = valL (c :: r) := by
      unfold Lib.parseUintB at hu
      rw [if_neg (by simp)] at hu
      exact parse_only _ _ _ hu
    subst this
    have h3 : 9223372036854775808 ≤ valL (c :: r) := by omega
    simp [Lib.signlessC, h3]
  | _ => simp [Lib.signlessC]
theorem byte48 (c : UInt8) : ((c.toNat : Int) == 48) = (c == 48) := byte_eq c 48 (by decide)
def leadB (t : ByteArray) : Bool := decide (1 < t.size) && t.data.toList.head? == some 48
theorem numT_lead (s : ByteArray) (a z : Nat) (hz : spanL digL (s.data.toList.drop a) = z) (t : ByteArray) (ht : s.extract a (a + z) = t) (h : leadB t = true) : numT (s.data.toList.drop a) = .error 11 := by
  subst ht
  unfold numT
  simp only [hz, ← take_data, ← Lib.size_eq]
  unfold leadB at h
  rw [if_pos h]
theorem numT_over (s : ByteArray) (a z : Nat) (hz : spanL digL (s.data.toList.drop a) = z) (t : ByteArray) (ht : s.extract a (a + z) = t) (h : leadB t = false) (hv : 9223372036854775807 < valL t.data.toList) : numT (s.data.toList.drop a) = .error 21 := by
  subst ht
  unfold numT
  simp only [hz, ← take_data, ← Lib.size_eq]
  unfold leadB at h
  rw [h, if_neg (by decide), if_pos hv]
theorem numT_ok (s : ByteArray) (a z : Nat) (hz : spanL digL (s.data.toList.drop a) = z) (t : ByteArray) (ht : s.extract a (a + z) = t) (hl : t.size = z) (h : leadB t = false) (hv : ¬ 9223372036854775807 < valL t.data.toList) :
    numT (s.data.toList.drop a) = .ok (3, t.data.toList, valL t.data.toList, z) := by
  subst ht
  unfold numT
  simp only [hz, ← take_data, ← Lib.size_eq, hl]
  unfold leadB at h
  rw [hl] at h
  rw [h, if_neg (by decide), if_neg hv]
set_option maxRecDepth 100000 in
set_option maxHeartbeats 1000000 in
theorem tnumber_any (s : ByteArray) (a : Nat) (ha : a < s.size) (hd : digB s[a] = true) (hs : s.size ≤ 100000) (w : World) (hw : Errs w) :
    Calls Tryd.prog 87 #[.string s, .int .i64 a] w (Ret (rdV a (numT (s.data.toList.drop a))) w) := by
  obtain ⟨z, hz⟩ : ∃ z, spanL digL (s.data.toList.drop a) = z := ⟨_, rfl⟩
  have hz1 : 1 ≤ z := by
    rw [← hz, dropK s a ha, span_yes (p := digL) hd]; omega
  have hle : a + z ≤ s.size := by
    have := spanL_le digL (s.data.toList.drop a)
    rw [hz, List.length_drop] at this
    have e : s.data.toList.length = s.size := by simp
    omega
  obtain ⟨t, ht⟩ : ∃ t, s.extract a (a + z) = t := ⟨_, rfl⟩
  have hl : t.size = z := by rw [← ht, ByteArray.size_extract]; omega
  obtain ⟨e, he⟩ : ∃ e, a + z = e := ⟨_, rfl⟩
  have B := fun b wx hb => Lib.hid (digit_b s a e (by rw [hz]; exact he) (by omega) (by omega) b wx hb)
  replace B := Lib.hid B
  have hsl := slice_s s a e (by omega) (by omega) t (by rw [← he]; exact ht)
  have hmf : ∀ (fn : Fn) (first cap : Array Value) (w : World), (Instr.makeFunc fn first cap).run Tryd.prog w = .ok (.func fn first cap) w := fun _ _ _ _ => rfl
  have h0 : 0 < t.size := by omega
  have hne : t.data.toList ≠ [] := by
    intro h; rw [Lib.size_eq, h] at h0; exact absurd h0 (by decide)
  have hall : ∀ c ∈ t.data.toList, digB c = true := by
    have := span_digits (s.data.toList.drop a)
    rw [hz, ← take_data, ht] at this
    exact this
  have hhead : t.data.toList.head? = some t[0] := by
    have := dropK t 0 h0
    rw [List.drop_zero] at this
    rw [this]; rfl
  rcases hlead : leadB t
  · have hg : t.size ≤ 1 ∨ ((t[0].toNat : Int) == 48) = false := by
      unfold leadB at hlead
      rw [Bool.and_eq_false_iff] at hlead
      rcases hlead with h | h
      · exact .inl (by simpa using h)
      · refine .inr ?_
        rw [byte48, beq_eq_false_iff_ne]
        rw [hhead, beq_eq_false_iff_ne] at h
        exact fun hc => h (by rw [hc])
    have hsz : 1 < t.size ∨ ¬ 1 < t.size := by omega
    by_cases hv : 9223372036854775807 < valL t.data.toList
    · rw [numT_over s a z hz t ht hlead hv]
      have P := fun wx h => Lib.hid (parse_bad t (by omega) (fun v => parse_over _ hne hall hv v) wx (errs_below hw h))
      replace P := Lib.hid P
      clear hz ht he hne hall hhead hlead hv hw hd
      unfold rdV
      rcases hg with hg | hg
      · go_enter Tryd.func87, Tryd.ntmps87
        go_wp2_with (first | ((with_reducible refine ((B.out _ _ (by simp [go_sem])).out).mono ?_); rintro e w1 ⟨rfl, rfl⟩) | ((with_reducible refine ((P.out _ (by repeat' (first | (with_reducible exact Below.refl _ _) | (with_reducible assumption) | (with_reducible refine Below.alloc ?_ ?_ _) | (with_reducible refine Below.drew ?_) | (with_reducible refine belowN ?_ _) | (with_reducible refine Below.setCell ?_ ?_ _) | (with_reducible refine belowG ?_ ?_) | (with_reducible exact Nat.le_refl _) | (with_reducible refine le_sizeG ?_) | (with_reducible refine le_sizeA ?_) | (with_reducible refine le_sizeC ?_) | (with_reducible refine le_sizeD ?_) | (with_reducible refine le_sizeN ?_) | go_size | (simp [go_sem]; done)))).out).mono ?_); intro e w1 hr; obtain ⟨x, t, n, p, rfl, rfl⟩ := hr.out; clear hr; skip))
        go_returns
        exact ⟨rfl, by repeat' (first | (with_reducible exact Below.refl _ _) | (with_reducible assumption) | (with_reducible refine Below.alloc ?_ ?_ _) | (with_reducible refine Below.drew ?_) | (with_reducible refine belowN ?_ _) | (with_reducible refine Below.setCell ?_ ?_ _) | (with_reducible refine belowG ?_ ?_) | (with_reducible exact Nat.le_refl _) | (with_reducible refine le_sizeG ?_) | (with_reducible refine le_sizeA ?_) | (with_reducible refine le_sizeC ?_) | (with_reducible refine le_sizeD ?_) | (with_reducible refine le_sizeN ?_) | go_size | (simp [go_sem]; done))⟩
      · rcases hsz with hsz | hsz
        all_goals
          go_enter Tryd.func87, Tryd.ntmps87
          go_wp2_with (first | ((with_reducible refine ((B.out _ _ (by simp [go_sem])).out).mono ?_); rintro e w1 ⟨rfl, rfl⟩) | ((with_reducible refine ((P.out _ (by repeat' (first | (with_reducible exact Below.refl _ _) | (with_reducible assumption) | (with_reducible refine Below.alloc ?_ ?_ _) | (with_reducible refine Below.drew ?_) | (with_reducible refine belowN ?_ _) | (with_reducible refine Below.setCell ?_ ?_ _) | (with_reducible refine belowG ?_ ?_) | (with_reducible exact Nat.le_refl _) | (with_reducible refine le_sizeG ?_) | (with_reducible refine le_sizeA ?_) | (with_reducible refine le_sizeC ?_) | (with_reducible refine le_sizeD ?_) | (with_reducible refine le_sizeN ?_) | go_size | (simp [go_sem]; done)))).out).mono ?_); intro e w1 hr; obtain ⟨x, t, n, p, rfl, rfl⟩ := hr.out; clear hr; skip))
          go_returns
          exact ⟨rfl, by repeat' (first | (with_reducible exact Below.refl _ _) | (with_reducible assumption) | (with_reducible refine Below.alloc ?_ ?_ _) | (with_reducible refine Below.drew ?_) | (with_reducible refine belowN ?_ _) | (with_reducible refine Below.setCell ?_ ?_ _) | (with_reducible refine belowG ?_ ?_) | (with_reducible exact Nat.le_refl _) | (with_reducible refine le_sizeG ?_) | (with_reducible refine le_sizeA ?_) | (with_reducible refine le_sizeC ?_) | (with_reducible refine le_sizeD ?_) | (with_reducible refine le_sizeN ?_) | go_size | (simp [go_sem]; done))⟩
    · rw [numT_ok s a z hz t ht hl hlead hv]
      obtain ⟨v, hvv⟩ : ∃ v : Nat, valL t.data.toList = v := ⟨_, rfl⟩
      have P := fun wx => Lib.hid (parse_ok t (by omega) v (by rw [← hvv]; exact parse_val _ hne hall (by omega)) wx)
      replace P := Lib.hid P
      have hr : rdV a (.ok (3, t.data.toList, (valL t.data.toList : Int), z)) = .tuple #[.agg #[.int .i64 3, .string t, .int .i64 v, .int .i64 0], .int .i64 e, .int .i64 0] := by
        rw [← he, ← hvv]; rfl
      rw [hr]
      clear hr hz ht he hne hall hhead hlead hv hvv hw hd
      rcases hg with hg | hg
      · go_enter Tryd.func87, Tryd.ntmps87
        go_wp2_with (first | ((with_reducible refine ((B.out _ _ (by simp [go_sem])).out).mono ?_); rintro e w1 ⟨rfl, rfl⟩) | ((with_reducible refine ((P.out _).out).mono ?_); intro e w1 hr; obtain ⟨rfl, p, rfl⟩ := hr.out; clear hr))
        go_returns
        exact ⟨rfl, by repeat' (first | (with_reducible exact Below.refl _ _) | (with_reducible assumption) | (with_reducible refine Below.alloc ?_ ?_ _) | (with_reducible refine Below.drew ?_) | (with_reducible refine belowN ?_ _) | (with_reducible refine Below.setCell ?_ ?_ _) | (with_reducible refine belowG ?_ ?_) | (with_reducible exact Nat.le_refl _) | (with_reducible refine le_sizeG ?_) | (with_reducible refine le_sizeA ?_) | (with_reducible refine le_sizeC ?_) | (with_reducible refine le_sizeD ?_) | (with_reducible refine le_sizeN ?_) | go_size | (simp [go_sem]; done))⟩
      · rcases hsz with hsz | hsz
        all_goals
          go_enter Tryd.func87, Tryd.ntmps87
          go_wp2_with (first | ((with_reducible refine ((B.out _ _ (by simp [go_sem])).out).mono ?_); rintro e w1 ⟨rfl, rfl⟩) | ((with_reducible refine ((P.out _).out).mono ?_); intro e w1 hr; obtain ⟨rfl, p, rfl⟩ := hr.out; clear hr))
          go_returns
          exact ⟨rfl, by repeat' (first | (with_reducible exact Below.refl _ _) | (with_reducible assumption) | (with_reducible refine Below.alloc ?_ ?_ _) | (with_reducible refine Below.drew ?_) | (with_reducible refine belowN ?_ _) | (with_reducible refine Below.setCell ?_ ?_ _) | (with_reducible refine belowG ?_ ?_) | (with_reducible exact Nat.le_refl _) | (with_reducible refine le_sizeG ?_) | (with_reducible refine le_sizeA ?_) | (with_reducible refine le_sizeC ?_) | (with_reducible refine le_sizeD ?_) | (with_reducible refine le_sizeN ?_) | go_size | (simp [go_sem]; done))⟩
  · rw [numT_lead s a z hz t ht hlead]
    unfold leadB at hlead
    rw [Bool.and_eq_true, decide_eq_true_eq, hhead] at hlead
    have h1 : 1 < t.size := hlead.1
    have hg : ((t[0].toNat : Int) == 48) = true := by
      rw [byte48, beq_iff_eq]
      have := hlead.2
      rw [beq_iff_eq] at this
      exact Option.some.inj this
    clear hz ht he hne hall hhead hlead hw hd
    unfold rdV
    go_enter Tryd.func87, Tryd.ntmps87
    go_wp2_with (first | ((with_reducible refine ((B.out _ _ (by simp [go_sem])).out).mono ?_); rintro e w1 ⟨rfl, rfl⟩))
    go_returns
    exact ⟨rfl, by repeat' (first | (with_reducible exact Below.refl _ _) | (with_reducible assumption) | (with_reducible refine Below.alloc ?_ ?_ _) | (with_reducible refine Below.drew ?_) | (with_reducible refine belowN ?_ _) | (with_reducible refine Below.setCell ?_ ?_ _) | (with_reducible refine belowG ?_ ?_) | (with_reducible exact Nat.le_refl _) | (with_reducible refine le_sizeG ?_) | (with_reducible refine le_sizeA ?_) | (with_reducible refine le_sizeC ?_) | (with_reducible refine le_sizeD ?_) | (with_reducible refine le_sizeN ?_) | go_size | (simp [go_sem]; done))⟩
def CutIs (l : List UInt8) (w : World) (e : Ending) (w' : World) : Prop := ∃ y, e = .returned (.tuple #[.string ⟨(Lib.cut l [39]).1.toArray⟩, .string y, .bool (Lib.cut l [39]).2.2]) ∧ Below w.heap.size w w'
theorem CutIs.out {l : List UInt8} {w : World} {e : Ending} {w' : World} (h : CutIs l w e w') : ∃ y p, e = .returned (.tuple #[.string ⟨(Lib.cut l [39]).1.toArray⟩, .string y, .bool (Lib.cut l [39]).2.2]) ∧ w' = G p w := by
  obtain ⟨y, he, hb⟩ := h
  obtain ⟨p, hp⟩ := toG hb
  exact ⟨y, p, he, hp⟩
theorem cut_any (t : ByteArray) (ht : t.size ≤ 100000) (w : World) (hw : MaxL w) : Calls Tryd.prog 111 #[.string t, .string ⟨#[39]⟩] w (CutIs t.data.toList w) := by
  obtain ⟨m, hm⟩ := hw
  exact (Any.strings_Cut Tryd.lays145 t ⟨#[39]⟩ m w (by omega) hm).mono fun e w' ⟨he, n, hw⟩ => ⟨_, he, hw ▸ belowN (Below.refl _ w) n⟩
theorem quoT_none (r : List UInt8) (h : ∀ d ∈ r, d ≠ 39) : quoT r = .error 14 := by
  unfold quoT
  simp only [span_text r h, if_true]
theorem quoT_cut (x r : List UInt8) (h : ∀ d ∈ x, d ≠ 39) : quoT (x ++ 39 :: r) = if 48 < x.length then .error 15 else if plainB x then .ok (4, x, 0, x.length + 2) else .error 11 := by
  unfold quoT
  have h1 : ¬ x.length = (x ++ 39 :: r).length := by simp
  simp only [span_text_cut x r h, if_neg h1, List.take_left' rfl]
set_option maxRecDepth 100000 in
set_option maxHeartbeats 1000000 in
theorem tquote_any (s : ByteArray) (a : Nat) (ha : a < s.size) (hs : s.size ≤ 100000) (w : World) (hw : MaxL w) :
    Calls Tryd.prog 88 #[.string s, .int .i64 a] w (Ret (rdV a (quoT (s.data.toList.drop (a + 1)))) w) := by
  obtain ⟨t, ht⟩ : ∃ t, s.extract (a + 1) s.size = t := ⟨_, rfl⟩
  have htl : t.data.toList = s.data.toList.drop (a + 1) := by
    rw [← ht, Lib.extract_eq]
    show ((s.data.toList.drop (a + 1)).take (s.size - (a + 1))) = _
    rw [List.take_of_length_le (by simp)]
  have hl : t.size ≤ s.size := by rw [← ht, ByteArray.size_extract]; omega
  have C := fun wx h => Lib.hid (cut_any t (by omega) wx (maxl_below hw h))
  replace C := Lib.hid C
  have hsl : ∀ wx, (Instr.slice 9 (.string s) (some (.int .i64 ((a : Int) + 1))) none none).run Tryd.prog wx = .ok (.string t) wx := by
    intro wx
    have := run_slice_string_l (P := Tryd.prog) wx 9 s Tryd.underlying9 .i64 ((a : Int) + 1) (by omega) (by omega)
    rw [this, show ((a : Int) + 1).toNat = a + 1 by omega, ht]
  rw [← htl]
  clear ht htl hw
  rcases cut_one t.data.toList 39 with ⟨hb, hn⟩ | ⟨x, r, hx, h1, hb, hn⟩
  · rw [quoT_none _ hn]
    unfold CutIs at C
    rw [hb] at C
    generalize (⟨(Lib.cut t.data.toList [39]).1.toArray⟩ : ByteArray) = x at C
    clear hn hb
    unfold rdV
    go_enter Tryd.func88, Tryd.ntmps88
    go_wp2_with ((with_reducible refine ((C.out _ (by repeat' (first | (with_reducible exact Below.refl _ _) | (with_reducible assumption) | (with_reducible refine Below.alloc ?_ ?_ _) | (with_reducible refine Below.drew ?_) | (with_reducible refine belowN ?_ _) | (with_reducible refine Below.setCell ?_ ?_ _) | (with_reducible refine belowG ?_ ?_) | (with_reducible exact Nat.le_refl _) | (with_reducible refine le_sizeG ?_) | (with_reducible refine le_sizeA ?_) | (with_reducible refine le_sizeC ?_) | (with_reducible refine le_sizeD ?_) | (with_reducible refine le_sizeN ?_) | go_size | (simp [go_sem]; done)))).out).mono ?_); intro e w1 hr; obtain ⟨y, rfl, hb⟩ := hr; obtain ⟨p, rfl⟩ := toG hb; clear hb; skip)
    go_returns
    exact ⟨rfl, by repeat' (first | (with_reducible exact Below.refl _ _) | (with_reducible assumption) | (with_reducible refine Below.alloc ?_ ?_ _) | (with_reducible refine Below.drew ?_) | (with_reducible refine belowN ?_ _) | (with_reducible refine Below.setCell ?_ ?_ _) | (with_reducible refine belowG ?_ ?_) | (with_reducible exact Nat.le_refl _) | (with_reducible refine le_sizeG ?_) | (with_reducible refine le_sizeA ?_) | (with_reducible refine le_sizeC ?_) | (with_reducible refine le_sizeD ?_) | (with_reducible refine le_sizeN ?_) | go_size | (simp [go_sem]; done))⟩
  · rw [hx, quoT_cut x r hn]
    unfold CutIs at C
    rw [hb, h1] at C
    have hxl : x.length ≤ t.size := by rw [Lib.size_eq, hx]; simp
    obtain ⟨y, hy⟩ : ∃ y : ByteArray, y = ⟨x.toArray⟩ := ⟨_, rfl⟩
    have hyl : y.size = x.length := by rw [Lib.size_eq, hy]
    have hyx : y.data.toList = x := by rw [hy]
    have P := fun wx => Lib.hid (plain_any y wx (by unfold maxLen; omega))
    replace P := Lib.hid P
    rw [hyx] at P
    rw [← hy] at C
    by_cases h48 : 48 < x.length
    · rw [if_pos h48]
      rw [← hyl] at h48
      clear hn hb h1 hx hy hyl hyx hxl
      unfold rdV
      go_enter Tryd.func88, Tryd.ntmps88
      go_wp2_with ((with_reducible refine ((C.out _ (by repeat' (first | (with_reducible exact Below.refl _ _) | (with_reducible assumption) | (with_reducible refine Below.alloc ?_ ?_ _) | (with_reducible refine Below.drew ?_) | (with_reducible refine belowN ?_ _) | (with_reducible refine Below.setCell ?_ ?_ _) | (with_reducible refine belowG ?_ ?_) | (with_reducible exact Nat.le_refl _) | (with_reducible refine le_sizeG ?_) | (with_reducible refine le_sizeA ?_) | (with_reducible refine le_sizeC ?_) | (with_reducible refine le_sizeD ?_) | (with_reducible refine le_sizeN ?_) | go_size | (simp [go_sem]; done)))).out).mono ?_); intro e w1 hr; obtain ⟨y, rfl, hb⟩ := hr; obtain ⟨p, rfl⟩ := toG hb; clear hb; skip)
      go_returns
      exact ⟨rfl, by repeat' (first | (with_reducible exact Below.refl _ _) | (with_reducible assumption) | (with_reducible refine Below.alloc ?_ ?_ _) | (with_reducible refine Below.drew ?_) | (with_reducible refine belowN ?_ _) | (with_reducible refine Below.setCell ?_ ?_ _) | (with_reducible refine belowG ?_ ?_) | (with_reducible exact Nat.le_refl _) | (with_reducible refine le_sizeG ?_) | (with_reducible refine le_sizeA ?_) | (with_reducible refine le_sizeC ?_) | (with_reducible refine le_sizeD ?_) | (with_reducible refine le_sizeN ?_) | go_size | (simp [go_sem]; done))⟩
    · rw [if_neg h48]
      rcases hp : plainB x
      · rw [if_neg (by decide)]
        rw [hp] at P
        rw [← hyl] at h48
        clear hn hb h1 hx hy hyl hyx hxl
        unfold rdV
        go_enter Tryd.func88, Tryd.ntmps88
        go_wp2_with (first | ((with_reducible refine ((P.out _).out).mono ?_); rintro e w1 ⟨rfl, rfl⟩) | ((with_reducible refine ((C.out _ (by repeat' (first | (with_reducible exact Below.refl _ _) | (with_reducible assumption) | (with_reducible refine Below.alloc ?_ ?_ _) | (with_reducible refine Below.drew ?_) | (with_reducible refine belowN ?_ _) | (with_reducible refine Below.setCell ?_ ?_ _) | (with_reducible refine belowG ?_ ?_) | (with_reducible exact Nat.le_refl _) | (with_reducible refine le_sizeG ?_) | (with_reducible refine le_sizeA ?_) | (with_reducible refine le_sizeC ?_) | (with_reducible refine le_sizeD ?_) | (with_reducible refine le_sizeN ?_) | go_size | (simp [go_sem]; done)))).out).mono ?_); intro e w1 hr; obtain ⟨y, rfl, hb⟩ := hr; obtain ⟨p, rfl⟩ := toG hb; clear hb; skip))
        go_returns
        exact ⟨rfl, by repeat' (first | (with_reducible exact Below.refl _ _) | (with_reducible assumption) | (with_reducible refine Below.alloc ?_ ?_ _) | (with_reducible refine Below.drew ?_) | (with_reducible refine belowN ?_ _) | (with_reducible refine Below.setCell ?_ ?_ _) | (with_reducible refine belowG ?_ ?_) | (with_reducible exact Nat.le_refl _) | (with_reducible refine le_sizeG ?_) | (with_reducible refine le_sizeA ?_) | (with_reducible refine le_sizeC ?_) | (with_reducible refine le_sizeD ?_) | (with_reducible refine le_sizeN ?_) | go_size | (simp [go_sem]; done))⟩
      · rw [if_pos rfl]
        have hr : rdV a (.ok (4, x, 0, x.length + 2)) = .tuple #[.agg #[.int .i64 4, .string y, .int .i64 0, .int .i64 0], .int .i64 ((a : Int) + y.size + 2), .int .i64 0] := by
          rw [hyl, hy]
          show Value.tuple #[_, .int .i64 ((a + (x.length + 2) : Nat) : Int), _] = _
          congr 4
        rw [hr]
        rw [hp] at P
        rw [← hyl] at h48
        clear hr hn hb h1 hx hy hyx hyl hxl
        go_enter Tryd.func88, Tryd.ntmps88
        go_wp2_with (first | ((with_reducible refine ((P.out _).out).mono ?_); rintro e w1 ⟨rfl, rfl⟩) | ((with_reducible refine ((C.out _ (by repeat' (first | (with_reducible exact Below.refl _ _) | (with_reducible assumption) | (with_reducible refine Below.alloc ?_ ?_ _) | (with_reducible refine Below.drew ?_) | (with_reducible refine belowN ?_ _) | (with_reducible refine Below.setCell ?_ ?_ _) | (with_reducible refine belowG ?_ ?_) | (with_reducible exact Nat.le_refl _) | (with_reducible refine le_sizeG ?_) | (with_reducible refine le_sizeA ?_) | (with_reducible refine le_sizeC ?_) | (with_reducible refine le_sizeD ?_) | (with_reducible refine le_sizeN ?_) | go_size | (simp [go_sem]; done)))).out).mono ?_); intro e w1 hr; obtain ⟨y, rfl, hb⟩ := hr; obtain ⟨p, rfl⟩ := toG hb; clear hb; skip))
        go_returns
        exact ⟨rfl, by repeat' (first | (with_reducible exact Below.refl _ _) | (with_reducible assumption) | (with_reducible refine Below.alloc ?_ ?_ _) | (with_reducible refine Below.drew ?_) | (with_reducible refine belowN ?_ _) | (with_reducible refine Below.setCell ?_ ?_ _) | (with_reducible refine belowG ?_ ?_) | (with_reducible exact Nat.le_refl _) | (with_reducible refine le_sizeG ?_) | (with_reducible refine le_sizeA ?_) | (with_reducible refine le_sizeC ?_) | (with_reducible refine le_sizeD ?_) | (with_reducible refine le_sizeN ?_) | go_size | (simp [go_sem]; done))⟩
end Go.Proofs.YtidbmampjjgkpaaDoor
