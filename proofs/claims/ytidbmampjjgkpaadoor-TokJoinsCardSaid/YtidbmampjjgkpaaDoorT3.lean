import Derived.Test.YtidbmampjjgkpaaDoorT2
import Derived.WalkKit
import Derived.ProofKit
import Derived.OpenShut
import Derived.Handy
import Derived.BigQuiet
import Derived.Lib.Hide
import Derived.WalkSmall
import Derived.Deep.MidRow
import Derived.WalkLawsBesides
namespace Go.Proofs.YtidbmampjjgkpaaDoor
open Go.RowKit
def signsL : List (List UInt8) := [[60, 61], [62, 61], [33, 61], [40], [41], [59], [58], [43], [45], [42], [47], [37], [60], [62], [61]]
def signsV : Array Value := (signsL.map fun l => Value.string ⟨l.toArray⟩).toArray
/-- The program's list of signs is as its text lays it. -/
def Sg (w : World) : Prop := w.var? Tryd.prog "whirligig/tok.signs" = some signsV
theorem sg_global : Tryd.prog.globalNamed "whirligig/tok.signs" = some 0 := by kernel_rfl
theorem sg_below {w w' : World} (h : Sg w) (hb : Below w.heap.size w w') : Sg w' := var?_below hb sg_global (global_lt sg_global h) h
theorem sg_range {w : World} (h : Sg w) : w.rangeAt 0 0 signsV.toList := by
  intro j v hv
  rw [Nat.zero_add, World.var?_cell sg_global h j]
  simpa using hv
theorem prefix_any (t p : ByteArray) (w : World) : Calls Tryd.prog 112 #[.string t, .string p] w (RetW (.bool (Lib.hasPrefix t.data.toList p.data.toList)) w) :=
  (Any.strings_HasPrefix Tryd.lays99 t p w).mono fun _ _ ⟨he, hw⟩ => ⟨he, hw.symm⟩
theorem sgn_index (i : Nat) (hi : i < 15) (wx : World) : (Instr.index 118 (.agg signsV) (.int .i64 (i : Int))).run Tryd.prog wx = .ok (.string ⟨(signsL.getD i []).toArray⟩) wx := by
  have h : ∀ k, k < 15 → k = 0 ∨ k = 1 ∨ k = 2 ∨ k = 3 ∨ k = 4 ∨ k = 5 ∨ k = 6 ∨ k = 7 ∨ k = 8 ∨ k = 9 ∨ k = 10 ∨ k = 11 ∨ k = 12 ∨ k = 13 ∨ k = 14 := by omega
  have hu := Tryd.underlying118
  rcases h i hi with rfl | rfl | rfl | rfl | rfl | rfl | rfl | rfl | rfl | rfl | rfl | rfl | rfl | rfl | rfl <;> (simp [Instr.index, run_underlying hu, asIntOf, go_sem, signsV, signsL])
theorem sgn_hit (c : UInt8) (r : List UInt8) (i : Nat) (hi : i < 15) (h : (signsL.getD i []).isPrefixOf (c :: r) = true) (hn : ∀ j, j < i → (signsL.getD j []).isPrefixOf (c :: r) = false) :
    sgnT c r = .ok (5, signsL.getD i [], 0, (signsL.getD i []).length) := by
  have e : ∀ d : UInt8, twoB d = (d == 60 || d == 62 || d == 33) := fun d => by
    unfold twoB
    rw [show ((d.toNat : Int) == 60) = (d == 60) from byte_eq d 60 (by decide), show ((d.toNat : Int) == 62) = (d == 62) from byte_eq d 62 (by decide), show ((d.toNat : Int) == 33) = (d == 33) from byte_eq d 33 (by decide)]
  have f : ∀ (d : UInt8) (l : List UInt8), eqL (d :: l) = (d == 61) := fun d l => byte_eq d 61 (by decide)
  have hk : ∀ k, k < 15 → k = 0 ∨ k = 1 ∨ k = 2 ∨ k = 3 ∨ k = 4 ∨ k = 5 ∨ k = 6 ∨ k = 7 ∨ k = 8 ∨ k = 9 ∨ k = 10 ∨ k = 11 ∨ k = 12 ∨ k = 13 ∨ k = 14 := by omega
  rcases hk i hi with rfl | rfl | rfl | rfl | rfl | rfl | rfl | rfl | rfl | rfl | rfl | rfl | rfl | rfl | rfl
  all_goals
    have h0 := hn 0
    have h1 := hn 1
    have h2 := hn 2
    clear hn hk
    cases r with
    | nil =>
      simp [signsL, List.isPrefixOf] at h
      try (subst h; simp [signsL, sgnT, e, ones, eqL])
    | cons d r =>
      simp [signsL, List.isPrefixOf] at h h0 h1 h2
      first
        | (obtain ⟨rfl, rfl⟩ := h; simp [signsL, sgnT, e, f, ones]; done)
        | (subst h; simp at h0 h1 h2; simp [signsL, sgnT, e, f, ones]; done)
        | (subst h; simp at h0 h1 h2; simp [signsL, sgnT, e, f, ones, Ne.symm h0]; done)
        | (subst h; simp at h0 h1 h2; simp [signsL, sgnT, e, f, ones, Ne.symm h1]; done)
        | (subst h; simp [signsL, sgnT, e, f, ones]; done)
theorem rdV_ok (a : Nat) (k : Int) (t : List UInt8) (n : Int) (z : Nat) : rdV a (.ok (k, t, n, z)) = .tuple #[.agg #[.int .i64 k, .string ⟨t.toArray⟩, .int .i64 n, .int .i64 0], .int .i64 ((a + z : Nat) : Int), .int .i64 0] := rfl
theorem rdV_err (a : Nat) (x : Int) : rdV a (.error x) = .tuple #[.agg #[.int .i64 0, .string ⟨#[]⟩, .int .i64 0, .int .i64 0], .int .i64 0, .int .i64 x] := rfl
theorem sgn_none (c : UInt8) (r : List UInt8) (hn : ∀ j, j < 15 → (signsL.getD j []).isPrefixOf (c :: r) = false) : sgnT c r = .error 11 := by
  have e : ∀ d : UInt8, twoB d = (d == 60 || d == 62 || d == 33) := fun d => by
    unfold twoB
    rw [show ((d.toNat : Int) == 60) = (d == 60) from byte_eq d 60 (by decide), show ((d.toNat : Int) == 62) = (d == 62) from byte_eq d 62 (by decide), show ((d.toNat : Int) == 33) = (d == 33) from byte_eq d 33 (by decide)]
  have o : ones.contains c = false := by
    rw [← Bool.not_eq_true, List.contains_iff_mem]
    intro hm
    have hk : ∀ j, j < 12 → ones[j]? = some c → False := by
      intro j hj hc
      have := hn (j + 3) (by omega)
      have h : ∀ k, k < 12 → k = 0 ∨ k = 1 ∨ k = 2 ∨ k = 3 ∨ k = 4 ∨ k = 5 ∨ k = 6 ∨ k = 7 ∨ k = 8 ∨ k = 9 ∨ k = 10 ∨ k = 11 := by omega
      rcases h j hj with rfl | rfl | rfl | rfl | rfl | rfl | rfl | rfl | rfl | rfl | rfl | rfl <;> (simp [ones] at hc; subst hc; simp [signsL, List.isPrefixOf] at this)
    obtain ⟨j, hj, hc⟩ := List.getElem_of_mem hm
    exact hk j hj (by rw [List.getElem?_eq_getElem hj, hc])
  have two : (twoB c && eqL r) = false := by
    rw [← Bool.not_eq_true, Bool.and_eq_true, e]
    rintro ⟨h4, h5⟩
    have h1 := hn 12 (by omega)
    have h2 := hn 13 (by omega)
    have h3 := hn 2 (by omega)
    simp only [Bool.or_eq_true, beq_iff_eq] at h4
    rcases h4 with (rfl | rfl) | rfl
    · simp [signsL, List.isPrefixOf] at h1
    · simp [signsL, List.isPrefixOf] at h2
    · cases r with
      | nil => cases h5
      | cons d r =>
        have h6 : (d == 61) = true := by rw [← show eqL (d :: r) = (d == 61) from byte_eq d 61 (by decide)]; exact h5
        rw [beq_iff_eq] at h6
        subst h6
        simp [signsL, List.isPrefixOf] at h3
  unfold sgnT
  rw [two, o]
  rfl
set_option maxRecDepth 100000 in
set_option maxHeartbeats 1000000 in
theorem tsign_any (s : ByteArray) (a : Nat) (ha : a < s.size) (hs : s.size ≤ 100000) (w : World) (hw : Sg w) :
    Calls Tryd.prog 89 #[.string s, .int .i64 a] w (Ret (rdV a (sgnT s[a] (s.data.toList.drop (a + 1)))) w) := by
  obtain ⟨t, ht⟩ : ∃ t, s.extract a s.size = t := ⟨_, rfl⟩
  have htl : t.data.toList = s[a] :: s.data.toList.drop (a + 1) := by
    rw [← dropK s a ha, ← ht, Lib.extract_eq]
    show ((s.data.toList.drop a).take (s.size - a)) = _
    rw [List.take_of_length_le (by simp)]
  generalize s[a] = c at *
  generalize s.data.toList.drop (a + 1) = r at *
  have hsl : ∀ wx, (Instr.slice 9 (.string s) (some (.int .i64 (a : Int))) none none).run Tryd.prog wx = .ok (.string t) wx := by
    intro wx
    have := run_slice_string_l (P := Tryd.prog) wx 9 s Tryd.underlying9 .i64 (a : Int) (by omega) (by omega)
    rw [this, show (a : Int).toNat = a from rfl, ht]
  have P := fun i wx => Lib.hid (prefix_any t ⟨(signsL.getD i []).toArray⟩ wx)
  rw [htl] at P
  replace P := Lib.hid P
  have X := Lib.hid sgn_index
  have H := fun i hi h hn => Lib.hid (sgn_hit c r i hi h hn)
  replace H := Lib.hid H
  have N := fun hn => Lib.hid (sgn_none c r hn)
  replace N := Lib.hid N
  have R := fun wx (h : Below w.heap.size w wx) => Lib.hid (sg_range (sg_below hw h))
  replace R := Lib.hid R
  have hu := Tryd.underlying118
  clear ht htl hw
  go_enter Tryd.func89, Tryd.ntmps89
  go_wp2_with (refine wpList_load_mid rfl 118 (.global 0) rfl 0 0 rfl signsV.toList _ ((R.out _ (by repeat' (first | (with_reducible exact Below.refl _ _) | (with_reducible assumption) | (with_reducible refine Below.alloc ?_ ?_ _) | (with_reducible refine Below.drew ?_) | (with_reducible refine belowN ?_ _) | (with_reducible refine Below.setCell ?_ ?_ _) | (with_reducible refine belowG ?_ ?_) | (with_reducible exact Nat.le_refl _) | (with_reducible refine le_sizeG ?_) | (with_reducible refine le_sizeA ?_) | (with_reducible refine le_sizeC ?_) | (with_reducible refine le_sizeD ?_) | (with_reducible refine le_sizeN ?_) | go_size | (simp [go_sem]; done)))).out) hu rfl (by kernel_rfl) ?_)
  go_loop [10] (fun v => ∃ i : Nat, i ≤ 15 ∧ v = .int .i64 i ∧ ∀ j, j < i → (signsL.getD j []).isPrefixOf (c :: r) = false) (fun v => 15 - (intOf v).toNat)
  case atStart => exact ⟨0, Nat.zero_le _, rfl, fun j h => absurd h (Nat.not_lt_zero _)⟩
  case round =>
    obtain ⟨i, hi, rfl, hall⟩ := hrel
    by_cases hlt : i < 15
    · have Xi := X.out i hlt
      have P := P.out i
      replace P := Lib.hid P
      unfold Lib.hasPrefix at P
      have hsz : (⟨(signsL.getD i []).toArray⟩ : ByteArray).size = (signsL.getD i []).length := by rw [Lib.size_eq]
      have hle : (signsL.getD i []).length ≤ 2 := by
        have h : ∀ k, k < 15 → k = 0 ∨ k = 1 ∨ k = 2 ∨ k = 3 ∨ k = 4 ∨ k = 5 ∨ k = 6 ∨ k = 7 ∨ k = 8 ∨ k = 9 ∨ k = 10 ∨ k = 11 ∨ k = 12 ∨ k = 13 ∨ k = 14 := by omega
        rcases h i hlt with rfl | rfl | rfl | rfl | rfl | rfl | rfl | rfl | rfl | rfl | rfl | rfl | rfl | rfl | rfl <;> decide
      rcases hp : (signsL.getD i []).isPrefixOf (c :: r)
      · rw [hp] at P
        have hnext := Lib.hid (show ∀ j, j < i + 1 → (signsL.getD j []).isPrefixOf (c :: r) = false from fun j hj => by
          rcases Nat.lt_or_eq_of_le (Nat.le_of_lt_succ hj) with h1 | rfl
          · exact hall j h1
          · exact hp)
        clear hp hall
        generalize (signsL.getD i []) = y at *
        go_wp2_with ((with_reducible refine ((P.out _).out).mono ?_); rintro e w1 ⟨rfl, rfl⟩)
        go_round
        case rel => exact ⟨i + 1, by omega, by go_num, hnext.out⟩
        case measure => simp [intOf]; omega
      · rw [hp] at P
        obtain ⟨q, hq⟩ : ∃ q : ByteArray, q = ⟨(signsL.getD i []).toArray⟩ := ⟨_, rfl⟩
        have hres := Lib.hid (show rdV a (sgnT c r) = .tuple #[.agg #[.int .i64 5, .string q, .int .i64 0, .int .i64 0], .int .i64 ((a : Int) + q.size), .int .i64 0] from by
          rw [(H.out i hlt hp hall).out, rdV_ok, hq, hsz]
          rfl)
        rw [← hsz, ← hq] at hle
        rw [← hq] at P Xi
        clear hp hall H hq hsz
        go_wp2_with ((with_reducible refine ((P.out _).out).mono ?_); rintro e w1 ⟨rfl, rfl⟩)
        go_returns
        exact ⟨by rw [hres.out], by repeat' (first | (with_reducible exact Below.refl _ _) | (with_reducible assumption) | (with_reducible refine Below.alloc ?_ ?_ _) | (with_reducible refine Below.drew ?_) | (with_reducible refine belowN ?_ _) | (with_reducible refine Below.setCell ?_ ?_ _) | (with_reducible refine belowG ?_ ?_) | (with_reducible exact Nat.le_refl _) | (with_reducible refine le_sizeG ?_) | (with_reducible refine le_sizeA ?_) | (with_reducible refine le_sizeC ?_) | (with_reducible refine le_sizeD ?_) | (with_reducible refine le_sizeN ?_) | go_size | (simp [go_sem]; done))⟩
    · obtain rfl : i = 15 := by omega
      have hres := Lib.hid (show rdV a (sgnT c r) = _ from by rw [(N.out hall).out, rdV_err])
      go_wp2
      go_returns
      exact ⟨by rw [hres.out], by repeat' (first | (with_reducible exact Below.refl _ _) | (with_reducible assumption) | (with_reducible refine Below.alloc ?_ ?_ _) | (with_reducible refine Below.drew ?_) | (with_reducible refine belowN ?_ _) | (with_reducible refine Below.setCell ?_ ?_ _) | (with_reducible refine belowG ?_ ?_) | (with_reducible exact Nat.le_refl _) | (with_reducible refine le_sizeG ?_) | (with_reducible refine le_sizeA ?_) | (with_reducible refine le_sizeC ?_) | (with_reducible refine le_sizeD ?_) | (with_reducible refine le_sizeN ?_) | go_size | (simp [go_sem]; done))⟩
/-- What a lexer's walk asks of the library's and the program's variables. -/
def Lb (w : World) : Prop := MaxL w ∧ Errs w ∧ Sg w
theorem lb_below {w w' : World} (h : Lb w) (hb : Below w.heap.size w w') : Lb w' := ⟨maxl_below h.1 hb, errs_below h.2.1 hb, sg_below h.2.2 hb⟩
theorem rdV_form (a : Nat) (x : Tok) : ∃ (k : Int) (t : ByteArray) (n e y : Int), rdV a x = .tuple #[.agg #[.int .i64 k, .string t, .int .i64 n, .int .i64 0], .int .i64 e, .int .i64 y] := by
  cases x with
  | error x => exact ⟨_, _, _, _, _, rfl⟩
  | ok x => exact ⟨_, _, _, _, _, rfl⟩
set_option maxHeartbeats 1000000 in
theorem tread_any (s : ByteArray) (a : Nat) (ha : a < s.size) (hs : s.size ≤ 100000) (w : World) (hw : Lb w) :
    Calls Tryd.prog 63 #[.string s, .int .i64 a] w (Ret (rdV a (tokT (s.data.toList.drop a))) w) := by
  have L := fun wx => Lib.hid (letter_any s[a] wx)
  replace L := Lib.hid L
  have D := fun wx => Lib.hid (digit_any s[a] wx)
  replace D := Lib.hid D
  rcases h1 : letB s[a]
  · rcases h2 : digB s[a]
    · rcases h3 : ((s[a].toNat : Int) == 39)
      · have e : tokT (s.data.toList.drop a) = sgnT s[a] (s.data.toList.drop (a + 1)) := by rw [dropK s a ha, tokT, h1, h2, h3]; rfl
        have T := fun wx h => Lib.hid (tsign_any s a ha hs wx (lb_below hw h).2.2)
        replace T := Lib.hid T
        rw [e]
        rw [h1] at L
        rw [h2] at D
        obtain ⟨k, t, n, z, y, hr⟩ := rdV_form a (sgnT s[a] (s.data.toList.drop (a + 1)))
        rw [hr] at T ⊢
        clear hr e h1 h2 hw
        go_enter Tryd.func63, Tryd.ntmps63
        go_wp2_with (first | ((with_reducible refine ((L.out _).out).mono ?_); rintro e w1 ⟨rfl, rfl⟩) | ((with_reducible refine ((D.out _).out).mono ?_); rintro e w1 ⟨rfl, rfl⟩) | ((with_reducible refine ((T.out _ (by repeat' (first | (with_reducible exact Below.refl _ _) | (with_reducible assumption) | (with_reducible refine Below.alloc ?_ ?_ _) | (with_reducible refine Below.drew ?_) | (with_reducible refine belowN ?_ _) | (with_reducible refine Below.setCell ?_ ?_ _) | (with_reducible refine belowG ?_ ?_) | (with_reducible exact Nat.le_refl _) | (with_reducible refine le_sizeG ?_) | (with_reducible refine le_sizeA ?_) | (with_reducible refine le_sizeC ?_) | (with_reducible refine le_sizeD ?_) | (with_reducible refine le_sizeN ?_) | go_size | (simp [go_sem]; done)))).out).mono ?_); intro e w1 hr; obtain ⟨rfl, p, rfl⟩ := hr.out; clear hr))
        go_returns
        exact ⟨rfl, by repeat' (first | (with_reducible exact Below.refl _ _) | (with_reducible assumption) | (with_reducible refine Below.alloc ?_ ?_ _) | (with_reducible refine Below.drew ?_) | (with_reducible refine belowN ?_ _) | (with_reducible refine Below.setCell ?_ ?_ _) | (with_reducible refine belowG ?_ ?_) | (with_reducible exact Nat.le_refl _) | (with_reducible refine le_sizeG ?_) | (with_reducible refine le_sizeA ?_) | (with_reducible refine le_sizeC ?_) | (with_reducible refine le_sizeD ?_) | (with_reducible refine le_sizeN ?_) | go_size | (simp [go_sem]; done))⟩
      · have e : tokT (s.data.toList.drop a) = quoT (s.data.toList.drop (a + 1)) := by rw [dropK s a ha, tokT, h1, h2, h3]; rfl
        have T := fun wx h => Lib.hid (tquote_any s a ha hs wx (lb_below hw h).1)
        replace T := Lib.hid T
        rw [e]
        rw [h1] at L
        rw [h2] at D
        obtain ⟨k, t, n, z, y, hr⟩ := rdV_form a (quoT (s.data.toList.drop (a + 1)))
        rw [hr] at T ⊢
        clear hr e h1 h2 hw
        go_enter Tryd.func63, Tryd.ntmps63
        go_wp2_with (first | ((with_reducible refine ((L.out _).out).mono ?_); rintro e w1 ⟨rfl, rfl⟩) | ((with_reducible refine ((D.out _).out).mono ?_); rintro e w1 ⟨rfl, rfl⟩) | ((with_reducible refine ((T.out _ (by repeat' (first | (with_reducible exact Below.refl _ _) | (with_reducible assumption) | (with_reducible refine Below.alloc ?_ ?_ _) | (with_reducible refine Below.drew ?_) | (with_reducible refine belowN ?_ _) | (with_reducible refine Below.setCell ?_ ?_ _) | (with_reducible refine belowG ?_ ?_) | (with_reducible exact Nat.le_refl _) | (with_reducible refine le_sizeG ?_) | (with_reducible refine le_sizeA ?_) | (with_reducible refine le_sizeC ?_) | (with_reducible refine le_sizeD ?_) | (with_reducible refine le_sizeN ?_) | go_size | (simp [go_sem]; done)))).out).mono ?_); intro e w1 hr; obtain ⟨rfl, p, rfl⟩ := hr.out; clear hr))
        go_returns
        exact ⟨rfl, by repeat' (first | (with_reducible exact Below.refl _ _) | (with_reducible assumption) | (with_reducible refine Below.alloc ?_ ?_ _) | (with_reducible refine Below.drew ?_) | (with_reducible refine belowN ?_ _) | (with_reducible refine Below.setCell ?_ ?_ _) | (with_reducible refine belowG ?_ ?_) | (with_reducible exact Nat.le_refl _) | (with_reducible refine le_sizeG ?_) | (with_reducible refine le_sizeA ?_) | (with_reducible refine le_sizeC ?_) | (with_reducible refine le_sizeD ?_) | (with_reducible refine le_sizeN ?_) | go_size | (simp [go_sem]; done))⟩
    · have e : tokT (s.data.toList.drop a) = numT (s.data.toList.drop a) := by rw [dropK s a ha, tokT, h1, h2]; rfl
      have T := fun wx h => Lib.hid (tnumber_any s a ha h2 hs wx (lb_below hw h).2.1)
      replace T := Lib.hid T
      rw [e]
      rw [h1] at L
      rw [h2] at D
      obtain ⟨k, t, n, z, y, hr⟩ := rdV_form a (numT (s.data.toList.drop a))
      rw [hr] at T ⊢
      clear hr e h1 h2 hw
      go_enter Tryd.func63, Tryd.ntmps63
      go_wp2_with (first | ((with_reducible refine ((L.out _).out).mono ?_); rintro e w1 ⟨rfl, rfl⟩) | ((with_reducible refine ((D.out _).out).mono ?_); rintro e w1 ⟨rfl, rfl⟩) | ((with_reducible refine ((T.out _ (by repeat' (first | (with_reducible exact Below.refl _ _) | (with_reducible assumption) | (with_reducible refine Below.alloc ?_ ?_ _) | (with_reducible refine Below.drew ?_) | (with_reducible refine belowN ?_ _) | (with_reducible refine Below.setCell ?_ ?_ _) | (with_reducible refine belowG ?_ ?_) | (with_reducible exact Nat.le_refl _) | (with_reducible refine le_sizeG ?_) | (with_reducible refine le_sizeA ?_) | (with_reducible refine le_sizeC ?_) | (with_reducible refine le_sizeD ?_) | (with_reducible refine le_sizeN ?_) | go_size | (simp [go_sem]; done)))).out).mono ?_); intro e w1 hr; obtain ⟨rfl, p, rfl⟩ := hr.out; clear hr))
      go_returns
      exact ⟨rfl, by repeat' (first | (with_reducible exact Below.refl _ _) | (with_reducible assumption) | (with_reducible refine Below.alloc ?_ ?_ _) | (with_reducible refine Below.drew ?_) | (with_reducible refine belowN ?_ _) | (with_reducible refine Below.setCell ?_ ?_ _) | (with_reducible refine belowG ?_ ?_) | (with_reducible exact Nat.le_refl _) | (with_reducible refine le_sizeG ?_) | (with_reducible refine le_sizeA ?_) | (with_reducible refine le_sizeC ?_) | (with_reducible refine le_sizeD ?_) | (with_reducible refine le_sizeN ?_) | go_size | (simp [go_sem]; done))⟩
  · have e : tokT (s.data.toList.drop a) = wordT (s.data.toList.drop a) := by rw [dropK s a ha, tokT, h1]; rfl
    have T := fun wx h => Lib.hid (tword_any s a (Nat.le_of_lt ha) hs wx (lb_below hw h).1)
    replace T := Lib.hid T
    rw [e]
    rw [h1] at L
    obtain ⟨k, t, n, z, y, hr⟩ := rdV_form a (wordT (s.data.toList.drop a))
    rw [hr] at T ⊢
    clear hr e h1 hw
    go_enter Tryd.func63, Tryd.ntmps63
    go_wp2_with (first | ((with_reducible refine ((L.out _).out).mono ?_); rintro e w1 ⟨rfl, rfl⟩) | ((with_reducible refine ((D.out _).out).mono ?_); rintro e w1 ⟨rfl, rfl⟩) | ((with_reducible refine ((T.out _ (by repeat' (first | (with_reducible exact Below.refl _ _) | (with_reducible assumption) | (with_reducible refine Below.alloc ?_ ?_ _) | (with_reducible refine Below.drew ?_) | (with_reducible refine belowN ?_ _) | (with_reducible refine Below.setCell ?_ ?_ _) | (with_reducible refine belowG ?_ ?_) | (with_reducible exact Nat.le_refl _) | (with_reducible refine le_sizeG ?_) | (with_reducible refine le_sizeA ?_) | (with_reducible refine le_sizeC ?_) | (with_reducible refine le_sizeD ?_) | (with_reducible refine le_sizeN ?_) | go_size | (simp [go_sem]; done)))).out).mono ?_); intro e w1 hr; obtain ⟨rfl, p, rfl⟩ := hr.out; clear hr))
    go_returns
    exact ⟨rfl, by repeat' (first | (with_reducible exact Below.refl _ _) | (with_reducible assumption) | (with_reducible refine Below.alloc ?_ ?_ _) | (with_reducible refine Below.drew ?_) | (with_reducible refine belowN ?_ _) | (with_reducible refine Below.setCell ?_ ?_ _) | (with_reducible refine belowG ?_ ?_) | (with_reducible exact Nat.le_refl _) | (with_reducible refine le_sizeG ?_) | (with_reducible refine le_sizeA ?_) | (with_reducible refine le_sizeC ?_) | (with_reducible refine le_sizeD ?_) | (with_reducible refine le_sizeN ?_) | go_size | (simp [go_sem]; done))⟩
end Go.Proofs.YtidbmampjjgkpaaDoor
