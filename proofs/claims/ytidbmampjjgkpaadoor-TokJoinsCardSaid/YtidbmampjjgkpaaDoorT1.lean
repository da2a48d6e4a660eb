import Derived.Test.YtidbmampjjgkpaaDoorT0
import Derived.Test.YtidbmampjjgkpaaDoorSP
import Derived.Test.YtidbmampjjgkpaaDoorRG
import Derived.Test.YtidbmampjjgkpaaDoorShelf2
import Derived.WalkKit
import Derived.ProofKit
import Derived.OpenShut
import Derived.Handy
import Derived.BigQuiet
import Derived.Lib.Hide
import Derived.WalkSmall
import Derived.WalkLawsBesides
namespace Go.Proofs.YtidbmampjjgkpaaDoor
open Go.RowKit
/-- The place where the library's greatest index stands holds a number. -/
def MaxL (w : World) : Prop := ∃ m, w.cell? ⟨6, 0, none⟩ = some (.int .i64 m)
theorem maxl_below {w w' : World} (h : MaxL w) (hb : Below w.heap.size w w') : MaxL w' := by
  obtain ⟨m, h⟩ := h
  exact ⟨m, (hb.cell (World.block_lt_of_cell? _ _ h)).trans h⟩
/-- What reading a token answers. -/
def rdV (a : Nat) : Tok → Value
  | .ok (k, t, n, z) => .tuple #[.agg #[.int .i64 k, .string ⟨t.toArray⟩, .int .i64 n, .int .i64 0], .int .i64 ((a + z : Nat) : Int), .int .i64 0]
  | .error x => .tuple #[.agg #[.int .i64 0, .string ⟨#[]⟩, .int .i64 0, .int .i64 0], .int .i64 0, .int .i64 x]
theorem slice_s (s : ByteArray) (a e : Nat) (hae : a ≤ e) (he : e ≤ s.size) (t : ByteArray) (ht : s.extract a e = t) (wx : World) :
    (Instr.slice 9 (.string s) (some (.int .i64 (a : Int))) (some (.int .i64 (e : Int))) none).run Tryd.prog wx = .ok (.string t) wx := by
  have := run_slice_string (P := Tryd.prog) wx 9 s .i64 .i64 a e Tryd.underlying9 (by omega) (by omega) (by omega)
  rw [this, show ((a : Int).toNat) = a from rfl, show ((e : Int).toNat) = e from rfl, ht]
/-- strings.Split at a dot. -/
def SplitIs (ps : List ByteArray) (w : World) (e : Ending) (w' : World) : Prop := ∃ g : Nat, e = .returned (.slice (some ⟨g, 0, none⟩) ps.length ps.length) ∧ g < w'.heap.size ∧
  (∀ i (h : i < ps.length), w'.cell? ⟨g, i, none⟩ = some (.string ps[i])) ∧ Below w.heap.size w w'
theorem split_any (t : ByteArray) (ht : t.size ≤ 100000) (w : World) (hw : MaxL w) : Calls Tryd.prog 109 #[.string t, .string ⟨#[46]⟩] w (SplitIs (pieces t) w) := by
  obtain ⟨m, hm⟩ := hw
  refine (Any.strings_Split Tryd.lays146 (by kernel_rfl) t ⟨#[46]⟩ m w (by omega) hm (by decide)).mono fun e w' ⟨he, hw⟩ => ?_
  subst hw
  refine ⟨w.heap.size, ?_, by simp, fun i h => ?_, ?_⟩
  · rw [he, pieces_length]
  · rw [World.cell?_alloc_mark w _ _ (0, 0) i]
    simp only [pieces] at h ⊢
    simp [List.getElem?_map, List.getElem?_eq_getElem h]
  · exact (Below.refl _ w).alloc (Nat.le_refl _) _
theorem take_data (s : ByteArray) (a z : Nat) : (s.extract a (a + z)).data.toList = (s.data.toList.drop a).take z := by
  rw [Lib.extract_eq, Nat.add_sub_cancel_left]
theorem wordT_long (s : ByteArray) (a z : Nat) (hz : spanL wordL (s.data.toList.drop a) = z) (t : ByteArray) (ht : s.extract a (a + z) = t) (h : decide (32 < t.size) || longL 0 t.data.toList) : wordT (s.data.toList.drop a) = .error 15 := by
  subst ht
  unfold wordT
  simp only [hz, ← take_data, ← Lib.size_eq]
  rw [if_pos h]
theorem wordT_ok (s : ByteArray) (a z : Nat) (hz : spanL wordL (s.data.toList.drop a) = z) (t : ByteArray) (ht : s.extract a (a + z) = t) (hl : t.size = z) (h : (decide (32 < t.size) || longL 0 t.data.toList) = false) (d : Bool) (hd : dotL t.data.toList = d) :
    rdV a (wordT (s.data.toList.drop a)) = .tuple #[.agg #[.int .i64 (if d then 2 else 1), .string t, .int .i64 0, .int .i64 0], .int .i64 ((a + z : Nat) : Int), .int .i64 0] := by
  subst ht
  unfold wordT
  simp only [hz, ← take_data, ← Lib.size_eq, hl]
  rw [hl] at h
  rw [h]
  simp only [Bool.false_eq_true, if_false, rdV, hd]
def wordA (n : Nat) (ps : List ByteArray) (i : Nat) : Prop := ∀ j (h : j < ps.length), j < i → ps[j].size ≤ n
theorem wordA_end {n : Nat} {ps : List ByteArray} (h : wordA n ps ps.length) : ps.any (fun p => decide (n < p.size)) = false := by
  rw [List.any_eq_false]
  intro p hp
  obtain ⟨j, hj, rfl⟩ := List.getElem_of_mem hp
  have := h j hj hj
  simp; omega
theorem wordA_bad {n : Nat} {ps : List ByteArray} {i : Nat} (hi : i < ps.length) (h : n < ps[i].size) : ps.any (fun p => decide (n < p.size)) = true := by
  rw [List.any_eq_true]
  exact ⟨ps[i], List.getElem_mem hi, by simpa using h⟩
theorem wordA_succ {n : Nat} {ps : List ByteArray} {i : Nat} (hi : i < ps.length) (h : ps[i].size ≤ n) (ha : wordA n ps i) : wordA n ps (i + 1) := by
  intro j hj hji
  rcases Nat.lt_or_eq_of_le (Nat.le_of_lt_succ hji) with h1 | rfl
  · exact ha j hj h1
  · exact h
set_option maxRecDepth 100000 in
set_option maxHeartbeats 1000000 in
theorem tword_any (s : ByteArray) (a : Nat) (ha : a ≤ s.size) (hs : s.size ≤ 100000) (w : World) (hw : MaxL w) :
    Calls Tryd.prog 85 #[.string s, .int .i64 a] w (Ret (rdV a (wordT (s.data.toList.drop a))) w) := by
  obtain ⟨z, hz⟩ : ∃ z, spanL wordL (s.data.toList.drop a) = z := ⟨_, rfl⟩
  have hle : a + z ≤ s.size := by
    have := spanL_le wordL (s.data.toList.drop a)
    rw [hz, List.length_drop] at this
    have e : s.data.toList.length = s.size := by simp
    omega
  obtain ⟨t, ht⟩ : ∃ t, s.extract a (a + z) = t := ⟨_, rfl⟩
  have hl : t.size = z := by rw [← ht, ByteArray.size_extract]; omega
  obtain ⟨e, he⟩ : ∃ e, a + z = e := ⟨_, rfl⟩
  have B := fun b wx hb => Lib.hid (word_b s a e (by rw [hz]; exact he) ha (by omega) b wx hb)
  replace B := Lib.hid B
  have hsl := slice_s s a e (by omega) (by omega) t (by rw [← he]; exact ht)
  have hmf : ∀ (fn : Fn) (first cap : Array Value) (w : World), (Instr.makeFunc fn first cap).run Tryd.prog w = .ok (.func fn first cap) w := fun _ _ _ _ => rfl
  have S := fun wx (h : Below w.heap.size w wx) => Lib.hid (split_any t (by omega) wx (maxl_below hw h))
  replace S := Lib.hid S
  by_cases h32 : 32 < t.size
  · rw [wordT_long s a z hz t ht (by simp [h32])]
    clear hw hz ht he hl S
    unfold rdV
    go_enter Tryd.func85, Tryd.ntmps85
    go_wp2_with (first | ((with_reducible refine ((B.out _ _ (by simp [go_sem])).out).mono ?_); rintro e w1 ⟨rfl, rfl⟩))
    go_returns
    exact ⟨rfl, by repeat' (first | (with_reducible exact Below.refl _ _) | (with_reducible assumption) | (with_reducible refine Below.alloc ?_ ?_ _) | (with_reducible refine Below.drew ?_) | (with_reducible refine belowN ?_ _) | (with_reducible refine Below.setCell ?_ ?_ _) | (with_reducible refine belowG ?_ ?_) | (with_reducible exact Nat.le_refl _) | (with_reducible refine le_sizeG ?_) | (with_reducible refine le_sizeA ?_) | (with_reducible refine le_sizeC ?_) | (with_reducible refine le_sizeD ?_) | (with_reducible refine le_sizeN ?_) | go_size | (simp [go_sem]; done))⟩
  · obtain ⟨hany, hdot⟩ := pieces_any t
    have hbig : (pieces t).length ≤ 200000 := by
      have := Lib.countB_le ⟨#[46]⟩ (by decide) t.size t (Nat.le_refl _)
      rw [pieces_length]; omega
    have hone : 1 ≤ (pieces t).length := by rw [pieces_length]; omega
    generalize pieces t = ps at *
    rcases hb : ps.any (fun p => decide (16 < p.size))
    · rw [hb] at hany
      have h32' : decide (32 < t.size) = false := by simpa using h32
      obtain ⟨d, hd⟩ : ∃ d, decide (1 < ps.length) = d := ⟨_, rfl⟩
      rw [wordT_ok s a z hz t ht hl (by rw [← hany, h32']; rfl) d (by rw [hdot]; exact hd), he]
      have W := fun i hi h => Lib.hid (wordA_bad (n := 16) (ps := ps) (i := i) hi h)
      replace W := Lib.hid W
      replace hb := Lib.hid hb
      clear hw hz ht he hl hany hdot h32'
      rcases Nat.lt_or_ge 1 ps.length with hlen | hlen
      all_goals
        obtain rfl : d = _ := hd.symm.trans (by first | exact decide_eq_true hlen | exact decide_eq_false (Nat.not_lt.2 hlen))
        go_enter Tryd.func85, Tryd.ntmps85
        go_wp2_with (first | ((with_reducible refine ((B.out _ _ (by simp [go_sem])).out).mono ?_); rintro e w1 ⟨rfl, rfl⟩) | ((with_reducible refine ((S.out _ (by repeat' (first | (with_reducible exact Below.refl _ _) | (with_reducible assumption) | (with_reducible refine Below.alloc ?_ ?_ _) | (with_reducible refine Below.drew ?_) | (with_reducible refine belowN ?_ _) | (with_reducible refine Below.setCell ?_ ?_ _) | (with_reducible refine belowG ?_ ?_) | (with_reducible exact Nat.le_refl _) | (with_reducible refine le_sizeG ?_) | (with_reducible refine le_sizeA ?_) | (with_reducible refine le_sizeC ?_) | (with_reducible refine le_sizeD ?_) | (with_reducible refine le_sizeN ?_) | go_size | (simp [go_sem]; done)))).out).mono ?_); intro e w1 hr; obtain ⟨g, rfl, hg, hc, hb⟩ := hr; obtain ⟨q, rfl⟩ := toG hb; clear hb; skip))
        replace hc := Lib.hid hc
        go_loop [28] (fun v => ∃ i : Nat, i ≤ ps.length ∧ v = .int .i64 i) (fun v => ps.length - (intOf v).toNat)
        case atStart => exact ⟨0, Nat.zero_le _, rfl⟩
        case round =>
          obtain ⟨i, hi, rfl⟩ := hrel
          by_cases hlt : i < ps.length
          · have hcell := hc.out i hlt
            have hshort : ¬ 16 < ps[i].size := fun h => by
              have := (W.out i hlt h).out
              rw [hb.out] at this
              cases this
            go_wp2
            go_round
            case rel => exact ⟨i + 1, by omega, by go_num⟩
            case measure => simp [intOf]; omega
          · obtain rfl : i = ps.length := by omega
            go_wp2
            go_returns
            exact ⟨rfl, by repeat' (first | (with_reducible exact Below.refl _ _) | (with_reducible assumption) | (with_reducible refine Below.alloc ?_ ?_ _) | (with_reducible refine Below.drew ?_) | (with_reducible refine belowN ?_ _) | (with_reducible refine Below.setCell ?_ ?_ _) | (with_reducible refine belowG ?_ ?_) | (with_reducible exact Nat.le_refl _) | (with_reducible refine le_sizeG ?_) | (with_reducible refine le_sizeA ?_) | (with_reducible refine le_sizeC ?_) | (with_reducible refine le_sizeD ?_) | (with_reducible refine le_sizeN ?_) | go_size | (simp [go_sem]; done))⟩
    · rw [hb] at hany
      rw [wordT_long s a z hz t ht (by rw [← hany]; simp)]
      have W := fun h => Lib.hid (wordA_end (n := 16) (ps := ps) h)
      replace W := Lib.hid W
      replace hb := Lib.hid hb
      clear hw hz ht he hl hany hdot hone
      unfold rdV
      go_enter Tryd.func85, Tryd.ntmps85
      go_wp2_with (first | ((with_reducible refine ((B.out _ _ (by simp [go_sem])).out).mono ?_); rintro e w1 ⟨rfl, rfl⟩) | ((with_reducible refine ((S.out _ (by repeat' (first | (with_reducible exact Below.refl _ _) | (with_reducible assumption) | (with_reducible refine Below.alloc ?_ ?_ _) | (with_reducible refine Below.drew ?_) | (with_reducible refine belowN ?_ _) | (with_reducible refine Below.setCell ?_ ?_ _) | (with_reducible refine belowG ?_ ?_) | (with_reducible exact Nat.le_refl _) | (with_reducible refine le_sizeG ?_) | (with_reducible refine le_sizeA ?_) | (with_reducible refine le_sizeC ?_) | (with_reducible refine le_sizeD ?_) | (with_reducible refine le_sizeN ?_) | go_size | (simp [go_sem]; done)))).out).mono ?_); intro e w1 hr; obtain ⟨g, rfl, hg, hc, hb⟩ := hr; obtain ⟨q, rfl⟩ := toG hb; clear hb; skip))
      replace hc := Lib.hid hc
      go_loop [28] (fun v => ∃ i : Nat, i ≤ ps.length ∧ v = .int .i64 i ∧ wordA 16 ps i) (fun v => ps.length - (intOf v).toNat)
      case atStart => exact ⟨0, Nat.zero_le _, rfl, fun j _ h => absurd h (Nat.not_lt_zero _)⟩
      case round =>
        obtain ⟨i, hi, rfl, hall⟩ := hrel
        by_cases hlt : i < ps.length
        · have hcell := hc.out i hlt
          by_cases hlong : 16 < ps[i].size
          · go_wp2
            go_returns
            exact ⟨rfl, by repeat' (first | (with_reducible exact Below.refl _ _) | (with_reducible assumption) | (with_reducible refine Below.alloc ?_ ?_ _) | (with_reducible refine Below.drew ?_) | (with_reducible refine belowN ?_ _) | (with_reducible refine Below.setCell ?_ ?_ _) | (with_reducible refine belowG ?_ ?_) | (with_reducible exact Nat.le_refl _) | (with_reducible refine le_sizeG ?_) | (with_reducible refine le_sizeA ?_) | (with_reducible refine le_sizeC ?_) | (with_reducible refine le_sizeD ?_) | (with_reducible refine le_sizeN ?_) | go_size | (simp [go_sem]; done))⟩
          · have hnext := Lib.hid (wordA_succ hlt (by omega) hall)
            go_wp2
            go_round
            case rel => exact ⟨i + 1, by omega, by go_num, hnext.out⟩
            case measure => simp [intOf]; omega
        · obtain rfl : i = ps.length := by omega
          have := (W.out hall).out
          rw [hb.out] at this
          cases this
end Go.Proofs.YtidbmampjjgkpaaDoor
