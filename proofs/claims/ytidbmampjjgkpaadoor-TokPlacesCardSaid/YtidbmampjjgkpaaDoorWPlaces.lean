import Derived.Test.YtidbmampjjgkpaaDoorV0
import Derived.Test.YtidbmampjjgkpaaDoorPL
import Derived.WalkKit
import Derived.ProofKit
import Derived.OpenShut
import Derived.Handy
import Derived.BigQuiet
import Derived.OwnWalk
import Derived.Lib.Hide
import Derived.WalkSmall
import Derived.WalkLawsBesides
namespace Go.Proofs.YtidbmampjjgkpaaDoor
open Go.RowKit
theorem ublank_any (x : ByteArray) (hx : x.size ≤ 100000) (h : blankT x.data.toList) (w : World) : Calls Tryd.prog 44 #[.string x] w (RetW (.bool true) w) := by
  have hc : ∀ i (hi : i < x.size), ((x[i].toNat : Int) == 32) = true := fun i hi => h x[i] (by rw [Array.mem_toList_iff]; exact Array.getElem_mem _)
  replace hc := Lib.hid hc
  clear h
  go_enter Tryd.func44, Tryd.ntmps44
  go_wp2
  go_loop [6] (fun v => ∃ i : Nat, i ≤ x.size ∧ v = .int .i64 i) (fun v => x.size - (intOf v).toNat)
  case atStart => exact ⟨0, Nat.zero_le _, rfl⟩
  case round =>
    obtain ⟨i, hi, rfl⟩ := hrel
    by_cases hlt : i < x.size
    · have hci := hc.out i hlt
      go_wp2
      go_round
      case rel => exact ⟨i + 1, by omega, by go_num⟩
      case measure => simp [intOf]; omega
    · obtain rfl : i = x.size := by omega
      go_wp2
      go_returns
      exact ⟨rfl, rfl⟩
theorem places_long (s : ByteArray) (hz : s.size ≤ maxLen) (h : 1000 < s.size) (w : World) (hw : Lb w) : Calls Tryd.prog 13 #[.string s] w (Ret (.bool true) w) := by
  unfold maxLen at hz
  have A := Lib.hid (anchor2_any w hw)
  clear hw
  go_enter Tryd.func13, Tryd.ntmps13
  go_wp2_with ((with_reducible refine (A.out).mono ?_); intro e w1 hr; obtain ⟨rfl, p, rfl⟩ := hr.out; clear hr)
  go_returns
  exact ⟨rfl, by repeat' (first | (with_reducible exact Below.refl _ _) | (with_reducible assumption) | (with_reducible refine Below.alloc ?_ ?_ _) | (with_reducible refine Below.drew ?_) | (with_reducible refine belowN ?_ _) | (with_reducible refine Below.setCell ?_ ?_ _) | (with_reducible refine belowG ?_ ?_) | (with_reducible exact Nat.le_refl _) | (with_reducible refine le_sizeG ?_) | (with_reducible refine le_sizeA ?_) | (with_reducible refine le_sizeC ?_) | (with_reducible refine le_sizeD ?_) | (with_reducible refine le_sizeN ?_) | go_size | (simp [go_sem]; done))⟩
set_option maxRecDepth 100000 in
theorem places_err (s : ByteArray) (h' : s.size ≤ 1000) (x : Int) (j : Nat) (hx : (x == 0) = false) (hl : lexT 120 0 s.data.toList = .error (x, j)) (w : World) (hw : Lb w) : Calls Tryd.prog 13 #[.string s] w (Ret (.bool true) w) := by
  have A := Lib.hid (anchor2_any w hw)
  have T := Lib.hid (show ∀ wx, Below w.heap.size w wx → Calls Tryd.prog 33 #[.string s] wx (Ret (.tuple #[.slice none 0 0, .int .i64 x, .int .i64 (j : Int)]) wx) from fun wx h => (tlex_any s (by omega) wx (lb_below hw h)).mono fun e w' hr => (lexIs_err hl).mp hr)
  clear hw hl
  go_enter Tryd.func13, Tryd.ntmps13
  go_wp2_with (first | ((with_reducible refine (A.out).mono ?_); intro e w1 hr; obtain ⟨rfl, p, rfl⟩ := hr.out; clear hr) | ((with_reducible refine (T.out _ (by repeat' (first | (with_reducible exact Below.refl _ _) | (with_reducible assumption) | (with_reducible refine Below.alloc ?_ ?_ _) | (with_reducible refine Below.drew ?_) | (with_reducible refine belowN ?_ _) | (with_reducible refine Below.setCell ?_ ?_ _) | (with_reducible refine belowG ?_ ?_) | (with_reducible exact Nat.le_refl _) | (with_reducible refine le_sizeG ?_) | (with_reducible refine le_sizeA ?_) | (with_reducible refine le_sizeC ?_) | (with_reducible refine le_sizeD ?_) | (with_reducible refine le_sizeN ?_) | go_size | (simp [go_sem]; done)))).mono ?_); intro e w1 hr; obtain ⟨rfl, p, rfl⟩ := hr.out; clear hr))
  go_returns
  exact ⟨rfl, by repeat' (first | (with_reducible exact Below.refl _ _) | (with_reducible assumption) | (with_reducible refine Below.alloc ?_ ?_ _) | (with_reducible refine Below.drew ?_) | (with_reducible refine belowN ?_ _) | (with_reducible refine Below.setCell ?_ ?_ _) | (with_reducible refine belowG ?_ ?_) | (with_reducible exact Nat.le_refl _) | (with_reducible refine le_sizeG ?_) | (with_reducible refine le_sizeA ?_) | (with_reducible refine le_sizeC ?_) | (with_reducible refine le_sizeD ?_) | (with_reducible refine le_sizeN ?_) | go_size | (simp [go_sem]; done))⟩
set_option maxRecDepth 100000 in
set_option maxHeartbeats 2000000 in
theorem places_ok (s : ByteArray) (h' : s.size ≤ 1000) (ts : List Tk) (hl : lexT 120 0 s.data.toList = .ok ts) (w : World) (hw : Lb w) : Calls Tryd.prog 13 #[.string s] w (Ret (.bool true) w) := by
  have hlen : s.data.toList.length = s.size := by simp
  have A := Lib.hid (anchor2_any w hw)
  have T := Lib.hid (show ∀ wx, Below w.heap.size w wx → Calls Tryd.prog 33 #[.string s] wx (SlIs ts wx) from fun wx h => (tlex_any s (by omega) wx (lb_below hw h)).mono fun e w' hr => lex_sl hl hr)
  have hn := lexT_count hl
  have hpl := Lib.hid (places_lex s.data.toList 120 0 ts (Nat.zero_le _) hl)
  have B := Lib.hid (fun x hx h w => ublank_any x hx h w)
  clear hw hl
  go_enter Tryd.func13, Tryd.ntmps13
  go_wp2_with ((with_reducible refine (A.out).mono ?_); intro e w1 hr; obtain ⟨rfl, p, rfl⟩ := hr.out; clear hr)
  refine (T.out _ (by repeat' (first | (with_reducible exact Below.refl _ _) | (with_reducible assumption) | (with_reducible refine Below.alloc ?_ ?_ _) | (with_reducible refine Below.drew ?_) | (with_reducible refine belowN ?_ _) | (with_reducible refine Below.setCell ?_ ?_ _) | (with_reducible refine belowG ?_ ?_) | (with_reducible exact Nat.le_refl _) | (with_reducible refine le_sizeG ?_) | (with_reducible refine le_sizeA ?_) | (with_reducible refine le_sizeC ?_) | (with_reducible refine le_sizeD ?_) | (with_reducible refine le_sizeN ?_) | go_size | (simp [go_sem]; done)))).mono ?_
  intro e w1 hr
  obtain ⟨ao, cap, rfl, h1, hb1⟩ := hr
  replace h1 := Lib.hid h1
  have hb : Below w.heap.size w w1 := (belowG (Below.refl _ w) (Nat.le_refl _)).trans (hb1.mono (belowG0 p w).size)
  clear hb1 A T
  have hz := hb.size
  go_wp2
  go_loopw [6, 28] (fun va v wr => ∃ i a : Nat, i ≤ ts.length ∧ a ≤ s.size ∧ va = .int .i64 a ∧ v = .int .i64 i ∧ PlacesT s.data.toList a (ts.drop i) ∧ Below w1.heap.size w1 wr) (fun _ v _ => ts.length - (intOf v).toNat)
  case atStart => exact ⟨0, 0, Nat.zero_le _, Nat.zero_le _, rfl, rfl, hpl.out, Below.refl _ _⟩
  case round =>
    obtain ⟨i, a, hi, ha, rfl, rfl, hp, hbr⟩ := hrel
    rename World => wr
    have hzr := hbr.size
    by_cases hlt : i < ts.length
    · obtain ⟨g1, rfl, hg1, t1⟩ := h1.out (by omega)
      obtain ⟨a0, a1, a2, a3⟩ := toks_below t1 hg1 hbr i hlt
      rw [List.drop_eq_getElem_cons hlt] at hp
      obtain ⟨p1, p2, p3, p4, p5⟩ := hp
      generalize ts[i] = tk at *
      obtain ⟨k, tt, n, ta⟩ := tk
      simp only at a0 a1 a2 a3 p1 p2 p3 p4 p5
      have j1 : InW g1 wr := ⟨Nat.lt_of_lt_of_le hg1 hzr⟩
      obtain ⟨q, hq⟩ : ∃ q : ByteArray, q = ⟨tt.toArray⟩ := ⟨_, rfl⟩
      rw [← hq] at a1
      have hqd : q.data.toList = tt := by rw [hq]
      have hqz : q.size = tt.length := by rw [Lib.size_eq, hqd]
      obtain ⟨x, hx⟩ : ∃ x, s.extract a ta = x := ⟨_, rfl⟩
      have hxl : x.data.toList = (s.data.toList.drop a).take (ta - a) := by
        have := take_data s a (ta - a)
        rw [show a + (ta - a) = ta by omega, hx] at this
        exact this
      have hxz : x.size ≤ 100000 := by rw [Lib.size_eq, hxl, List.length_take, List.length_drop]; omega
      have B1 := Lib.hid (fun wx => B.out x hxz (by rw [hxl]; exact p2) wx)
      have hsx := slice_s s a ta p1 (by omega) x hx
      obtain ⟨y, hy⟩ : ∃ y : ByteArray, s.extract ta (ta + (fullT k tt).length) = y := ⟨_, rfl⟩
      have hyd : y.data.toList = fullT k tt := by rw [← hy, take_data, p3]
      have hyz : y.size = (fullT k tt).length := by rw [Lib.size_eq, hyd]
      have hsy : ∀ wx, (Instr.slice 9 (.string s) (some (.int .i64 (ta : Int))) (some (.int .i64 ((ta : Int) + y.size))) none).run Tryd.prog wx = .ok (.string y) wx := by
        intro wx
        have := slice_s s ta (ta + (fullT k tt).length) (by omega) (by omega) y hy wx
        rw [← hyz] at this
        exact this
      rw [← hyz] at p4 p5
      rw [hlen] at p4
      have p5 := Lib.hid p5
      rcases hk : (k == 4)
      · have hf : fullT k tt = tt := by
          rw [beq_eq_false_iff_ne] at hk
          unfold fullT
          rw [if_neg hk]
        obtain rfl : y = q := ByteArray.ext (Array.ext' (by rw [hyd, hf, hqd]))
        clear hyd hyz hy hqd hqz hq hf p2 p3 hxl hx t1 hpl h1
        go_wp2_with (first | ((with_reducible refine (B1.out _).mono ?_); rintro e w1 ⟨rfl, rfl⟩))
        go_roundw
        case rel => exact ⟨i + 1, ta + y.size, by omega, by omega, by go_num, by go_num, p5.out, by repeat' (first | (with_reducible exact Below.refl _ _) | (with_reducible assumption) | (with_reducible refine Below.alloc ?_ ?_ _) | (with_reducible refine Below.drew ?_) | (with_reducible refine belowN ?_ _) | (with_reducible refine Below.setCell ?_ ?_ _) | (with_reducible refine belowG ?_ ?_) | (with_reducible exact Nat.le_refl _) | (with_reducible refine le_sizeG ?_) | (with_reducible refine le_sizeA ?_) | (with_reducible refine le_sizeC ?_) | (with_reducible refine le_sizeD ?_) | (with_reducible refine le_sizeN ?_) | go_size | (simp [go_sem]; done))⟩
        case measure => simp [intOf]; omega
      · have hf : fullT k tt = 39 :: (tt ++ [39]) := by
          rw [beq_iff_eq] at hk
          unfold fullT
          rw [if_pos hk]
        have hcat : ((⟨#[39]⟩ : ByteArray) ++ q) ++ (⟨#[39]⟩ : ByteArray) = y := by
          apply ByteArray.ext
          apply Array.ext'
          rw [hyd, hf, ← hqd]
          simp
        have hq100 : q.size ≤ 100000 := by
          rw [hf] at hyz
          simp at hyz
          omega
        clear hyd hyz hy hqd hqz hq hf p2 p3 hxl hx t1 hpl h1
        go_wp2_with (first | ((with_reducible refine (B1.out _).mono ?_); rintro e w1 ⟨rfl, rfl⟩))
        go_roundw
        case rel => exact ⟨i + 1, ta + y.size, by omega, by omega, by go_num, by go_num, p5.out, by repeat' (first | (with_reducible exact Below.refl _ _) | (with_reducible assumption) | (with_reducible refine Below.alloc ?_ ?_ _) | (with_reducible refine Below.drew ?_) | (with_reducible refine belowN ?_ _) | (with_reducible refine Below.setCell ?_ ?_ _) | (with_reducible refine belowG ?_ ?_) | (with_reducible exact Nat.le_refl _) | (with_reducible refine le_sizeG ?_) | (with_reducible refine le_sizeA ?_) | (with_reducible refine le_sizeC ?_) | (with_reducible refine le_sizeD ?_) | (with_reducible refine le_sizeN ?_) | go_size | (simp [go_sem]; done))⟩
        case measure => simp [intOf]; omega
    · obtain rfl : i = ts.length := by omega
      obtain ⟨x, hx⟩ : ∃ x, s.extract a s.size = x := ⟨_, rfl⟩
      have hxl : x.data.toList = s.data.toList.drop a := by
        rw [← hx, Lib.extract_eq]
        show ((s.data.toList.drop a).take (s.size - a)) = _
        rw [List.take_of_length_le (by simp)]
      have hxz : x.size ≤ 100000 := by rw [Lib.size_eq, hxl, List.length_drop]; omega
      have hxb : blankT x.data.toList := by
        rw [hxl]
        rw [List.drop_of_length_le (Nat.le_refl _)] at hp
        exact hp
      have hsl : ∀ wx, (Instr.slice 9 (.string s) (some (.int .i64 (a : Int))) none none).run Tryd.prog wx = .ok (.string x) wx := by
        intro wx
        have := run_slice_string_l (P := Tryd.prog) wx 9 s Tryd.underlying9 .i64 (a : Int) (by omega) (by omega)
        rw [this, show (a : Int).toNat = a from rfl, hx]
      have B1 := Lib.hid (fun wx => B.out x hxz hxb wx)
      clear hx hxl hxb hp hpl h1
      go_wp2_with ((with_reducible refine (B1.out _).mono ?_); rintro e w1 ⟨rfl, rfl⟩)
      go_returns
      exact ⟨rfl, hb.trans (hbr.mono hz)⟩
/-- The walk of TokPlaces: each token of any line stands there where it says, one behind the other, with nothing but blanks between. -/
theorem places_walk (s : ByteArray) (z : s.size ≤ maxLen) (w : World) (hw : Lb w) : Calls Tryd.prog 13 #[.string s] w (Ret (.bool true) w) := by
  by_cases h : 1000 < s.size
  · exact places_long s z h w hw
  · rcases hl : lexT 120 0 s.data.toList with ⟨x, j⟩ | ts
    · exact places_err s (by omega) x j (lexT_err hl) hl w hw
    · exact places_ok s (by omega) ts hl w hw
end Go.Proofs.YtidbmampjjgkpaaDoor
