import Derived.Test.YtidbmampjjgkpaaDoorJU
import Derived.Test.YtidbmampjjgkpaaDoorU5
import Derived.WalkKit
import Derived.ProofKit
import Derived.OpenShut
import Derived.Handy
import Derived.BigQuiet
import Derived.OwnWalk
import Derived.Lib.Hide
import Derived.WalkSmall
import Derived.WalkLawsBesides
namespace Go.Proofs.YtidbmampjjgkpaaDoor
open Go.RowKit
theorem joins_long (s : ByteArray) (hz : s.size ≤ maxLen) (h : 1000 < s.size) (w : World) (hw : Lb w) : Calls Tryd.prog 10 #[.string s] w (Ret (.bool true) w) := by
  unfold maxLen at hz
  have A := Lib.hid (anchor2_any w hw)
  clear hw
  go_enter Tryd.func10, Tryd.ntmps10
  go_wp2_with ((with_reducible refine (A.out).mono ?_); intro e w1 hr; obtain ⟨rfl, p, rfl⟩ := hr.out; clear hr)
  go_returns
  exact ⟨rfl, by repeat' (first | (with_reducible exact Below.refl _ _) | (with_reducible assumption) | (with_reducible refine Below.alloc ?_ ?_ _) | (with_reducible refine Below.drew ?_) | (with_reducible refine belowN ?_ _) | (with_reducible refine Below.setCell ?_ ?_ _) | (with_reducible refine belowG ?_ ?_) | (with_reducible exact Nat.le_refl _) | (with_reducible refine le_sizeG ?_) | (with_reducible refine le_sizeA ?_) | (with_reducible refine le_sizeC ?_) | (with_reducible refine le_sizeD ?_) | (with_reducible refine le_sizeN ?_) | go_size | (simp [go_sem]; done))⟩
set_option maxRecDepth 100000 in
theorem joins_err (s : ByteArray) (h' : s.size ≤ 1000) (x : Int) (j : Nat) (hx : (x == 0) = false) (hl : lexT 120 0 s.data.toList = .error (x, j)) (w : World) (hw : Lb w) : Calls Tryd.prog 10 #[.string s] w (Ret (.bool true) w) := by
  have A := Lib.hid (anchor2_any w hw)
  have T := Lib.hid (show ∀ wx, Below w.heap.size w wx → Calls Tryd.prog 33 #[.string s] wx (Ret (.tuple #[.slice none 0 0, .int .i64 x, .int .i64 (j : Int)]) wx) from fun wx h => (tlex_any s (by omega) wx (lb_below hw h)).mono fun e w' hr => (lexIs_err hl).mp hr)
  clear hw hl
  go_enter Tryd.func10, Tryd.ntmps10
  go_wp2_with (first | ((with_reducible refine (A.out).mono ?_); intro e w1 hr; obtain ⟨rfl, p, rfl⟩ := hr.out; clear hr) | ((with_reducible refine (T.out _ (by repeat' (first | (with_reducible exact Below.refl _ _) | (with_reducible assumption) | (with_reducible refine Below.alloc ?_ ?_ _) | (with_reducible refine Below.drew ?_) | (with_reducible refine belowN ?_ _) | (with_reducible refine Below.setCell ?_ ?_ _) | (with_reducible refine belowG ?_ ?_) | (with_reducible exact Nat.le_refl _) | (with_reducible refine le_sizeG ?_) | (with_reducible refine le_sizeA ?_) | (with_reducible refine le_sizeC ?_) | (with_reducible refine le_sizeD ?_) | (with_reducible refine le_sizeN ?_) | go_size | (simp [go_sem]; done)))).mono ?_); intro e w1 hr; obtain ⟨rfl, p, rfl⟩ := hr.out; clear hr))
  go_returns
  exact ⟨rfl, by repeat' (first | (with_reducible exact Below.refl _ _) | (with_reducible assumption) | (with_reducible refine Below.alloc ?_ ?_ _) | (with_reducible refine Below.drew ?_) | (with_reducible refine belowN ?_ _) | (with_reducible refine Below.setCell ?_ ?_ _) | (with_reducible refine belowG ?_ ?_) | (with_reducible exact Nat.le_refl _) | (with_reducible refine le_sizeG ?_) | (with_reducible refine le_sizeA ?_) | (with_reducible refine le_sizeC ?_) | (with_reducible refine le_sizeD ?_) | (with_reducible refine le_sizeN ?_) | go_size | (simp [go_sem]; done))⟩
theorem good_short {ts : List Tk} {l : List UInt8} (hl : l.length ≤ 1000) (h : lexT 120 0 l = .ok ts) : ShortT ts := by
  have hn := lexT_count h
  have hp := places_lex l 120 0 ts (Nat.zero_le _) h
  have hj := join_length l 0 ts (Nat.zero_le _) hp
  refine ⟨hn, by omega, ?_⟩
  have hs : ∀ (p : Nat) (ts : List Tk), PlacesT l p ts → ∀ t ∈ ts, t.s.length ≤ l.length := by
    intro p ts
    induction ts generalizing p with
    | nil => intro _ t ht; cases ht
    | cons u r ih =>
      intro h t ht
      obtain ⟨_, _, _, h4, h5⟩ := h
      rcases List.mem_cons.1 ht with rfl | ht
      · have : t.s.length ≤ (fullT t.k t.s).length := by
          unfold fullT
          split
          · simp; omega
          · exact Nat.le_refl _
        omega
      · exact ih _ h5 t ht
  intro t ht
  have := hs 0 ts hp t ht
  omega
set_option maxRecDepth 100000 in
set_option maxHeartbeats 4000000 in
theorem joins_ok (s : ByteArray) (h' : s.size ≤ 1000) (ts : List Tk) (hl : lexT 120 0 s.data.toList = .ok ts) (w : World) (hw : Lb w) : Calls Tryd.prog 10 #[.string s] w (Ret (.bool true) w) := by
  have hlen : s.data.toList.length = s.size := by simp
  have hshort := good_short (by omega) hl
  obtain ⟨us, hu1, hu2⟩ := join_again ts 120 0 (lexT_good hl) hshort.1
  have hul := same_length hu2
  obtain ⟨J, hJ⟩ : ∃ J : ByteArray, J = ⟨(joinT ts).toArray⟩ := ⟨_, rfl⟩
  have hJd : J.data.toList = joinT ts := by rw [hJ]
  have hJz : J.size ≤ 100000 := by
    have := hshort.2.1
    rw [Lib.size_eq, hJd]; omega
  rw [← hJd] at hu1
  have A := Lib.hid (anchor2_any w hw)
  have T := Lib.hid (show ∀ wx, Below w.heap.size w wx → Calls Tryd.prog 33 #[.string s] wx (SlIs ts wx) from fun wx h => (tlex_any s (by omega) wx (lb_below hw h)).mono fun e w' hr => lex_sl hl hr)
  have M := Lib.hid (show ∀ wx, Below w.heap.size w wx → Calls Tryd.prog 33 #[.string J] wx (SlIs us wx) from fun wx h => (tlex_any J hJz wx (lb_below hw h)).mono fun e w' hr => lex_sl hu1 hr)
  have U := Lib.hid (show ∀ wx, Calls Tryd.prog 34 #[.string s] wx (SlIs ts wx) from fun wx => (ulex_any s (by omega) wx).mono fun e w' hr => lex_sl hl hr)
  have TJ := Lib.hid (show ∀ ao cap wx, Sl wx ao ts → Calls Tryd.prog 35 #[.slice ao ts.length cap] wx (Ret (.string J) wx) from fun ao cap wx h => by rw [hJ]; exact tjoin_any ts ao cap hshort wx h)
  have UJ := Lib.hid (show ∀ ao cap wx, Sl wx ao ts → Calls Tryd.prog 36 #[.slice ao ts.length cap] wx (Ret (.string J) wx) from fun ao cap wx h => by rw [hJ]; exact ujoin_any ts ao cap hshort wx h)
  have hsame := Lib.hid (fun i h1 h2 => same_at hu2 i h1 h2)
  have hn := lexT_count hl
  clear hw hl hu1 hu2 hJ hJd hJz hshort hlen
  go_enter Tryd.func10, Tryd.ntmps10
  go_wp2_with ((with_reducible refine (A.out).mono ?_); intro e w1 hr; obtain ⟨rfl, p, rfl⟩ := hr.out; clear hr)
  refine (T.out _ (by repeat' (first | (with_reducible exact Below.refl _ _) | (with_reducible assumption) | (with_reducible refine Below.alloc ?_ ?_ _) | (with_reducible refine Below.drew ?_) | (with_reducible refine belowN ?_ _) | (with_reducible refine Below.setCell ?_ ?_ _) | (with_reducible refine belowG ?_ ?_) | (with_reducible exact Nat.le_refl _) | (with_reducible refine le_sizeG ?_) | (with_reducible refine le_sizeA ?_) | (with_reducible refine le_sizeC ?_) | (with_reducible refine le_sizeD ?_) | (with_reducible refine le_sizeN ?_) | go_size | (simp [go_sem]; done)))).mono ?_
  intro e w1 hr
  obtain ⟨ao1, cap1, rfl, h1, hb1⟩ := hr
  have hB1 : Below w.heap.size w w1 := (belowG (Below.refl _ w) (Nat.le_refl _)).trans (hb1.mono (belowG0 p w).size)
  have hz1 := hB1.size
  replace h1 : Sl w1 ao1 ts := h1
  clear hb1
  go_wp2_with fail
  refine (U.out _).mono ?_
  intro e w2 hr
  obtain ⟨ao2, cap2, rfl, h2, hb2⟩ := hr
  replace h2 : Sl w2 ao2 ts := h2
  have h12 := sl_below h1 hb2
  have hB2 : Below w.heap.size w w2 := hB1.trans (hb2.mono hz1)
  have hz2 := hB2.size
  clear h1 hb2 hB1 hz1
  go_wp2_with fail
  refine (TJ.out _ _ _ h12).mono ?_
  intro e w3 hr
  obtain ⟨rfl, hb3⟩ := hr
  have h13 := sl_below h12 hb3
  have h23 := sl_below h2 hb3
  have hB3 : Below w.heap.size w w3 := hB2.trans (hb3.mono hz2)
  have hz3 := hB3.size
  clear h12 h2 hb3 hB2 hz2
  go_wp2_with fail
  refine (M.out _ hB3).mono ?_
  intro e w4 hr
  obtain ⟨ao4, cap4, rfl, h4, hb4⟩ := hr
  replace h4 : Sl w4 ao4 us := h4
  have h14 := sl_below h13 hb4
  have h24 := sl_below h23 hb4
  have hB4 : Below w.heap.size w w4 := hB3.trans (hb4.mono hz3)
  have hz4 := hB4.size
  clear h13 h23 hb4 hB3 hz3
  go_wp2_with fail
  refine (UJ.out _ _ _ h24).mono ?_
  intro e w5 hr
  obtain ⟨rfl, hb5⟩ := hr
  have h15 := Lib.hid (sl_below h14 hb5)
  have h45 := Lib.hid (sl_below h4 hb5)
  have hB5 : Below w.heap.size w w5 := hB4.trans (hb5.mono hz4)
  have hz5 := hB5.size
  clear h14 h24 h4 hb5 hB4 hz4 A T M U TJ UJ
  go_wp2
  go_loopw [58] (fun v wr => ∃ i : Nat, i ≤ ts.length ∧ v = .int .i64 i ∧ Below w5.heap.size w5 wr) (fun v _ => ts.length - (intOf v).toNat)
  case atStart => exact ⟨0, Nat.zero_le _, rfl, Below.refl _ _⟩
  case round =>
    obtain ⟨i, hi, rfl, hbr⟩ := hrel
    rename World => wr
    have hzr := hbr.size
    by_cases hlt : i < ts.length
    · obtain ⟨g1, rfl, hg1, t1⟩ := h15.out (by omega)
      obtain ⟨g4, rfl, hg4, t4⟩ := h45.out (by omega)
      obtain ⟨a0, a1, a2, a3⟩ := toks_below t1 hg1 hbr i hlt
      obtain ⟨b0, b1, b2, b3⟩ := toks_below t4 hg4 hbr i (by omega)
      obtain ⟨e0, e1, e2⟩ := hsame.out i (by omega) hlt
      rw [e0] at b0
      rw [e1] at b1
      rw [e2] at b2
      have hpos : ¬ ((us[i].a : Int) < 0) := by omega
      generalize (us[i].a : Int) = ua at *
      generalize (ts[i].a : Int) = ta at *
      generalize ts[i].k = k at *
      generalize ts[i].n = nn at *
      generalize (⟨ts[i].s.toArray⟩ : ByteArray) = q at *
      have i0 : (0 : Int) ≤ (i : Int) := by omega
      have i1 : (i : Int) < (ts.length : Int) := by omega
      have j1 : InW g1 wr := ⟨Nat.lt_of_lt_of_le hg1 hzr⟩
      have j2 : InW g4 wr := ⟨Nat.lt_of_lt_of_le hg4 hzr⟩
      clear t1 t4 e0 e1 e2 hsame
      go_wp2_with fail
      (refine wp_region_G (by kernel_rfl) (by kernel_rfl) ?_; (repeat (go_big_quiet_step (fail))); refine wpQuiet_nil ?_; intro _ hw'; obtain ⟨pg, hw''⟩ := hw'; subst hw'')
      go_wp2
      go_roundw
      case rel => exact ⟨i + 1, by omega, by go_num, by repeat' (first | (with_reducible exact Below.refl _ _) | (with_reducible assumption) | (with_reducible refine Below.alloc ?_ ?_ _) | (with_reducible refine Below.drew ?_) | (with_reducible refine belowN ?_ _) | (with_reducible refine Below.setCell ?_ ?_ _) | (with_reducible refine belowG ?_ ?_) | (with_reducible exact Nat.le_refl _) | (with_reducible refine le_sizeG ?_) | (with_reducible refine le_sizeA ?_) | (with_reducible refine le_sizeC ?_) | (with_reducible refine le_sizeD ?_) | (with_reducible refine le_sizeN ?_) | go_size | (simp [go_sem]; done))⟩
      case measure => simp [intOf]; omega
    · obtain rfl : i = ts.length := by omega
      go_wp2
      go_returns
      exact ⟨rfl, hB5.trans (hbr.mono hz5)⟩
/-- The walk of TokJoins: the tokens of any line, joined, are the document's line, and have the same tokens again, but for their places. -/
theorem joins_walk (s : ByteArray) (z : s.size ≤ maxLen) (w : World) (hw : Lb w) : Calls Tryd.prog 10 #[.string s] w (Ret (.bool true) w) := by
  by_cases h : 1000 < s.size
  · exact joins_long s z h w hw
  · rcases hl : lexT 120 0 s.data.toList with ⟨x, j⟩ | ts
    · exact joins_err s (by omega) x j (lexT_err hl) hl w hw
    · exact joins_ok s (by omega) ts hl w hw
end Go.Proofs.YtidbmampjjgkpaaDoor
