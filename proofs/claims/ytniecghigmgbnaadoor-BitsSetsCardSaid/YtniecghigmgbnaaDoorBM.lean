/- Sets of numbers: the law on sets with and without numbers. -/
import Derived.Test.YtniecghigmgbnaaDoorBL
namespace Go.Proofs.YtniecghigmgbnaaDoor
open Go.RowKit
/-- Of the first numbers, all of s are in t. -/
def inB (s t : Nat) : Nat → Bool
  | 0 => true
  | i + 1 => inB s t i && (!s.testBit i || t.testBit i)
theorem inB_all (s t : Nat) : ∀ i, inB s t i = true ↔ ∀ k, k < i → s.testBit k = true → t.testBit k = true
  | 0 => by simp [inB]
  | i + 1 => by
    rw [inB, Bool.and_eq_true, inB_all s t i]
    constructor
    · rintro ⟨h1, h2⟩ k hk hs
      rcases Nat.lt_or_ge k i with h | h
      · exact h1 k h hs
      · obtain rfl : k = i := by omega
        rw [hs] at h2
        simpa using h2
    · intro h
      refine ⟨fun k hk => h k (by omega), ?_⟩
      cases h1 : s.testBit i
      · rfl
      · rw [h i (by omega) h1]; rfl
theorem inB_end (s t : Nat) (hs : s < 2 ^ 64) : inB s t 64 = (lessS s t == 0) := by
  rw [Bool.eq_iff_iff, inB_all, beq_iff_eq]
  constructor
  · exact fun h => less_none hs h
  · intro h k _ h1
    have := congrArg (fun x => x.testBit k) h
    simp only [lessS_bit, Nat.zero_testBit, h1, Bool.true_and] at this
    simpa using this
theorem has_bit (s k : Nat) (hk : k < 64) : hasL (intsN (numsS s)) (k : Int) = s.testBit k := has_nums s k hk
/-- What a set has, asked for a number from 0 to 63. -/
theorem hasS_bit (s k : Nat) (hs : s < 2 ^ 64) (hk : k < 64) (w : World) : Calls Tryd.prog 10 #[.int .u64 (s : Int), .int .i64 (k : Int)] w (RetW (.bool (s.testBit k)) w) := by
  have := hasS_any s hs (k : Int) w
  rw [has_nums s k hk] at this
  exact this
set_option maxRecDepth 100000 in
set_option maxHeartbeats 4000000 in
/-- The walk of BitsSets. -/
theorem sets10_walk (n0 n1 : Int) (h0 : U64 n0) (h1 : U64 n1) (ao : Option Addr) (cap : Nat) (l : List Int) (n : Int) (w : World) (hT : Db w) (hr : IntsRd w ao l) (_ : l.length ≤ maxLen) : Calls Tryd.prog 3 #[.int .u64 n0, .int .u64 n1, .slice ao l.length cap, .int .i64 n] w (Ret (.bool true) w) := by
  obtain ⟨s, rfl, hs⟩ := u64_nat h0
  obtain ⟨t, rfl, ht⟩ := u64_nat h1
  have hA := Lib.hid (anchor10_any w hT)
  have hR := Lib.hid (fun wx (hx : Below w.heap.size w wx) => intsRd_keep hr hx)
  clear h0 h1 hT hr
  by_cases hlen : 100 < l.length
  · have hI : (100 : Int) < (l.length : Int) := by omega
    clear hs ht hR
    go_enter Tryd.func3, Tryd.ntmps3
    go_wp2_with (first | ((with_reducible refine (hA.out).mono ?_); intro e w1 hr; obtain ⟨rfl, p, rfl⟩ := hr.out; clear hr))
    go_returns
    exact ⟨rfl, by (first | exact gwT | exact lzT)⟩
  · have hI : ¬ (100 : Int) < (l.length : Int) := by omega
    have hl : l.length ≤ 1000 := by omega
    have la := Lib.hid (fun wx => rlist_any s hs wx)
    have lb := Lib.hid (fun wx => rlist_any t ht wx)
    have f1 := Lib.hid (fun wx hx => of_set ao cap l hl wx (hR.out wx hx))
    have f2 := Lib.hid (fun wx hx => rset_any ao cap l hl wx (hR.out wx hx))
    have f3 := Lib.hid (fun wx => hasS_any s hs n wx)
    have f4 := Lib.hid (fun wx => countS_any s hs wx)
    have hw : ofS s l < 2 ^ 64 := ofS_lt l s hs
    have ho : ofS 0 l < 2 ^ 64 := ofS_lt l 0 (by decide)
    have g1 := Lib.hid (fun wx hx => with_any ao cap l hl s hs wx (hR.out wx hx))
    have g2 := Lib.hid (fun wx hx => without_any ao cap l hl s hs wx (hR.out wx hx))
    have g3 := Lib.hid (fun b wx => union_one s t b hs ht wx)
    have g4 := Lib.hid (fun wx => meet_any s t hs ht wx)
    have g5 := Lib.hid (fun wx => lessS_any s t hs ht wx)
    have k1 := Lib.hid (fun wx => in_any s t hs ht wx)
    have k2 := Lib.hid (fun wx => union_none s hs wx)
    have k3 := Lib.hid (fun b wx => union_two s t s b hs ht hs wx)
    have k4 := Lib.hid (fun b wx => union_one t s b ht hs wx)
    have k5 : s ||| t ||| s = t ||| s := by
      apply Nat.eq_of_testBit_eq
      intro k
      simp only [Nat.testBit_or]
      cases s.testBit k <;> cases t.testBit k <;> rfl
    rw [k5] at k3
    clear k5
    have na := nums_len s
    have nb := nums_len t
    have ha := Lib.hid (fun (k : Nat) (hk : k < 64) => has_nums s k hk)
    have hb := Lib.hid (fun (k : Nat) (hk : k < 64) => has_nums t k hk)
    have hL := Lib.hid (fun (k : Nat) (hk : k < 64) => ofS_bit k hk l)
    have bW := Lib.hid (fun (k : Nat) (hk : k < 64) wx => hasS_bit (ofS s l) k hw hk wx)
    have bO := Lib.hid (fun (k : Nat) (hk : k < 64) wx => hasS_bit (lessS s (ofS 0 l)) k (lessS_lt _ hs) hk wx)
    have bJ := Lib.hid (fun (k : Nat) (hk : k < 64) wx => hasS_bit (s ||| t) k (Nat.or_lt_two_pow hs ht) hk wx)
    have bM := Lib.hid (fun (k : Nat) (hk : k < 64) wx => hasS_bit (s &&& t) k (Nat.lt_of_le_of_lt Nat.and_le_left hs) hk wx)
    have bL := Lib.hid (fun (k : Nat) (hk : k < 64) wx => hasS_bit (lessS s t) k (lessS_lt _ hs) hk wx)
    have hin := Lib.hid (inB_end s t hs)
    have hz := Lib.hid (fun (k : Nat) (hk : k < 64) wx hx => rhas_any ao cap l hl (k : Int) wx (hR.out wx hx))
    clear hs ht hw ho hlen
    go_enter Tryd.func3, Tryd.ntmps3
    go_wp2_with (first | ((with_reducible refine (hA.out).mono ?_); intro e w1 hr; obtain ⟨rfl, p, rfl⟩ := hr.out; clear hr))
    refine (la.out _).mono ?_
    rintro e w1 ⟨ao1, cap1, rfl, ra, b1⟩
    have hb1 : Below w.heap.size w w1 := (belowG0 p w).trans (b1.mono (belowG0 p w).size)
    have hA1 := Lib.hid (fun (wx : World) (hx : Below w1.heap.size w1 wx) (m : Int) => rhas_any ao1 cap1 (intsN (numsS s)) (by simp [intsN]; omega) m wx (intsRd_keep (nums_rd ra) hx))
    rw [show (intsN (numsS s)).length = (numsS s).length by simp [intsN]] at hA1
    clear la hA ra b1
    go_wp2_with fail
    refine (lb.out _).mono ?_
    rintro e w2 ⟨ao2, cap2, rfl, rb, b2⟩
    have hb2 : Below w.heap.size w w2 := hb1.trans (b2.mono hb1.size)
    have hB2 := Lib.hid (fun (wx : World) (hx : Below w2.heap.size w2 wx) (m : Int) => rhas_any ao2 cap2 (intsN (numsS t)) (by simp [intsN]; omega) m wx (intsRd_keep (nums_rd rb) hx))
    rw [show (intsN (numsS t)).length = (numsS t).length by simp [intsN]] at hB2
    have sz1 := hb1.size
    have sz2 := b2.size
    have sz3 := hb2.size
    clear lb rb
    generalize hpa : (numsS s).length = pa at *
    generalize hpb : (numsS t).length = pb at *
    generalize hq : hasL (intsN (numsS s)) n = q at *
    have hA2 := Lib.hid (hA1.out w2 b2 n)
    rw [hq] at hA2
    clear hq hpa hpb na nb
    go_wp2_with (first | ((with_reducible refine (f1.out _ (by (first | exact gwT | exact lzT))).mono ?_); rintro e w1 ⟨rfl, rfl⟩) | ((with_reducible refine (f2.out _ (by (first | exact gwT | exact lzT))).mono ?_); rintro e w1 ⟨rfl, rfl⟩) | ((with_reducible refine (f3.out _).mono ?_); rintro e w1 ⟨rfl, rfl⟩) | ((with_reducible refine (hA2.out).mono ?_); rintro e w1 ⟨rfl, rfl⟩) | ((with_reducible refine (f4.out _).mono ?_); rintro e w1 ⟨rfl, rfl⟩) | ((with_reducible refine (g1.out _ (by (first | exact gwT | exact lzT))).mono ?_); rintro e w1 ⟨rfl, rfl⟩) | ((with_reducible refine (g2.out _ (by (first | exact gwT | exact lzT))).mono ?_); rintro e w1 ⟨rfl, rfl⟩) | ((with_reducible refine (g3.out _ _ (new_at (by simp))).mono ?_); rintro e w1 ⟨rfl, rfl⟩) | ((with_reducible refine (g4.out _).mono ?_); rintro e w1 ⟨rfl, rfl⟩) | ((with_reducible refine (g5.out _).mono ?_); rintro e w1 ⟨rfl, rfl⟩))
    obtain ⟨W0, hW0⟩ : ∃ W0, w2.alloc (.cells #[.int .u64 (t : Int)] 23) = W0 := ⟨_, rfl⟩
    rw [hW0]
    have hb3 : Below w2.heap.size w2 W0 := by rw [← hW0]; (first | exact gwT | exact lzT)
    have hbW : Below w.heap.size w W0 := hb2.trans (hb3.mono hb2.size)
    have hA3 := Lib.hid (fun k => hA1.out W0 (b2.trans (hb3.mono b2.size)) k)
    have hB3 := Lib.hid (fun k => hB2.out W0 hb3 k)
    have hz3 := Lib.hid (fun k hk => hz.out k hk W0 hbW)
    clear f1 f2 f3 f4 g1 g2 g3 g4 g5 hA1 hB2 hA2 hz hW0 hR hb1 b2 sz1 sz2 sz3
    go_loopw [16, 67] (fun v x wr => ∃ i : Nat, v = .bool (inB s t i) ∧ x = .int .i64 (i : Int) ∧ i ≤ 64 ∧ wr = W0) (fun _ x _ => 64 - (intOf x).toNat)
    case atStart => exact ⟨0, rfl, rfl, by omega, rfl⟩
    case round =>
      obtain ⟨i, rfl, rfl, hi, rfl⟩ := hrel
      by_cases hlt : i < 64
      · have hI2 : (i : Int) < 64 := by omega
        have x1 := hA3.out (i : Int)
        have x2 := hB3.out (i : Int)
        have x3 := hz3.out i hlt
        rw [ha.out i hlt] at x1
        rw [hb.out i hlt] at x2
        have y1 := bW.out i hlt wr
        have y2 := bO.out i hlt wr
        have y3 := bJ.out i hlt wr
        have y4 := bM.out i hlt wr
        have y5 := bL.out i hlt wr
        rw [hL.out i hlt] at y1
        rw [lessS_bit, hL.out i hlt, Nat.zero_testBit, Bool.false_or] at y2
        rw [Nat.testBit_or] at y3
        rw [Nat.testBit_and] at y4
        rw [lessS_bit] at y5
        have hnx : inB s t (i + 1) = (inB s t i && (!s.testBit i || t.testBit i)) := rfl
        generalize inB s t i = b0 at *
        generalize s.testBit i = x at *
        generalize t.testBit i = y at *
        generalize hasL l (i : Int) = z at *
        replace x1 := Lib.hid x1
        replace x2 := Lib.hid x2
        replace x3 := Lib.hid x3
        replace y1 := Lib.hid y1
        replace y2 := Lib.hid y2
        replace y3 := Lib.hid y3
        replace y4 := Lib.hid y4
        replace y5 := Lib.hid y5
        replace hnx := Lib.hid hnx
        clear ha hb hL bW bO bJ bM bL hA3 hB3 hz3 hin k1 k2 k3 k4
        cases x <;> cases y <;> cases z <;> cases b0
        all_goals as_aux_lemma =>
          go_wp2_with (first | ((with_reducible refine (x1.out).mono ?_); rintro e w1 ⟨rfl, rfl⟩) | ((with_reducible refine (x2.out).mono ?_); rintro e w1 ⟨rfl, rfl⟩) | ((with_reducible refine (x3.out).mono ?_); rintro e w1 ⟨rfl, rfl⟩) | ((with_reducible refine (y1.out).mono ?_); rintro e w1 ⟨rfl, rfl⟩) | ((with_reducible refine (y2.out).mono ?_); rintro e w1 ⟨rfl, rfl⟩) | ((with_reducible refine (y3.out).mono ?_); rintro e w1 ⟨rfl, rfl⟩) | ((with_reducible refine (y4.out).mono ?_); rintro e w1 ⟨rfl, rfl⟩) | ((with_reducible refine (y5.out).mono ?_); rintro e w1 ⟨rfl, rfl⟩))
          go_roundw
          case rel => exact ⟨i + 1, by rw [hnx.out]; rfl, by go_num, by omega, trivial⟩
          case measure => simp [intOf]; omega
      · have hI2 : ¬ (i : Int) < 64 := by omega
        obtain rfl : i = 64 := by omega
        rw [hin.out]
        have hbz := hbW.size
        clear hin ha hb hL bW bO bJ bM bL hA3 hB3 hz3
        generalize (lessS s t == 0) = q2 at *
        generalize t ||| s = q3 at *
        have q4 : (q2 == q2) = true := by cases q2 <;> rfl
        go_wp2_with (first | ((with_reducible refine (k1.out _).mono ?_); rintro e w1 ⟨rfl, rfl⟩) | ((with_reducible refine (k2.out _).mono ?_); rintro e w1 ⟨rfl, rfl⟩) | ((with_reducible refine (k3.out _ _ (new_at (by simp))).mono ?_); rintro e w1 ⟨rfl, rfl⟩) | ((with_reducible refine (k4.out _ _ (new_at (by simp))).mono ?_); rintro e w1 ⟨rfl, rfl⟩))
        go_returns
        exact ⟨rfl, by (first | exact gwT | exact lzT)⟩
end Go.Proofs.YtniecghigmgbnaaDoor
