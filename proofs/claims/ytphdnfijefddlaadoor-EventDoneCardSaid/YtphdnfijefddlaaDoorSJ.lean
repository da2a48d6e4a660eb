/- strings.Join, at any texts that are not long. -/
import Derived.Test.YtphdnfijefddlaaDoorSG
import Derived.Test.YtphdnfijefddlaaDoorJO
import Derived.Test.YtphdnfijefddlaaDoorTN
import Derived.Test.YtphdnfijefddlaaDoorX1
import Derived.WalkKit
import Derived.ProofKit
import Derived.OpenShut
import Derived.Handy
import Derived.BigQuiet
import Derived.OwnWalk
import Derived.Lib.Hide
import Derived.Lib.Join
import Derived.WalkSmall
import Derived.WalkLawsBesides
namespace Go.Proofs.YtphdnfijefddlaaDoor
open Go.RowKit
/-- A builder without a buffer, never used, is made ready for n bytes. -/
theorem bready_any (B b n : Nat) (w : World) (hB : B ≤ b) (hbk : w.heap[b]? = some (.cells #[.pointer none, .slice none 0 0] 45 (0, 0))) (hBw : B ≤ w.heap.size) (hn : n ≤ 1000000000000) (hn0 : 0 < n) :
    Calls Tryd.prog 21 #[.pointer (some ⟨b, 0, none⟩), .int .i64 n] w fun e w' => e = .returned (.tuple #[]) ∧ BldU B b [] w' ∧ Below B w w' := by
  have c0 : w.cell? ⟨b, 0, none⟩ = some (.pointer none) := by rw [cell_of_row w b _ _ _ _ hbk]; rfl
  have hf : w.frozen? ⟨b, 0, none⟩ = false := frozen_of_row w b 0 _ _ hbk
  have hsh : w.shape? b = some (45, 2) := by
    unfold World.shape?
    rw [hbk]
    rfl
  have C := Lib.hid (check_fresh b w c0 hsh hf)
  have hbk2 : (w.setCell ⟨b, 0, none⟩ (.pointer (some ⟨b, 0, none⟩))).heap[b]? = some (.cells #[.pointer (some ⟨b, 0, none⟩), .slice none 0 0] 45 (0, 0)) := blk_set hbk
  have hse : (w.setCell ⟨b, 0, none⟩ (.pointer (some ⟨b, 0, none⟩))).heap.size = w.heap.size := by simp [World.setCell]
  have hbs : Below B w (w.setCell ⟨b, 0, none⟩ (.pointer (some ⟨b, 0, none⟩))) := (Below.refl B w).setCell (p := ⟨b, 0, none⟩) hB _
  have hlt := lt_of_block hbk
  clear hbk hsh hf c0
  generalize w.setCell ⟨b, 0, none⟩ (.pointer (some ⟨b, 0, none⟩)) = W at *
  have R := Lib.hid (fun wx (hb : Below W.heap.size W wx) => bgrow_any B b n wx hB ((hb.block b (lt_of_block hbk2)).trans hbk2) (Nat.le_trans (by rw [hse]; exact hBw) hb.size) hn)
  have d1 : W.cell? ⟨b, 1, none⟩ = some (.slice none 0 0) := by rw [cell_of_row W b _ _ _ _ hbk2]; rfl
  have i1 : InW b W := ⟨lt_of_block hbk2⟩
  have hnI : (0 : Int) < (n : Int) := by omega
  have hWz : B ≤ W.heap.size := by rw [hse]; exact hBw
  replace hbs := Lib.hid hbs
  clear hbk2 hse
  go_enter Tryd.func21, Tryd.ntmps21
  go_wp2_with ((with_reducible refine (C.out).mono ?_); rintro e w1 ⟨rfl, rfl⟩)
  (refine wp_region_G (by kernel_rfl) (by kernel_rfl) ?_; (repeat (go_big_quiet_step (fail))); refine wpQuiet_nil ?_; intro _ hw'; obtain ⟨pg, hw''⟩ := hw'; subst hw'')
  go_wp2_with fail
  refine (R.out _ (by (first | exact gwT | exact lzT))).mono ?_
  intro e w2 hr
  obtain ⟨rfl, h1, h2⟩ := hr
  have h3 := hbs.out.trans (Below.trans (show Below B W _ by (first | exact gwT | exact lzT)) h2)
  clear R C h2
  go_wp2
  go_end0
  exact ⟨rfl, h1, h3⟩
theorem lens_le (xs : List (List UInt8)) (sep : List UInt8) (k : Nat) : Lib.lens (xs.take k) ≤ (Lib.join xs sep).length := by
  refine Nat.le_trans (Lib.lens_take_le _ _) ?_
  cases xs with
  | nil => exact Nat.zero_le _
  | cons x r => rw [Lib.join_length]; omega
def joinB (xs : List ByteArray) (sep : ByteArray) : List UInt8 := Lib.join (xs.map (·.data.toList)) sep.data.toList
theorem joinB_cons (x : ByteArray) (r : List ByteArray) (sep : ByteArray) : joinB (x :: r) sep = x.data.toList ++ Lib.joinTail sep.data.toList (r.map (·.data.toList)) := by
  unfold joinB
  rw [List.map_cons, Lib.join_cons]
/-- The second and further texts behind the first. -/
def tailB (r : List ByteArray) (sep : ByteArray) (k : Nat) : List UInt8 := Lib.joinTail sep.data.toList ((r.map (·.data.toList)).take k)
theorem tailB_succ (r : List ByteArray) (sep : ByteArray) (k : Nat) (h : k < r.length) : tailB r sep (k + 1) = tailB r sep k ++ sep.data.toList ++ r[k].data.toList :=
  Lib.joinTail_take_succ _ _ k _ (by simp [h])
theorem tailB_le (r : List ByteArray) (sep : ByteArray) (k : Nat) : (tailB r sep k).length ≤ (Lib.joinTail sep.data.toList (r.map (·.data.toList))).length := Lib.joinTail_take_le _ _ _
/-- What the two loops come to. -/
structure JoinBy (xs : List ByteArray) (sep : ByteArray) (r : List ByteArray) (M : Nat) (A : Nat → Nat) (L : Nat → List UInt8) : Prop where
  rl : xs.length = r.length + 1
  m : (sep.size : Int) * ((xs.length : Int) - 1) = (M : Int)
  mle : M ≤ 10000000
  mpos : 0 < M
  dv : ¬ (9223372036854775807 / ((xs.length : Int) - 1) ≤ (sep.size : Int))
  a0 : A 0 = 0
  ale : ∀ k, A k ≤ 900000
  asucc : ∀ k (h : k < xs.length), A (k + 1) = A k + xs[k].size
  l0 : ∀ (h : 0 < xs.length), L 0 = xs[0].data.toList
  lle : ∀ k, (L k).length ≤ 900000
  lsucc : ∀ k (h : k + 1 < xs.length), L (k + 1) = L k ++ sep.data.toList ++ xs[k + 1].data.toList
  whole : L r.length = joinB xs sep
  one : ∀ k (h : k < xs.length), xs[k].size ≤ 900000
theorem join_by (xs : List ByteArray) (sep : ByteArray) (h2 : 2 ≤ xs.length) (hn : xs.length ≤ 10000) (hs : 0 < sep.size) (hs2 : sep.size ≤ 1000) (hj : (joinB xs sep).length ≤ 900000) : ∃ r M A L, JoinBy xs sep r M A L := by
  obtain ⟨x0, r, rfl⟩ : ∃ x0 r, xs = x0 :: r := by
    cases xs with
    | nil => simp at h2
    | cons a t => exact ⟨a, t, rfl⟩
  have hll : ∀ k, Lib.lens (((x0 :: r).map (·.data.toList)).take k) ≤ 900000 := fun k => Nat.le_trans (lens_le _ sep.data.toList k) hj
  have hst : ∀ k (h : k < (x0 :: r).length), Lib.lens (((x0 :: r).map (·.data.toList)).take (k + 1)) = Lib.lens (((x0 :: r).map (·.data.toList)).take k) + (x0 :: r)[k].size := fun k h => by
    rw [Lib.lens_take_succ _ k (x0 :: r)[k].data.toList (by rw [List.getElem?_map, List.getElem?_eq_getElem h]; rfl), Lib.size_eq]
  refine ⟨r, sep.size * ((x0 :: r).length - 1), fun k => Lib.lens (((x0 :: r).map (·.data.toList)).take k), fun k => x0.data.toList ++ tailB r sep k, ⟨rfl, ?_, ?_, Nat.mul_pos hs (by omega), ?_, rfl, hll, hst, fun _ => ?_, fun k => ?_, fun k h => ?_, ?_, fun k h => ?_⟩⟩
  · rw [show (((x0 :: r).length : Int) - 1) = (((x0 :: r).length - 1 : Nat) : Int) by omega]
    exact (Int.natCast_mul _ _).symm
  · exact Nat.le_trans (Nat.mul_le_mul hs2 (show (x0 :: r).length - 1 ≤ 10000 by omega)) (by decide)
  · intro hh
    have e1 : (9223372036854775807 : Int) / 10000 ≤ 9223372036854775807 / (((x0 :: r).length : Int) - 1) := by
      rw [Int.le_ediv_iff_mul_le (by omega)]
      have : (9223372036854775807 : Int) / 10000 * (((x0 :: r).length : Int) - 1) ≤ 9223372036854775807 / 10000 * 10000 := Int.mul_le_mul_of_nonneg_left (by omega) (by decide)
      omega
    omega
  · simp [tailB, Lib.joinTail]
  · have := tailB_le r sep k
    rw [joinB_cons, List.length_append] at hj
    rw [List.length_append]
    omega
  · have hk : k < r.length := by simpa using h
    show x0.data.toList ++ tailB r sep (k + 1) = _
    rw [tailB_succ r sep k hk]
    simp
  · rw [joinB_cons]
    unfold tailB
    rw [List.take_of_length_le (by simp)]
  · have h1 := hst k h
    have h2 := hll (k + 1)
    omega
set_option maxRecDepth 100000 in
set_option maxHeartbeats 4000000 in
/-- Two texts or more. -/
theorem sjoin_many (tg cap : Nat) (xs : List ByteArray) (sep : ByteArray) (h2 : 2 ≤ xs.length) (hn : xs.length ≤ 10000) (hcap : xs.length ≤ cap) (hs : 0 < sep.size) (hs2 : sep.size ≤ 1000) (hj : (joinB xs sep).length ≤ 900000) (w : World) (htg : tg < w.heap.size) (hT : ∀ j (h : j < xs.length), w.cell? ⟨tg, j, none⟩ = some (.string xs[j])) :
    Calls Tryd.prog 13 #[.slice (some ⟨tg, 0, none⟩) xs.length cap, .string sep] w (Ret (.string ⟨(joinB xs sep).toArray⟩) w) := by
  have HC := Lib.hid (fun wx (hb : Below w.heap.size w wx) i (hi : i < xs.length) => ((hb.cell (p := ⟨tg, i, none⟩) htg).trans (hT i hi) : wx.cell? ⟨tg, i, none⟩ = some (.string xs[i])))
  obtain ⟨r, M, A, L, J⟩ := join_by xs sep h2 hn hs hs2 hj
  have hrl := Lib.hid J.rl
  have hprod := J.m
  have hdv := J.dv
  have hM := J.mle
  have hM0 := J.mpos
  replace J := Lib.hid J
  have hne0 : ((xs.length : Int) == 0) = false := beq_eq_false_iff_ne.2 (by omega)
  have hne1 : ((xs.length : Int) == 1) = false := beq_eq_false_iff_ne.2 (by omega)
  have hsI : (0 : Int) < (sep.size : Int) := by omega
  clear hT hj
  obtain ⟨jb, hjb⟩ : ∃ jb, joinB xs sep = jb := ⟨_, rfl⟩
  rw [hjb]
  replace hjb := Lib.hid hjb
  go_enter Tryd.func13, Tryd.ntmps13
  go_wp2_with fail
  go_loop [5, 41] (fun n i => ∃ k : Nat, k ≤ xs.length ∧ i = .int .i64 k ∧ n = .int .i64 ((M + A k : Nat) : Int)) (fun _ i => xs.length - (intOf i).toNat)
  case atStart => exact ⟨0, Nat.zero_le _, rfl, by rw [J.out.a0]; first | rfl | simp⟩
  case round =>
    obtain ⟨k, hk, rfl, rfl⟩ := hrel
    have hA := J.out.ale k
    by_cases hkn : k < xs.length
    · have hc := HC.out w (Below.refl _ _) k hkn
      have h1 := J.out.asucc k hkn
      have h3 := J.out.one k hkn
      have h4 := J.out.ale (k + 1)
      have hI : (k : Int) < (xs.length : Int) := by omega
      generalize xs[k] = x at *
      generalize A k = a at *
      replace h1 := Lib.hid h1
      go_wp2
      go_round
      case rel => exact ⟨k + 1, by omega, by go_num, by rw [h1.out]; refine congrArg _ ?_; omega⟩
      case measure => simp [intOf]; omega
    · obtain rfl : k = xs.length := by omega
      have hI : ¬ ((xs.length : Int) < (xs.length : Int)) := by omega
      generalize A xs.length = T at *
      go_wp2_with fail
      refine (bready_any w.heap.size w.heap.size (M + T) _ (Nat.le_refl _) (heap_alloc_new w _) (by simp) (by omega) (by omega)).mono ?_
      rintro e w1 ⟨rfl, h1, hb1⟩
      replace hb1 : Below w.heap.size w w1 := ((Below.refl w.heap.size w).alloc (Nat.le_refl _) _).trans hb1
      have hbl1 := Lib.hid (bld_of h1)
      have hz1 := hb1.size
      clear h1
      have h0 : 0 < xs.length := by omega
      have c0 := HC.out w1 hb1 0 h0
      have hx0 := J.out.one 0 h0
      have hL0 := J.out.l0 h0
      generalize xs[0] = x0 at *
      go_wp2_with fail
      refine (wstring_any w.heap.size w.heap.size [] x0 w1 hbl1.out (by simp) (by omega) hz1).mono ?_
      intro e w2 hr
      obtain ⟨rfl, hb2l, hb2, _⟩ := hr
      rw [List.nil_append, ← hL0] at hb2l
      replace hb2 : Below w.heap.size w w2 := hb1.trans hb2
      have hbl2 := Lib.hid hb2l
      have hz2 := hb2.size
      clear hb2l hbl1 hb1 hz1 c0 hL0
      have hr1 : (1 : Int) ≤ (xs.length : Int) := by omega
      have hr2 : (xs.length : Int) ≤ (cap : Int) := by omega
      go_wp2_with fail
      go_loopw [65] (fun i wr => ∃ k : Nat, k ≤ r.length ∧ i = .int .i64 k ∧ Bld w.heap.size w.heap.size (L k) wr ∧ Below w.heap.size w wr) (fun i _ => r.length - (intOf i).toNat)
      case atStart => exact ⟨0, Nat.zero_le _, rfl, hbl2.out, hb2⟩
      case round =>
        obtain ⟨k, hk', rfl, hbl, hbr⟩ := hrel
        rename World => wr
        have hzr := hbr.size
        have hl0 := J.out.lle k
        by_cases hkr : k < r.length
        · have hk1 : k + 1 < xs.length := by have := hrl.out; omega
          have hc := HC.out wr hbr (k + 1) hk1
          have hnx := Lib.hid (J.out.lsucc k hk1)
          have hy := J.out.one (k + 1) hk1
          generalize xs[k + 1] = y at *
          rw [Nat.add_comm] at hc
          have hI : (k : Int) < (xs.length : Int) - 1 := by omega
          go_wp2_with fail
          refine (wstring_any w.heap.size w.heap.size (L k) sep wr hbl (by omega) (by omega) hzr).mono ?_
          intro e w3 hr
          obtain ⟨rfl, hb3l, hb3, _⟩ := hr
          replace hb3 : Below w.heap.size w w3 := hbr.trans hb3
          have hz3 := hb3.size
          clear hbl
          go_wp2_with fail
          refine (wstring_any w.heap.size w.heap.size (L k ++ sep.data.toList) y w3 hb3l (by rw [List.length_append, ← Lib.size_eq]; omega) (by omega) hz3).mono ?_
          intro e w4 hr
          obtain ⟨rfl, hb4l, hb4, _⟩ := hr
          rw [← hnx.out] at hb4l
          replace hb4l := Lib.hid hb4l
          replace hb4 : Below w.heap.size w w4 := hb3.trans hb4
          clear hb3l
          go_wp2
          go_roundw
          case rel => exact ⟨k + 1, by omega, by go_num, hb4l.out, hb4⟩
          case measure => simp [intOf]; omega
        · obtain rfl : k = r.length := by omega
          have hw := J.out.whole
          rw [hjb.out] at hw
          rw [hw] at hbl hl0
          have hI : ¬ ((r.length : Int) < (xs.length : Int) - 1) := by have := hrl.out; omega
          go_wp2_with fail
          refine (bstring_any w.heap.size w.heap.size jb wr hbl hzr).mono ?_
          intro e w5 hr
          obtain ⟨rfl, hb5⟩ := hr
          have hb6 := hbr.trans hb5
          go_wp2
          go_returns
          exact ⟨rfl, hb6⟩
set_option maxRecDepth 100000 in
set_option maxHeartbeats 4000000 in
theorem sjoin_any (tg cap : Nat) (xs : List ByteArray) (sep : ByteArray) (hn : xs.length ≤ 10000) (hcap : xs.length ≤ cap) (hs : 0 < sep.size) (hs2 : sep.size ≤ 1000) (hj : (joinB xs sep).length ≤ 900000) (w : World) (htg : tg < w.heap.size) (hT : ∀ j (h : j < xs.length), w.cell? ⟨tg, j, none⟩ = some (.string xs[j])) :
    Calls Tryd.prog 13 #[.slice (some ⟨tg, 0, none⟩) xs.length cap, .string sep] w (Ret (.string ⟨(joinB xs sep).toArray⟩) w) := by
  match xs, hn, hcap, hj, hT with
  | [], _, _, _, _ =>
    show Calls _ _ #[.slice (some ⟨tg, 0, none⟩) 0 cap, _] w (Ret (.string ⟨#[]⟩) w)
    go_enter Tryd.func13, Tryd.ntmps13
    go_wp2
    go_returns
    exact ⟨rfl, by (first | exact gwT | exact lzT)⟩
  | [x], _, _, _, hT =>
    have c0 : w.cell? ⟨tg, 0, none⟩ = some (.string x) := hT 0 (by simp)
    have e : (⟨(joinB [x] sep).toArray⟩ : ByteArray) = x := by
      unfold joinB
      rw [List.map_singleton, Lib.join_one]
    rw [e]
    show Calls _ _ #[.slice (some ⟨tg, 0, none⟩) 1 cap, _] w _
    clear hT e
    go_enter Tryd.func13, Tryd.ntmps13
    go_wp2
    go_returns
    exact ⟨rfl, by (first | exact gwT | exact lzT)⟩
  | x :: y :: r, hn, hcap, hj, hT => exact sjoin_many tg cap (x :: y :: r) sep (by simp) hn hcap hs hs2 hj w htg hT
end Go.Proofs.YtphdnfijefddlaaDoor

