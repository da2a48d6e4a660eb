/- Several texts of this proof, joined: U3, U4, U5. -/
import Derived.Test.YtmalnjmginmjkaaGreatDoorZ8
import Derived.WalkKit
import Derived.ProofKit
import Derived.OpenShut
import Derived.Handy
import Derived.BigQuiet
import Derived.Lib.Hide
import Derived.WalkSmall
import Derived.WalkLawsBesides
import Derived.OwnWalk
import Derived.Deep.AppendLies
namespace Go.Proofs.YtmalnjmginmjkaaGreatDoor
open Go.RowKit
set_option maxRecDepth 100000 in
set_option maxHeartbeats 2000000 in
theorem uquote_any (s : ByteArray) (a : Nat) (ha : a < s.size) (hs : s.size ≤ 140737488351232) (w : World) :
    Calls Tryz.prog 36 #[.string s, .int .i64 a] w (Ret (urV a (quoT (s.data.toList.drop (a + 1)))) w) := by
  obtain ⟨m, hm⟩ : ∃ m, spanL textL (s.data.toList.drop (a + 1)) = m := ⟨_, rfl⟩
  have hlen : (s.data.toList.drop (a + 1)).length = s.size - (a + 1) := by simp
  have hle : a + 1 + m ≤ s.size := by
    have := spanL_le textL (s.data.toList.drop (a + 1))
    rw [hm, hlen] at this
    omega
  obtain ⟨z, hz⟩ : ∃ z, a + 1 + m = z := ⟨_, rfl⟩
  obtain ⟨t, ht⟩ : ∃ t, s.extract (a + 1) z = t := ⟨_, rfl⟩
  have htl : (s.data.toList.drop (a + 1)).take m = t.data.toList := by rw [← take_data, hz, ht]
  have hl : t.size = m := by rw [← ht, ByteArray.size_extract]; omega
  have hsl : ∀ wx, (Instr.slice 9 (.string s) (some (.int .i64 ((a : Int) + 1))) (some (.int .i64 (z : Int))) none).run Tryz.prog wx = .ok (.string t) wx := by
    intro wx
    have := slice_s s (a + 1) z (by omega) (by omega) t ht wx
    rw [show (((a + 1 : Nat) : Int)) = (a : Int) + 1 by omega] at this
    exact this
  have S := fun k hk hp => Lib.hid (span_step textL s (a + 1) k hk hp)
  replace S := Lib.hid S
  have T := fun k' hk' hp => Lib.hid (fun h => (show (a + 1) + spanL textL (s.data.toList.drop (a + 1)) = z by rw [hm, hz]).symm.trans (span_stop textL s (a + 1) k' hk' hp h))
  replace T := Lib.hid T
  have U := fun k' hk' => Lib.hid (fun h => (show (a + 1) + spanL textL (s.data.toList.drop (a + 1)) = z by rw [hm, hz]).symm.trans (span_end textL s (a + 1) k' hk' h))
  replace U := Lib.hid U
  have hq : quoT (s.data.toList.drop (a + 1)) = if z = s.size then .error 14 else if 48 < m then .error 15 else if plainB t.data.toList then .ok (4, t.data.toList, 0, m + 2) else .error 11 := by
    unfold quoT
    simp only [hm, hlen, htl]
    by_cases h : z = s.size
    · rw [if_pos h, if_pos (by omega)]
    · rw [if_neg h, if_neg (by omega)]
  by_cases h1 : z = s.size
  · have hres := Lib.hid (show urV a (quoT (s.data.toList.drop (a + 1))) = _ from by rw [hq, if_pos h1, urV_err])
    clear hm hlen htl hl hq ht hz hsl hle
    go_enter Tryz.func36, Tryz.ntmps36
    go_wp2
    go_loop [7] (fun v => ∃ e : Nat, a + 1 ≤ e ∧ e ≤ s.size ∧ v = .int .i64 e ∧ SpanTo textL s (a + 1) e) (fun v => s.size - (intOf v).toNat)
    case atStart => exact ⟨a + 1, Nat.le_refl _, by omega, by go_num, rfl⟩
    case round =>
      obtain ⟨e, hae, he, rfl, hr⟩ := hrel
      by_cases hlt : e < s.size
      · have hdg : textL (s.data.toList.drop e) = !((s[e].toNat : Int) == 39) := by rw [dropK s e hlt]; rfl
        rcases h1 : ((s[e].toNat : Int) == 39)
        · have hnext := Lib.hid ((S.out e hlt (by rw [hdg, h1]; rfl)).out hr)
          clear hdg hres
          go_wp2
          go_round
          case rel => exact ⟨e + 1, by omega, by omega, by go_num, hnext.out⟩
          case measure => simp [intOf]; omega
        · obtain rfl : z = e := (T.out e hlt (by rw [hdg, h1]; rfl)).out hr
          clear hdg hr
          first
          | (exfalso; omega)
          | (go_wp2
             go_returns
             exact ⟨by rw [hres.out]; try rfl, by repeat' (first | (with_reducible exact Below.refl _ _) | (with_reducible assumption) | (with_reducible refine Below.alloc ?_ ?_ _) | (with_reducible refine Below.drew ?_) | (with_reducible refine belowN ?_ _) | (with_reducible refine Below.setCell ?_ ?_ _) | (with_reducible refine belowG ?_ ?_) | (with_reducible exact Nat.le_refl _) | (with_reducible refine le_sizeG ?_) | (with_reducible refine le_sizeA ?_) | (with_reducible refine le_sizeC ?_) | (with_reducible refine le_sizeD ?_) | (with_reducible refine le_sizeN ?_) | go_size | (simp [go_sem]; done))⟩)
      · obtain rfl : z = e := (U.out e hlt).out hr
        clear hr
        first
        | (exfalso; omega)
        | (go_wp2
           go_returns
           exact ⟨by rw [hres.out]; try rfl, by repeat' (first | (with_reducible exact Below.refl _ _) | (with_reducible assumption) | (with_reducible refine Below.alloc ?_ ?_ _) | (with_reducible refine Below.drew ?_) | (with_reducible refine belowN ?_ _) | (with_reducible refine Below.setCell ?_ ?_ _) | (with_reducible refine belowG ?_ ?_) | (with_reducible exact Nat.le_refl _) | (with_reducible refine le_sizeG ?_) | (with_reducible refine le_sizeA ?_) | (with_reducible refine le_sizeC ?_) | (with_reducible refine le_sizeD ?_) | (with_reducible refine le_sizeN ?_) | go_size | (simp [go_sem]; done))⟩)
  · have hzl : z < s.size := by omega
    rw [if_neg h1] at hq
    clear h1
    by_cases h2 : 48 < m
    · have hres := Lib.hid (show urV a (quoT (s.data.toList.drop (a + 1))) = _ from by rw [hq, if_pos h2, urV_err])
      have h3 : (48 : Int) < (z : Int) - a - 1 := by omega
      clear hm hlen htl hl hq ht hz hsl hle h2
      go_enter Tryz.func36, Tryz.ntmps36
      go_wp2
      go_loop [7] (fun v => ∃ e : Nat, a + 1 ≤ e ∧ e ≤ s.size ∧ v = .int .i64 e ∧ SpanTo textL s (a + 1) e) (fun v => s.size - (intOf v).toNat)
      case atStart => exact ⟨a + 1, Nat.le_refl _, by omega, by go_num, rfl⟩
      case round =>
        obtain ⟨e, hae, he, rfl, hr⟩ := hrel
        by_cases hlt : e < s.size
        · have hdg : textL (s.data.toList.drop e) = !((s[e].toNat : Int) == 39) := by rw [dropK s e hlt]; rfl
          rcases h1 : ((s[e].toNat : Int) == 39)
          · have hnext := Lib.hid ((S.out e hlt (by rw [hdg, h1]; rfl)).out hr)
            clear hdg hres
            go_wp2
            go_round
            case rel => exact ⟨e + 1, by omega, by omega, by go_num, hnext.out⟩
            case measure => simp [intOf]; omega
          · obtain rfl : z = e := (T.out e hlt (by rw [hdg, h1]; rfl)).out hr
            clear hdg hr
            first
            | (exfalso; omega)
            | (go_wp2
               go_returns
               exact ⟨by rw [hres.out]; try rfl, by repeat' (first | (with_reducible exact Below.refl _ _) | (with_reducible assumption) | (with_reducible refine Below.alloc ?_ ?_ _) | (with_reducible refine Below.drew ?_) | (with_reducible refine belowN ?_ _) | (with_reducible refine Below.setCell ?_ ?_ _) | (with_reducible refine belowG ?_ ?_) | (with_reducible exact Nat.le_refl _) | (with_reducible refine le_sizeG ?_) | (with_reducible refine le_sizeA ?_) | (with_reducible refine le_sizeC ?_) | (with_reducible refine le_sizeD ?_) | (with_reducible refine le_sizeN ?_) | go_size | (simp [go_sem]; done))⟩)
        · obtain rfl : z = e := (U.out e hlt).out hr
          clear hr
          first
          | (exfalso; omega)
          | (go_wp2
             go_returns
             exact ⟨by rw [hres.out]; try rfl, by repeat' (first | (with_reducible exact Below.refl _ _) | (with_reducible assumption) | (with_reducible refine Below.alloc ?_ ?_ _) | (with_reducible refine Below.drew ?_) | (with_reducible refine belowN ?_ _) | (with_reducible refine Below.setCell ?_ ?_ _) | (with_reducible refine belowG ?_ ?_) | (with_reducible exact Nat.le_refl _) | (with_reducible refine le_sizeG ?_) | (with_reducible refine le_sizeA ?_) | (with_reducible refine le_sizeC ?_) | (with_reducible refine le_sizeD ?_) | (with_reducible refine le_sizeN ?_) | go_size | (simp [go_sem]; done))⟩)
    · rw [if_neg h2] at hq
      have h3 : ¬ (48 : Int) < (z : Int) - a - 1 := by omega
      have P := fun wx => Lib.hid (rplain_any t wx (by unfold maxLen; omega))
      replace P := Lib.hid P
      rcases hp : plainB t.data.toList
      · rw [hp] at P hq
        have hres := Lib.hid (show urV a (quoT (s.data.toList.drop (a + 1))) = _ from by rw [hq, if_neg (by decide), urV_err])
        clear hm hlen htl hl hq ht hz hle h2 hp
        go_enter Tryz.func36, Tryz.ntmps36
        go_wp2
        go_loop [7] (fun v => ∃ e : Nat, a + 1 ≤ e ∧ e ≤ s.size ∧ v = .int .i64 e ∧ SpanTo textL s (a + 1) e) (fun v => s.size - (intOf v).toNat)
        case atStart => exact ⟨a + 1, Nat.le_refl _, by omega, by go_num, rfl⟩
        case round =>
          obtain ⟨e, hae, he, rfl, hr⟩ := hrel
          by_cases hlt : e < s.size
          · have hdg : textL (s.data.toList.drop e) = !((s[e].toNat : Int) == 39) := by rw [dropK s e hlt]; rfl
            rcases h1 : ((s[e].toNat : Int) == 39)
            · have hnext := Lib.hid ((S.out e hlt (by rw [hdg, h1]; rfl)).out hr)
              clear hdg hres
              go_wp2
              go_round
              case rel => exact ⟨e + 1, by omega, by omega, by go_num, hnext.out⟩
              case measure => simp [intOf]; omega
            · obtain rfl : z = e := (T.out e hlt (by rw [hdg, h1]; rfl)).out hr
              clear hdg hr
              first
              | (exfalso; omega)
              | (go_wp2_with (first | ((with_reducible refine ((P.out _).out).mono ?_); rintro e w1 ⟨rfl, rfl⟩))
                 go_returns
                 exact ⟨by rw [hres.out]; try rfl, by repeat' (first | (with_reducible exact Below.refl _ _) | (with_reducible assumption) | (with_reducible refine Below.alloc ?_ ?_ _) | (with_reducible refine Below.drew ?_) | (with_reducible refine belowN ?_ _) | (with_reducible refine Below.setCell ?_ ?_ _) | (with_reducible refine belowG ?_ ?_) | (with_reducible exact Nat.le_refl _) | (with_reducible refine le_sizeG ?_) | (with_reducible refine le_sizeA ?_) | (with_reducible refine le_sizeC ?_) | (with_reducible refine le_sizeD ?_) | (with_reducible refine le_sizeN ?_) | go_size | (simp [go_sem]; done))⟩)
          · obtain rfl : z = e := (U.out e hlt).out hr
            clear hr
            first
            | (exfalso; omega)
            | (go_wp2_with (first | ((with_reducible refine ((P.out _).out).mono ?_); rintro e w1 ⟨rfl, rfl⟩))
               go_returns
               exact ⟨by rw [hres.out]; try rfl, by repeat' (first | (with_reducible exact Below.refl _ _) | (with_reducible assumption) | (with_reducible refine Below.alloc ?_ ?_ _) | (with_reducible refine Below.drew ?_) | (with_reducible refine belowN ?_ _) | (with_reducible refine Below.setCell ?_ ?_ _) | (with_reducible refine belowG ?_ ?_) | (with_reducible exact Nat.le_refl _) | (with_reducible refine le_sizeG ?_) | (with_reducible refine le_sizeA ?_) | (with_reducible refine le_sizeC ?_) | (with_reducible refine le_sizeD ?_) | (with_reducible refine le_sizeN ?_) | go_size | (simp [go_sem]; done))⟩)
      · rw [hp] at P hq
        have hres := Lib.hid (show urV a (quoT (s.data.toList.drop (a + 1))) = .tuple #[.agg #[.int .i64 4, .string t, .int .i64 0, .int .i64 (a : Int)], .int .i64 ((z : Int) + 1), .int .i64 0] from by
          rw [hq, if_pos rfl, urV_ok, show ((a + (m + 2) : Nat) : Int) = (z : Int) + 1 by omega])
        clear hm hlen htl hl hq ht hz hle h2 hp
        go_enter Tryz.func36, Tryz.ntmps36
        go_wp2
        go_loop [7] (fun v => ∃ e : Nat, a + 1 ≤ e ∧ e ≤ s.size ∧ v = .int .i64 e ∧ SpanTo textL s (a + 1) e) (fun v => s.size - (intOf v).toNat)
        case atStart => exact ⟨a + 1, Nat.le_refl _, by omega, by go_num, rfl⟩
        case round =>
          obtain ⟨e, hae, he, rfl, hr⟩ := hrel
          by_cases hlt : e < s.size
          · have hdg : textL (s.data.toList.drop e) = !((s[e].toNat : Int) == 39) := by rw [dropK s e hlt]; rfl
            rcases h1 : ((s[e].toNat : Int) == 39)
            · have hnext := Lib.hid ((S.out e hlt (by rw [hdg, h1]; rfl)).out hr)
              clear hdg hres
              go_wp2
              go_round
              case rel => exact ⟨e + 1, by omega, by omega, by go_num, hnext.out⟩
              case measure => simp [intOf]; omega
            · obtain rfl : z = e := (T.out e hlt (by rw [hdg, h1]; rfl)).out hr
              clear hdg hr
              first
              | (exfalso; omega)
              | (go_wp2_with (first | ((with_reducible refine ((P.out _).out).mono ?_); rintro e w1 ⟨rfl, rfl⟩))
                 go_returns
                 exact ⟨by rw [hres.out]; try rfl, by repeat' (first | (with_reducible exact Below.refl _ _) | (with_reducible assumption) | (with_reducible refine Below.alloc ?_ ?_ _) | (with_reducible refine Below.drew ?_) | (with_reducible refine belowN ?_ _) | (with_reducible refine Below.setCell ?_ ?_ _) | (with_reducible refine belowG ?_ ?_) | (with_reducible exact Nat.le_refl _) | (with_reducible refine le_sizeG ?_) | (with_reducible refine le_sizeA ?_) | (with_reducible refine le_sizeC ?_) | (with_reducible refine le_sizeD ?_) | (with_reducible refine le_sizeN ?_) | go_size | (simp [go_sem]; done))⟩)
          · obtain rfl : z = e := (U.out e hlt).out hr
            clear hr
            first
            | (exfalso; omega)
            | (go_wp2_with (first | ((with_reducible refine ((P.out _).out).mono ?_); rintro e w1 ⟨rfl, rfl⟩))
               go_returns
               exact ⟨by rw [hres.out]; try rfl, by repeat' (first | (with_reducible exact Below.refl _ _) | (with_reducible assumption) | (with_reducible refine Below.alloc ?_ ?_ _) | (with_reducible refine Below.drew ?_) | (with_reducible refine belowN ?_ _) | (with_reducible refine Below.setCell ?_ ?_ _) | (with_reducible refine belowG ?_ ?_) | (with_reducible exact Nat.le_refl _) | (with_reducible refine le_sizeG ?_) | (with_reducible refine le_sizeA ?_) | (with_reducible refine le_sizeC ?_) | (with_reducible refine le_sizeD ?_) | (with_reducible refine le_sizeN ?_) | go_size | (simp [go_sem]; done))⟩)
end Go.Proofs.YtmalnjmginmjkaaGreatDoor
namespace Go.Proofs.YtmalnjmginmjkaaGreatDoor
open Go.RowKit
theorem ones_size : (⟨#[40, 41, 59, 58, 43, 45, 42, 47, 37, 60, 62, 61]⟩ : ByteArray).size = 12 := rfl
theorem ones_at (i : Nat) (h : i < (⟨#[40, 41, 59, 58, 43, 45, 42, 47, 37, 60, 62, 61]⟩ : ByteArray).size) : (⟨#[40, 41, 59, 58, 43, 45, 42, 47, 37, 60, 62, 61]⟩ : ByteArray)[i] ∈ ones := by
  show (#[40, 41, 59, 58, 43, 45, 42, 47, 37, 60, 62, 61] : Array UInt8)[i] ∈ ones
  have := Array.getElem_mem (xs := (#[40, 41, 59, 58, 43, 45, 42, 47, 37, 60, 62, 61] : Array UInt8)) h
  rw [Array.mem_def] at this
  exact this
theorem ones_all (c : UInt8) (h : ∀ j (hj : j < (⟨#[40, 41, 59, 58, 43, 45, 42, 47, 37, 60, 62, 61]⟩ : ByteArray).size), (⟨#[40, 41, 59, 58, 43, 45, 42, 47, 37, 60, 62, 61]⟩ : ByteArray)[j] ≠ c) : ones.contains c = false := by
  rw [← Bool.not_eq_true, List.contains_iff_mem]
  intro hm
  obtain ⟨j, hj, he⟩ := List.getElem_of_mem hm
  exact h j hj he
set_option maxRecDepth 100000 in
set_option maxHeartbeats 2000000 in
theorem usign_two (s : ByteArray) (a : Nat) (ha : a + 1 < s.size) (hs : s.size ≤ 140737488351232) (he : ((s[a + 1].toNat : Int) == 61) = true) (ht : twoB s[a] = true) (w : World) :
    Calls Tryz.prog 37 #[.string s, .int .i64 a] w (Ret (urV a (sgnT s[a] (s.data.toList.drop (a + 1)))) w) := by
  obtain ⟨t, htt⟩ : ∃ t, s.extract a (a + 2) = t := ⟨_, rfl⟩
  have hsl : ∀ wx, (Instr.slice 9 (.string s) (some (.int .i64 (a : Int))) (some (.int .i64 ((a : Int) + 2))) none).run Tryz.prog wx = .ok (.string t) wx := by
    intro wx
    have := slice_s s a (a + 2) (by omega) (by omega) t htt wx
    rw [show (((a + 2 : Nat) : Int)) = (a : Int) + 2 by omega] at this
    exact this
  have h61 : s[a + 1] = 61 := UInt8.toNat_inj.1 (by rw [beq_iff_eq] at he; have : (61 : UInt8).toNat = 61 := rfl
                                                    omega)
  have htx : t = ⟨#[s[a], 61]⟩ := by
    apply ByteArray.ext
    apply Array.ext'
    have := take_data s a 2
    rw [htt, dropK s a (by omega), dropK s (a + 1) ha, h61] at this
    exact this
  have hres := Lib.hid (show urV a (sgnT s[a] (s.data.toList.drop (a + 1))) = .tuple #[.agg #[.int .i64 5, .string t, .int .i64 0, .int .i64 (a : Int)], .int .i64 ((a : Int) + 2), .int .i64 0] from by
    have e : eqL (s.data.toList.drop (a + 1)) = true := by rw [dropK s (a + 1) ha]; exact he
    unfold sgnT
    rw [ht, e, if_pos (by decide), urV_ok, htx]
    rfl)
  clear htt h61 htx
  have hw : ((s[a].toNat : Int) == 60) = true ∨ ((s[a].toNat : Int) == 60) = false ∧ ((s[a].toNat : Int) == 62) = true ∨ ((s[a].toNat : Int) == 60) = false ∧ ((s[a].toNat : Int) == 62) = false ∧ ((s[a].toNat : Int) == 33) = true := by
    unfold twoB at ht
    rcases h1 : ((s[a].toNat : Int) == 60) <;> rcases h2 : ((s[a].toNat : Int) == 62) <;> rcases h3 : ((s[a].toNat : Int) == 33) <;> simp_all
  clear ht
  have ha' : a < s.size := by omega
  rcases hw with h1 | ⟨h1, h2⟩ | ⟨h1, h2, h3⟩
  all_goals
    go_enter Tryz.func37, Tryz.ntmps37
    go_wp2
    go_returns
    exact ⟨by rw [hres.out]; try rfl, by repeat' (first | (with_reducible exact Below.refl _ _) | (with_reducible assumption) | (with_reducible refine Below.alloc ?_ ?_ _) | (with_reducible refine Below.drew ?_) | (with_reducible refine belowN ?_ _) | (with_reducible refine Below.setCell ?_ ?_ _) | (with_reducible refine belowG ?_ ?_) | (with_reducible exact Nat.le_refl _) | (with_reducible refine le_sizeG ?_) | (with_reducible refine le_sizeA ?_) | (with_reducible refine le_sizeC ?_) | (with_reducible refine le_sizeD ?_) | (with_reducible refine le_sizeN ?_) | go_size | (simp [go_sem]; done))⟩
set_option maxRecDepth 100000 in
set_option maxHeartbeats 4000000 in
theorem usign_one (s : ByteArray) (a : Nat) (ha : a < s.size) (hs : s.size ≤ 140737488351232) (hn : (twoB s[a] && eqL (s.data.toList.drop (a + 1))) = false) (w : World) :
    Calls Tryz.prog 37 #[.string s, .int .i64 a] w (Ret (urV a (sgnT s[a] (s.data.toList.drop (a + 1)))) w) := by
  obtain ⟨t, htt⟩ : ∃ t, s.extract a (a + 1) = t := ⟨_, rfl⟩
  have hsl : ∀ wx, (Instr.slice 9 (.string s) (some (.int .i64 (a : Int))) (some (.int .i64 ((a : Int) + 1))) none).run Tryz.prog wx = .ok (.string t) wx := by
    intro wx
    have := slice_s s a (a + 1) (by omega) (by omega) t htt wx
    rw [show (((a + 1 : Nat) : Int)) = (a : Int) + 1 by omega] at this
    exact this
  have htx : t = ⟨#[s[a]]⟩ := by
    apply ByteArray.ext
    apply Array.ext'
    have := take_data s a 1
    rw [htt, dropK s a (by omega)] at this
    exact this
  have hyes := Lib.hid (show ones.contains s[a] = true → urV a (sgnT s[a] (s.data.toList.drop (a + 1))) = .tuple #[.agg #[.int .i64 5, .string t, .int .i64 0, .int .i64 (a : Int)], .int .i64 ((a : Int) + 1), .int .i64 0] from fun h => by
    unfold sgnT
    rw [hn, if_neg (by decide), if_pos h, urV_ok, htx]
    rfl)
  have hno := Lib.hid (show ones.contains s[a] = false → urV a (sgnT s[a] (s.data.toList.drop (a + 1))) = _ from fun h => by
    unfold sgnT
    rw [hn, h, if_neg (by decide), if_neg (by decide), urV_err])
  clear htt htx
  have hw : ¬ a + 1 < s.size ∨ (∃ h : a + 1 < s.size, ((s[a + 1].toNat : Int) == 61) = false) ∨ ∃ h : a + 1 < s.size, ((s[a + 1].toNat : Int) == 61) = true ∧ ((s[a].toNat : Int) == 60) = false ∧ ((s[a].toNat : Int) == 62) = false ∧ ((s[a].toNat : Int) == 33) = false := by
    by_cases h1 : a + 1 < s.size
    · right
      have e : eqL (s.data.toList.drop (a + 1)) = ((s[a + 1].toNat : Int) == 61) := by rw [dropK s (a + 1) h1]; rfl
      rcases h2 : ((s[a + 1].toNat : Int) == 61)
      · exact .inl ⟨h1, h2⟩
      · refine .inr ⟨h1, h2, ?_⟩
        rw [e, h2, Bool.and_true] at hn
        unfold twoB at hn
        rw [Bool.or_eq_false_iff, Bool.or_eq_false_iff] at hn
        exact ⟨hn.1.1, hn.1.2, hn.2⟩
    · exact .inl h1
  clear hn
  have hos := ones_size
  have hfirst := Lib.hid (fun (i : Nat) (h : i < (⟨#[40, 41, 59, 58, 43, 45, 42, 47, 37, 60, 62, 61]⟩ : ByteArray).size) (he : (((⟨#[40, 41, 59, 58, 43, 45, 42, 47, 37, 60, 62, 61]⟩ : ByteArray)[i].toNat : Int) == (s[a].toNat : Int)) = true) => hyes.out (by
    rw [List.contains_iff_mem]
    have := ones_at i h
    rw [beq_iff_eq] at he
    rw [UInt8.toNat_inj.1 (by omega : (⟨#[40, 41, 59, 58, 43, 45, 42, 47, 37, 60, 62, 61]⟩ : ByteArray)[i].toNat = s[a].toNat)] at this
    exact this))
  have hlast := Lib.hid (fun (h : ∀ j (hj : j < (⟨#[40, 41, 59, 58, 43, 45, 42, 47, 37, 60, 62, 61]⟩ : ByteArray).size), (((⟨#[40, 41, 59, 58, 43, 45, 42, 47, 37, 60, 62, 61]⟩ : ByteArray)[j].toNat : Int) == (s[a].toNat : Int)) = false) => hno.out (ones_all s[a] (fun j hj he => by
    have := h j hj
    rw [he, beq_eq_false_iff_ne] at this
    exact this rfl)))
  clear hyes hno
  rcases hw with h1 | ⟨h1, h2⟩ | ⟨h1, h2, h3, h4, h5⟩
  all_goals
    go_enter Tryz.func37, Tryz.ntmps37
    go_wp2
    go_loop [9] (fun v => ∃ i : Nat, i ≤ 12 ∧ v = .int .i64 i ∧ ∀ j (hj : j < (⟨#[40, 41, 59, 58, 43, 45, 42, 47, 37, 60, 62, 61]⟩ : ByteArray).size), j < i → (((⟨#[40, 41, 59, 58, 43, 45, 42, 47, 37, 60, 62, 61]⟩ : ByteArray)[j].toNat : Int) == (s[a].toNat : Int)) = false) (fun v => 12 - (intOf v).toNat)
    case atStart => exact ⟨0, Nat.zero_le _, rfl, fun j _ h => absurd h (Nat.not_lt_zero _)⟩
    case round =>
      obtain ⟨i, hi, rfl, hall⟩ := hrel
      by_cases hlt : i < 12
      · have hlt' : i < (⟨#[40, 41, 59, 58, 43, 45, 42, 47, 37, 60, 62, 61]⟩ : ByteArray).size := hlt
        rcases hc : (((⟨#[40, 41, 59, 58, 43, 45, 42, 47, 37, 60, 62, 61]⟩ : ByteArray)[i].toNat : Int) == (s[a].toNat : Int))
        · have hnext := Lib.hid (show ∀ j (hj : j < (⟨#[40, 41, 59, 58, 43, 45, 42, 47, 37, 60, 62, 61]⟩ : ByteArray).size), j < i + 1 → (((⟨#[40, 41, 59, 58, 43, 45, 42, 47, 37, 60, 62, 61]⟩ : ByteArray)[j].toNat : Int) == (s[a].toNat : Int)) = false from fun j hj hji => by
            rcases Nat.lt_or_eq_of_le (Nat.le_of_lt_succ hji) with h | rfl
            · exact hall j hj h
            · exact hc)
          clear hall
          go_wp2
          go_round
          case rel => exact ⟨i + 1, by omega, by go_num, hnext.out⟩
          case measure => simp [intOf]; omega
        · have hres := Lib.hid (hfirst.out i hlt' hc)
          clear hall
          go_wp2
          go_returns
          exact ⟨by rw [hres.out]; try rfl, by repeat' (first | (with_reducible exact Below.refl _ _) | (with_reducible assumption) | (with_reducible refine Below.alloc ?_ ?_ _) | (with_reducible refine Below.drew ?_) | (with_reducible refine belowN ?_ _) | (with_reducible refine Below.setCell ?_ ?_ _) | (with_reducible refine belowG ?_ ?_) | (with_reducible exact Nat.le_refl _) | (with_reducible refine le_sizeG ?_) | (with_reducible refine le_sizeA ?_) | (with_reducible refine le_sizeC ?_) | (with_reducible refine le_sizeD ?_) | (with_reducible refine le_sizeN ?_) | go_size | (simp [go_sem]; done))⟩
      · obtain rfl : i = 12 := by omega
        have hres := Lib.hid (hlast.out (fun j hj => hall j hj hj))
        clear hall
        go_wp2
        go_returns
        exact ⟨by rw [hres.out]; try rfl, by repeat' (first | (with_reducible exact Below.refl _ _) | (with_reducible assumption) | (with_reducible refine Below.alloc ?_ ?_ _) | (with_reducible refine Below.drew ?_) | (with_reducible refine belowN ?_ _) | (with_reducible refine Below.setCell ?_ ?_ _) | (with_reducible refine belowG ?_ ?_) | (with_reducible exact Nat.le_refl _) | (with_reducible refine le_sizeG ?_) | (with_reducible refine le_sizeA ?_) | (with_reducible refine le_sizeC ?_) | (with_reducible refine le_sizeD ?_) | (with_reducible refine le_sizeN ?_) | go_size | (simp [go_sem]; done))⟩
end Go.Proofs.YtmalnjmginmjkaaGreatDoor
namespace Go.Proofs.YtmalnjmginmjkaaGreatDoor
open Go.RowKit
theorem usign_any (s : ByteArray) (a : Nat) (ha : a < s.size) (hs : s.size ≤ 140737488351232) (w : World) :
    Calls Tryz.prog 37 #[.string s, .int .i64 a] w (Ret (urV a (sgnT s[a] (s.data.toList.drop (a + 1)))) w) := by
  rcases h : (twoB s[a] && eqL (s.data.toList.drop (a + 1)))
  · exact usign_one s a ha hs h w
  · rw [Bool.and_eq_true] at h
    have h1 : a + 1 < s.size := by
      rcases Nat.lt_or_ge (a + 1) s.size with h1 | h1
      · exact h1
      · have := h.2
        rw [List.drop_of_length_le (by simp; omega)] at this
        cases this
    have h2 := h.2
    rw [dropK s (a + 1) h1] at h2
    exact usign_two s a h1 hs h2 h.1 w
theorem urV_form (a : Nat) (x : Tok) : ∃ (k : Int) (t : ByteArray) (n p e y : Int), urV a x = .tuple #[.agg #[.int .i64 k, .string t, .int .i64 n, .int .i64 p], .int .i64 e, .int .i64 y] := by
  cases x with
  | error x => exact ⟨_, _, _, _, _, _, rfl⟩
  | ok x => exact ⟨_, _, _, _, _, _, rfl⟩
set_option maxHeartbeats 1000000 in
theorem utoken_any (s : ByteArray) (a : Nat) (ha : a < s.size) (hs : s.size ≤ 140737488351232) (w : World) :
    Calls Tryz.prog 17 #[.string s, .int .i64 a] w (Ret (urV a (tokT (s.data.toList.drop a))) w) := by
  have L := fun wx => Lib.hid (uletter_any s[a] wx)
  replace L := Lib.hid L
  rcases h1 : letB s[a]
  · rw [h1] at L
    rcases h2 : digB s[a]
    · have hg : 48 ≤ (s[a].toNat : Int) → ¬ (s[a].toNat : Int) ≤ 57 := fun h => by
        unfold digB at h2
        rw [decide_eq_true h, Bool.true_and] at h2
        exact of_decide_eq_false h2
      rcases h3 : ((s[a].toNat : Int) == 39)
      · have e : tokT (s.data.toList.drop a) = sgnT s[a] (s.data.toList.drop (a + 1)) := by rw [dropK s a ha, tokT, h1, h2, h3]; rfl
        have T := fun wx => Lib.hid (usign_any s a ha hs wx)
        replace T := Lib.hid T
        rw [e]
        obtain ⟨k, t, n, p, z, y, hr⟩ := urV_form a (sgnT s[a] (s.data.toList.drop (a + 1)))
        rw [hr] at T ⊢
        clear hr e h1 h2
        by_cases h4 : 48 ≤ (s[a].toNat : Int)
        · have h5 := hg h4
          clear hg
          go_enter Tryz.func17, Tryz.ntmps17
          go_wp2_with (first | ((with_reducible refine ((L.out _).out).mono ?_); rintro e w1 ⟨rfl, rfl⟩) | ((with_reducible refine ((T.out _).out).mono ?_); intro e w1 hr; obtain ⟨rfl, p, rfl⟩ := hr.out; clear hr))
          go_returns
          exact ⟨rfl, by repeat' (first | (with_reducible exact Below.refl _ _) | (with_reducible assumption) | (with_reducible refine Below.alloc ?_ ?_ _) | (with_reducible refine Below.drew ?_) | (with_reducible refine belowN ?_ _) | (with_reducible refine Below.setCell ?_ ?_ _) | (with_reducible refine belowG ?_ ?_) | (with_reducible exact Nat.le_refl _) | (with_reducible refine le_sizeG ?_) | (with_reducible refine le_sizeA ?_) | (with_reducible refine le_sizeC ?_) | (with_reducible refine le_sizeD ?_) | (with_reducible refine le_sizeN ?_) | go_size | (simp [go_sem]; done))⟩
        · clear hg
          go_enter Tryz.func17, Tryz.ntmps17
          go_wp2_with (first | ((with_reducible refine ((L.out _).out).mono ?_); rintro e w1 ⟨rfl, rfl⟩) | ((with_reducible refine ((T.out _).out).mono ?_); intro e w1 hr; obtain ⟨rfl, p, rfl⟩ := hr.out; clear hr))
          go_returns
          exact ⟨rfl, by repeat' (first | (with_reducible exact Below.refl _ _) | (with_reducible assumption) | (with_reducible refine Below.alloc ?_ ?_ _) | (with_reducible refine Below.drew ?_) | (with_reducible refine belowN ?_ _) | (with_reducible refine Below.setCell ?_ ?_ _) | (with_reducible refine belowG ?_ ?_) | (with_reducible exact Nat.le_refl _) | (with_reducible refine le_sizeG ?_) | (with_reducible refine le_sizeA ?_) | (with_reducible refine le_sizeC ?_) | (with_reducible refine le_sizeD ?_) | (with_reducible refine le_sizeN ?_) | go_size | (simp [go_sem]; done))⟩
      · have e : tokT (s.data.toList.drop a) = quoT (s.data.toList.drop (a + 1)) := by rw [dropK s a ha, tokT, h1, h2, h3]; rfl
        have T := fun wx => Lib.hid (uquote_any s a ha hs wx)
        replace T := Lib.hid T
        rw [e]
        obtain ⟨k, t, n, p, z, y, hr⟩ := urV_form a (quoT (s.data.toList.drop (a + 1)))
        rw [hr] at T ⊢
        have h4 : ¬ 48 ≤ (s[a].toNat : Int) := by rw [beq_iff_eq] at h3; omega
        clear hr e h1 h2 hg
        go_enter Tryz.func17, Tryz.ntmps17
        go_wp2_with (first | ((with_reducible refine ((L.out _).out).mono ?_); rintro e w1 ⟨rfl, rfl⟩) | ((with_reducible refine ((T.out _).out).mono ?_); intro e w1 hr; obtain ⟨rfl, p, rfl⟩ := hr.out; clear hr))
        go_returns
        exact ⟨rfl, by repeat' (first | (with_reducible exact Below.refl _ _) | (with_reducible assumption) | (with_reducible refine Below.alloc ?_ ?_ _) | (with_reducible refine Below.drew ?_) | (with_reducible refine belowN ?_ _) | (with_reducible refine Below.setCell ?_ ?_ _) | (with_reducible refine belowG ?_ ?_) | (with_reducible exact Nat.le_refl _) | (with_reducible refine le_sizeG ?_) | (with_reducible refine le_sizeA ?_) | (with_reducible refine le_sizeC ?_) | (with_reducible refine le_sizeD ?_) | (with_reducible refine le_sizeN ?_) | go_size | (simp [go_sem]; done))⟩
    · have e : tokT (s.data.toList.drop a) = numT (s.data.toList.drop a) := by rw [dropK s a ha, tokT, h1, h2]; rfl
      have T := fun wx => Lib.hid (unumber_any s a ha h2 hs wx)
      replace T := Lib.hid T
      rw [e]
      obtain ⟨k, t, n, p, z, y, hr⟩ := urV_form a (numT (s.data.toList.drop a))
      rw [hr] at T ⊢
      have hg := dig_nat h2
      have h4 : 48 ≤ (s[a].toNat : Int) := by omega
      have h5 : (s[a].toNat : Int) ≤ 57 := by omega
      clear hr e h1 h2 hg
      go_enter Tryz.func17, Tryz.ntmps17
      go_wp2_with (first | ((with_reducible refine ((L.out _).out).mono ?_); rintro e w1 ⟨rfl, rfl⟩) | ((with_reducible refine ((T.out _).out).mono ?_); intro e w1 hr; obtain ⟨rfl, p, rfl⟩ := hr.out; clear hr))
      go_returns
      exact ⟨rfl, by repeat' (first | (with_reducible exact Below.refl _ _) | (with_reducible assumption) | (with_reducible refine Below.alloc ?_ ?_ _) | (with_reducible refine Below.drew ?_) | (with_reducible refine belowN ?_ _) | (with_reducible refine Below.setCell ?_ ?_ _) | (with_reducible refine belowG ?_ ?_) | (with_reducible exact Nat.le_refl _) | (with_reducible refine le_sizeG ?_) | (with_reducible refine le_sizeA ?_) | (with_reducible refine le_sizeC ?_) | (with_reducible refine le_sizeD ?_) | (with_reducible refine le_sizeN ?_) | go_size | (simp [go_sem]; done))⟩
  · have e : tokT (s.data.toList.drop a) = wordT (s.data.toList.drop a) := by rw [dropK s a ha, tokT, h1]; rfl
    have T := fun wx => Lib.hid (upath_any s a (Nat.le_of_lt ha) hs wx)
    replace T := Lib.hid T
    rw [e]
    rw [h1] at L
    obtain ⟨k, t, n, p, z, y, hr⟩ := urV_form a (wordT (s.data.toList.drop a))
    rw [hr] at T ⊢
    clear hr e h1
    go_enter Tryz.func17, Tryz.ntmps17
    go_wp2_with (first | ((with_reducible refine ((L.out _).out).mono ?_); rintro e w1 ⟨rfl, rfl⟩) | ((with_reducible refine ((T.out _).out).mono ?_); intro e w1 hr; obtain ⟨rfl, p, rfl⟩ := hr.out; clear hr))
    go_returns
    exact ⟨rfl, by repeat' (first | (with_reducible exact Below.refl _ _) | (with_reducible assumption) | (with_reducible refine Below.alloc ?_ ?_ _) | (with_reducible refine Below.drew ?_) | (with_reducible refine belowN ?_ _) | (with_reducible refine Below.setCell ?_ ?_ _) | (with_reducible refine belowG ?_ ?_) | (with_reducible exact Nat.le_refl _) | (with_reducible refine le_sizeG ?_) | (with_reducible refine le_sizeA ?_) | (with_reducible refine le_sizeC ?_) | (with_reducible refine le_sizeD ?_) | (with_reducible refine le_sizeN ?_) | go_size | (simp [go_sem]; done))⟩
theorem Tryz.infoT : (Tryz.prog.info? 46).map (fun i => (i.zero, i.size, i.bytes)) = some (some (.agg #[.int .i64 0, .string ⟨#[]⟩, .int .i64 0, .int .i64 0]), 4, 40) := by kernel_rfl
theorem atL_blank {l : List UInt8} {ts : List Tk} {p : Nat} {c : UInt8} {r : List UInt8} (hl : l.drop p = c :: r) (hb : ((c.toNat : Int) == 32) = true) (h : AtL l ts p) : AtL l ts (p + 1) := by
  refine ⟨h.1, ?_⟩
  rw [h.2, hl, lexT_blank _ _ _ _ hb]
  congr 2
  rw [← List.drop_drop, hl]
  rfl
set_option maxRecDepth 100000 in
set_option maxHeartbeats 2000000 in
theorem ulex_any (s : ByteArray) (hs : s.size ≤ 140737488351232) (w : World) :
    Calls Tryz.prog 9 #[.string s] w (LexIs 46 s.data.toList w) := by
  have hlen : s.data.toList.length = s.size := by simp
  have R := fun a ha wx => Lib.hid (utoken_any s a ha hs wx)
  replace R := Lib.hid R
  obtain ⟨i0, hi, hz1, hz2, hz3⟩ := info_parts Tryz.infoT
  go_enter Tryz.func9, Tryz.ntmps9
  go_wp2
  go_loopw [5, 6] (fun v x wr => ∃ (ts : List Tk) (p : Nat) (ao : Option Addr) (cap : Nat), v = .slice ao ts.length cap ∧ x = .int .i64 p ∧ p ≤ s.size ∧ wr.ownsRow w.heap.size 46 4 (.slice ao ts.length cap) ts.length (tksC ts) ∧
      AtL s.data.toList ts p ∧ Below w.heap.size w wr) (fun _ x _ => s.size - (intOf x).toNat)
  case atStart => exact ⟨[], 0, none, 0, rfl, rfl, Nat.zero_le _, World.ownsRow_nil _ _ _ _, atL_zero _, by repeat' (first | (with_reducible exact Below.refl _ _) | (with_reducible assumption) | (with_reducible refine Below.alloc ?_ ?_ _) | (with_reducible refine Below.drew ?_) | (with_reducible refine belowN ?_ _) | (with_reducible refine Below.setCell ?_ ?_ _) | (with_reducible refine belowG ?_ ?_) | (with_reducible exact Nat.le_refl _) | (with_reducible refine le_sizeG ?_) | (with_reducible refine le_sizeA ?_) | (with_reducible refine le_sizeC ?_) | (with_reducible refine le_sizeD ?_) | (with_reducible refine le_sizeN ?_) | go_size | (simp [go_sem]; done))⟩
  case round =>
    obtain ⟨ts, j, ao, cap, rfl, rfl, hj, hown, hat, hb⟩ := hrel
    rename World => wr
    have hwz := hb.size
    by_cases hlt : j < s.size
    · have hd := dropK s j hlt
      rcases hnb : ((s[j].toNat : Int) == 32)
      · by_cases hm : ts.length = 120
        · have hres := Lib.hid (atL_many hd hnb hm hat)
          clear hd hat
          go_wp2
          go_returns
          rw [lexIs_err hres.out]
          exact ⟨rfl, by repeat' (first | (with_reducible exact Below.refl _ _) | (with_reducible assumption) | (with_reducible refine Below.alloc ?_ ?_ _) | (with_reducible refine Below.drew ?_) | (with_reducible refine belowN ?_ _) | (with_reducible refine Below.setCell ?_ ?_ _) | (with_reducible refine belowG ?_ ?_) | (with_reducible exact Nat.le_refl _) | (with_reducible refine le_sizeG ?_) | (with_reducible refine le_sizeA ?_) | (with_reducible refine le_sizeC ?_) | (with_reducible refine le_sizeD ?_) | (with_reducible refine le_sizeN ?_) | go_size | (simp [go_sem]; done))⟩
        · have hm' : ts.length < 120 := by have := hat.1; omega
          rcases ht : tokT (s[j] :: s.data.toList.drop (j + 1)) with x | ⟨k, t, n, z⟩
          · have hres := Lib.hid (atL_bad hd hnb hm' ht hat)
            have hx := tokT_err ht
            have R := R.out j hlt
            rw [hd, ht, urV_err] at R
            replace R := Lib.hid R
            clear hd hat ht
            go_wp2_with ((with_reducible refine ((R.out _).out).mono ?_); intro e w1 hr; obtain ⟨rfl, p, rfl⟩ := hr.out; clear hr)
            go_returns
            rw [lexIs_err hres.out]
            exact ⟨rfl, by repeat' (first | (with_reducible exact Below.refl _ _) | (with_reducible assumption) | (with_reducible refine Below.alloc ?_ ?_ _) | (with_reducible refine Below.drew ?_) | (with_reducible refine belowN ?_ _) | (with_reducible refine Below.setCell ?_ ?_ _) | (with_reducible refine belowG ?_ ?_) | (with_reducible exact Nat.le_refl _) | (with_reducible refine le_sizeG ?_) | (with_reducible refine le_sizeA ?_) | (with_reducible refine le_sizeC ?_) | (with_reducible refine le_sizeD ?_) | (with_reducible refine le_sizeN ?_) | go_size | (simp [go_sem]; done))⟩
          · obtain ⟨l1, l2, l3⟩ := tokT_len ht
            rw [← hd, List.length_drop] at l2
            have hnext := Lib.hid (atL_tok hd hnb hm' ht hat)
            obtain ⟨q, hq⟩ : ∃ q : ByteArray, q = ⟨t.toArray⟩ := ⟨_, rfl⟩
            have R := R.out j hlt
            rw [hd, ht, urV_ok, ← hq] at R
            replace R := Lib.hid R
            obtain ⟨e, he⟩ : ∃ e, j + z = e := ⟨_, rfl⟩
            rw [he] at R hnext
            have hje : j < e := by omega
            have hes : e ≤ s.size := by omega
            replace hq := Lib.hid hq
            clear hlen he hd hat ht
            go_wp2_with (first | ((with_reducible refine ((R.out _).out).mono ?_); intro e w1 hr; obtain ⟨rfl, p, rfl⟩ := hr.out; clear hr) | (at_builtin; refine wpList_append_lies _ rfl _ _ 42 rfl w.heap.size 46 i0 _ 4 40 Tryz.underlying42 hi hz1 hz2 hz3 rfl (by decide) _ ts.length (tksC ts) rfl (owns_below hown ?b0) ⟨_, 0, none⟩ 1 1 [.int .i64 k, .string q, .int .i64 n, (.int .i64 (j : Int))] rfl rfl ?c1 ?c2 (by decide) ?c3 ?c4 ?c5 _ rfl ?_))
            case b0 => repeat' (first | (with_reducible exact Below.refl _ _) | (with_reducible assumption) | (with_reducible refine Below.alloc ?_ ?_ _) | (with_reducible refine Below.drew ?_) | (with_reducible refine belowN ?_ _) | (with_reducible refine Below.setCell ?_ ?_ _) | (with_reducible refine belowG ?_ ?_) | (with_reducible exact Nat.le_refl _) | (with_reducible refine le_sizeG ?_) | (with_reducible refine le_sizeA ?_) | (with_reducible refine le_sizeC ?_) | (with_reducible refine le_sizeD ?_) | (with_reducible refine le_sizeN ?_) | go_size | (simp [go_sem]; done))
            case c1 =>
              intro j' u hj'
              match j', hj' with
              | 0, h => simp at h; subst h; simp [go_sem, Addr.add]
              | 1, h => simp at h; subst h; simp [go_sem, Addr.add]
              | 2, h => simp at h; subst h; simp [go_sem, Addr.add]
              | 3, h => simp at h; subst h; simp [go_sem, Addr.add]
            case c2 => intro u hu; simp at hu; rcases hu with rfl | rfl | rfl | rfl <;> rfl
            case c3 => unfold maxLen; omega
            case c4 => omega
            case c5 => repeat' (first | (with_reducible exact Below.refl _ _) | (with_reducible assumption) | (with_reducible refine Below.alloc ?_ ?_ _) | (with_reducible refine Below.drew ?_) | (with_reducible refine belowN ?_ _) | (with_reducible refine Below.setCell ?_ ?_ _) | (with_reducible refine belowG ?_ ?_) | (with_reducible exact Nat.le_refl _) | (with_reducible refine le_sizeG ?_) | (with_reducible refine le_sizeA ?_) | (with_reducible refine le_sizeC ?_) | (with_reducible refine le_sizeD ?_) | (with_reducible refine le_sizeN ?_) | go_size | (simp [go_sem]; done))
            intro g cap' w1 hown1 hgrow hat1 hg1
            have hb1 : Below w.heap.size w w1 := Below.grown (by repeat' (first | (with_reducible exact Below.refl _ _) | (with_reducible assumption) | (with_reducible refine Below.alloc ?_ ?_ _) | (with_reducible refine Below.drew ?_) | (with_reducible refine belowN ?_ _) | (with_reducible refine Below.setCell ?_ ?_ _) | (with_reducible refine belowG ?_ ?_) | (with_reducible exact Nat.le_refl _) | (with_reducible refine le_sizeG ?_) | (with_reducible refine le_sizeA ?_) | (with_reducible refine le_sizeC ?_) | (with_reducible refine le_sizeD ?_) | (with_reducible refine le_sizeN ?_) | go_size | (simp [go_sem]; done))) hgrow (by repeat' (first | (with_reducible exact Below.refl _ _) | (with_reducible assumption) | (with_reducible refine Below.alloc ?_ ?_ _) | (with_reducible refine Below.drew ?_) | (with_reducible refine belowN ?_ _) | (with_reducible refine Below.setCell ?_ ?_ _) | (with_reducible refine belowG ?_ ?_) | (with_reducible exact Nat.le_refl _) | (with_reducible refine le_sizeG ?_) | (with_reducible refine le_sizeA ?_) | (with_reducible refine le_sizeC ?_) | (with_reducible refine le_sizeD ?_) | (with_reducible refine le_sizeN ?_) | go_size | (simp [go_sem]; done))) (fun k hk => (hown.lt k hk).1)
            have hown2 : w1.ownsRow w.heap.size 46 4 (.slice (some ⟨g, 0, none⟩) (ts ++ [(⟨k, t, n, j⟩ : Tk)]).length cap') (ts ++ [(⟨k, t, n, j⟩ : Tk)]).length (tksC (ts ++ [⟨k, t, n, j⟩])) := by
              rw [tksC_snoc, show (ts ++ [(⟨k, t, n, j⟩ : Tk)]).length = ts.length + 1 by simp]
              rw [hq.out] at hown1
              exact hown1
            replace hown2 := Lib.hid hown2
            have hlen2 := Lib.hid (show (ts ++ [(⟨k, t, n, j⟩ : Tk)]).length = ts.length + 1 by simp)
            have hw1 := hb1.size
            clear hown1 hgrow hat1 hg1 hown hq hb R
            go_wp2
            go_roundw
            case rel => exact ⟨ts ++ [⟨k, t, n, j⟩], e, some ⟨g, 0, none⟩, cap', by rw [hlen2.out], rfl, hes, hown2.out, hnext.out, by repeat' (first | (with_reducible exact Below.refl _ _) | (with_reducible assumption) | (with_reducible refine Below.alloc ?_ ?_ _) | (with_reducible refine Below.drew ?_) | (with_reducible refine belowN ?_ _) | (with_reducible refine Below.setCell ?_ ?_ _) | (with_reducible refine belowG ?_ ?_) | (with_reducible exact Nat.le_refl _) | (with_reducible refine le_sizeG ?_) | (with_reducible refine le_sizeA ?_) | (with_reducible refine le_sizeC ?_) | (with_reducible refine le_sizeD ?_) | (with_reducible refine le_sizeN ?_) | go_size | (simp [go_sem]; done))⟩
            case measure => simp [intOf]; omega
      · have hnext := Lib.hid (atL_blank hd hnb hat)
        clear hd hat
        go_wp2
        go_roundw
        case rel => exact ⟨ts, j + 1, ao, cap, rfl, by go_num, by omega, hown, hnext.out, by repeat' (first | (with_reducible exact Below.refl _ _) | (with_reducible assumption) | (with_reducible refine Below.alloc ?_ ?_ _) | (with_reducible refine Below.drew ?_) | (with_reducible refine belowN ?_ _) | (with_reducible refine Below.setCell ?_ ?_ _) | (with_reducible refine belowG ?_ ?_) | (with_reducible exact Nat.le_refl _) | (with_reducible refine le_sizeG ?_) | (with_reducible refine le_sizeA ?_) | (with_reducible refine le_sizeC ?_) | (with_reducible refine le_sizeD ?_) | (with_reducible refine le_sizeN ?_) | go_size | (simp [go_sem]; done))⟩
        case measure => simp [intOf]; omega
    · have hres := Lib.hid (atL_end (by omega) hat)
      clear hat
      go_wp2
      go_returns
      rw [lexIs_ok hres.out]
      exact ⟨_, rfl, hown, by repeat' (first | (with_reducible exact Below.refl _ _) | (with_reducible assumption) | (with_reducible refine Below.alloc ?_ ?_ _) | (with_reducible refine Below.drew ?_) | (with_reducible refine belowN ?_ _) | (with_reducible refine Below.setCell ?_ ?_ _) | (with_reducible refine belowG ?_ ?_) | (with_reducible exact Nat.le_refl _) | (with_reducible refine le_sizeG ?_) | (with_reducible refine le_sizeA ?_) | (with_reducible refine le_sizeC ?_) | (with_reducible refine le_sizeD ?_) | (with_reducible refine le_sizeN ?_) | go_size | (simp [go_sem]; done))⟩
end Go.Proofs.YtmalnjmginmjkaaGreatDoor
