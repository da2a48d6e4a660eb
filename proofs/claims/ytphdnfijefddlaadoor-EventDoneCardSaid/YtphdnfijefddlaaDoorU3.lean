import Derived.Test.YtphdnfijefddlaaDoorU1
import Derived.WalkKit
import Derived.ProofKit
import Derived.OpenShut
import Derived.Handy
import Derived.BigQuiet
import Derived.Lib.Hide
import Derived.WalkSmall
import Derived.WalkLawsBesides
namespace Go.Proofs.YtphdnfijefddlaaDoor
open Go.RowKit
set_option maxRecDepth 100000 in
set_option maxHeartbeats 2000000 in
theorem uquote_any (s : ByteArray) (a : Nat) (ha : a < s.size) (hs : s.size ≤ 140737488351232) (w : World) :
    Calls Tryd.prog 36 #[.string s, .int .i64 a] w (Ret (urV a (quoT (s.data.toList.drop (a + 1)))) w) := by
  obtain ⟨m, hm⟩ : ∃ m, spanL textL (s.data.toList.drop (a + 1)) = m := ⟨_, rfl⟩
  have hlen : (s.data.toList.drop (a + 1)).length = s.size - (a + 1) := by simp
  have hle : a + 1 + m ≤ s.size := by
    have := spanL_le textL (s.data.toList.drop (a + 1))
    rw [hm, hlen] at this
    omega
  obtain ⟨z, hz⟩ : ∃ z, a + 1 + m = z := ⟨_, rfl⟩
  obtain ⟨t, ht⟩ : ∃ t, s.extract (a + 1) z = t := ⟨_, rfl⟩
  have htl : (s.data.toList.drop (a + 1)).take m = t.data.toList := by rw [← take_data, hz, ht]
  have hl : t.size = m := by rw [← ht, ByteArray.size_extract]; omega
  have hsl : ∀ wx, (Instr.slice 9 (.string s) (some (.int .i64 ((a : Int) + 1))) (some (.int .i64 (z : Int))) none).run Tryd.prog wx = .ok (.string t) wx := by
    intro wx
    have := slice_s s (a + 1) z (by omega) (by omega) t ht wx
    rw [show (((a + 1 : Nat) : Int)) = (a : Int) + 1 by omega] at this
    exact this
  have S := fun k hk hp => Lib.hid (span_step textL s (a + 1) k hk hp)
  replace S := Lib.hid S
  have T := fun k' hk' hp => Lib.hid (fun h => (show (a + 1) + spanL textL (s.data.toList.drop (a + 1)) = z by rw [hm, hz]).symm.trans (span_stop textL s (a + 1) k' hk' hp h))
  replace T := Lib.hid T
  have U := fun k' hk' => Lib.hid (fun h => (show (a + 1) + spanL textL (s.data.toList.drop (a + 1)) = z by rw [hm, hz]).symm.trans (span_end textL s (a + 1) k' hk' h))
  replace U := Lib.hid U
  have hq : quoT (s.data.toList.drop (a + 1)) = if z = s.size then .error 14 else if 48 < m then .error 15 else if plainB t.data.toList then .ok (4, t.data.toList, 0, m + 2) else .error 11 := by
    unfold quoT
    simp only [hm, hlen, htl]
    by_cases h : z = s.size
    · rw [if_pos h, if_pos (by omega)]
    · rw [if_neg h, if_neg (by omega)]
  by_cases h1 : z = s.size
  · have hres := Lib.hid (show urV a (quoT (s.data.toList.drop (a + 1))) = _ from by rw [hq, if_pos h1, urV_err])
    clear hm hlen htl hl hq ht hz hsl hle
    go_enter Tryd.func36, Tryd.ntmps36
    go_wp2
    go_loop [7] (fun v => ∃ e : Nat, a + 1 ≤ e ∧ e ≤ s.size ∧ v = .int .i64 e ∧ SpanTo textL s (a + 1) e) (fun v => s.size - (intOf v).toNat)
    case atStart => exact ⟨a + 1, Nat.le_refl _, by omega, by go_num, rfl⟩
    case round =>
      obtain ⟨e, hae, he, rfl, hr⟩ := hrel
      by_cases hlt : e < s.size
      · have hdg : textL (s.data.toList.drop e) = !((s[e].toNat : Int) == 39) := by rw [dropK s e hlt]; rfl
        rcases h1 : ((s[e].toNat : Int) == 39)
        · have hnext := Lib.hid ((S.out e hlt (by rw [hdg, h1]; rfl)).out hr)
          clear hdg hres
          go_wp2
          go_round
          case rel => exact ⟨e + 1, by omega, by omega, by go_num, hnext.out⟩
          case measure => simp [intOf]; omega
        · obtain rfl : z = e := (T.out e hlt (by rw [hdg, h1]; rfl)).out hr
          clear hdg hr
          first
          | (exfalso; omega)
          | (go_wp2
             go_returns
             exact ⟨by rw [hres.out]; try rfl, by (first | exact gwT | exact lzT)⟩)
      · obtain rfl : z = e := (U.out e hlt).out hr
        clear hr
        first
        | (exfalso; omega)
        | (go_wp2
           go_returns
           exact ⟨by rw [hres.out]; try rfl, by (first | exact gwT | exact lzT)⟩)
  · have hzl : z < s.size := by omega
    rw [if_neg h1] at hq
    clear h1
    by_cases h2 : 48 < m
    · have hres := Lib.hid (show urV a (quoT (s.data.toList.drop (a + 1))) = _ from by rw [hq, if_pos h2, urV_err])
      have h3 : (48 : Int) < (z : Int) - a - 1 := by omega
      clear hm hlen htl hl hq ht hz hsl hle h2
      go_enter Tryd.func36, Tryd.ntmps36
      go_wp2
      go_loop [7] (fun v => ∃ e : Nat, a + 1 ≤ e ∧ e ≤ s.size ∧ v = .int .i64 e ∧ SpanTo textL s (a + 1) e) (fun v => s.size - (intOf v).toNat)
      case atStart => exact ⟨a + 1, Nat.le_refl _, by omega, by go_num, rfl⟩
      case round =>
        obtain ⟨e, hae, he, rfl, hr⟩ := hrel
        by_cases hlt : e < s.size
        · have hdg : textL (s.data.toList.drop e) = !((s[e].toNat : Int) == 39) := by rw [dropK s e hlt]; rfl
          rcases h1 : ((s[e].toNat : Int) == 39)
          · have hnext := Lib.hid ((S.out e hlt (by rw [hdg, h1]; rfl)).out hr)
            clear hdg hres
            go_wp2
            go_round
            case rel => exact ⟨e + 1, by omega, by omega, by go_num, hnext.out⟩
            case measure => simp [intOf]; omega
          · obtain rfl : z = e := (T.out e hlt (by rw [hdg, h1]; rfl)).out hr
            clear hdg hr
            first
            | (exfalso; omega)
            | (go_wp2
               go_returns
               exact ⟨by rw [hres.out]; try rfl, by (first | exact gwT | exact lzT)⟩)
        · obtain rfl : z = e := (U.out e hlt).out hr
          clear hr
          first
          | (exfalso; omega)
          | (go_wp2
             go_returns
             exact ⟨by rw [hres.out]; try rfl, by (first | exact gwT | exact lzT)⟩)
    · rw [if_neg h2] at hq
      have h3 : ¬ (48 : Int) < (z : Int) - a - 1 := by omega
      have P := fun wx => Lib.hid (rplain_any t wx (by unfold maxLen; omega))
      replace P := Lib.hid P
      rcases hp : plainB t.data.toList
      · rw [hp] at P hq
        have hres := Lib.hid (show urV a (quoT (s.data.toList.drop (a + 1))) = _ from by rw [hq, if_neg (by decide), urV_err])
        clear hm hlen htl hl hq ht hz hle h2 hp
        go_enter Tryd.func36, Tryd.ntmps36
        go_wp2
        go_loop [7] (fun v => ∃ e : Nat, a + 1 ≤ e ∧ e ≤ s.size ∧ v = .int .i64 e ∧ SpanTo textL s (a + 1) e) (fun v => s.size - (intOf v).toNat)
        case atStart => exact ⟨a + 1, Nat.le_refl _, by omega, by go_num, rfl⟩
        case round =>
          obtain ⟨e, hae, he, rfl, hr⟩ := hrel
          by_cases hlt : e < s.size
          · have hdg : textL (s.data.toList.drop e) = !((s[e].toNat : Int) == 39) := by rw [dropK s e hlt]; rfl
            rcases h1 : ((s[e].toNat : Int) == 39)
            · have hnext := Lib.hid ((S.out e hlt (by rw [hdg, h1]; rfl)).out hr)
              clear hdg hres
              go_wp2
              go_round
              case rel => exact ⟨e + 1, by omega, by omega, by go_num, hnext.out⟩
              case measure => simp [intOf]; omega
            · obtain rfl : z = e := (T.out e hlt (by rw [hdg, h1]; rfl)).out hr
              clear hdg hr
              first
              | (exfalso; omega)
              | (go_wp2_with (first | ((with_reducible refine ((P.out _).out).mono ?_); rintro e w1 ⟨rfl, rfl⟩))
                 go_returns
                 exact ⟨by rw [hres.out]; try rfl, by (first | exact gwT | exact lzT)⟩)
          · obtain rfl : z = e := (U.out e hlt).out hr
            clear hr
            first
            | (exfalso; omega)
            | (go_wp2_with (first | ((with_reducible refine ((P.out _).out).mono ?_); rintro e w1 ⟨rfl, rfl⟩))
               go_returns
               exact ⟨by rw [hres.out]; try rfl, by (first | exact gwT | exact lzT)⟩)
      · rw [hp] at P hq
        have hres := Lib.hid (show urV a (quoT (s.data.toList.drop (a + 1))) = .tuple #[.agg #[.int .i64 4, .string t, .int .i64 0, .int .i64 (a : Int)], .int .i64 ((z : Int) + 1), .int .i64 0] from by
          rw [hq, if_pos rfl, urV_ok, show ((a + (m + 2) : Nat) : Int) = (z : Int) + 1 by omega])
        clear hm hlen htl hl hq ht hz hle h2 hp
        go_enter Tryd.func36, Tryd.ntmps36
        go_wp2
        go_loop [7] (fun v => ∃ e : Nat, a + 1 ≤ e ∧ e ≤ s.size ∧ v = .int .i64 e ∧ SpanTo textL s (a + 1) e) (fun v => s.size - (intOf v).toNat)
        case atStart => exact ⟨a + 1, Nat.le_refl _, by omega, by go_num, rfl⟩
        case round =>
          obtain ⟨e, hae, he, rfl, hr⟩ := hrel
          by_cases hlt : e < s.size
          · have hdg : textL (s.data.toList.drop e) = !((s[e].toNat : Int) == 39) := by rw [dropK s e hlt]; rfl
            rcases h1 : ((s[e].toNat : Int) == 39)
            · have hnext := Lib.hid ((S.out e hlt (by rw [hdg, h1]; rfl)).out hr)
              clear hdg hres
              go_wp2
              go_round
              case rel => exact ⟨e + 1, by omega, by omega, by go_num, hnext.out⟩
              case measure => simp [intOf]; omega
            · obtain rfl : z = e := (T.out e hlt (by rw [hdg, h1]; rfl)).out hr
              clear hdg hr
              first
              | (exfalso; omega)
              | (go_wp2_with (first | ((with_reducible refine ((P.out _).out).mono ?_); rintro e w1 ⟨rfl, rfl⟩))
                 go_returns
                 exact ⟨by rw [hres.out]; try rfl, by (first | exact gwT | exact lzT)⟩)
          · obtain rfl : z = e := (U.out e hlt).out hr
            clear hr
            first
            | (exfalso; omega)
            | (go_wp2_with (first | ((with_reducible refine ((P.out _).out).mono ?_); rintro e w1 ⟨rfl, rfl⟩))
               go_returns
               exact ⟨by rw [hres.out]; try rfl, by (first | exact gwT | exact lzT)⟩)
end Go.Proofs.YtphdnfijefddlaaDoor

