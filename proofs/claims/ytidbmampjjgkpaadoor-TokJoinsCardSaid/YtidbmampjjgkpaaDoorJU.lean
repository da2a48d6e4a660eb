import Derived.Test.YtidbmampjjgkpaaDoorJO
import Derived.WalkKit
import Derived.ProofKit
import Derived.OpenShut
import Derived.Handy
import Derived.BigQuiet
import Derived.OwnWalk
import Derived.Lib.Hide
import Derived.WalkSmall
import Derived.WalkLawsBesides
namespace Go.Proofs.YtidbmampjjgkpaaDoor
open Go.RowKit
theorem mk_data (l : List UInt8) : (⟨l.toArray⟩ : ByteArray).data.toList = l := by simp
theorem of_data {x : ByteArray} {l : List UInt8} (h : x.data.toList = l) : x = ⟨l.toArray⟩ := ByteArray.ext (Array.ext' (by rw [h]))
set_option maxRecDepth 100000 in
set_option maxHeartbeats 4000000 in
theorem ujoin_any (ts : List Tk) (ao : Option Addr) (cap : Nat) (hs : ShortT ts) (w : World) (hsl : Sl w ao ts) : Calls Tryd.prog 36 #[.slice ao ts.length cap] w (Ret (.string ⟨(joinT ts).toArray⟩) w) := by
  obtain ⟨hn, hj, hts⟩ := hs
  have hstep := Lib.hid (fun i h => join_step ts i h)
  have hlen := Lib.hid (fun i => join_take_length ts i)
  replace hsl := Lib.hid hsl
  replace hts := Lib.hid (show ∀ i (h : i < ts.length), ts[i].s.length ≤ 1000 from fun i h => hts _ (List.getElem_mem h))
  go_enter Tryd.func36, Tryd.ntmps36
  go_wp2
  go_loop [3, 4] (fun vo v => ∃ (i : Nat) (o : ByteArray), i ≤ ts.length ∧ vo = .string o ∧ v = .int .i64 i ∧ o.data.toList = joinT (ts.take i)) (fun _ v => ts.length - (intOf v).toNat)
  case atStart => exact ⟨0, ⟨#[]⟩, Nat.zero_le _, rfl, rfl, rfl⟩
  case round =>
    obtain ⟨i, o, hi, rfl, rfl, ho⟩ := hrel
    by_cases hlt : i < ts.length
    · obtain ⟨g, rfl, hg, tt⟩ := hsl.out (by omega)
      obtain ⟨a0, a1, a2, a3⟩ := tt i hlt
      have hnext := hstep.out i hlt
      have hshort := hts.out i hlt
      have hlen := hlen.out i
      have hoz : o.size ≤ 50000 := by rw [Lib.size_eq, ho]; omega
      generalize ts[i] = tk at *
      obtain ⟨k, ss, n, a⟩ := tk
      simp only at a0 a1 a2 a3 hnext hshort
      obtain ⟨q, hq⟩ : ∃ q : ByteArray, q = ⟨ss.toArray⟩ := ⟨_, rfl⟩
      rw [← hq] at a1
      have hqd : q.data.toList = ss := by rw [hq]
      have hqz : q.size = ss.length := by rw [Lib.size_eq, hqd]
      have hq1 : q.size ≤ 1000 := by omega
      rcases hk : (k == 4)
      · have hf : fullT k ss = q.data.toList := by
          rw [beq_eq_false_iff_ne] at hk
          unfold fullT
          rw [if_neg hk, hqd]
        rw [hf] at hnext
        by_cases h0 : i = 0
        · subst h0
          rw [if_pos rfl, List.nil_append] at hnext
          have hfin := Lib.hid (show (o ++ q).data.toList = joinT (ts.take (0 + 1)) by
            rw [hnext]
            have : o.data.toList = [] := by rw [ho]; rfl
            simp [this])
          clear hnext ho hf hqd hqz hq hshort tt
          go_wp2
          go_round
          case rel => exact ⟨0 + 1, _, by omega, rfl, by go_num, hfin.out⟩
          case measure => simp [intOf]; omega
        · rw [if_neg h0] at hnext
          have hfin := Lib.hid (show ((o ++ (⟨#[32]⟩ : ByteArray)) ++ q).data.toList = joinT (ts.take (i + 1)) by
            rw [hnext, ← ho]
            simp)
          have hi0 : (0 : Int) < (i : Int) := by omega
          clear hnext ho hf hqd hqz hq hshort tt
          go_wp2
          go_round
          case rel => exact ⟨i + 1, _, by omega, rfl, by go_num, hfin.out⟩
          case measure => simp [intOf]; omega
      · have hf : fullT k ss = 39 :: (q.data.toList ++ [39]) := by
          rw [beq_iff_eq] at hk
          unfold fullT
          rw [if_pos hk, ← hqd]
        rw [hf] at hnext
        by_cases h0 : i = 0
        · subst h0
          rw [if_pos rfl, List.nil_append] at hnext
          have hfin := Lib.hid (show (((o ++ (⟨#[39]⟩ : ByteArray)) ++ q) ++ (⟨#[39]⟩ : ByteArray)).data.toList = joinT (ts.take (0 + 1)) by
            rw [hnext]
            have : o.data.toList = [] := by rw [ho]; rfl
            simp [this])
          clear hnext ho hf hqd hqz hq hshort tt
          go_wp2
          go_round
          case rel => exact ⟨0 + 1, _, by omega, rfl, by go_num, hfin.out⟩
          case measure => simp [intOf]; omega
        · rw [if_neg h0] at hnext
          have hfin := Lib.hid (show ((((o ++ (⟨#[32]⟩ : ByteArray)) ++ (⟨#[39]⟩ : ByteArray)) ++ q) ++ (⟨#[39]⟩ : ByteArray)).data.toList = joinT (ts.take (i + 1)) by
            rw [hnext, ← ho]
            simp)
          have hi0 : (0 : Int) < (i : Int) := by omega
          clear hnext ho hf hqd hqz hq hshort tt
          go_wp2
          go_round
          case rel => exact ⟨i + 1, _, by omega, rfl, by go_num, hfin.out⟩
          case measure => simp [intOf]; omega
    · obtain rfl : i = ts.length := by omega
      rw [List.take_length] at ho
      have hfin := Lib.hid (of_data ho)
      clear ho
      go_wp2
      go_returns
      exact ⟨by rw [hfin.out]; try rfl, by repeat' (first | (with_reducible exact Below.refl _ _) | (with_reducible assumption) | (with_reducible refine Below.alloc ?_ ?_ _) | (with_reducible refine Below.drew ?_) | (with_reducible refine belowN ?_ _) | (with_reducible refine Below.setCell ?_ ?_ _) | (with_reducible refine belowG ?_ ?_) | (with_reducible exact Nat.le_refl _) | (with_reducible refine le_sizeG ?_) | (with_reducible refine le_sizeA ?_) | (with_reducible refine le_sizeC ?_) | (with_reducible refine le_sizeD ?_) | (with_reducible refine le_sizeN ?_) | go_size | (simp [go_sem]; done))⟩
end Go.Proofs.YtidbmampjjgkpaaDoor
