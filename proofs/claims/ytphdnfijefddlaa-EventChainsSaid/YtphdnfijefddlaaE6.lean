/- EventChains: what is called for by a name that is called for by another one, is called for by that one. -/
import Derived.Test.YtphdnfijefddlaaE4
import Derived.Test.YtphdnfijefddlaaSZ
import Derived.WalkKit
import Derived.ProofKit
import Derived.OpenShut
import Derived.Handy
import Derived.BigQuiet
import Derived.Lib.Hide
import Derived.WalkSmall
import Derived.WalkLawsBesides
namespace Go.Proofs.Ytphdnfijefddlaa
open Go.RowKit
theorem chain_em {a b c : ByteArray} (h1 : emB a b = true) (h2 : emB b c = true) (h3 : (b.toList == [42]) = true → (a.toList == [42]) = true) : emB a c = true := by
  rw [Lib.toList_data, Lib.toList_data, beq_iff_eq, beq_iff_eq] at h3
  exact calls_chain h1 h2 h3
set_option maxRecDepth 100000 in
set_option maxHeartbeats 1000000 in
theorem echains_walk (a b c : ByteArray) (ha : a.size ≤ 140737488351232) (hb : b.size ≤ 140737488351232) (hc : c.size ≤ 140737488351232) (w : World) : Calls Try.prog 4 #[.string a, .string b, .string c] w (Ret (.bool true) w) := by
  have A := Lib.hid (anchor12_any w)
  have m1 := Lib.hid (fun wx => ematch_any a b wx)
  have m2 := Lib.hid (fun wx => ematch_any b c wx)
  have m3 := Lib.hid (fun wx => ematch_any a c wx)
  have hch := chain_em (a := a) (b := b) (c := c)
  have hw1 : wrap64 ((a.size : Int) + (b.size : Int)) = (a.size : Int) + (b.size : Int) := by unfold wrap64; omega
  have hw2 : wrap64 ((a.size : Int) + (b.size : Int) + (c.size : Int)) = (a.size : Int) + (b.size : Int) + (c.size : Int) := by unfold wrap64; omega
  by_cases hs : a.size + b.size + c.size ≤ 600
  · have hI : ¬ (600 : Int) < (a.size : Int) + (b.size : Int) + (c.size : Int) := by omega
    obtain ⟨qa, hqa⟩ : ∃ qa, (a.toList == [42]) = qa := ⟨_, rfl⟩
    obtain ⟨qb, hqb⟩ : ∃ qb, (b.toList == [42]) = qb := ⟨_, rfl⟩
    rw [hqa, hqb] at hch
    generalize emB a b = x1 at *
    generalize emB b c = x2 at *
    generalize emB a c = x3 at *
    cases x1 <;> cases x2 <;> cases qb <;> cases qa <;> cases x3
    all_goals first
      | (exfalso; revert hch; decide)
      | (clear hch
         go_enter Try.func4, Try.ntmps4
         go_wp2_with (first | ((with_reducible refine (A.out).mono ?_); intro e w1 hr; obtain ⟨rfl, p, rfl⟩ := hr.out; clear hr) | ((with_reducible refine (m1.out _).mono ?_); rintro e w1 ⟨rfl, rfl⟩) | ((with_reducible refine (m2.out _).mono ?_); rintro e w1 ⟨rfl, rfl⟩) | ((with_reducible refine (m3.out _).mono ?_); rintro e w1 ⟨rfl, rfl⟩))
         go_returns
         exact ⟨rfl, by (first | exact gwT | exact lzT)⟩)
  · have hI : (600 : Int) < (a.size : Int) + (b.size : Int) + (c.size : Int) := by omega
    clear hch
    go_enter Try.func4, Try.ntmps4
    go_wp2_with (first | ((with_reducible refine (A.out).mono ?_); intro e w1 hr; obtain ⟨rfl, p, rfl⟩ := hr.out; clear hr))
    go_returns
    exact ⟨rfl, by (first | exact gwT | exact lzT)⟩
end Go.Proofs.Ytphdnfijefddlaa

