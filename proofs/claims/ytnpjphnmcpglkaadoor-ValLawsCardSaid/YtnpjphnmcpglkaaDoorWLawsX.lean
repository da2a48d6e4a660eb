import Derived.Test.YtnpjphnmcpglkaaDoorWLaws
import Derived.WalkKit
import Derived.ProofKit
import Derived.OpenShut
import Derived.Handy
import Derived.BigQuiet
import Derived.Lib.Hide
import Derived.Lib.Strings
import Derived.WalkLawsBesides
namespace Go.Proofs.YtnpjphnmcpglkaaDoor
open Go.RowKit
theorem numR_t {x : Int} (h : I64 x) : numR x = ⟨1, x, ⟨#[]⟩, 0⟩ := by
  have hi : inR x = true := (inR_iff x).2 h
  simp only [numR, nK_t hi, nN_t hi, nE_t hi]
theorem numR_f {x : Int} (h : ¬ I64 x) : numR x = errR 21 := by
  have hi : inR x = false := (inR_not x).2 h
  simp only [numR, nK_f hi, nN_f hi, nE_f hi, errR]
theorem laws_walk (ka na : Int) (sa : ByteArray) (kb nb : Int) (sb : ByteArray) (Ia : I64 na) (Ib : I64 nb) (za : sa.size ≤ maxLen) (zb : sb.size ≤ maxLen) (w : World) :
    Calls Tryd.prog 7 #[.agg #[.int .i64 ka, .int .i64 na, .string sa], .agg #[.int .i64 kb, .int .i64 nb, .string sb]] w (Ret (.bool true) w) := by
  by_cases h : rightB ka na sa = true ∧ rightB kb nb sb = true ∧ ka = kb
  · obtain ⟨ra, rb, rfl⟩ := h
    by_cases h1 : ka = 1
    · subst h1
      obtain rfl : sa = ⟨#[]⟩ := by
        rcases right_cases 1 na sa ra with ⟨_, h⟩ | ⟨h, _⟩ | ⟨h, _⟩
        · exact h
        · omega
        · omega
      obtain rfl : sb = ⟨#[]⟩ := by
        rcases right_cases 1 nb sb rb with ⟨_, h⟩ | ⟨h, _⟩ | ⟨h, _⟩
        · exact h
        · omega
        · omega
      have P := fun g wx h0 h1 h2 h3 => reckon3 na nb Ia Ib g wx h0 h1 h2 h3
      have P2 := fun g wx h0 h1 h2 h3 => reckon3 nb na Ib Ia g wx h0 h1 h2 h3
      have Q := fun g wx h0 h1 h2 h3 => reckon6 na nb Ia Ib g wx h0 h1 h2 h3
      have Q2 := fun g wx h0 h1 h2 h3 => reckon6 nb na Ib Ia g wx h0 h1 h2 h3
      rw [Int.mul_comm nb na] at P2
      rw [Int.add_comm nb na] at Q2
      have X := fun g wx h0 h1 h2 h3 => lessV_any 1 na ⟨#[]⟩ nb ⟨#[]⟩ ra rb (by decide) Ia Ib g wx h0 h1 h2 h3
      have Y := fun g wx h0 h1 h2 h3 => moreV_any 1 nb ⟨#[]⟩ na ⟨#[]⟩ rb ra (by decide) Ib Ia g wx h0 h1 h2 h3
      have Z := fun g wx h0 h1 h2 h3 => sameV_any 1 na ⟨#[]⟩ nb ⟨#[]⟩ ra rb Ia Ib g wx h0 h1 h2 h3
      by_cases h0 : nb = 0
      · refine laws_yes 1 na ⟨#[]⟩ nb ⟨#[]⟩ (trR (lessB 1 na ⟨#[]⟩ nb ⟨#[]⟩)) (numR (na * nb)) (numR (na + nb)) (errR 22) (errR 22) (errR 22) za zb ra rb X Y Z (fun _ => Lib.hid ⟨P, P2, Q, Q2, ?_, ?_, Or.inl ⟨h0, rfl, rfl⟩⟩) w
        · exact fun g wx e0 e1 e2 e3 => reckon45 4 na nb (Or.inl rfl) h0 g wx e0 e1 e2 e3
        · exact fun g wx e0 e1 e2 e3 => reckon45 5 na nb (Or.inr rfl) h0 g wx e0 e1 e2 e3
      · have hb0 : (nb == 0) = false := by simpa using h0
        have D := fun g wx e0 e1 e2 e3 => reckon4 na nb Ia Ib hb0 g wx e0 e1 e2 e3
        have R := fun g wx e0 e1 e2 e3 => reckon5 na nb hb0 g wx e0 e1 e2 e3
        by_cases hm : na = -9223372036854775808 ∧ nb = -1
        · have ht : ¬ I64 (na.tdiv nb) := by
            obtain ⟨rfl, rfl⟩ := hm
            rw [← inR_iff]; decide +kernel
          have e0 : na.tmod nb = 0 := by
            obtain ⟨rfl, rfl⟩ := hm
            decide +kernel
          rw [numR_f ht] at D
          rw [e0] at R
          exact laws_yes 1 na ⟨#[]⟩ nb ⟨#[]⟩ (trR (lessB 1 na ⟨#[]⟩ nb ⟨#[]⟩)) (numR (na * nb)) (numR (na + nb)) (errR 21) ⟨1, 0, ⟨#[]⟩, 0⟩ (errR 22) za zb ra rb X Y Z
            (fun _ => Lib.hid ⟨P, P2, Q, Q2, D, R, Or.inr (Or.inl ⟨hm.2, rfl, rfl⟩)⟩) w
        · have ht := tdiv_I64 na nb Ia h0 hm
          rw [numR_t ht] at D
          obtain ⟨r, e1, e2, e3, e4⟩ := tdiv_mul na nb h0
          have e6 := Int.tdiv_mul_add_tmod na nb
          obtain rfl : r = na.tmod nb := by omega
          have e5 : (na.tmod nb).natAbs ≤ na.natAbs := by rw [Int.natAbs_tmod]; exact Nat.mod_le _ _
          have hq : I64 (na.tdiv nb * nb) := by unfold I64 at *; generalize na.tdiv nb * nb = q at *; omega
          have hr : I64 (na.tmod nb) := by unfold I64 at *; omega
          have M := fun g wx e0 e1 e2 e3 => reckon3 (na.tdiv nb) nb ht Ib g wx e0 e1 e2 e3
          rw [numR_t hq] at M
          have E := fun g wx e0 e1 e2 e3 => reckon6 (na.tdiv nb * nb) (na.tmod nb) hq hr g wx e0 e1 e2 e3
          rw [show na.tdiv nb * nb + na.tmod nb = na by omega, numR_t Ia] at E
          exact laws_yes 1 na ⟨#[]⟩ nb ⟨#[]⟩ (trR (lessB 1 na ⟨#[]⟩ nb ⟨#[]⟩)) (numR (na * nb)) (numR (na + nb)) ⟨1, na.tdiv nb, ⟨#[]⟩, 0⟩ ⟨1, na.tmod nb, ⟨#[]⟩, 0⟩ ⟨1, na.tdiv nb * nb, ⟨#[]⟩, 0⟩ za zb ra rb X Y Z
            (fun _ => Lib.hid ⟨P, P2, Q, Q2, D, R, Or.inr (Or.inr ⟨hb0, rfl, rfl, M, rfl, E⟩)⟩) w
    · have Z := fun g wx h0 h1 h2 h3 => sameV_any ka na sa nb sb ra rb Ia Ib g wx h0 h1 h2 h3
      by_cases h2 : ka = 2
      · subst h2
        exact laws_yes 2 na sa nb sb (errR 20) (errR 20) (errR 20) (errR 20) (errR 20) (errR 20) za zb ra rb
          (fun g wx h0 h1 h2 h3 => reckon2_bad 8 2 na sa 2 nb sb (by decide) (by decide) g wx h0 h1 h2 h3)
          (fun g wx h0 h1 h2 h3 => reckon2_bad 10 2 nb sb 2 na sa (by decide) (by decide) g wx h0 h1 h2 h3) Z (fun e => absurd e (by decide)) w
      · exact laws_yes ka na sa nb sb (trR (lessB ka na sa nb sb)) (errR 20) (errR 20) (errR 20) (errR 20) (errR 20) za zb ra rb
          (fun g wx h0 h1 h2' h3 => lessV_any ka na sa nb sb ra rb h2 Ia Ib g wx h0 h1 h2' h3)
          (fun g wx h0 h1 h2' h3 => moreV_any ka nb sb na sa rb ra h2 Ib Ia g wx h0 h1 h2' h3) Z (fun e => absurd e h1) w
  · exact laws_no ka na sa kb nb sb za zb h w
end Go.Proofs.YtnpjphnmcpglkaaDoor
