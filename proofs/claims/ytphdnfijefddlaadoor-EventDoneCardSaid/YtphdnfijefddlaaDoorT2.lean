import Derived.Test.YtphdnfijefddlaaDoorT1
import Derived.WalkKit
import Derived.ProofKit
import Derived.OpenShut
import Derived.Handy
import Derived.BigQuiet
import Derived.Lib.Hide
import Derived.WalkSmall
import Derived.WalkLawsBesides
namespace Go.Proofs.YtphdnfijefddlaaDoor
open Go.RowKit
theorem dig_nat {c : UInt8} (h : digB c = true) : 48 ≤ c.toNat ∧ c.toNat ≤ 57 := by
  simp only [digB, Bool.and_eq_true, decide_eq_true_eq] at h
  omega
theorem span_digits : ∀ l : List UInt8, ∀ c ∈ l.take (spanL digL l), digB c = true
  | [], c, h => by simp at h
  | d :: r, c, h => by
    cases hd : digB d
    · rw [span_no (p := digL) hd] at h; simp at h
    · rw [span_yes (p := digL) hd, List.take_succ_cons, List.mem_cons] at h
      rcases h with rfl | h
      · exact hd
      · exact span_digits r c h
def valF (acc : Nat) (l : List UInt8) : Nat := l.foldl (fun a c => a * 10 + (c.toNat - 48)) acc
theorem valF_ge : ∀ (l : List UInt8) (acc : Nat), acc ≤ valF acc l
  | [], acc => Nat.le_refl _
  | c :: r, acc => by
    have := valF_ge r (acc * 10 + (c.toNat - 48))
    show acc ≤ valF (acc * 10 + (c.toNat - 48)) r
    omega
theorem byte48 (c : UInt8) : ((c.toNat : Int) == 48) = (c == 48) := byte_eq c 48 (by decide)
def leadB (t : ByteArray) : Bool := decide (1 < t.size) && t.data.toList.head? == some 48
theorem numT_lead (s : ByteArray) (a z : Nat) (hz : spanL digL (s.data.toList.drop a) = z) (t : ByteArray) (ht : s.extract a (a + z) = t) (h : leadB t = true) : numT (s.data.toList.drop a) = .error 11 := by
  subst ht
  unfold numT
  simp only [hz, ← take_data, ← Lib.size_eq]
  unfold leadB at h
  rw [if_pos h]
theorem numT_over (s : ByteArray) (a z : Nat) (hz : spanL digL (s.data.toList.drop a) = z) (t : ByteArray) (ht : s.extract a (a + z) = t) (h : leadB t = false) (hv : 9223372036854775807 < valL t.data.toList) : numT (s.data.toList.drop a) = .error 21 := by
  subst ht
  unfold numT
  simp only [hz, ← take_data, ← Lib.size_eq]
  unfold leadB at h
  rw [h, if_neg (by decide), if_pos hv]
theorem numT_ok (s : ByteArray) (a z : Nat) (hz : spanL digL (s.data.toList.drop a) = z) (t : ByteArray) (ht : s.extract a (a + z) = t) (hl : t.size = z) (h : leadB t = false) (hv : ¬ 9223372036854775807 < valL t.data.toList) :
    numT (s.data.toList.drop a) = .ok (3, t.data.toList, valL t.data.toList, z) := by
  subst ht
  unfold numT
  simp only [hz, ← take_data, ← Lib.size_eq, hl]
  unfold leadB at h
  rw [hl] at h
  rw [h, if_neg (by decide), if_neg hv]
def CutIs (l : List UInt8) (w : World) (e : Ending) (w' : World) : Prop := ∃ y, e = .returned (.tuple #[.string ⟨(Lib.cut l [39]).1.toArray⟩, .string y, .bool (Lib.cut l [39]).2.2]) ∧ Below w.heap.size w w'
theorem CutIs.out {l : List UInt8} {w : World} {e : Ending} {w' : World} (h : CutIs l w e w') : ∃ y p, e = .returned (.tuple #[.string ⟨(Lib.cut l [39]).1.toArray⟩, .string y, .bool (Lib.cut l [39]).2.2]) ∧ w' = G p w := by
  obtain ⟨y, he, hb⟩ := h
  obtain ⟨p, hp⟩ := toG hb
  exact ⟨y, p, he, hp⟩
end Go.Proofs.YtphdnfijefddlaaDoor

