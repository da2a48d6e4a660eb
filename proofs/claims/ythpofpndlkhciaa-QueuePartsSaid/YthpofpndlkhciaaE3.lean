/- Plain: timers in their order. No program. -/
import Derived.Test.YthpofpndlkhciaaChecked
import Derived.Test.YthpofpndlkhciaaG0
import Derived.WalkKit
import Derived.ProofKit
import Derived.OpenShut
import Derived.Handy
import Derived.BigQuiet
import Derived.Lib.Hide
import Derived.WalkLawsBesides
namespace Go.Proofs.Ythpofpndlkhciaa
structure Tm where
  due : Int
  seq : Int
  name : ByteArray
/-- Due ahead of another one. -/
def ahT (a b : Tm) : Bool := decide (a.due < b.due) || (a.due == b.due) && decide (a.seq < b.seq)
/-- With a further one: behind those that it isn't ahead of. -/
def armT (l : List Tm) (t : Tm) : List Tm := (l.filter fun x => !ahT t x) ++ t :: l.filter fun x => ahT t x
/-- The same, as it is looked for: ahead of the first one that it is ahead of. -/
def insTm (t : Tm) : List Tm → List Tm
  | [] => [t]
  | x :: r => if ahT t x then t :: x :: r else x :: insTm t r
def cancelT (l : List Tm) (nm : ByteArray) : List Tm := l.filter fun x => !decide (x.name = nm)
def dueT (l : List Tm) (now : Int) : List Tm := l.filter fun x => decide (x.due ≤ now)
def leftT (l : List Tm) (now : Int) : List Tm := l.filter fun x => !decide (x.due ≤ now)
def SortT (l : List Tm) : Prop := l.Pairwise fun a b => ahT b a = false
theorem ah_due {a b : Tm} (h : ahT b a = false) : a.due ≤ b.due := by
  unfold ahT at h
  simp only [Bool.or_eq_false_iff, decide_eq_false_iff_not] at h
  omega
theorem ah_trans {a b c : Tm} (h1 : ahT b a = false) (h2 : ahT c b = false) : ahT c a = false := by
  unfold ahT at h1 h2 ⊢
  simp only [Bool.or_eq_false_iff, Bool.and_eq_false_iff, decide_eq_false_iff_not, beq_eq_false_iff_ne] at h1 h2 ⊢
  refine ⟨by omega, ?_⟩
  by_cases e : c.due = a.due
  · right
    rcases h1.2 with h | h <;> rcases h2.2 with k | k <;> omega
  · exact .inl e
theorem ah_not {a b : Tm} (h : ahT a b = true) : ahT b a = false := by
  unfold ahT at h ⊢
  simp only [Bool.or_eq_true, Bool.and_eq_true, decide_eq_true_eq, beq_iff_eq, Bool.or_eq_false_iff, Bool.and_eq_false_iff, decide_eq_false_iff_not, beq_eq_false_iff_ne] at h ⊢
  omega
theorem ah_after {t x y : Tm} (h1 : ahT t x = true) (h2 : ahT y x = false) : ahT t y = true := by
  unfold ahT at h1 h2 ⊢
  simp only [Bool.or_eq_true, Bool.and_eq_true, decide_eq_true_eq, beq_iff_eq, Bool.or_eq_false_iff, Bool.and_eq_false_iff, decide_eq_false_iff_not, beq_eq_false_iff_ne] at h1 h2 ⊢
  omega
theorem ins_arm {t : Tm} : ∀ {l : List Tm}, SortT l → insTm t l = armT l t
  | [], _ => rfl
  | x :: r, h => by
    have h' := List.pairwise_cons.1 h
    rw [insTm]
    cases hx : ahT t x with
    | true =>
      have hr : ∀ y ∈ r, ahT t y = true := fun y hy => ah_after hx (h'.1 y hy)
      rw [if_pos rfl]
      unfold armT
      rw [List.filter_cons_of_neg (by rw [hx]; decide), List.filter_cons_of_pos hx, List.filter_eq_nil_iff.2 (fun y hy => by rw [hr y hy]; decide), List.filter_eq_self.2 hr]
      rfl
    | false =>
      rw [if_neg Bool.false_ne_true, ins_arm h'.2]
      unfold armT
      rw [List.filter_cons_of_pos (by rw [hx]; rfl), List.filter_cons_of_neg (by rw [hx]; decide)]
      rfl
theorem arm_sort {l : List Tm} {t : Tm} (h : SortT l) : SortT (armT l t) := by
  unfold SortT armT at *
  rw [List.pairwise_append, List.pairwise_cons]
  refine ⟨h.filter _, ⟨fun y hy => ?_, h.filter _⟩, fun a ha b hb => ?_⟩
  · exact ah_not (List.mem_filter.1 hy).2
  · have h1 : ahT t a = false := by simpa using (List.mem_filter.1 ha).2
    rcases List.mem_cons.1 hb with rfl | hb
    · exact h1
    · have h2 := (List.mem_filter.1 hb).2
      cases hba : ahT b a with
      | false => rfl
      | true =>
        have := ah_trans h1 (ah_not h2)
        rw [hba] at this
        cases this
theorem due_two {l : List Tm} (h : SortT l) {now more : Int} (hm : now ≤ more) : dueT l now ++ dueT (leftT l now) more = dueT l more := by
  unfold SortT dueT leftT at *
  induction l with
  | nil => rfl
  | cons x r ih =>
    have h' := List.pairwise_cons.1 h
    have ih := ih h'.2
    by_cases h1 : x.due ≤ now
    · rw [List.filter_cons_of_pos (by simpa using h1), List.filter_cons_of_neg (by simpa using h1), List.filter_cons_of_pos (by simpa using Int.le_trans h1 hm), List.cons_append, ih]
    · have hn : r.filter (fun x => decide (x.due ≤ now)) = [] := by
        rw [List.filter_eq_nil_iff]
        intro y hy
        have := ah_due (h'.1 y hy)
        simp
        omega
      rw [hn, List.nil_append] at ih
      rw [List.filter_cons_of_neg (by simpa using h1), hn, List.nil_append, List.filter_cons_of_pos (by simpa using h1)]
      by_cases h2 : x.due ≤ more
      · rw [List.filter_cons_of_pos (by simpa using h2), List.filter_cons_of_pos (by simpa using h2), ih]
      · rw [List.filter_cons_of_neg (by simpa using h2), List.filter_cons_of_neg (by simpa using h2), ih]
theorem left_two {l : List Tm} {now more : Int} (hm : now ≤ more) : leftT (leftT l now) more = leftT l more := by
  unfold leftT
  rw [List.filter_filter]
  refine List.filter_congr fun x _ => ?_
  by_cases h : x.due ≤ more
  · simp [h]
  · have : ¬ x.due ≤ now := by omega
    simp [h, this]
end Go.Proofs.Ythpofpndlkhciaa

