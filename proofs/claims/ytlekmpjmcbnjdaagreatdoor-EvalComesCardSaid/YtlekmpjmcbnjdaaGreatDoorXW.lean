/- Plain: what nodes come to is right, and its number has 64 bits; or it is an error alone. No program. -/
import Derived.Test.YtlekmpjmcbnjdaaGreatDoorY8
namespace Go.Proofs.YtlekmpjmcbnjdaaGreatDoor
theorem i64_num (x : Int) : I64 (numR x).n := by
  show I64 (nN x)
  rcases h : inR x
  · rw [nN_f h]; exact i64_0
  · rw [nN_t h]; exact (inR_iff x).1 h
theorem i64_tr (b : Bool) : I64 (trR b).n := by cases b <;> first | exact i64_0 | exact i64_1
theorem i64_join (s t : ByteArray) : I64 (joinR s t).n := by
  unfold joinR
  split <;> exact i64_0
theorem i64_err (e : Int) : I64 (errR e).n := i64_0
theorem i64_tmod (a b : Int) (ha : I64 a) : I64 (a.tmod b) := by
  have h5 : (a.tmod b).natAbs ≤ a.natAbs := by rw [Int.natAbs_tmod]; exact Nat.mod_le _ _
  have h2 : a ≤ 0 → a.tmod b ≤ 0 := fun h => by
    have h1 := Int.tmod_nonneg b (a := -a) (by omega)
    rw [Int.neg_tmod] at h1
    omega
  unfold I64 at *
  omega
theorem i64_ite {c : Prop} [Decidable c] {a b : Rk} (ha : I64 a.n) (hb : I64 b.n) : I64 (if c then a else b).n := by
  by_cases h : c
  · rw [if_pos h]; exact ha
  · rw [if_neg h]; exact hb
theorem i64_rk (op k n : Int) (s : ByteArray) (n2 : Int) (s2 : ByteArray) (hn : I64 n) : I64 (rk op k n s n2 s2).n := by
  unfold rk
  repeat' (first | exact i64_join _ _ | apply i64_ite)
  all_goals first | exact i64_num _ | exact i64_tr _ | exact i64_join _ _ | exact i64_err _ | exact i64_tmod _ _ hn
/-- A right value whose number has 64 bits. -/
def SoundV (r : Rk) : Prop := r.e = 0 ∧ rightB r.k r.n r.s = true ∧ I64 r.n
def ErrA (r : Rk) : Prop := r.e ≠ 0 ∧ r = errR r.e
theorem err_a {e : Int} (h : e ≠ 0) : ErrA (errR e) := ⟨h, rfl⟩
theorem fin_sound {op : Int} {a b : Rk} (ha : SoundV a) (hb : aloneB op = false → SoundV b) : SoundV (finR op a b) ∨ ErrA (finR op a b) := by
  unfold finR
  split
  · rename_i hr
    have hi := i64_rk op a.k a.n a.s b.n b.s ha.2.2
    rcases typed_rk ha.2.1 (fun h => (hb h).2.1) hr with ⟨h1, h2, _⟩ | ⟨h1, h2⟩
    · exact .inl ⟨h1, h2, hi⟩
    · exact .inr ⟨by rcases h1 with h | h | h <;> omega, h2⟩
  · exact .inr (err_a (by decide))
structure CsGood (cs : List Cl) : Prop where
  right : ∀ c ∈ cs, rightB c.k c.n c.s = true
  n64 : ∀ c ∈ cs, I64 c.n
structure NsGood (ns : List Nd) : Prop where
  right : ∀ n ∈ ns, n.op = 0 → rightB n.k n.n ⟨n.s.toArray⟩ = true
  n64 : ∀ n ∈ ns, I64 n.n
theorem leaf_sound {cs : List Cl} {ins : List ByteArray} (hcs : CsGood cs) {n : Nd} (hr : n.op = 0 → rightB n.k n.n ⟨n.s.toArray⟩ = true) (hi : I64 n.n) : SoundV (leafR cs ins n) ∨ ErrA (leafR cs ins n) := by
  unfold leafR
  by_cases h : n.op = 0
  · rw [if_pos h]
    exact .inl ⟨rfl, hr h, hi⟩
  · rw [if_neg h]
    by_cases h16 : n.op = 16
    · rw [if_pos h16]
      cases hf : findC cs ⟨n.name.toArray⟩ with
      | none => exact .inr (err_a (by decide))
      | some c => exact .inl ⟨rfl, hcs.right c (findC_mem cs hf), hcs.n64 c (findC_mem cs hf)⟩
    · rw [if_neg h16]
      exact .inl ⟨rfl, right_tr _, i64_tr _⟩
theorem one_sound {op : Int} (ho : op = 1 ∨ op = 2) {a : Rk} (ha : SoundV a ∨ ErrA a) : SoundV (oneR op a) ∨ ErrA (oneR op a) := by
  have hal : aloneB op = true := by rcases ho with h | h <;> rw [h] <;> rfl
  unfold oneR
  rcases ha with h | h
  · rw [if_neg (fun e => e h.1)]
    exact fin_sound h (fun e => by rw [hal] at e; cases e)
  · rw [if_pos h.1]
    exact .inr (err_a h.1)
theorem two_sound {op : Int} {a b : Rk} (ha : SoundV a ∨ ErrA a) (hb : SoundV b ∨ ErrA b) : SoundV (twoR op a b) ∨ ErrA (twoR op a b) := by
  unfold twoR
  rcases ha with h | h
  · rw [if_neg (fun e => e h.1)]
    split
    · exact .inl h
    · rcases hb with g | g
      · rw [if_neg (fun e => e g.1)]
        exact fin_sound h (fun _ => g)
      · rw [if_pos g.1]
        exact .inr (err_a g.1)
  · rw [if_pos h.1]
    exact .inr (err_a h.1)
theorem ev_sound {cs : List Cl} {ins : List ByteArray} (hcs : CsGood cs) {ns : List Nd} (hns : NsGood ns) (hah : ∀ j (h : j < ns.length), Ahead j ns[j]) : ∀ (f i : Nat), i < f → i < ns.length → SoundV (evR cs ins ns f i) ∨ ErrA (evR cs ins ns f i)
  | 0, i, hf, _ => absurd hf (Nat.not_lt_zero _)
  | f + 1, i, hf, hi => by
    have ha := hah i hi
    have hm : ns[i] ∈ ns := List.getElem_mem hi
    have hr := hns.right _ hm
    have h64 := hns.n64 _ hm
    rw [evR, List.getElem?_eq_getElem hi]
    simp only
    generalize ns[i] = n at *
    by_cases hc : n.op = 0 ∨ n.op = 16 ∨ n.op = 17
    · rw [if_pos hc]
      exact leaf_sound hcs hr h64
    · rw [if_neg hc]
      have hop : 1 ≤ n.op ∧ n.op ≤ 15 := by
        rcases ha.range with h | h | h
        · exact absurd (.inl h) hc
        · exact h
        · exact absurd (.inr h) hc
      obtain ⟨a, hl, hlt⟩ := ha.l hop.1 hop.2
      rw [hl, show ((a : Int)).toNat = a from rfl]
      have i1 := ev_sound (ins := ins) hcs hns hah f a (by omega) (by omega)
      by_cases h2 : n.op ≤ 2
      · rw [if_pos h2]
        exact one_sound (by omega) i1
      · rw [if_neg h2]
        obtain ⟨b, hrr, hrt⟩ := ha.r (by omega) hop.2
        rw [hrr, show ((b : Int)).toNat = b from rfl]
        exact two_sound i1 (ev_sound hcs hns hah f b (by omega) (by omega))
theorem read_good {l : List UInt8} {ns : List Nd} (h : readT l = .ok ns) : NsGood ns :=
  ⟨right_lits (read_right h).1, fun n hn => ((read_right h).2.1 n hn).n64⟩
theorem evT_sound {cs : List Cl} {ins : List ByteArray} (hcs : CsGood cs) {l : List UInt8} {ns : List Nd} (h : readT l = .ok ns) : SoundV (evT cs ins ns) ∨ ErrA (evT cs ins ns) := by
  have hr := (read_right h).1
  have h0 := (tree_of_right hr).1
  exact ev_sound hcs (read_good h) (right_ahead hr) _ _ (by omega) (by omega)
end Go.Proofs.YtlekmpjmcbnjdaaGreatDoor

