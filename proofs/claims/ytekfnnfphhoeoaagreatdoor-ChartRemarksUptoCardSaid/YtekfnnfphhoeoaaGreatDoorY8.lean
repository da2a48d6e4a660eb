/- Several texts of this proof, joined: XP, XQ. -/
import Derived.Test.YtekfnnfphhoeoaaGreatDoorY6
import Derived.Test.YtekfnnfphhoeoaaGreatDoorZ7
/- Plain: what is read between parentheses is what is read alone: the same nodes, further behind. No program. -/
namespace Go.Proofs.YtekfnnfphhoeoaaGreatDoor
/-! ### Tokens -/
/-- What a reader sees of a token. -/
def key (t : Tk) : Int × List UInt8 × Int := (t.k, t.s, t.n)
theorem lexT_shift (b : Nat) : ∀ (m a : Nat) (l : List UInt8), lexT m (a + b) l = match lexT m a l with | .ok ts => .ok (ts.map fun t => ⟨t.k, t.s, t.n, t.a + b⟩) | .error (x, j) => .error (x, j + b)
  | 0, a, l => by
    rw [lexT, lexT]
    split
    · rfl
    · simp only
      congr 2
      omega
  | m + 1, a, l => by
    rw [lexT, lexT]
    split
    · rfl
    · rename_i c r hd
      split
      · simp only
        congr 2
        omega
      · rename_i k t n z ht
        have ih := lexT_shift b m (a + spanL blankL l + z) ((c :: r).drop z)
        rw [show a + b + spanL blankL l + z = a + spanL blankL l + z + b by omega, ih]
        cases lexT m (a + spanL blankL l + z) ((c :: r).drop z) with
        | error x => rfl
        | ok ts =>
          simp only [List.map_cons]
          congr 3
          omega
theorem lexT_key {m a b : Nat} {l : List UInt8} {ts : List Tk} (h : lexT m a l = .ok ts) : ∃ us, lexT m (a + b) l = .ok us ∧ us.map key = ts.map key := by
  refine ⟨_, by rw [lexT_shift, h], ?_⟩
  rw [List.map_map]
  rfl
/-! ### The reader within parentheses -/
section
variable {T ts : List Tk} {o w0 : Nat} {N : List Nd} {P : List Nat} {W : List Int}
end
end Go.Proofs.YtekfnnfphhoeoaaGreatDoor
/- Plain: what is read between parentheses, and what two of them with a sign between are read as. No program. -/
namespace Go.Proofs.YtekfnnfphhoeoaaGreatDoor
/-! ### As many rounds as there are -/
theorem finL_at (least : Int) : ∀ (ws : List Int) (r : Rd), (finL least ws r).at_ = r.at_ ∧ (finL least ws r).within = r.within
  | [], _ => ⟨rfl, rfl⟩
  | op :: ws, r => by
    rw [finL]
    split
    · exact ⟨rfl, rfl⟩
    · have := finL_at least ws (popOp op ws r)
      exact ⟨this.1, this.2⟩
theorem finish_at (least : Int) (r : Rd) : (finish least r).at_ = r.at_ ∧ (finish least r).within = r.within := finL_at least _ r
theorem finL_move (least : Int) (a : Nat) : ∀ (ws : List Int) (r : Rd), finL least ws { r with at_ := a } = { finL least ws r with at_ := a }
  | [], _ => rfl
  | op :: ws, r => by
    rw [finL, finL]
    split
    · rfl
    · exact finL_move least a ws (popOp op ws r)
theorem finish_move (least : Int) (a : Nat) (r : Rd) : finish least { r with at_ := a } = { finish least r with at_ := a } := finL_move least a _ r
theorem close_at (r : Rd) : (close r).at_ = r.at_ + 1 := by
  unfold close
  rw [finish_move]
theorem ahead_at {ts : List Tk} {r r' : Rd} (h : ahead ts r = some r') : r'.at_ = r.at_ + 1 ∧ r.at_ < ts.length := by
  unfold ahead at h
  split at h
  · cases h; exact ⟨rfl, tkAt_lt ‹_›⟩
  · split at h
    · cases h; exact ⟨rfl, tkAt_lt ‹_›⟩
    · split at h
      · cases h; exact ⟨rfl, tkAt_lt ‹_›⟩
      · cases h
theorem aheads_stable (T : List Tk) : ∀ (F G : Nat) (r : Rd), T.length - r.at_ < F → T.length - r.at_ < G → aheads F T r = aheads G T r
  | 0, _, _, h, _ => absurd h (Nat.not_lt_zero _)
  | _ + 1, 0, _, _, h => absurd h (Nat.not_lt_zero _)
  | F + 1, G + 1, r, h1, h2 => by
    rw [aheads, aheads]
    cases ha : ahead T r with
    | none => rfl
    | some r' =>
      obtain ⟨e, hlt⟩ := ahead_at ha
      exact aheads_stable T F G r' (by omega) (by omega)
theorem closes_stable (T : List Tk) : ∀ (F G : Nat) (r : Rd), T.length - r.at_ < F → T.length - r.at_ < G → closes F T r = closes G T r
  | 0, _, _, h, _ => absurd h (Nat.not_lt_zero _)
  | _ + 1, 0, _, _, h => absurd h (Nat.not_lt_zero _)
  | F + 1, G + 1, r, h1, h2 => by
    rw [closes, closes]
    split
    · rename_i hc
      have hlt := tkAt_lt hc.2
      have e := close_at r
      exact closes_stable T F G (close r) (by omega) (by omega)
    · rfl
theorem closes_step {T : List Tk} {r : Rd} (hT : T.length < 128) (h : 0 < r.within ∧ tkAt T r.at_ [41] = true) : closes 128 T r = closes 128 T (close r) := by
  have e : closes 128 T r = closes 127 T (close r) := by
    show closes (127 + 1) T r = _
    rw [closes, if_pos h]
  have hlt := tkAt_lt h.2
  have := close_at r
  rw [e]
  exact closes_stable T 127 128 _ (by omega) (by omega)
theorem closes_stop {T : List Tk} {r : Rd} (h : ¬ (0 < r.within ∧ tkAt T r.at_ [41] = true)) : closes 128 T r = r := by
  show closes (127 + 1) T r = _
  rw [closes, if_neg h]
theorem whole_stable (T : List Tk) : ∀ (F G : Nat) (r : Rd), Good 0 T r → T.length - r.at_ < F → T.length - r.at_ < G → whole F T r = whole G T r
  | 0, _, _, _, h, _ => absurd h (Nat.not_lt_zero _)
  | _ + 1, 0, _, _, _, h => absurd h (Nat.not_lt_zero _)
  | F + 1, G + 1, r, g, h1, h2 => by
    rw [whole, whole]
    cases ho : one T r with
    | none => rfl
    | some r1 =>
      obtain ⟨g1, e1⟩ := one_good g ho
      obtain ⟨m1, _⟩ := more_good g1
      simp only
      cases hm : more T r1 with
      | mk b r2 =>
        rw [hm] at m1
        cases b with
        | true =>
          obtain ⟨g2, e2⟩ := m1 rfl
          simp only at g2 e2
          have := g1.at_
          exact whole_stable T F G r2 g2 (by omega) (by omega)
        | false => rfl
/-- What goes on behind a part. -/
def contW (f : Nat) (T : List Tk) (r1 : Rd) : Option Rd :=
  match more T r1 with
  | (true, r2) => whole f T r2
  | (false, r2) => if (finish 1 r2).within = 0 then some (finish 1 r2) else none
theorem whole_step {f : Nat} {T : List Tk} {r r1 : Rd} (h : one T r = some r1) : whole (f + 1) T r = contW f T r1 := by
  rw [whole, h]
  rfl
section
variable {T ts : List Tk} {o w0 : Nat} {N : List Nd} {P : List Nat} {W : List Int}
theorem close_eq (r : Rd) : close r = ⟨r.at_ + 1, (finish 1 r).nodes, (finish 1 r).parts, (finish 1 r).wait.tail, r.within - 1⟩ := by
  unfold close
  rw [finish_move]
end
end Go.Proofs.YtekfnnfphhoeoaaGreatDoor
