/- A set's numbers, one by one: the function that is ranged over. -/
import Derived.Test.YtniecghigmgbnaaDoorB3
import Derived.Test.YtniecghigmgbnaaDoorB5
import Derived.Test.YtniecghigmgbnaaDoorSH
import Derived.Test.YtniecghigmgbnaaDoorDG
import Derived.Laws.Bits64b
import Derived.Lib.TrailingZeros
import Derived.Lib.LaidTab
import Derived.Shelf.Spec.TrailingZeros
namespace Go.Proofs.YtniecghigmgbnaaDoor
open Go.RowKit
/-- The library's table for the least bit holds what its text lays. -/
def Db (w : World) : Prop := ∀ j, j < 64 → w.cell? ⟨0, j, none⟩ = some (.int .u8 ((Lib.deBruijn64tab.getD j 0 : Nat) : Int))
theorem db_below {w w' : World} (h : Db w) (hb : Below w.heap.size w w') : Db w' := fun j hj => by
  have h1 := h j hj
  exact (hb.cell (p := ⟨_, j, none⟩) (World.block_lt_of_cell? _ _ h1)).trans h1
set_option maxHeartbeats 1000000 in
theorem tz_core (x k idx : Nat) (w : World) (hx0 : ((x : Int) == 0) = false)
    (key : IntKind.u64.wrap (bits BinOp.and IntKind.u64 (x : Int) (IntKind.u64.wrap (-(x : Int))) * 285870213051353865) / 288230376151711744 = (idx : Int))
    (hi : idx < 64) (hk : k < 64) (hcell : w.cell? ⟨0, idx, none⟩ = some (.int .u8 k)) :
    Calls Tryd.prog 31 #[.int .u64 x] w (RetW (.int .i64 k) w) := by
  have hI : (idx : Int) < 64 := by omega
  go_enter Tryd.func31, Tryd.ntmps31
  go_wp2_with (simp only [key])
  go_returns
  exact ⟨rfl, rfl⟩
theorem tz_any (x : Nat) (h0 : x ≠ 0) (hx : x < 2 ^ 64) (w : World) (hT : Db w) : Calls Tryd.prog 31 #[.int .u64 (x : Int)] w (RetW (.int .i64 (Lib.ctz 64 x : Int)) w) := by
  obtain ⟨hlow, hk⟩ := Lib.lowest_bit 64 x h0 hx
  obtain ⟨hi, htab⟩ := Lib.deBruijn64_at _ hk
  refine tz_core x (Lib.ctz 64 x) _ w (by simpa using h0) (tz64_key x _ hx h0 hlow) hi hk ?_
  have := hT _ hi
  rw [htab] at this
  exact this
theorem first_any (x : Nat) (h0 : x ≠ 0) (hx : x < 2 ^ 64) (w : World) (hT : Db w) : Calls Tryd.prog 22 #[.int .u64 (x : Int)] w (RetW (.int .i64 (Lib.ctz 64 x : Int)) w) := by
  have A := Lib.hid (fun wx (e : wx = w) => tz_any x h0 hx wx (e ▸ hT))
  have e : ((x : Int) == 0) = false := by simpa using h0
  generalize Lib.ctz 64 x = k at *
  replace h0 := Lib.hid h0
  clear hT
  go_enter Tryd.func22, Tryd.ntmps22
  go_wp2_with (first | ((with_reducible refine (A.out _ rfl).mono ?_); rintro e w1 ⟨rfl, rfl⟩))
  go_returns
  exact ⟨rfl, rfl⟩
theorem first_none (w : World) : Calls Tryd.prog 22 #[.int .u64 0] w (RetW (.int .i64 (-1)) w) := by
  go_enter Tryd.func22, Tryd.ntmps22
  go_wp2
  go_returns
  exact ⟨rfl, rfl⟩
theorem last_any (x : Nat) (h0 : x ≠ 0) (hx : x < 2 ^ 64) (w : World) : Calls Tryd.prog 33 #[.int .u64 (x : Int)] w (RetW (.int .i64 ((Lib.bitLen x - 1 : Nat) : Int)) w) := by
  obtain ⟨h1, h2⟩ := bitLen_pos x h0 hx
  have A : ∀ wx, Calls Tryd.prog 40 #[.int .u64 (x : Int)] wx (RetW (.int .i64 (Lib.bitLen x : Int)) wx) := fun wx => (Any.bits_Len64 Tryd.lays129 (x : Int) wx (by omega) (by omega)).mono fun e w' h => ⟨by rw [h.1, Int.toNat_natCast], h.2.symm⟩
  replace A := Lib.hid A
  have e1 : wrap64 ((Lib.bitLen x : Int) - 1) = ((Lib.bitLen x - 1 : Nat) : Int) := by unfold wrap64; omega
  generalize Lib.bitLen x - 1 = m at *
  generalize Lib.bitLen x = k at *
  clear h0 h1 h2
  go_enter Tryd.func33, Tryd.ntmps33
  go_wp2_with ((with_reducible refine (A.out _).mono ?_); rintro e w1 ⟨rfl, rfl⟩)
  go_returns
  exact ⟨congrArg (fun z => Ending.returned (Value.int .i64 z)) e1, rfl⟩
/-- From a set a list comes, one after the other: nx tells the next one. -/
def RunsT (nx : Nat → Nat) : Nat → List Nat → Prop
  | t, [] => t = 0
  | t, k :: r => t ≠ 0 ∧ t < 2 ^ 64 ∧ nx t = k ∧ (numsS (lessS t (oneS k))).length < (numsS t).length ∧ RunsT nx (lessS t (oneS k)) r
theorem nums_none {s : Nat} (hs : s < 2 ^ 64) (h : numsS s = []) : s = 0 := by
  rcases Nat.eq_zero_or_pos s with e | e
  · exact e
  · rw [nums_first s (by omega) hs] at h
    cases h
theorem runs_up : ∀ (l : List Nat) (s : Nat), s < 2 ^ 64 → numsS s = l → RunsT (Lib.ctz 64) s l
  | [], s, hs, h => nums_none hs h
  | k :: r, s, hs, h => by
    have h0 : s ≠ 0 := fun e => by
      subst e
      rw [show numsS 0 = [] from numsF_zero 64 0] at h
      cases h
    have h1 := nums_first s h0 hs
    rw [h] at h1
    obtain ⟨h2, h3⟩ := List.cons.inj h1
    refine ⟨h0, hs, h2.symm, ?_, runs_up r _ (lessS_lt _ hs) (by rw [h2, ← h3])⟩
    rw [h, h2, ← h3, List.length_cons]
    omega
theorem runs_down : ∀ (l : List Nat) (s : Nat), s < 2 ^ 64 → (numsS s).reverse = l → RunsT (fun t => Lib.bitLen t - 1) s l
  | [], s, hs, h => nums_none hs (List.reverse_eq_nil_iff.1 h)
  | k :: r, s, hs, h => by
    have h0 : s ≠ 0 := fun e => by
      subst e
      rw [show numsS 0 = [] from numsF_zero 64 0] at h
      cases h
    have hb := bitLen_pos s h0 hs
    have h1 := nums_last s h0 hs
    have ek : ((Lib.bitLen s : Int) - 1) = ((Lib.bitLen s - 1 : Nat) : Int) := by omega
    rw [ek] at h1
    have h4 := h
    rw [h1, List.reverse_append, List.reverse_cons, List.reverse_nil, List.nil_append, List.cons_append, List.nil_append] at h4
    obtain ⟨h2, h3⟩ := List.cons.inj h4
    refine ⟨h0, hs, h2, ?_, runs_down r _ (lessS_lt _ hs) (by rw [← h2, ← h3])⟩
    rw [← h2]
    conv => rhs; rw [h1]
    rw [List.length_append]
    simp
theorem runs_len (nx : Nat → Nat) : ∀ (l : List Nat) (t : Nat), RunsT nx t l → t < 2 ^ 64
  | [], t, h => by rw [show t = 0 from h]; decide
  | _ :: _, _, h => h.2.1
theorem runs_zero {nx : Nat → Nat} {l : List Nat} (h : RunsT nx 0 l) : l = [] := by
  cases l with
  | nil => rfl
  | cons k r => exact absurd rfl h.1
attribute [local go_sem] Oper.semAt_some
/-- What the function that is ranged over wants. -/
structure TkAt (f : FuncId) (s b c : Nat) (w : World) : Prop where
  set : Cell1 w b (.int .u64 (s : Int)) 23
  nx : Cell1 w c (.func (.func f) #[] #[]) 52
  tab : Db w
theorem tkAt_keep {f : FuncId} {s b c : Nat} {w w' : World} (h : TkAt f s b c w) (hb : Below w.heap.size w w') : TkAt f s b c w' := ⟨cell1_keep h.set hb, cell1_keep h.nx hb, db_below h.tab hb⟩
def natsA (l : List Nat) : List (Array Value) := l.map fun n : Nat => #[Value.int .i64 (n : Int)]
theorem natsA_at {l : List Nat} {j : Nat} (hj : j < (natsA l).length) : (natsA l)[j] = #[Value.int .i64 ((l[j]'(by simpa [natsA] using hj) : Nat) : Int)] := by simp [natsA]
set_option maxRecDepth 100000 in
set_option maxHeartbeats 4000000 in
theorem taken_in (n b c s : Nat) (f : FuncId) (hcf : ∀ a wx, (callFunc f a).run Tryd.prog wx = .ok (.enter f a) wx) (nx : Nat → Nat) (ks : List Nat) (hR : RunsT nx s ks)
    (hN : ∀ (t : Nat) wx, t ≠ 0 → t < 2 ^ 64 → Db wx → Calls Tryd.prog f #[.int .u64 (t : Int)] wx (RetW (.int .i64 (nx t : Int)) wx)) :
    GivesL n 39 #[.pointer (some ⟨b, 0, none⟩), .pointer (some ⟨c, 0, none⟩)] (natsA ks) (TkAt f s b c) := by
  intro l J Jx hJ hY W h0
  have hYh := Lib.hid hY
  have hJh := Lib.hid hJ
  have hNh := Lib.hid hN
  have hlen : (natsA ks).length = ks.length := by simp [natsA]
  rw [hlen]
  clear hY hJ hN hlen
  refine callsIn_of_wp Tryd.func39 rfl trivial ?_ rfl
  show Code.wpIn _ _ _ _ _ { tmps := #[.func (.yield l) #[] #[], .pointer (some ⟨b, 0, none⟩), .pointer (some ⟨c, 0, none⟩)] ++ _, defers := [] } _
  simp only [Tryd.ntmps39, List.size_toArray, List.length_cons, List.length_nil, Nat.reduceAdd, Nat.reduceSub, Array.replicate_succ, Array.replicate_zero, List.push_toArray, List.append_toArray, List.nil_append, List.cons_append]
  obtain ⟨cb, fb, lb⟩ := one_cells (hJh.out _ _ h0).set
  have hd : Hid (ks.drop 0 = ks) := Lib.hid List.drop_zero
  gi_wp2
  clear cb fb lb
  gi_loopw [4] (fun x wr => ∃ (j t : Nat), x = .int .u64 (t : Int) ∧ j ≤ ks.length ∧ Hid (RunsT nx t (ks.drop j)) ∧ J j wr) (fun x _ => (numsS (intOf x).toNat).length)
  case atStart => exact ⟨0, s, rfl, Nat.zero_le _, Lib.hid (by rw [hd.out]; exact hR), h0⟩
  case round =>
    obtain ⟨j, t, rfl, hj, hr, hJs⟩ := hrel
    rename World => wr
    have hk := hJh.out _ _ hJs
    obtain ⟨cc, fc, lc⟩ := one_cells hk.nx
    rcases Nat.lt_or_ge j ks.length with hlt | hge
    · have hr' := hr.out
      rw [List.drop_eq_getElem_cons hlt] at hr'
      obtain ⟨t0, t1, t2, t3, t4⟩ := hr'
      have hA := hNh.out t wr t0 t1 hk.tab
      rw [t2] at hA
      replace hA := Lib.hid hA
      have hY' := hYh.out j (by simpa [natsA] using hlt) wr hJs
      rw [natsA_at] at hY'
      have hI : ((t : Int) != 0) = true := by simpa using t0
      generalize hkk : ks[j] = k at *
      obtain ⟨fn, tmps, assign, body, hy, hR2⟩ := hY'
      have hO := Lib.hid (fun wx => one_any (k : Int) wx)
      have hL := Lib.hid (fun wx => lessS_any t (oneS (k : Int)) t1 (oneS_lt _) wx)
      generalize lessS t (oneS (k : Int)) = t' at *
      generalize oneS (k : Int) = o at *
      replace t0 := Lib.hid t0
      clear hr hkk
      gi_wp2_with fail
      refine ⟨trivial, (fun h => by cases h), (callsIn_wide.2 hA.out).mono ?_⟩
      rintro e w1 ⟨rfl, rfl⟩
      gi_wp2_with fail
      refine ⟨fun h => (by cases h), hR2.mono ?_⟩
      rintro e W' (⟨rfl, hJ'⟩ | ⟨rfl, hJx⟩)
      · gi_wp2_with (refine ⟨trivial, (fun h => by cases h), ?_⟩; first | ((with_reducible refine (callsIn_wide.2 (hO.out _)).mono ?_); rintro e w1 ⟨rfl, rfl⟩) | ((with_reducible refine (callsIn_wide.2 (hL.out _)).mono ?_); rintro e w1 ⟨rfl, rfl⟩))
        go_roundw
        case rel => exact ⟨j + 1, t', rfl, by omega, Lib.hid t4, hJ'⟩
        case measure => simp [intOf]; omega
      · gi_wp2
        refine bodyPost_ret (results_none rfl _ _ _) rfl ?_
        exact ⟨⟨_, rfl⟩, .inr ⟨j, hlt, hJx⟩⟩
    · obtain rfl : j = ks.length := by omega
      have hr' := hr.out
      rw [List.drop_of_length_le (Nat.le_refl _)] at hr'
      obtain rfl : t = 0 := hr'
      clear hr
      gi_wp2
      go_end0
      exact ⟨⟨_, rfl⟩, .inl hJs⟩
end Go.Proofs.YtniecghigmgbnaaDoor

