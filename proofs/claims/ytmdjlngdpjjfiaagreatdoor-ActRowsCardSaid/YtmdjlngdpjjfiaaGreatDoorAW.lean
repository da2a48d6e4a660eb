/- What takes acts from tokens: one act. -/
import Derived.Test.YtmdjlngdpjjfiaaGreatDoorBA
import Derived.Test.YtmdjlngdpjjfiaaGreatDoorAV
import Derived.Test.YtmdjlngdpjjfiaaGreatDoorHC
import Derived.WalkKit
import Derived.ProofKit
import Derived.OpenShut
import Derived.Handy
import Derived.BigQuiet
import Derived.Lib.Hide
import Derived.WalkSmall
import Derived.WalkLawsBesides
namespace Go.Proofs.YtmdjlngdpjjfiaaGreatDoor
open Go.RowKit
abbrev actB (k iv : Value) : Obj := .cells #[k, iv, .string ⟨#[]⟩, .slice none 0 0, .int .i64 0] 38 (0, 0)
/-- While an act is taken: the taker, what will be answered, the act as far as it is taken. -/
structure OneAt (w0 w : World) (tb rb ab : Nat) (ao : Option Addr) (cap : Nat) (ts : List Tk) (k : Int) (io : Option Addr) (ic : Nat) (cond : List Nd) (a : Nat) (wx : World) : Prop where
  tkr : TkrAt w0 tb ao cap ts a wx
  res : wx.heap[rb]? = some (actB (.int .i64 0) (.slice none 0 0))
  act : wx.heap[ab]? = some (actB (.int .i64 k) (.slice io cond.length ic))
  kept : KeptA w0.heap.size tb tb w wx
  hr : w.heap.size ≤ rb
  ha : w.heap.size ≤ ab
  ne : rb ≠ ab
  ht : tb < w.heap.size
  own : wx.ownsRow w.heap.size 80 7 (.slice io cond.length ic) cond.length (ndsC cond)
section
variable {w0 w : World} {tb rb ab : Nat} {ao : Option Addr} {cap : Nat} {ts : List Tk} {k : Int} {io : Option Addr} {ic : Nat} {cond : List Nd} {a : Nat} {wx wy : World}
theorem kept_far {B tb b i : Nat} {v : Value} {w wx : World} (h : KeptA B tb tb w wx) (hb : w.heap.size ≤ b) (hB : B ≤ w.heap.size) : KeptA B tb tb w (wx.setCell ⟨b, i, none⟩ v) := by
  refine ⟨h.below.setCell (p := ⟨b, i, none⟩) (Nat.le_trans hB hb) _, ?_, fun j hj h1 h2 => ?_⟩
  · rw [size_set]; exact h.size
  · rw [Below.heap_setCell _ _ _ _ (fun e => by simp at e; omega)]
    exact h.block j hj h1 h2
theorem one_keep (h : OneAt w0 w tb rb ab ao cap ts k io ic cond a wx) (hb : Below wx.heap.size wx wy) : OneAt w0 w tb rb ab ao cap ts k io ic cond a wy :=
  ⟨tkr_keep h.tkr hb, blk_keep h.res hb, blk_keep h.act hb, keptA_trans h.kept (keptA_below hb h.tkr.env.size), h.hr, h.ha, h.ne, h.ht, owns_below h.own hb⟩
theorem one_base (h : OneAt w0 w tb rb ab ao cap ts k io ic cond a wx) : w0.heap.size ≤ w.heap.size := by
  have := h.tkr.own
  have := h.ht
  omega
theorem one_move {b : Nat} (h : OneAt w0 w tb rb ab ao cap ts k io ic cond a wx) (hle : b ≤ ts.length) (hb : Below wx.heap.size (wx.setCell ⟨tb, 1, none⟩ (.int .i64 (b : Int))) wy) : OneAt w0 w tb rb ab ao cap ts k io ic cond b wy := by
  have h1 := h.hr
  have h2 := h.ha
  have h3 := h.ht
  refine ⟨tkr_move h.tkr hle hb, blk_moved (blk_far h.res (by omega)) hb, blk_moved (blk_far h.act (by omega)) hb, keptA_trans h.kept (keptA_moved h.tkr.own h.tkr.env.size hb), h.hr, h.ha, h.ne, h.ht, ?_⟩
  have := ownsRow_setCell_other h.own (own_ne h.own h.tkr.blk (by decide)) (.int .i64 (b : Int)) (a := ⟨tb, 1, none⟩)
  exact owns_below this (by rw [size_set]; exact hb)
theorem one_tkr_far {b i : Nat} {v : Value} (h : TkrAt w0 tb ao cap ts a wx) (hb : w0.heap.size ≤ b) (hne : tb ≠ b) : TkrAt w0 tb ao cap ts a (wx.setCell ⟨b, i, none⟩ v) :=
  ⟨blk_far h.blk hne, h.own, h.le, h.env.setCell (p := ⟨b, i, none⟩) hb _⟩
/-- The condition is laid into the act. -/
theorem one_cond {no : Option Addr} {nc : Nat} {ns : List Nd} (h : OneAt w0 w tb rb ab ao cap ts k io ic cond a wx) (hn : wx.ownsRow w.heap.size 80 7 (.slice no ns.length nc) ns.length (ndsC ns)) : OneAt w0 w tb rb ab ao cap ts k no nc ns a (wx.setCell ⟨ab, 1, none⟩ (.slice no ns.length nc)) := by
  have h1 := h.ha
  have h2 := h.ht
  have h3 := one_base h
  exact ⟨one_tkr_far h.tkr (by omega) (by omega), blk_far h.res h.ne, blk_set h.act, kept_far h.kept h.ha h3, h.hr, h.ha, h.ne, h.ht, ownsRow_setCell_other hn (own_ne hn h.act (by decide)) _⟩
/-- The kind is laid into the act. -/
theorem one_kind {j : Int} (h : OneAt w0 w tb rb ab ao cap ts k io ic cond a wx) : OneAt w0 w tb rb ab ao cap ts j io ic cond a (wx.setCell ⟨ab, 0, none⟩ (.int .i64 j)) := by
  have h1 := h.ha
  have h2 := h.ht
  have h3 := one_base h
  exact ⟨one_tkr_far h.tkr (by omega) (by omega), blk_far h.res h.ne, blk_set h.act, kept_far h.kept h.ha h3, h.hr, h.ha, h.ne, h.ht, ownsRow_setCell_other h.own (own_ne h.own h.act (by decide)) _⟩
theorem one_rest {j : Nat} (hB : Base w0 ao ts) (h : OneAt w0 w tb rb ab ao cap ts (j : Int) io ic cond a wx) : RestAt w0 tb ab ao cap ts j io cond.length ic a wx := by
  have h1 := h.ha
  have h2 := h.ht
  have h3 := one_base h
  exact ⟨hB, h.tkr, h.act, by omega, by omega⟩
end
/-- Five cells of a block are written. -/
abbrev set5 (w : World) (b : Nat) (v0 v1 v2 v3 v4 : Value) : World := ((((w.setCell ⟨b, 0, none⟩ v0).setCell ⟨b, 1, none⟩ v1).setCell ⟨b, 2, none⟩ v2).setCell ⟨b, 3, none⟩ v3).setCell ⟨b, 4, none⟩ v4
theorem kept_set5 {B tb b : Nat} {w wx : World} (h : KeptA B tb tb w wx) (hb : w.heap.size ≤ b) (hB : B ≤ w.heap.size) (v0 v1 v2 v3 v4 : Value) : KeptA B tb tb w (set5 wx b v0 v1 v2 v3 v4) :=
  kept_far (kept_far (kept_far (kept_far (kept_far h hb hB) hb hB) hb hB) hb hB) hb hB
theorem blk_set5 {b c : Nat} {w : World} {o : Option Obj} (h : w.heap[b]? = o) (hne : b ≠ c) (v0 v1 v2 v3 v4 : Value) : (set5 w c v0 v1 v2 v3 v4).heap[b]? = o :=
  blk_far (blk_far (blk_far (blk_far (blk_far h hne) hne) hne) hne) hne
theorem own_set5 {w : World} {B e s n b : Nat} {v : Value} {xs : List Value} (h : w.ownsRow B e s v n xs) (hb : v.ownBlock ≠ some b) (v0 v1 v2 v3 v4 : Value) : (set5 w b v0 v1 v2 v3 v4).ownsRow B e s v n xs :=
  ownsRow_setCell_other (ownsRow_setCell_other (ownsRow_setCell_other (ownsRow_setCell_other (ownsRow_setCell_other h (a := ⟨b, 0, none⟩) hb v0) (a := ⟨b, 1, none⟩) hb v1) (a := ⟨b, 2, none⟩) hb v2) (a := ⟨b, 3, none⟩) hb v3) (a := ⟨b, 4, none⟩) hb v4
theorem kept_rest {B tb ab : Nat} {w wx wy : World} (h : KeptA B tb tb w wx) (k : KeptA B tb ab wx wy) (hab : w.heap.size ≤ ab) : KeptA B tb tb w wy :=
  ⟨h.below.trans k.below, Nat.le_trans h.size k.size, fun j hj h1 _ => (k.block j (Nat.lt_of_lt_of_le hj h.size) h1 (by omega)).trans (h.block j hj h1 h1)⟩
/-- What one act comes to. -/
def ActOneIs (B tb : Nat) (ao : Option Addr) (cap : Nat) (ts : List Tk) (x : Except Int (Ac × Nat)) (w : World) (e : Ending) (w' : World) : Prop :=
  match x with
  | .error x => e = .returned (.tuple #[.agg #[.int .i64 0, .slice none 0 0, .string ⟨#[]⟩, .slice none 0 0, .int .i64 0], .int .i64 x]) ∧ KeptA B tb tb w w'
  | .ok (c, n) => ∃ iv xv, e = .returned (.tuple #[.agg #[.int .i64 c.kind, iv, .string ⟨c.name.toArray⟩, xv, .int .i64 c.n], .int .i64 0]) ∧ KeptA B tb tb w w' ∧ w'.heap[tb]? = some (tkrB ao cap ts n) ∧
      w'.ownsRow w.heap.size 80 7 iv c.cond.length (ndsC c.cond) ∧ w'.ownsRow w.heap.size 80 7 xv c.x.length (ndsC c.x)
theorem actAt_cases (ts : List Tk) (a : Nat) : actAt ts a = 0 ∨ ∃ j : Nat, 1 ≤ j ∧ j ≤ 5 ∧ actAt ts a = (j : Int) := by
  unfold actAt
  repeat' split
  · exact .inr ⟨1, by decide, by decide, rfl⟩
  · exact .inr ⟨2, by decide, by decide, rfl⟩
  · exact .inr ⟨3, by decide, by decide, rfl⟩
  · exact .inr ⟨4, by decide, by decide, rfl⟩
  · exact .inr ⟨5, by decide, by decide, rfl⟩
  · exact .inl rfl
theorem tailA_nz {ts : List Tk} {cond : List Nd} {k : Int} {name : List UInt8} {a : Nat} {x : Int} (h : tailA ts cond k name a = .error x) : (x != 0) = true := by
  unfold tailA at h
  split at h
  · split at h
    · rename_i hp
      cases h
      exact parseT_nz hp
    · cases h
  · split at h
    · split at h
      · cases h; rfl
      · split at h
        · cases h; rfl
        · cases h
    · cases h
theorem restT_nz {ts : List Tk} {cond : List Nd} {k : Int} {a : Nat} {x : Int} (h : restT ts cond k a = .error x) : (x != 0) = true := by
  unfold restT at h
  split at h
  · exact tailA_nz h
  · split at h
    · cases h; rfl
    · exact tailA_nz h
theorem tailA_cond {ts : List Tk} {cond : List Nd} {k : Int} {name : List UInt8} {a : Nat} {c : Ac} {n : Nat} (h : tailA ts cond k name a = .ok (c, n)) : c.kind = k ∧ c.cond = cond ∧ n ≤ ts.length ∨ c.kind = k ∧ c.cond = cond ∧ n = a := by
  unfold tailA at h
  split at h
  · split at h
    · cases h
    · rename_i hp
      cases h
      exact .inl ⟨rfl, rfl, (parseT_at hp).1⟩
  · split at h
    · split at h
      · cases h
      · rename_i hn
        split at h
        · cases h
        · cases h
          exact .inl ⟨rfl, rfl, numAt_lt hn⟩
    · cases h
      exact .inr ⟨rfl, rfl, rfl⟩
theorem restT_cond {ts : List Tk} {cond : List Nd} {k : Int} {a : Nat} {c : Ac} {n : Nat} (h : restT ts cond k a = .ok (c, n)) : c.cond = cond := by
  unfold restT at h
  split at h
  · rcases tailA_cond h with h | h <;> exact h.2.1
  · split at h
    · cases h
    · rcases tailA_cond h with h | h <;> exact h.2.1
set_option maxRecDepth 100000 in
set_option maxHeartbeats 8000000 in
theorem tact_any {w0 : World} {tb : Nat} {ao : Option Addr} {cap : Nat} {ts : List Tk} {a : Nat} (hB : Base w0 ao ts) (w : World) (h : TkrAt w0 tb ao cap ts a w) :
    Calls Tryz.prog 14 #[.pointer (some ⟨tb, 0, none⟩)] w (ActOneIs w0.heap.size tb ao cap ts (oneA ts a) w) := by
  have htb := (tkr_cells h).2.2.1
  have hsz := h.env.size
  obtain ⟨x, hx⟩ : ∃ x, oneA ts a = x := ⟨_, rfl⟩
  rw [hx]
  unfold oneA at hx
  simp only [doA_rest] at hx
  replace hx := Lib.hid hx
  have T := Lib.hid (fun (t : ByteArray) b bb wx (s : TkrAt w0 tb ao cap ts b wx) (hb : tkAt ts b t.data.toList = bb) => (by rw [← hb]; exact ttakes_any t hB wx s : Calls Tryz.prog 15 #[.pointer (some ⟨tb, 0, none⟩), .string t] wx (TookIs tb bb b wx)))
  have X := Lib.hid (fun (b : Nat) x wx (s : TkrAt w0 tb ao cap ts b wx) (hb : parseT ts (b : Int) = x) => (by rw [← hb]; exact texpr_any hB wx s : Calls Tryz.prog 34 #[.pointer (some ⟨tb, 0, none⟩)] wx (TExprIs tb x wx)))
  have K0 := Lib.hid (fun (b : Nat) wx (s : TkrAt w0 tb ao cap ts b wx) (hb : actAt ts b = 0) => (by have := tkind_any hB wx s; rw [hb] at this; exact this : Calls Tryz.prog 35 #[.pointer (some ⟨tb, 0, none⟩)] wx fun e w' => e = .returned (.tuple #[.int .i64 0, .bool false]) ∧ Below wx.heap.size wx w'))
  have K1 := Lib.hid (fun (b j : Nat) wx (s : TkrAt w0 tb ao cap ts b wx) (hj : 1 ≤ j) (hb : actAt ts b = (j : Int)) => (by
    have := tkind_any hB wx s
    rw [hb] at this
    refine this.mono fun e w' hr => ?_
    obtain ⟨h1, h2⟩ := hr
    have h0 : ¬ (j : Int) = 0 := by omega
    rw [if_neg h0] at h2
    rw [show decide (((j : Nat) : Int) ≠ 0) = true from decide_eq_true h0] at h1
    exact ⟨h1, h2⟩ : Calls Tryz.prog 35 #[.pointer (some ⟨tb, 0, none⟩)] wx fun e w' => e = .returned (.tuple #[.int .i64 (j : Int), .bool true]) ∧ Below wx.heap.size (wx.setCell ⟨tb, 1, none⟩ (.int .i64 ((b + 1 : Nat) : Int))) w'))
  have S0 : OneAt w0 w tb w.heap.size (w.heap.size + 1) ao cap ts 0 none 0 [] a ((w.alloc (actB (.int .i64 0) (.slice none 0 0))).alloc (actB (.int .i64 0) (.slice none 0 0))) := by
    have hb : Below w.heap.size w ((w.alloc (actB (.int .i64 0) (.slice none 0 0))).alloc (actB (.int .i64 0) (.slice none 0 0))) := ((Below.refl _ w).alloc (Nat.le_refl _) _).alloc (by simp) _
    exact ⟨tkr_keep h hb, blk_old (heap_alloc_new w _), new_at (by simp), keptA_below hb hsz, Nat.le_refl _, by omega, by omega, htb, World.ownsRow_nil _ _ _ _⟩
  clear h
  rcases hi : tkAt ts a [105, 102] with _ | _
  · rw [hi] at hx
    go_enter Tryz.func14, Tryz.ntmps14
    go_wp2_with fail
    refine (T.out ⟨#[105, 102]⟩ a false _ S0.tkr hi).mono ?_
    intro e w1 hr
    obtain ⟨rfl, hb⟩ := hr
    have S1 := one_keep S0 (show Below _ _ w1 from hb)
    clear hb S0 hi T X
    rcases actAt_cases ts (a) with hk | ⟨j, hj1, hj5, hk⟩
    · simp only [hk, ↓reduceIte] at hx
      go_wp2_with fail
      refine (K0.out (a) _ S1.tkr hk).mono ?_
      intro e w5 hr
      obtain ⟨rfl, hb⟩ := hr
      have S5 := one_keep S1 hb
      clear hb S1 hk K0 K1
      obtain ⟨g0, g1, g2, g3, g4, hgb, hgf⟩ := five S5.res
      have r0 := hgf 0
      have r1 := hgf 1
      have r2 := hgf 2
      have r3 := hgf 3
      have r4 := hgf 4
      have i2 := InW.mk hgb
      have e0 := hasC_of g0
      have e1 := hasC_of g1
      have e2 := hasC_of g2
      have e3 := hasC_of g3
      have e4 := hasC_of g4
      have hK := Lib.hid (kept_set5 S5.kept S5.hr hsz)
      clear hgf S5
      go_wp2
      go_returns
      rw [← hx.out]
      exact ⟨rfl, hK.out _ _ _ _ _⟩
    · have hka := actAt_lt (show ¬ actAt ts (a) = 0 by omega)
      have hj0 : ¬ (j : Int) = 0 := by omega
      simp only [hk, if_neg hj0] at hx
      go_wp2_with fail
      refine (K1.out (a) j _ S1.tkr hj1 hk).mono ?_
      intro e w5 hr
      obtain ⟨rfl, hb⟩ := hr
      have S5 := one_move S1 hka hb
      clear hb S1 hk K0 K1
      have S6 := Lib.hid (one_kind (j := (j : Int)) S5)
      obtain ⟨d0, d1, d2, d3, d4, hdb, hdf⟩ := five S5.act
      obtain ⟨g0, g1, g2, g3, g4, hgb, hgf⟩ := five S5.res
      have q0 := hdf 0
      have q1 := hdf 1
      have i1 := InW.mk hdb
      have i2 := InW.mk hgb
      clear S5
      go_wp2_with fail
      clear d0 d1 d2 d3 d4 g0 g1 g2 g3 g4 hdf hgf q1 q0 hdb hgb i1 i2
      replace S6 := S6.out
      rcases hre : restT ts [] (j : Int) (a + 1) with x1 | ⟨c, n6⟩
      · have R := rest_any hj1 hj5 [] _ (one_rest hB S6)
        rw [hre] at R hx
        have hnz := restT_nz hre
        refine R.mono ?_
        intro e w7 hr
        obtain ⟨rfl, hK7⟩ := hr
        have hR7 := keptA_blk hK7 S6.res (by have := S6.hr; have := S6.ht; omega) S6.ne
        have hk7 := kept_rest S6.kept hK7 S6.ha
        have hr6 := S6.hr
        clear hK7 R hre S6
        obtain ⟨g0, g1, g2, g3, g4, hgb, hgf⟩ := five hR7
        have r0 := hgf 0
        have r1 := hgf 1
        have r2 := hgf 2
        have r3 := hgf 3
        have r4 := hgf 4
        have i2 := InW.mk hgb
        have e0 := hasC_of g0
        have e1 := hasC_of g1
        have e2 := hasC_of g2
        have e3 := hasC_of g3
        have e4 := hasC_of g4
        have hK := Lib.hid (kept_set5 hk7 hr6 hsz)
        clear hgf hk7 hR7
        go_wp2
        go_returns
        rw [← hx.out]
        exact ⟨rfl, hK.out _ _ _ _ _⟩
      · have hcc := restT_cond hre
        have R := rest_any hj1 hj5 [] _ (one_rest hB S6)
        rw [hre] at R hx
        refine R.mono ?_
        intro e w7 hr
        obtain ⟨xo, xc, rfl, hK7, hT7, hA7, hX7⟩ := hr
        have hR7 := keptA_blk hK7 S6.res (by have := S6.hr; have := S6.ht; omega) S6.ne
        have hk7 := kept_rest S6.kept hK7 S6.ha
        have hr6 := S6.hr
        have ht6 := S6.ht
        have hsx := S6.kept.size
        have hI7 := owns_keptA S6.own hK7 (own_ne S6.own S6.tkr.blk (by decide)) (own_ne S6.own S6.act (by decide))
        have hI8 := Lib.hid (own_set5 hI7 (own_ne hI7 hR7 (by decide)))
        have hX8 := Lib.hid (own_set5 (owns_base hX7 hsx) (own_ne hX7 hR7 (by decide)))
        have hT8 := Lib.hid (blk_set5 (c := w.heap.size) hT7 (by omega))
        clear hK7 R hre S6
        obtain ⟨g0, g1, g2, g3, g4, hgb, hgf⟩ := five hR7
        obtain ⟨d0, d1, d2, d3, d4, hdb, hdf⟩ := five hA7
        have r0 := hgf 0
        have r1 := hgf 1
        have r2 := hgf 2
        have r3 := hgf 3
        have r4 := hgf 4
        have i1 := InW.mk hdb
        have i2 := InW.mk hgb
        have e0 := hasC_of g0
        have e1 := hasC_of g1
        have e2 := hasC_of g2
        have e3 := hasC_of g3
        have e4 := hasC_of g4
        have hK := Lib.hid (kept_set5 hk7 hr6 hsz)
        clear hgf hk7 hR7 hdf hA7 hI7 hX7 hT7
        go_wp2
        go_returns
        rw [← hx.out]
        show ∃ iv xv, _
        rw [hcc]
        exact ⟨_, _, rfl, hK.out _ _ _ _ _, hT8.out _ _ _ _ _, hI8.out _ _ _ _ _, hX8.out _ _ _ _ _⟩
  · rw [hi] at hx
    have hi2 := tkAt_lt hi
    rcases hp : parseT ts ((a + 1 : Nat) : Int) with x1 | ⟨ns, n⟩
    · rw [hp] at hx
      have hnz := parseT_nz hp
      go_enter Tryz.func14, Tryz.ntmps14
      go_wp2_with fail
      refine (T.out ⟨#[105, 102]⟩ a true _ S0.tkr hi).mono ?_
      intro e w1 hr
      obtain ⟨rfl, hb⟩ := hr
      have S1 := one_move S0 hi2 (show Below _ _ w1 from hb)
      clear hb S0 hi T K0 K1
      go_wp2_with fail
      refine (X.out (a + 1) _ _ S1.tkr hp).mono ?_
      intro e w2 hr
      obtain ⟨rfl, hb⟩ := hr
      have S2 := one_keep S1 hb
      clear hb S1 hp X
      obtain ⟨g0, g1, g2, g3, g4, hgb, hgf⟩ := five S2.res
      have r0 := hgf 0
      have r1 := hgf 1
      have r2 := hgf 2
      have r3 := hgf 3
      have r4 := hgf 4
      have i2 := InW.mk hgb
      have e0 := hasC_of g0
      have e1 := hasC_of g1
      have e2 := hasC_of g2
      have e3 := hasC_of g3
      have e4 := hasC_of g4
      have hK := Lib.hid (kept_set5 S2.kept S2.hr hsz)
      clear hgf S2
      go_wp2
      go_returns
      rw [← hx.out]
      exact ⟨rfl, hK.out _ _ _ _ _⟩
    · obtain ⟨hn1, _⟩ := parseT_at hp
      rw [hp] at hx
      rcases hc : tkAt ts n [58] with _ | _
      · simp only [hc] at hx
        go_enter Tryz.func14, Tryz.ntmps14
        go_wp2_with fail
        refine (T.out ⟨#[105, 102]⟩ a true _ S0.tkr hi).mono ?_
        intro e w1 hr
        obtain ⟨rfl, hb⟩ := hr
        have S1 := one_move S0 hi2 (show Below _ _ w1 from hb)
        clear hb S0 hi K0 K1
        go_wp2_with fail
        refine (X.out (a + 1) _ _ S1.tkr hp).mono ?_
        intro e w2 hr
        obtain ⟨v, rfl, hown, hb⟩ := hr
        have S2 := one_move S1 hn1 hb
        obtain ⟨no, nc, hv⟩ := own_form hown
        subst hv
        clear hb S1 hp X hown
        go_wp2_with fail
        refine (T.out ⟨#[58]⟩ n false _ S2.tkr hc).mono ?_
        intro e w3 hr
        obtain ⟨rfl, hb⟩ := hr
        have S3 := one_keep S2 (show Below _ _ w3 from hb)
        clear hb S2 hc T
        obtain ⟨g0, g1, g2, g3, g4, hgb, hgf⟩ := five S3.res
        have r0 := hgf 0
        have r1 := hgf 1
        have r2 := hgf 2
        have r3 := hgf 3
        have r4 := hgf 4
        have i2 := InW.mk hgb
        have e0 := hasC_of g0
        have e1 := hasC_of g1
        have e2 := hasC_of g2
        have e3 := hasC_of g3
        have e4 := hasC_of g4
        have hK := Lib.hid (kept_set5 S3.kept S3.hr hsz)
        clear hgf S3
        go_wp2
        go_returns
        rw [← hx.out]
        exact ⟨rfl, hK.out _ _ _ _ _⟩
      · have hc2 := tkAt_lt hc
        simp only [hc] at hx
        go_enter Tryz.func14, Tryz.ntmps14
        go_wp2_with fail
        refine (T.out ⟨#[105, 102]⟩ a true _ S0.tkr hi).mono ?_
        intro e w1 hr
        obtain ⟨rfl, hb⟩ := hr
        have S1 := one_move S0 hi2 (show Below _ _ w1 from hb)
        clear hb S0 hi
        go_wp2_with fail
        refine (X.out (a + 1) _ _ S1.tkr hp).mono ?_
        intro e w2 hr
        obtain ⟨v, rfl, hown, hb⟩ := hr
        have S2 := one_move S1 hn1 hb
        replace hown := owns_base hown S1.kept.size
        obtain ⟨no, nc, hv⟩ := own_form hown
        subst hv
        clear hb S1 hp X
        go_wp2_with fail
        refine (T.out ⟨#[58]⟩ n true _ S2.tkr hc).mono ?_
        intro e w3 hr
        obtain ⟨rfl, hb⟩ := hr
        have S3 := one_move S2 hc2 (show Below _ _ w3 from hb)
        have hown3 := owns_below (ownsRow_setCell_other hown (own_ne hown S2.tkr.blk (by decide)) (.int .i64 ((n + 1 : Nat) : Int)) (a := ⟨tb, 1, none⟩)) (by rw [size_set]; exact hb)
        clear hb S2 hc T hown
        have S4 := Lib.hid (one_cond S3 hown3)
        obtain ⟨d0, d1, d2, d3, d4, hdb, hdf⟩ := five S3.act
        obtain ⟨g0, g1, g2, g3, g4, hgb, hgf⟩ := five S3.res
        have q0 := hdf 0
        have q1 := hdf 1
        have i1 := InW.mk hdb
        have i2 := InW.mk hgb
        clear S3 hown3
        go_wp2_with fail
        clear d0 d1 d2 d3 d4 g0 g1 g2 g3 g4 hdf hgf q1 q0 hdb hgb i1 i2
        replace S4 := S4.out
        rcases actAt_cases ts (n + 1) with hk | ⟨j, hj1, hj5, hk⟩
        · simp only [hk, ↓reduceIte] at hx
          go_wp2_with fail
          refine (K0.out (n + 1) _ S4.tkr hk).mono ?_
          intro e w5 hr
          obtain ⟨rfl, hb⟩ := hr
          have S5 := one_keep S4 hb
          clear hb S4 hk K0 K1
          obtain ⟨g0, g1, g2, g3, g4, hgb, hgf⟩ := five S5.res
          have r0 := hgf 0
          have r1 := hgf 1
          have r2 := hgf 2
          have r3 := hgf 3
          have r4 := hgf 4
          have i2 := InW.mk hgb
          have e0 := hasC_of g0
          have e1 := hasC_of g1
          have e2 := hasC_of g2
          have e3 := hasC_of g3
          have e4 := hasC_of g4
          have hK := Lib.hid (kept_set5 S5.kept S5.hr hsz)
          clear hgf S5
          go_wp2
          go_returns
          rw [← hx.out]
          exact ⟨rfl, hK.out _ _ _ _ _⟩
        · have hka := actAt_lt (show ¬ actAt ts (n + 1) = 0 by omega)
          have hj0 : ¬ (j : Int) = 0 := by omega
          simp only [hk, if_neg hj0] at hx
          go_wp2_with fail
          refine (K1.out (n + 1) j _ S4.tkr hj1 hk).mono ?_
          intro e w5 hr
          obtain ⟨rfl, hb⟩ := hr
          have S5 := one_move S4 hka hb
          clear hb S4 hk K0 K1
          have S6 := Lib.hid (one_kind (j := (j : Int)) S5)
          obtain ⟨d0, d1, d2, d3, d4, hdb, hdf⟩ := five S5.act
          obtain ⟨g0, g1, g2, g3, g4, hgb, hgf⟩ := five S5.res
          have q0 := hdf 0
          have q1 := hdf 1
          have i1 := InW.mk hdb
          have i2 := InW.mk hgb
          clear S5
          go_wp2_with fail
          clear d0 d1 d2 d3 d4 g0 g1 g2 g3 g4 hdf hgf q1 q0 hdb hgb i1 i2
          replace S6 := S6.out
          rcases hre : restT ts ns (j : Int) (n + 1 + 1) with x1 | ⟨c, n6⟩
          · have R := rest_any hj1 hj5 ns _ (one_rest hB S6)
            rw [hre] at R hx
            have hnz := restT_nz hre
            refine R.mono ?_
            intro e w7 hr
            obtain ⟨rfl, hK7⟩ := hr
            have hR7 := keptA_blk hK7 S6.res (by have := S6.hr; have := S6.ht; omega) S6.ne
            have hk7 := kept_rest S6.kept hK7 S6.ha
            have hr6 := S6.hr
            clear hK7 R hre S6
            obtain ⟨g0, g1, g2, g3, g4, hgb, hgf⟩ := five hR7
            have r0 := hgf 0
            have r1 := hgf 1
            have r2 := hgf 2
            have r3 := hgf 3
            have r4 := hgf 4
            have i2 := InW.mk hgb
            have e0 := hasC_of g0
            have e1 := hasC_of g1
            have e2 := hasC_of g2
            have e3 := hasC_of g3
            have e4 := hasC_of g4
            have hK := Lib.hid (kept_set5 hk7 hr6 hsz)
            clear hgf hk7 hR7
            go_wp2
            go_returns
            rw [← hx.out]
            exact ⟨rfl, hK.out _ _ _ _ _⟩
          · have hcc := restT_cond hre
            have R := rest_any hj1 hj5 ns _ (one_rest hB S6)
            rw [hre] at R hx
            refine R.mono ?_
            intro e w7 hr
            obtain ⟨xo, xc, rfl, hK7, hT7, hA7, hX7⟩ := hr
            have hR7 := keptA_blk hK7 S6.res (by have := S6.hr; have := S6.ht; omega) S6.ne
            have hk7 := kept_rest S6.kept hK7 S6.ha
            have hr6 := S6.hr
            have ht6 := S6.ht
            have hsx := S6.kept.size
            have hI7 := owns_keptA S6.own hK7 (own_ne S6.own S6.tkr.blk (by decide)) (own_ne S6.own S6.act (by decide))
            have hI8 := Lib.hid (own_set5 hI7 (own_ne hI7 hR7 (by decide)))
            have hX8 := Lib.hid (own_set5 (owns_base hX7 hsx) (own_ne hX7 hR7 (by decide)))
            have hT8 := Lib.hid (blk_set5 (c := w.heap.size) hT7 (by omega))
            clear hK7 R hre S6
            obtain ⟨g0, g1, g2, g3, g4, hgb, hgf⟩ := five hR7
            obtain ⟨d0, d1, d2, d3, d4, hdb, hdf⟩ := five hA7
            have r0 := hgf 0
            have r1 := hgf 1
            have r2 := hgf 2
            have r3 := hgf 3
            have r4 := hgf 4
            have i1 := InW.mk hdb
            have i2 := InW.mk hgb
            have e0 := hasC_of g0
            have e1 := hasC_of g1
            have e2 := hasC_of g2
            have e3 := hasC_of g3
            have e4 := hasC_of g4
            have hK := Lib.hid (kept_set5 hk7 hr6 hsz)
            clear hgf hk7 hR7 hdf hA7 hI7 hX7 hT7
            go_wp2
            go_returns
            rw [← hx.out]
            show ∃ iv xv, _
            rw [hcc]
            exact ⟨_, _, rfl, hK.out _ _ _ _ _, hT8.out _ _ _ _ _, hI8.out _ _ _ _ _, hX8.out _ _ _ _ _⟩
end Go.Proofs.YtmdjlngdpjjfiaaGreatDoor
