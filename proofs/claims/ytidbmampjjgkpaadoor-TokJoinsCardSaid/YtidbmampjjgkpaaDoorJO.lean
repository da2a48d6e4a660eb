import Derived.Test.YtidbmampjjgkpaaDoorBU
import Derived.Test.YtidbmampjjgkpaaDoorJN
import Derived.Test.YtidbmampjjgkpaaDoorV0
import Derived.Test.YtidbmampjjgkpaaDoorShelf3
import Derived.WalkKit
import Derived.ProofKit
import Derived.OpenShut
import Derived.Handy
import Derived.BigQuiet
import Derived.OwnWalk
import Derived.Lib.Hide
import Derived.WalkSmall
import Derived.WalkLawsBesides
namespace Go.Proofs.YtidbmampjjgkpaaDoor
open Go.RowKit
theorem bstring_any (B b : Nat) (l : List UInt8) (w : World) (h : Bld B b l w) (hBw : B ≤ w.heap.size) : Calls Tryd.prog 68 #[.pointer (some ⟨b, 0, none⟩)] w fun e w' => e = .returned (.string ⟨l.toArray⟩) ∧ Below B w w' :=
  Any.Builder_String_any Tryd.lays169 Tryd.Builder_Extra_169 B b l w h hBw
/-- The tokens ts lie where a slice says. -/
def Sl (w : World) (ao : Option Addr) (ts : List Tk) : Prop := 0 < ts.length → ∃ g, ao = some ⟨g, 0, none⟩ ∧ g < w.heap.size ∧ Toks w g ts
theorem sl_below {w w' : World} {ao : Option Addr} {ts : List Tk} (h : Sl w ao ts) (hb : Below w.heap.size w w') : Sl w' ao ts := fun h0 => by
  obtain ⟨g, hg, hgl, ht⟩ := h h0
  exact ⟨g, hg, Nat.lt_of_lt_of_le hgl hb.size, toks_below ht hgl hb⟩
theorem join_snoc : ∀ (l : List Tk) (t : Tk), l ≠ [] → joinT (l ++ [t]) = joinT l ++ 32 :: fullT t.k t.s
  | [], t, h => absurd rfl h
  | [a], t, _ => rfl
  | a :: b :: r, t, _ => by
    show fullT a.k a.s ++ 32 :: joinT ((b :: r) ++ [t]) = (fullT a.k a.s ++ 32 :: joinT (b :: r)) ++ 32 :: fullT t.k t.s
    rw [join_snoc (b :: r) t (by simp)]
    simp
theorem join_step (ts : List Tk) (i : Nat) (h : i < ts.length) : joinT (ts.take (i + 1)) = (if i = 0 then [] else joinT (ts.take i) ++ [32]) ++ fullT ts[i].k ts[i].s := by
  rw [List.take_succ_eq_append_getElem h]
  by_cases h0 : i = 0
  · subst h0
    simp [joinT]
  · rw [if_neg h0, join_snoc _ _ (fun he => by
      have := congrArg List.length he
      rw [List.length_take, List.length_nil] at this
      omega)]
    simp
theorem join_take_length : ∀ (ts : List Tk) (i : Nat), (joinT (ts.take i)).length ≤ (joinT ts).length
  | [], i => by simp
  | [t], 0 => by simp [joinT]
  | [t], i + 1 => by simp
  | t :: u :: r, 0 => by simp [joinT]
  | t :: u :: r, 1 => by simp [joinT]
  | t :: u :: r, i + 2 => by
    have ih := join_take_length (u :: r) (i + 1)
    rw [List.take_succ_cons]
    rw [List.take_succ_cons] at ih ⊢
    simp only [joinT, List.length_append, List.length_cons]
    omega
theorem bld_keep {B b : Nat} {l : List UInt8} {w w' : World} (h : Bld B b l w) (hb : Below w.heap.size w w') : Bld B b l w' := by
  rcases h with h | h
  · obtain ⟨h1, v, h2, h3, h4⟩ := h
    exact .inl ⟨h1, v, (hb.block b (Array.getElem?_eq_some_iff.1 h2).1).trans h2, owns_below h3 hb, h4⟩
  · obtain ⟨h1, v, h2, h3, h4⟩ := h
    exact .inr ⟨h1, v, (hb.block b (Array.getElem?_eq_some_iff.1 h2).1).trans h2, owns_below h3 hb, h4⟩
theorem bld_new (w : World) : Bld w.heap.size w.heap.size [] (w.alloc (.cells #[.pointer none, .slice none 0 0] 87)) :=
  .inl ⟨Nat.le_refl _, _, heap_alloc_new w _, World.ownsRow_nil _ _ _ _, by simp [Value.ownBlock]⟩
theorem bld_lt {B b : Nat} {l : List UInt8} {w : World} (h : Bld B b l w) : b < w.heap.size := by
  rcases h with h | h
  · exact h.lt
  · exact h.lt
/-- Each token of ts is short, and so is its line. -/
def ShortT (ts : List Tk) : Prop := ts.length ≤ 120 ∧ (joinT ts).length ≤ 50000 ∧ ∀ t ∈ ts, t.s.length ≤ 1000
set_option maxRecDepth 100000 in
set_option maxHeartbeats 4000000 in
theorem tjoin_any (ts : List Tk) (ao : Option Addr) (cap : Nat) (hs : ShortT ts) (w : World) (hsl : Sl w ao ts) : Calls Tryd.prog 35 #[.slice ao ts.length cap] w (Ret (.string ⟨(joinT ts).toArray⟩) w) := by
  obtain ⟨hn, hj, hts⟩ := hs
  have hstep := Lib.hid (fun i h => join_step ts i h)
  have hlen := Lib.hid (fun i => join_take_length ts i)
  replace hsl := Lib.hid (show ∀ wx, Below w.heap.size w wx → Sl wx ao ts from fun wx h => sl_below hsl h)
  replace hts := Lib.hid (show ∀ i (h : i < ts.length), ts[i].s.length ≤ 1000 from fun i h => hts _ (List.getElem_mem h))
  go_enter Tryd.func35, Tryd.ntmps35
  go_wp2
  go_loopw [8] (fun v wr => ∃ i : Nat, i ≤ ts.length ∧ v = .int .i64 i ∧ Bld w.heap.size w.heap.size (joinT (ts.take i)) wr ∧ Below w.heap.size w wr) (fun v _ => ts.length - (intOf v).toNat)
  case atStart => exact ⟨0, Nat.zero_le _, rfl, bld_new w, by repeat' (first | (with_reducible exact Below.refl _ _) | (with_reducible assumption) | (with_reducible refine Below.alloc ?_ ?_ _) | (with_reducible refine Below.drew ?_) | (with_reducible refine belowN ?_ _) | (with_reducible refine Below.setCell ?_ ?_ _) | (with_reducible refine belowG ?_ ?_) | (with_reducible exact Nat.le_refl _) | (with_reducible refine le_sizeG ?_) | (with_reducible refine le_sizeA ?_) | (with_reducible refine le_sizeC ?_) | (with_reducible refine le_sizeD ?_) | (with_reducible refine le_sizeN ?_) | go_size | (simp [go_sem]; done))⟩
  case round =>
    obtain ⟨i, hi, rfl, hbld, hbr⟩ := hrel
    rename World => wr
    have hzr := hbr.size
    have hbl := bld_lt hbld
    by_cases hlt : i < ts.length
    · obtain ⟨g, rfl, hg, tt⟩ := hsl.out wr hbr (by omega)
      obtain ⟨a0, a1, a2, a3⟩ := tt i hlt
      have hnext := hstep.out i hlt
      have hshort := hts.out i hlt
      have hlen := hlen.out i
      generalize ts[i] = tk at *
      obtain ⟨k, ss, n, a⟩ := tk
      simp only at a0 a1 a2 a3 hnext hshort
      obtain ⟨q, hq⟩ : ∃ q : ByteArray, q = ⟨ss.toArray⟩ := ⟨_, rfl⟩
      rw [← hq] at a1
      have hqd : q.data.toList = ss := by rw [hq]
      have hqz : q.size = ss.length := by rw [Lib.size_eq, hqd]
      have hq1 : q.size ≤ 1000 := by omega
      have j1 : InW g wr := ⟨hg⟩
      rcases hk : (k == 4)
      · have hf : fullT k ss = q.data.toList := by
          rw [beq_eq_false_iff_ne] at hk
          unfold fullT
          rw [if_neg hk, hqd]
        rw [hf] at hnext
        clear hf hqd hqz hq hshort tt
        by_cases h0 : i = 0
        · subst h0
          simp only [if_true, List.nil_append] at hnext
          replace hnext := Lib.hid hnext
          have hbld0 : Bld w.heap.size w.heap.size [] wr := hbld
          clear hbld
          go_wp2_with fail
          refine (wstring_any w.heap.size w.heap.size ([]) q _ (bld_keep hbld0 (by repeat' (first | (with_reducible exact Below.refl _ _) | (with_reducible assumption) | (with_reducible refine Below.alloc ?_ ?_ _) | (with_reducible refine Below.drew ?_) | (with_reducible refine belowN ?_ _) | (with_reducible refine Below.setCell ?_ ?_ _) | (with_reducible refine belowG ?_ ?_) | (with_reducible exact Nat.le_refl _) | (with_reducible refine le_sizeG ?_) | (with_reducible refine le_sizeA ?_) | (with_reducible refine le_sizeC ?_) | (with_reducible refine le_sizeD ?_) | (with_reducible refine le_sizeN ?_) | go_size | (simp [go_sem]; done)))) (by simp) (by omega) (by repeat' (first | (with_reducible exact Below.refl _ _) | (with_reducible assumption) | (with_reducible refine Below.alloc ?_ ?_ _) | (with_reducible refine Below.drew ?_) | (with_reducible refine belowN ?_ _) | (with_reducible refine Below.setCell ?_ ?_ _) | (with_reducible refine belowG ?_ ?_) | (with_reducible exact Nat.le_refl _) | (with_reducible refine le_sizeG ?_) | (with_reducible refine le_sizeA ?_) | (with_reducible refine le_sizeC ?_) | (with_reducible refine le_sizeD ?_) | (with_reducible refine le_sizeN ?_) | go_size | (simp [go_sem]; done)))).mono ?_
          intro e w3 hr
          obtain ⟨rfl, hbld3, hb3, hk3⟩ := hr
          have hB3 : Below w.heap.size w w3 := hbr.trans (((Below.refl _ wr).alloc (Nat.le_refl _) _).mono hzr |>.trans hb3)
          replace hnext := Lib.hid (show Bld w.heap.size w.heap.size (joinT (ts.take (0 + 1))) w3 by rw [hnext.out]; exact hbld3)
          clear hk3 hb3
          go_wp2
          go_roundw
          case rel => exact ⟨0 + 1, by omega, by go_num, hnext.out, hB3⟩
          case measure => simp [intOf]; omega
        · rw [if_neg h0] at hnext
          replace hnext := Lib.hid hnext
          have hi0 : (0 : Int) < (i : Int) := by omega
          go_wp2_with fail
          refine (wbyte_any w.heap.size w.heap.size (joinT (ts.take i)) 32 _ (bld_keep hbld (by repeat' (first | (with_reducible exact Below.refl _ _) | (with_reducible assumption) | (with_reducible refine Below.alloc ?_ ?_ _) | (with_reducible refine Below.drew ?_) | (with_reducible refine belowN ?_ _) | (with_reducible refine Below.setCell ?_ ?_ _) | (with_reducible refine belowG ?_ ?_) | (with_reducible exact Nat.le_refl _) | (with_reducible refine le_sizeG ?_) | (with_reducible refine le_sizeA ?_) | (with_reducible refine le_sizeC ?_) | (with_reducible refine le_sizeD ?_) | (with_reducible refine le_sizeN ?_) | go_size | (simp [go_sem]; done)))) (by omega) (by repeat' (first | (with_reducible exact Below.refl _ _) | (with_reducible assumption) | (with_reducible refine Below.alloc ?_ ?_ _) | (with_reducible refine Below.drew ?_) | (with_reducible refine belowN ?_ _) | (with_reducible refine Below.setCell ?_ ?_ _) | (with_reducible refine belowG ?_ ?_) | (with_reducible exact Nat.le_refl _) | (with_reducible refine le_sizeG ?_) | (with_reducible refine le_sizeA ?_) | (with_reducible refine le_sizeC ?_) | (with_reducible refine le_sizeD ?_) | (with_reducible refine le_sizeN ?_) | go_size | (simp [go_sem]; done)))).mono ?_
          intro e w2 hr
          obtain ⟨rfl, hbld2, hb2, hk2⟩ := hr
          have hB2 : Below w.heap.size w w2 := hbr.trans (((Below.refl _ wr).alloc (Nat.le_refl _) _).mono hzr |>.trans hb2)
          have hblk := hk2 wr.heap.size _ 58 (0, 0) (by omega) (by decide) (heap_alloc_new wr _)
          have c0 : w2.cell? ⟨wr.heap.size, 0, none⟩ = some (.int .i64 k) := by rw [Lib.cell_of_heap hblk]; rfl
          have c1 : w2.cell? ⟨wr.heap.size, 1, none⟩ = some (.string q) := by rw [Lib.cell_of_heap hblk]; rfl
          have hz2 := hB2.size
          clear hk2 hb2 hblk
          go_wp2_with fail
          refine (wstring_any w.heap.size w.heap.size (joinT (ts.take i) ++ [32]) q _ (hbld2) (by rw [List.length_append]; simp only [List.length_cons, List.length_nil]; omega) (by omega) (by repeat' (first | (with_reducible exact Below.refl _ _) | (with_reducible assumption) | (with_reducible refine Below.alloc ?_ ?_ _) | (with_reducible refine Below.drew ?_) | (with_reducible refine belowN ?_ _) | (with_reducible refine Below.setCell ?_ ?_ _) | (with_reducible refine belowG ?_ ?_) | (with_reducible exact Nat.le_refl _) | (with_reducible refine le_sizeG ?_) | (with_reducible refine le_sizeA ?_) | (with_reducible refine le_sizeC ?_) | (with_reducible refine le_sizeD ?_) | (with_reducible refine le_sizeN ?_) | go_size | (simp [go_sem]; done)))).mono ?_
          intro e w3 hr
          obtain ⟨rfl, hbld3, hb3, hk3⟩ := hr
          have hB3 : Below w.heap.size w w3 := hB2.trans (hb3)
          replace hnext := Lib.hid (show Bld w.heap.size w.heap.size (joinT (ts.take (i + 1))) w3 by rw [hnext.out]; exact hbld3)
          clear hk3 hb3
          go_wp2
          go_roundw
          case rel => exact ⟨i + 1, by omega, by go_num, hnext.out, hB3⟩
          case measure => simp [intOf]; omega
      · obtain ⟨y, hcat⟩ : ∃ y, ((⟨#[39]⟩ : ByteArray) ++ q) ++ (⟨#[39]⟩ : ByteArray) = y := ⟨_, rfl⟩
        have hf : fullT k ss = y.data.toList := by
          rw [beq_iff_eq] at hk
          unfold fullT
          rw [if_pos hk, ← hcat, ← hqd]
          simp
        have hyz : y.size ≤ 2000 := by
          rw [← hcat, ByteArray.size_append, ByteArray.size_append]
          show 1 + q.size + 1 ≤ 2000
          omega
        rw [hf] at hnext
        clear hf hqd hqz hq hshort tt
        by_cases h0 : i = 0
        · subst h0
          simp only [if_true, List.nil_append] at hnext
          replace hnext := Lib.hid hnext
          have hbld0 : Bld w.heap.size w.heap.size [] wr := hbld
          clear hbld
          go_wp2_with fail
          refine (wstring_any w.heap.size w.heap.size ([]) y _ (bld_keep hbld0 (by repeat' (first | (with_reducible exact Below.refl _ _) | (with_reducible assumption) | (with_reducible refine Below.alloc ?_ ?_ _) | (with_reducible refine Below.drew ?_) | (with_reducible refine belowN ?_ _) | (with_reducible refine Below.setCell ?_ ?_ _) | (with_reducible refine belowG ?_ ?_) | (with_reducible exact Nat.le_refl _) | (with_reducible refine le_sizeG ?_) | (with_reducible refine le_sizeA ?_) | (with_reducible refine le_sizeC ?_) | (with_reducible refine le_sizeD ?_) | (with_reducible refine le_sizeN ?_) | go_size | (simp [go_sem]; done)))) (by simp) (by omega) (by repeat' (first | (with_reducible exact Below.refl _ _) | (with_reducible assumption) | (with_reducible refine Below.alloc ?_ ?_ _) | (with_reducible refine Below.drew ?_) | (with_reducible refine belowN ?_ _) | (with_reducible refine Below.setCell ?_ ?_ _) | (with_reducible refine belowG ?_ ?_) | (with_reducible exact Nat.le_refl _) | (with_reducible refine le_sizeG ?_) | (with_reducible refine le_sizeA ?_) | (with_reducible refine le_sizeC ?_) | (with_reducible refine le_sizeD ?_) | (with_reducible refine le_sizeN ?_) | go_size | (simp [go_sem]; done)))).mono ?_
          intro e w3 hr
          obtain ⟨rfl, hbld3, hb3, hk3⟩ := hr
          have hB3 : Below w.heap.size w w3 := hbr.trans (((Below.refl _ wr).alloc (Nat.le_refl _) _).mono hzr |>.trans hb3)
          replace hnext := Lib.hid (show Bld w.heap.size w.heap.size (joinT (ts.take (0 + 1))) w3 by rw [hnext.out]; exact hbld3)
          clear hk3 hb3
          go_wp2
          go_roundw
          case rel => exact ⟨0 + 1, by omega, by go_num, hnext.out, hB3⟩
          case measure => simp [intOf]; omega
        · rw [if_neg h0] at hnext
          replace hnext := Lib.hid hnext
          have hi0 : (0 : Int) < (i : Int) := by omega
          go_wp2_with fail
          refine (wbyte_any w.heap.size w.heap.size (joinT (ts.take i)) 32 _ (bld_keep hbld (by repeat' (first | (with_reducible exact Below.refl _ _) | (with_reducible assumption) | (with_reducible refine Below.alloc ?_ ?_ _) | (with_reducible refine Below.drew ?_) | (with_reducible refine belowN ?_ _) | (with_reducible refine Below.setCell ?_ ?_ _) | (with_reducible refine belowG ?_ ?_) | (with_reducible exact Nat.le_refl _) | (with_reducible refine le_sizeG ?_) | (with_reducible refine le_sizeA ?_) | (with_reducible refine le_sizeC ?_) | (with_reducible refine le_sizeD ?_) | (with_reducible refine le_sizeN ?_) | go_size | (simp [go_sem]; done)))) (by omega) (by repeat' (first | (with_reducible exact Below.refl _ _) | (with_reducible assumption) | (with_reducible refine Below.alloc ?_ ?_ _) | (with_reducible refine Below.drew ?_) | (with_reducible refine belowN ?_ _) | (with_reducible refine Below.setCell ?_ ?_ _) | (with_reducible refine belowG ?_ ?_) | (with_reducible exact Nat.le_refl _) | (with_reducible refine le_sizeG ?_) | (with_reducible refine le_sizeA ?_) | (with_reducible refine le_sizeC ?_) | (with_reducible refine le_sizeD ?_) | (with_reducible refine le_sizeN ?_) | go_size | (simp [go_sem]; done)))).mono ?_
          intro e w2 hr
          obtain ⟨rfl, hbld2, hb2, hk2⟩ := hr
          have hB2 : Below w.heap.size w w2 := hbr.trans (((Below.refl _ wr).alloc (Nat.le_refl _) _).mono hzr |>.trans hb2)
          have hblk := hk2 wr.heap.size _ 58 (0, 0) (by omega) (by decide) (heap_alloc_new wr _)
          have c0 : w2.cell? ⟨wr.heap.size, 0, none⟩ = some (.int .i64 k) := by rw [Lib.cell_of_heap hblk]; rfl
          have c1 : w2.cell? ⟨wr.heap.size, 1, none⟩ = some (.string q) := by rw [Lib.cell_of_heap hblk]; rfl
          have hz2 := hB2.size
          clear hk2 hb2 hblk
          go_wp2_with fail
          refine (wstring_any w.heap.size w.heap.size (joinT (ts.take i) ++ [32]) y _ (hbld2) (by rw [List.length_append]; simp only [List.length_cons, List.length_nil]; omega) (by omega) (by repeat' (first | (with_reducible exact Below.refl _ _) | (with_reducible assumption) | (with_reducible refine Below.alloc ?_ ?_ _) | (with_reducible refine Below.drew ?_) | (with_reducible refine belowN ?_ _) | (with_reducible refine Below.setCell ?_ ?_ _) | (with_reducible refine belowG ?_ ?_) | (with_reducible exact Nat.le_refl _) | (with_reducible refine le_sizeG ?_) | (with_reducible refine le_sizeA ?_) | (with_reducible refine le_sizeC ?_) | (with_reducible refine le_sizeD ?_) | (with_reducible refine le_sizeN ?_) | go_size | (simp [go_sem]; done)))).mono ?_
          intro e w3 hr
          obtain ⟨rfl, hbld3, hb3, hk3⟩ := hr
          have hB3 : Below w.heap.size w w3 := hB2.trans (hb3)
          replace hnext := Lib.hid (show Bld w.heap.size w.heap.size (joinT (ts.take (i + 1))) w3 by rw [hnext.out]; exact hbld3)
          clear hk3 hb3
          go_wp2
          go_roundw
          case rel => exact ⟨i + 1, by omega, by go_num, hnext.out, hB3⟩
          case measure => simp [intOf]; omega
    · obtain rfl : i = ts.length := by omega
      rw [List.take_length] at hbld
      go_wp2_with fail
      refine (bstring_any w.heap.size w.heap.size (joinT ts) wr hbld hzr).mono ?_
      intro e w2 hr
      obtain ⟨rfl, hb2⟩ := hr
      have hB2 : Below w.heap.size w w2 := hbr.trans hb2
      go_wp2
      go_returns
      exact ⟨rfl, hB2⟩
end Go.Proofs.YtidbmampjjgkpaaDoor
