/- tok's own words, beside the reference: one token alone, what a word means, a name, is. -/
import Derived.Test.YtekfnnfphhoeoaaGreatDoorY1
import Derived.WalkKit
import Derived.ProofKit
import Derived.OpenShut
import Derived.Handy
import Derived.BigQuiet
import Derived.OwnWalk
import Derived.Lib.Hide
import Derived.WalkSmall
import Derived.WalkLawsBesides
namespace Go.Proofs.YtekfnnfphhoeoaaGreatDoor
open Go.RowKit
/-- Lex's answer at a line of one token. -/
def OneIs (t : Tk) (w : World) (e : Ending) (w' : World) : Prop := ∃ g cap, e = .returned (.tuple #[.slice (some ⟨g, 0, none⟩) 1 cap, .int .i64 0, .int .i64 0]) ∧ g < w'.heap.size ∧ w'.cell? ⟨g, 0, none⟩ = some (.int .i64 t.k) ∧ w'.cell? ⟨g, 1, none⟩ = some (.string ⟨t.s.toArray⟩) ∧ Below w.heap.size w w'
theorem one_of {t : Tk} {w : World} {e : Ending} {w' : World} (h : SlIs [t] w e w') : OneIs t w e w' := by
  obtain ⟨ao, cap, he, h1, hb⟩ := h
  obtain ⟨g, rfl, hg, ht⟩ := h1 Nat.one_pos
  obtain ⟨a0, a1, _, _⟩ := ht 0 Nat.one_pos
  exact ⟨g, cap, he, hg, a0, a1, hb⟩
/-- .. and at one of none, or more than one. -/
def NotOneIs (w : World) (e : Ending) (w' : World) : Prop := ∃ (x : Int) (j : Int) (ao : Option Addr) (n cap : Nat), e = .returned (.tuple #[.slice ao n cap, .int .i64 x, .int .i64 j]) ∧ ((x == 0) = false ∨ x = 0 ∧ ((n : Int) == 1) = false) ∧ Below w.heap.size w w'
theorem notOne_err {ty : TypeId} {l : List UInt8} {w : World} {e : Ending} {w' : World} {x : Int} {j : Nat} (h : lexT 120 0 l = .error (x, j)) (hr : LexIs ty l w e w') : NotOneIs w e w' := by
  obtain ⟨he, hb⟩ := (lexIs_err h).mp hr
  exact ⟨x, _, none, 0, 0, he, .inl (lexT_err h), hb⟩
theorem notOne_ok {ty : TypeId} {l : List UInt8} {w : World} {e : Ending} {w' : World} {ts : List Tk} (h : lexT 120 0 l = .ok ts) (hn : ts.length ≠ 1) (hr : LexIs ty l w e w') : NotOneIs w e w' := by
  obtain ⟨ao, cap, he, _, hb⟩ := lex_sl h hr
  exact ⟨0, 0, ao, ts.length, cap, he, .inr ⟨rfl, by rw [beq_eq_false_iff_ne]; omega⟩, hb⟩
theorem txt_eq (t : Tk) (s : ByteArray) : ((⟨t.s.toArray⟩ : ByteArray).toList == s.toList) = decide (t.s = s.data.toList) := by
  rw [Lib.toList_data, Lib.toList_data, Bool.eq_iff_iff, beq_iff_eq, decide_eq_true_eq]
set_option maxRecDepth 100000 in
theorem talone_no (s : ByteArray) (w : World) (T : ∀ wx, Below w.heap.size w wx → Calls Tryz.prog 69 #[.string s] wx (NotOneIs wx)) : Calls Tryz.prog 210 #[.string s] w (Ret (.int .i64 0) w) := by
  replace T := Lib.hid T
  go_enter Tryz.func210, Tryz.ntmps210
  go_wp2_with fail
  refine (T.out _ (by repeat' (first | (with_reducible exact Below.refl _ _) | (with_reducible assumption) | (with_reducible refine Below.alloc ?_ ?_ _) | (with_reducible refine Below.drew ?_) | (with_reducible refine belowN ?_ _) | (with_reducible refine Below.setCell ?_ ?_ _) | (with_reducible refine belowG ?_ ?_) | (with_reducible exact Nat.le_refl _) | (with_reducible refine le_sizeG ?_) | (with_reducible refine le_sizeA ?_) | (with_reducible refine le_sizeC ?_) | (with_reducible refine le_sizeD ?_) | (with_reducible refine le_sizeN ?_) | go_size | (simp [go_sem]; done)))).mono ?_
  intro e w1 hr
  obtain ⟨x, j, ao, n, cap, rfl, hx, hb⟩ := hr
  clear T
  rcases hx with hx | ⟨rfl, hn⟩
  · have hx' : ¬ x = 0 := by simpa using hx
    go_wp2
    go_returns
    exact ⟨rfl, by repeat' (first | (with_reducible exact Below.refl _ _) | (with_reducible assumption) | (with_reducible refine Below.alloc ?_ ?_ _) | (with_reducible refine Below.drew ?_) | (with_reducible refine belowN ?_ _) | (with_reducible refine Below.setCell ?_ ?_ _) | (with_reducible refine belowG ?_ ?_) | (with_reducible exact Nat.le_refl _) | (with_reducible refine le_sizeG ?_) | (with_reducible refine le_sizeA ?_) | (with_reducible refine le_sizeC ?_) | (with_reducible refine le_sizeD ?_) | (with_reducible refine le_sizeN ?_) | go_size | (simp [go_sem]; done))⟩
  · have hn' : ¬ (n : Int) = 1 := by simpa using hn
    go_wp2
    go_returns
    exact ⟨rfl, by repeat' (first | (with_reducible exact Below.refl _ _) | (with_reducible assumption) | (with_reducible refine Below.alloc ?_ ?_ _) | (with_reducible refine Below.drew ?_) | (with_reducible refine belowN ?_ _) | (with_reducible refine Below.setCell ?_ ?_ _) | (with_reducible refine belowG ?_ ?_) | (with_reducible exact Nat.le_refl _) | (with_reducible refine le_sizeG ?_) | (with_reducible refine le_sizeA ?_) | (with_reducible refine le_sizeC ?_) | (with_reducible refine le_sizeD ?_) | (with_reducible refine le_sizeN ?_) | go_size | (simp [go_sem]; done))⟩
set_option maxRecDepth 100000 in
theorem talone_yes (s : ByteArray) (t : Tk) (w : World) (T : ∀ wx, Below w.heap.size w wx → Calls Tryz.prog 69 #[.string s] wx (OneIs t wx)) : Calls Tryz.prog 210 #[.string s] w (Ret (.int .i64 (if t.s = s.data.toList then t.k else 0)) w) := by
  have he := txt_eq t s
  obtain ⟨d, hd⟩ : ∃ d, decide (t.s = s.data.toList) = d := ⟨_, rfl⟩
  have hr : (if t.s = s.data.toList then t.k else 0) = if d then t.k else 0 := by rw [← hd]; simp
  rw [hr]
  rw [hd] at he
  clear hr hd
  unfold OneIs at T
  generalize t.k = k at *
  generalize (⟨t.s.toArray⟩ : ByteArray) = q at *
  replace T := Lib.hid T
  cases d
  all_goals
    go_enter Tryz.func210, Tryz.ntmps210
    go_wp2_with fail
    refine (T.out _ (by repeat' (first | (with_reducible exact Below.refl _ _) | (with_reducible assumption) | (with_reducible refine Below.alloc ?_ ?_ _) | (with_reducible refine Below.drew ?_) | (with_reducible refine belowN ?_ _) | (with_reducible refine Below.setCell ?_ ?_ _) | (with_reducible refine belowG ?_ ?_) | (with_reducible exact Nat.le_refl _) | (with_reducible refine le_sizeG ?_) | (with_reducible refine le_sizeA ?_) | (with_reducible refine le_sizeC ?_) | (with_reducible refine le_sizeD ?_) | (with_reducible refine le_sizeN ?_) | go_size | (simp [go_sem]; done)))).mono ?_
    intro e w1 hr
    obtain ⟨g, cap, rfl, hg, a0, a1, hb⟩ := hr
    clear T
    go_wp2
    go_returns
    exact ⟨rfl, by repeat' (first | (with_reducible exact Below.refl _ _) | (with_reducible assumption) | (with_reducible refine Below.alloc ?_ ?_ _) | (with_reducible refine Below.drew ?_) | (with_reducible refine belowN ?_ _) | (with_reducible refine Below.setCell ?_ ?_ _) | (with_reducible refine belowG ?_ ?_) | (with_reducible exact Nat.le_refl _) | (with_reducible refine le_sizeG ?_) | (with_reducible refine le_sizeA ?_) | (with_reducible refine le_sizeC ?_) | (with_reducible refine le_sizeD ?_) | (with_reducible refine le_sizeN ?_) | go_size | (simp [go_sem]; done))⟩
theorem talone_any (s : ByteArray) (hs : s.size ≤ 140737488351232) (w : World) (hw : Lb w) : Calls Tryz.prog 210 #[.string s] w (Ret (.int .i64 (aloneK s.data.toList)) w) := by
  rcases hl : lexT 120 0 s.data.toList with ⟨x, j⟩ | ts
  · rw [aloneK_err hl]
    exact talone_no s w fun wx h => (tlex_any s hs wx (lb_below hw h)).mono fun e w' hr => notOne_err hl hr
  · by_cases hn : ts.length = 1
    · obtain ⟨t, rfl⟩ := List.length_eq_one_iff.1 hn
      rw [aloneK_one hl]
      exact talone_yes s t w fun wx h => (tlex_any s hs wx (lb_below hw h)).mono fun e w' hr => one_of (lex_sl hl hr)
    · rw [aloneK_more hl hn]
      exact talone_no s w fun wx h => (tlex_any s hs wx (lb_below hw h)).mono fun e w' hr => notOne_ok hl hn hr
set_option maxHeartbeats 2000000 in
set_option maxRecDepth 100000 in
theorem tmeans_no (s : ByteArray) (h : meansB s.data.toList = false) (w : World) : Calls Tryz.prog 185 #[.string s] w (RetW (.bool false) w) := by
  have f : ∀ l, l ∈ words → (s.toList == l) = false := fun l hl => by
    rw [beq_eq_false_iff_ne, Lib.toList_data]
    intro he
    unfold meansB at h
    rw [he, ← Bool.not_eq_true, List.contains_iff_mem] at h
    exact h hl
  have h0 : (s.toList == [99, 104, 97, 114, 116]) = false := f [99, 104, 97, 114, 116] (by decide)
  have h1 : (s.toList == [118, 97, 114]) = false := f [118, 97, 114] (by decide)
  have h2 : (s.toList == [115, 116, 97, 116, 101]) = false := f [115, 116, 97, 116, 101] (by decide)
  have h3 : (s.toList == [112, 97, 114, 97, 108, 108, 101, 108]) = false := f [112, 97, 114, 97, 108, 108, 101, 108] (by decide)
  have h4 : (s.toList == [102, 105, 110, 97, 108]) = false := f [102, 105, 110, 97, 108] (by decide)
  have h5 : (s.toList == [100, 101, 101, 112]) = false := f [100, 101, 101, 112] (by decide)
  have h6 : (s.toList == [115, 104, 97, 108, 108, 111, 119]) = false := f [115, 104, 97, 108, 108, 111, 119] (by decide)
  have h7 : (s.toList == [101, 110, 116, 101, 114]) = false := f [101, 110, 116, 101, 114] (by decide)
  have h8 : (s.toList == [101, 120, 105, 116]) = false := f [101, 120, 105, 116] (by decide)
  have h9 : (s.toList == [111, 110]) = false := f [111, 110] (by decide)
  have h10 : (s.toList == [97, 117, 116, 111]) = false := f [97, 117, 116, 111] (by decide)
  have h11 : (s.toList == [101, 110, 100]) = false := f [101, 110, 100] (by decide)
  have h12 : (s.toList == [105, 102]) = false := f [105, 102] (by decide)
  have h13 : (s.toList == [103, 111]) = false := f [103, 111] (by decide)
  have h14 : (s.toList == [105, 110, 110, 101, 114]) = false := f [105, 110, 110, 101, 114] (by decide)
  have h15 : (s.toList == [100, 111]) = false := f [100, 111] (by decide)
  have h16 : (s.toList == [115, 101, 116]) = false := f [115, 101, 116] (by decide)
  have h17 : (s.toList == [114, 97, 105, 115, 101]) = false := f [114, 97, 105, 115, 101] (by decide)
  have h18 : (s.toList == [115, 101, 110, 100]) = false := f [115, 101, 110, 100] (by decide)
  have h19 : (s.toList == [99, 97, 110, 99, 101, 108]) = false := f [99, 97, 110, 99, 101, 108] (by decide)
  have h20 : (s.toList == [108, 111, 103]) = false := f [108, 111, 103] (by decide)
  have h21 : (s.toList == [116, 114, 117, 101]) = false := f [116, 114, 117, 101] (by decide)
  have h22 : (s.toList == [102, 97, 108, 115, 101]) = false := f [102, 97, 108, 115, 101] (by decide)
  have h23 : (s.toList == [110, 111, 116]) = false := f [110, 111, 116] (by decide)
  have h24 : (s.toList == [97, 110, 100]) = false := f [97, 110, 100] (by decide)
  have h25 : (s.toList == [111, 114]) = false := f [111, 114] (by decide)
  have h26 : (s.toList == [105, 110]) = false := f [105, 110] (by decide)
  clear f h
  go_enter Tryz.func185, Tryz.ntmps185
  go_wp2
  go_returns
  exact ⟨rfl, rfl⟩
set_option maxHeartbeats 4000000 in
set_option maxRecDepth 100000 in
theorem tmeans_yes (s : ByteArray) (h : meansB s.data.toList = true) (w : World) : Calls Tryz.prog 185 #[.string s] w (RetW (.bool true) w) := by
  have hs : ∃ l, l ∈ words ∧ s = ⟨l.toArray⟩ := ⟨s.data.toList, by unfold meansB at h; rwa [List.contains_iff_mem] at h, rfl⟩
  obtain ⟨l, hl, rfl⟩ := hs
  clear h
  simp only [words, List.mem_cons, List.not_mem_nil, or_false] at hl
  rcases hl with rfl | rfl | rfl | rfl | rfl | rfl | rfl | rfl | rfl | rfl | rfl | rfl | rfl | rfl | rfl | rfl | rfl | rfl | rfl | rfl | rfl | rfl | rfl | rfl | rfl | rfl | rfl
  all_goals
    go_enter Tryz.func185, Tryz.ntmps185
    go_wp2
    go_returns
    exact ⟨rfl, rfl⟩
theorem tmeans_any (s : ByteArray) (w : World) : Calls Tryz.prog 185 #[.string s] w (RetW (.bool (meansB s.data.toList)) w) := by
  rcases h : meansB s.data.toList
  · exact tmeans_no s h w
  · exact tmeans_yes s h w
def nmB (l : List UInt8) : Bool := aloneK l == 1 && !meansB l
theorem tname_any (s : ByteArray) (hs : s.size ≤ 140737488351232) (w : World) (hw : Lb w) : Calls Tryz.prog 193 #[.string s] w (Ret (.bool (nmB s.data.toList)) w) := by
  have T := Lib.hid (fun wx h => talone_any s hs wx (lb_below hw h))
  have M := Lib.hid (fun wx => tmeans_any s wx)
  unfold nmB
  generalize aloneK s.data.toList = k at *
  generalize meansB s.data.toList = m at *
  clear hw
  rcases h1 : (k == 1) <;> cases m
  all_goals
    go_enter Tryz.func193, Tryz.ntmps193
    go_wp2_with (first | ((with_reducible refine (T.out _ (by repeat' (first | (with_reducible exact Below.refl _ _) | (with_reducible assumption) | (with_reducible refine Below.alloc ?_ ?_ _) | (with_reducible refine Below.drew ?_) | (with_reducible refine belowN ?_ _) | (with_reducible refine Below.setCell ?_ ?_ _) | (with_reducible refine belowG ?_ ?_) | (with_reducible exact Nat.le_refl _) | (with_reducible refine le_sizeG ?_) | (with_reducible refine le_sizeA ?_) | (with_reducible refine le_sizeC ?_) | (with_reducible refine le_sizeD ?_) | (with_reducible refine le_sizeN ?_) | go_size | (simp [go_sem]; done)))).mono ?_); intro e w1 hr; obtain ⟨rfl, p, rfl⟩ := hr.out; clear hr) | ((with_reducible refine (M.out _).mono ?_); rintro e w1 ⟨rfl, rfl⟩))
    all_goals
      go_returns
      exact ⟨rfl, by repeat' (first | (with_reducible exact Below.refl _ _) | (with_reducible assumption) | (with_reducible refine Below.alloc ?_ ?_ _) | (with_reducible refine Below.drew ?_) | (with_reducible refine belowN ?_ _) | (with_reducible refine Below.setCell ?_ ?_ _) | (with_reducible refine belowG ?_ ?_) | (with_reducible exact Nat.le_refl _) | (with_reducible refine le_sizeG ?_) | (with_reducible refine le_sizeA ?_) | (with_reducible refine le_sizeC ?_) | (with_reducible refine le_sizeD ?_) | (with_reducible refine le_sizeN ?_) | go_size | (simp [go_sem]; done))⟩
/-- The texts zs lie where the slice says. -/
def Txts (w : World) (ao : Option Addr) (zs : List ByteArray) : Prop := ∀ i (h : i < zs.length), ∃ a, ao = some a ∧ w.cell? (a.add i) = some (.string zs[i])
def hasB (zs : List ByteArray) (x : ByteArray) : Bool := zs.any fun y => y.toList == x.toList
theorem same_sym (x y : ByteArray) : (x.toList == y.toList) = (y.toList == x.toList) := by
  rw [Bool.eq_iff_iff, beq_iff_eq, beq_iff_eq]
  exact ⟨Eq.symm, Eq.symm⟩
theorem hasB_succ (zs : List ByteArray) (x : ByteArray) (i : Nat) (h : i < zs.length) : hasB (zs.take (i + 1)) x = (hasB (zs.take i) x || (zs[i].toList == x.toList)) := by
  unfold hasB
  rw [List.take_succ_eq_append_getElem h, List.any_append]
  simp
theorem hasB_at (zs : List ByteArray) (x : ByteArray) (i : Nat) (h : i < zs.length) (he : (zs[i].toList == x.toList) = true) : hasB zs x = true := by
  unfold hasB
  rw [List.any_eq_true]
  exact ⟨zs[i], List.getElem_mem h, he⟩
def IdxIs (b : Bool) (w : World) (e : Ending) (w' : World) : Prop := ∃ r : Int, e = .returned (.int .i64 r) ∧ decide (0 ≤ r) = b ∧ w = w'
theorem index_any (ao : Option Addr) (zs : List ByteArray) (cap : Nat) (x : ByteArray) (hn : zs.length ≤ 1000) (w : World) (hz : Txts w ao zs) : Calls Tryz.prog 206 #[.slice ao zs.length cap, .string x] w (IdxIs (hasB zs x) w) := by
  have hat := Lib.hid (fun i h he => hasB_at zs x i h he)
  have hsucc := Lib.hid (fun i h => hasB_succ zs x i h)
  replace hz := Lib.hid hz
  go_enter Tryz.func206, Tryz.ntmps206
  go_wp2
  go_loop [8] (fun v => ∃ i : Nat, i ≤ zs.length ∧ v = .int .i64 i ∧ hasB (zs.take i) x = false) (fun v => zs.length - (intOf v).toNat)
  case atStart => exact ⟨0, Nat.zero_le _, rfl, rfl⟩
  case round =>
    obtain ⟨i, hi, rfl, hall⟩ := hrel
    by_cases hlt : i < zs.length
    · obtain ⟨a, rfl, hc⟩ := hz.out i hlt
      rcases he : (zs[i].toList == x.toList)
      · have hnext := Lib.hid (show hasB (zs.take (i + 1)) x = false by rw [hsucc.out i hlt, hall, he]; rfl)
        rw [same_sym] at he
        clear hall
        go_wp2
        go_round
        case rel => exact ⟨i + 1, by omega, by go_num, hnext.out⟩
        case measure => simp [intOf]; omega
      · have hres := Lib.hid (hat.out i hlt he)
        rw [same_sym] at he
        clear hall
        go_wp2
        go_returns
        exact ⟨i, rfl, by rw [hres.out]; simp, rfl⟩
    · obtain rfl : i = zs.length := by omega
      have hres := Lib.hid (show hasB zs x = false by rw [List.take_length] at hall; exact hall)
      clear hall
      go_wp2
      go_returns
      exact ⟨-1, rfl, by rw [hres.out]; rfl, rfl⟩
theorem contains_any (ao : Option Addr) (zs : List ByteArray) (cap : Nat) (x : ByteArray) (hn : zs.length ≤ 1000) (w : World) (hz : Txts w ao zs) : Calls Tryz.prog 181 #[.slice ao zs.length cap, .string x] w (RetW (.bool (hasB zs x)) w) := by
  have I := Lib.hid (index_any ao zs cap x hn w hz)
  clear hz
  go_enter Tryz.func181, Tryz.ntmps181
  go_wp2_with fail
  refine I.out.mono ?_
  intro e w1 hr
  obtain ⟨r, rfl, hb, rfl⟩ := hr
  replace hb := Lib.hid hb
  by_cases h : 0 ≤ r
  · go_wp2
    go_returns
    exact ⟨by rw [← hb.out, decide_eq_true h]; try rfl, rfl⟩
  · go_wp2
    go_returns
    exact ⟨by rw [← hb.out]; try rfl, rfl⟩
theorem txts_below {w w' : World} {ao : Option Addr} {zs : List ByteArray} (h : Txts w ao zs) (hb : Below w.heap.size w w') : Txts w' ao zs := by
  intro i hi
  obtain ⟨a, ha, hc⟩ := h i hi
  exact ⟨a, ha, (hb.cell (World.block_lt_of_cell? _ _ hc)).trans hc⟩
theorem is_any (k : Int) (x : ByteArray) (n a : Int) (ao : Option Addr) (zs : List ByteArray) (cap : Nat) (hn : zs.length ≤ 1000) (w : World) (hz : Txts w ao zs) :
    Calls Tryz.prog 146 #[.agg #[.int .i64 k, .string x, .int .i64 n, .int .i64 a], .slice ao zs.length cap] w (Ret (.bool (((k == 1) || (k == 5)) && hasB zs x)) w) := by
  have C := Lib.hid (fun wx hb => contains_any ao zs cap x hn wx (txts_below hz hb))
  generalize hasB zs x = b at *
  clear hz
  rcases h1 : (k == 1) <;> rcases h2 : (k == 5) <;> cases b
  all_goals
    go_enter Tryz.func146, Tryz.ntmps146
    go_wp2_with ((with_reducible refine (C.out _ (by repeat' (first | (with_reducible exact Below.refl _ _) | (with_reducible assumption) | (with_reducible refine Below.alloc ?_ ?_ _) | (with_reducible refine Below.drew ?_) | (with_reducible refine belowN ?_ _) | (with_reducible refine Below.setCell ?_ ?_ _) | (with_reducible refine belowG ?_ ?_) | (with_reducible exact Nat.le_refl _) | (with_reducible refine le_sizeG ?_) | (with_reducible refine le_sizeA ?_) | (with_reducible refine le_sizeC ?_) | (with_reducible refine le_sizeD ?_) | (with_reducible refine le_sizeN ?_) | go_size | (simp [go_sem]; done)))).mono ?_); rintro e w1 ⟨rfl, rfl⟩)
    all_goals
      go_returns
      exact ⟨rfl, by repeat' (first | (with_reducible exact Below.refl _ _) | (with_reducible assumption) | (with_reducible refine Below.alloc ?_ ?_ _) | (with_reducible refine Below.drew ?_) | (with_reducible refine belowN ?_ _) | (with_reducible refine Below.setCell ?_ ?_ _) | (with_reducible refine belowG ?_ ?_) | (with_reducible exact Nat.le_refl _) | (with_reducible refine le_sizeG ?_) | (with_reducible refine le_sizeA ?_) | (with_reducible refine le_sizeC ?_) | (with_reducible refine le_sizeD ?_) | (with_reducible refine le_sizeN ?_) | go_size | (simp [go_sem]; done))⟩
end Go.Proofs.YtekfnnfphhoeoaaGreatDoor

