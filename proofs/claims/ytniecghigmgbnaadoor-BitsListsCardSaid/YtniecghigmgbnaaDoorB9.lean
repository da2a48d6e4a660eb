/- A set as a text, as the document has it; the example. -/
import Derived.Test.YtniecghigmgbnaaDoorB8
import Derived.Test.YtniecghigmgbnaaDoorDG
namespace Go.Proofs.YtniecghigmgbnaaDoor
open Go.RowKit
theorem conv_two (W : World) (d e : Int) : (convert 56 9 (.slice (some ⟨W.heap.size, 0, none⟩) 2 2)).run Tryd.prog (W.alloc (.cells #[.int .u8 d, .int .u8 e] 5)) =
    .ok (.string ⟨#[UInt8.ofNat d.toNat, UInt8.ofNat e.toNat]⟩) (W.alloc (.cells #[.int .u8 d, .int .u8 e] 5)) := by
  rw [run_convert_bytes_string _ _ _ _ _ _ _ Tryd.underlying56 Tryd.underlying5 Tryd.underlying9]
  rw [run_bytesToString _ _ _ _ [d, e] (by simp [loadCells, go_sem])]
  rfl
theorem dig_one : ∀ n : Fin 10, digN n.val = ⟨#[48 + UInt8.ofNat n.val]⟩ := by decide +kernel
theorem dig_two : ∀ n : Fin 100, 10 ≤ n.val → digN n.val = ⟨#[48 + UInt8.ofNat (n.val / 10), 48 + UInt8.ofNat (n.val % 10)]⟩ := by decide +kernel
set_option maxRecDepth 100000 in
theorem rdig_any (n : Nat) (h : n < 64) (w : World) : Calls Tryd.prog 30 #[.int .i64 (n : Int)] w (Ret (.string (digN n)) w) := by
  have e1 : wrap64 (48 + (n : Int)) = 48 + (n : Int) := by unfold wrap64; omega
  have e2 : IntKind.u8.wrap (48 + (n : Int)) = 48 + (n : Int) := by rw [IntKind.wrap_u8]; omega
  by_cases h1 : n < 10
  · have hk := conv_one
    have hI : (n : Int) < 10 := by omega
    have hd := Lib.hid (dig_one ⟨n, h1⟩)
    go_enter Tryd.func30, Tryd.ntmps30
    go_wp2
    go_returns
    exact ⟨by rw [show digN n = _ from hd.out]; rfl, by (first | exact gwT | exact lzT)⟩
  · have hk := conv_two
    have hI : ¬ (n : Int) < 10 := by omega
    have hd := Lib.hid (dig_two ⟨n, by omega⟩ (by simpa using h1))
    have t1 : Int.tdiv (n : Int) 10 = (n : Int) / 10 := Int.tdiv_eq_ediv_of_nonneg (by omega)
    have t2 : Int.tmod (n : Int) 10 = (n : Int) % 10 := Int.tmod_eq_emod_of_nonneg (by omega)
    have w1 : wrap64 (48 + (n : Int) / 10) = 48 + (n : Int) / 10 := by unfold wrap64; omega
    have w2 : IntKind.u8.wrap (48 + (n : Int) / 10) = 48 + (n : Int) / 10 := by rw [IntKind.wrap_u8]; omega
    have w3 : wrap64 (48 + (n : Int) % 10) = 48 + (n : Int) % 10 := by unfold wrap64; omega
    have w4 : IntKind.u8.wrap (48 + (n : Int) % 10) = 48 + (n : Int) % 10 := by rw [IntKind.wrap_u8]; omega
    go_enter Tryd.func30, Tryd.ntmps30
    go_wp2
    go_returns
    exact ⟨by rw [show digN n = _ from hd.out]; rfl, by (first | exact gwT | exact lzT)⟩
/-- Numbers of a row of the call's own lie where the slice says. -/
theorem nums_rd {w : World} {B : Nat} {ao : Option Addr} {cap : Nat} {ks : List Nat} (h : w.ownsRow B 3 1 (.slice ao ks.length cap) ks.length (natsI ks)) : IntsRd w ao (intsN ks) := fun i hi => by
  have hi' : i < ks.length := by simpa [intsN] using hi
  obtain ⟨g, cap', e, hg, _, _, hc⟩ := own_head h (by omega)
  cases e
  refine ⟨g, 0, rfl, hg, ?_⟩
  rw [Nat.zero_add, hc _ (.int .i64 ((ks[i]'hi' : Nat) : Int)) (by unfold natsI; rw [List.getElem?_map, List.getElem?_eq_getElem hi']; rfl)]
  simp [intsN]
theorem joinB_snoc (xs : List ByteArray) (x sep : ByteArray) : joinB (xs ++ [x]) sep = if xs = [] then x.data.toList else joinB xs sep ++ sep.data.toList ++ x.data.toList := by
  cases xs with
  | nil => rw [List.nil_append, joinB_cons, if_pos rfl]; simp [Lib.joinTail]
  | cons y r => rw [if_neg (by simp), List.cons_append, joinB_cons, joinB_cons]; simp [Lib.joinTail]
theorem joinB_add (xs : List ByteArray) (x sep : ByteArray) (h : xs ≠ []) : (⟨(joinB (xs ++ [x]) sep).toArray⟩ : ByteArray) = ⟨(joinB xs sep).toArray⟩ ++ sep ++ x := by
  rw [joinB_snoc, if_neg h]
  apply ByteArray.ext
  apply Array.ext'
  simp
set_option maxRecDepth 100000 in
set_option maxHeartbeats 4000000 in
theorem rshowS_any (s : Nat) (hs : s < 2 ^ 64) (w : World) : Calls Tryd.prog 21 #[.int .u64 (s : Int)] w (Ret (.string ⟨(joinB (digsN (numsS s)) ⟨#[44]⟩).toArray⟩) w) := by
  have A := Lib.hid (rlist_any s hs w)
  have hl := nums_len s
  have hlt := Lib.hid (fun n (hn : n ∈ numsS s) => nums_lt hn)
  generalize numsS s = ks at *
  go_enter Tryd.func21, Tryd.ntmps21
  go_wp2_with fail
  refine A.out.mono ?_
  rintro e w1 ⟨ao, cap, rfl, h1, h2⟩
  have hR := Lib.hid (fun wx (hx : Below w1.heap.size w1 wx) => intsRd_keep (nums_rd h1) hx)
  have hw1 := h2.size
  clear A h1
  go_wp2
  go_loopw [3, 5] (fun v x wr => ∃ (i : Nat) (o : ByteArray), x = .int .i64 (i : Int) ∧ i ≤ ks.length ∧ v = .string o ∧ Hid (o = ⟨(joinB (digsN (ks.take i)) ⟨#[44]⟩).toArray⟩) ∧ o.size ≤ 3 * i ∧ Below w.heap.size w wr ∧ Below w1.heap.size w1 wr) (fun _ x _ => ks.length - (intOf x).toNat)
  case atStart => exact ⟨0, ⟨#[]⟩, rfl, Nat.zero_le _, rfl, Lib.hid rfl, by decide, h2, Below.refl _ _⟩
  case round =>
    obtain ⟨i, o, rfl, hi, rfl, ho, hoz, hb, hb1⟩ := hrel
    rename World => wr
    have hwz := hb.size
    have hwz1 := hb1.size
    by_cases hlt2 : i < ks.length
    · obtain ⟨g, og, rfl, hg, n1⟩ := hR.out wr hb1 i (by simpa [intsN] using hlt2)
      have hk64 := hlt.out _ (List.getElem_mem hlt2)
      have e0 : (intsN ks)[i]'(by simpa [intsN] using hlt2) = ((ks[i] : Nat) : Int) := by simp [intsN]
      rw [e0] at n1
      have htk : digsN (ks.take (i + 1)) = digsN (ks.take i) ++ [digN ks[i]] := by
        have e : ks.take (i + 1) = ks.take i ++ [ks[i]] := by rw [List.take_add_one, List.getElem?_eq_getElem hlt2]; rfl
        rw [e]
        unfold digsN
        rw [List.map_append]
        rfl
      have hdz : (digN ks[i]).size ≤ 2 := by rw [Lib.size_eq]; exact digN_len _ (by omega)
      have hI : (i : Int) < (ks.length : Int) := by omega
      have D := Lib.hid (fun wx => rdig_any ks[i] hk64 wx)
      have i1 : InW g wr := ⟨hg⟩
      generalize ks[i] = k at *
      by_cases h0 : i = 0
      · subst h0
        have ho0 : o = ⟨#[]⟩ := ho.out
        subst ho0
        rw [Nat.add_zero] at n1
        have hf : (⟨#[]⟩ : ByteArray) ++ digN k = ⟨(joinB (digsN (ks.take (0 + 1))) ⟨#[44]⟩).toArray⟩ := by
          rw [htk]
          show _ = (⟨(joinB ([] ++ [digN k]) ⟨#[44]⟩).toArray⟩ : ByteArray)
          rw [joinB_snoc, if_pos rfl]
          apply ByteArray.ext
          simp
        have hf' := Lib.hid hf
        clear hf htk ho
        generalize digN k = dk at *
        go_wp2_with ((with_reducible refine (D.out _).mono ?_); intro e w1 hr; obtain ⟨rfl, p, rfl⟩ := hr.out; clear hr)
        go_roundw
        case rel => exact ⟨1, _, rfl, by omega, rfl, hf', by simp; omega, by (first | exact gwT | exact lzT), by (first | exact gwT | exact lzT)⟩
        case measure => simp [intOf]; omega
      · have hne : digsN (ks.take i) ≠ [] := by
          intro e
          have : (digsN (ks.take i)).length = i := by simp [digsN]; omega
          rw [e, List.length_nil] at this
          omega
        have hf : o ++ ⟨#[44]⟩ ++ digN k = ⟨(joinB (digsN (ks.take (i + 1))) ⟨#[44]⟩).toArray⟩ := by
          rw [htk, joinB_add _ _ _ hne, ho.out]
        have hf' := Lib.hid hf
        have hI0 : (0 : Int) < (i : Int) := by omega
        have hs1 : (o ++ ⟨#[44]⟩ : ByteArray).size = o.size + 1 := by simp; rfl
        clear hf htk ho hne
        generalize digN k = dk at *
        go_wp2_with ((with_reducible refine (D.out _).mono ?_); intro e w1 hr; obtain ⟨rfl, p, rfl⟩ := hr.out; clear hr)
        go_roundw
        case rel => exact ⟨i + 1, _, by go_num, by omega, rfl, hf', by rw [ByteArray.size_append, hs1]; omega, by (first | exact gwT | exact lzT), by (first | exact gwT | exact lzT)⟩
        case measure => simp [intOf]; omega
    · have hI : ¬ (i : Int) < (ks.length : Int) := by omega
      have ho2 : o = ⟨(joinB (digsN ks) ⟨#[44]⟩).toArray⟩ := by rw [ho.out, List.take_of_length_le (by omega)]
      replace ho2 := Lib.hid ho2
      clear ho
      go_wp2
      go_returns
      exact ⟨by rw [← ho2.out]; rfl, by (first | exact gwT | exact lzT)⟩
end Go.Proofs.YtniecghigmgbnaaDoor

