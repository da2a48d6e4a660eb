/- Sets of numbers: what goes through a list. -/
import Derived.Test.YtniecghigmgbnaaDoorB1
import Derived.Test.YtniecghigmgbnaaDoorT4
import Derived.Test.YtniecghigmgbnaaDoorXR
import Derived.WalkKit
import Derived.ProofKit
import Derived.OpenShut
import Derived.Handy
import Derived.BigQuiet
import Derived.OwnWalk
import Derived.Deep.AppendLies
import Derived.Lib.Hide
import Derived.WalkSmall
import Derived.WalkLawsBesides
namespace Go.Proofs.YtniecghigmgbnaaDoor
open Go.RowKit
/-- Numbers lie where a slice says. -/
def IntsRd (w : World) (ao : Option Addr) (xs : List Int) : Prop := ∀ i (hi : i < xs.length), ∃ g o, ao = some ⟨g, o, none⟩ ∧ g < w.heap.size ∧ w.cell? ⟨g, o + i, none⟩ = some (.int .i64 xs[i])
theorem intsRd_keep {w w' : World} {ao : Option Addr} {xs : List Int} (h : IntsRd w ao xs) (hb : Below w.heap.size w w') : IntsRd w' ao xs := fun i hi => by
  obtain ⟨g, o, e, hg, h1⟩ := h i hi
  exact ⟨g, o, e, Nat.lt_of_lt_of_le hg hb.size, (hb.cell (p := ⟨g, _, none⟩) hg).trans h1⟩
/-- Sets lie where a slice says. -/
def SetsRd (w : World) (ao : Option Addr) (ts : List Nat) : Prop := ∀ i (hi : i < ts.length), ∃ g, ao = some ⟨g, 0, none⟩ ∧ g < w.heap.size ∧ w.cell? ⟨g, i, none⟩ = some (.int .u64 (ts[i] : Int))
theorem ofS_more {s i : Nat} {l : List Int} (h : i < l.length) : ofS s (l.drop i) = ofS (s ||| oneS l[i]) (l.drop (i + 1)) := by rw [List.drop_eq_getElem_cons h, ofS]
theorem ofS_end {s i : Nat} {l : List Int} (h : l.length ≤ i) : ofS s (l.drop i) = s := by rw [List.drop_of_length_le h, ofS]
theorem joinS_more {s i : Nat} {l : List Nat} (h : i < l.length) : unionS s (l.drop i) = unionS (s ||| l[i]) (l.drop (i + 1)) := by rw [List.drop_eq_getElem_cons h, unionS]
theorem joinS_end {s i : Nat} {l : List Nat} (h : l.length ≤ i) : unionS s (l.drop i) = s := by rw [List.drop_of_length_le h, unionS]
theorem hasL_more {n : Int} {i : Nat} {l : List Int} (h : i < l.length) : hasL (l.drop i) n = (l[i] == n || hasL (l.drop (i + 1)) n) := by rw [List.drop_eq_getElem_cons h]; rfl
theorem hasL_end {n : Int} {i : Nat} {l : List Int} (h : l.length ≤ i) : hasL (l.drop i) n = false := by rw [List.drop_of_length_le h]; rfl
theorem bits_or (s t : Nat) (hs : s < 2 ^ 64) (ht : t < 2 ^ 64) : bits .or .u64 (s : Int) (t : Int) = ((s ||| t : Nat) : Int) := bits_or_u64_nat s t hs ht
set_option maxRecDepth 100000 in
set_option maxHeartbeats 4000000 in
theorem with_any (ao : Option Addr) (cap : Nat) (l : List Int) (hl : l.length ≤ 1000) (s : Nat) (hs : s < 2 ^ 64) (w : World) (h : IntsRd w ao l) :
    Calls Tryd.prog 13 #[.int .u64 (s : Int), .slice ao l.length cap] w (RetW (.int .u64 ((ofS s l : Nat) : Int)) w) := by
  have H := Lib.hid h
  have hF' : Hid (ofS s (l.drop 0) = ofS s l) := Lib.hid (by rw [List.drop_zero])
  generalize ofS s l = F at *
  clear h
  go_enter Tryd.func13, Tryd.ntmps13
  go_wp2
  go_loopw [0, 9] (fun v x wr => ∃ (i t : Nat), v = .int .u64 (t : Int) ∧ x = .int .i64 (i : Int) ∧ i ≤ l.length ∧ t < 2 ^ 64 ∧ Hid (ofS t (l.drop i) = F) ∧ wr = w) (fun _ x _ => l.length - (intOf x).toNat)
  case atStart => exact ⟨0, s, rfl, rfl, Nat.zero_le _, hs, hF', rfl⟩
  case round =>
    obtain ⟨i, t, rfl, rfl, hi, ht, hf, rfl⟩ := hrel
    by_cases hlt : i < l.length
    · obtain ⟨g, o, rfl, hg, n1⟩ := H.out i hlt
      have hm := ofS_more (s := t) hlt
      rw [hf.out] at hm
      have hm' := Lib.hid hm.symm
      have hI : (i : Int) < (l.length : Int) := by omega
      have e1 := bits_or t (oneS l[i]) ht (oneS_lt _)
      have ho : t ||| oneS l[i] < 2 ^ 64 := Nat.or_lt_two_pow ht (oneS_lt _)
      generalize l[i] = n at *
      generalize t ||| oneS n = u at *
      clear hm hf
      go_wp2_with (first | ((with_reducible refine (one_any n _).mono ?_); rintro e w1 ⟨rfl, rfl⟩))
      go_roundw
      case rel => exact ⟨i + 1, u, rfl, by go_num, by omega, ho, hm', trivial⟩
      case measure => simp [intOf]; omega
    · have hI : ¬ (i : Int) < (l.length : Int) := by omega
      have hm := ofS_end (s := t) (show l.length ≤ i by omega)
      rw [hf.out] at hm
      subst hm
      clear hf
      go_wp2
      go_returns
      exact ⟨rfl, rfl⟩
theorem of_set (ao : Option Addr) (cap : Nat) (l : List Int) (hl : l.length ≤ 1000) (w : World) (h : IntsRd w ao l) :
    Calls Tryd.prog 8 #[.slice ao l.length cap] w (RetW (.int .u64 ((ofS 0 l : Nat) : Int)) w) := by
  have C : ∀ wx, wx = w → Calls Tryd.prog 13 #[.int .u64 0, .slice ao l.length cap] wx (RetW (.int .u64 ((ofS 0 l : Nat) : Int)) wx) := fun wx e => with_any ao cap l hl 0 (by decide) wx (e ▸ h)
  replace C := Lib.hid C
  clear h
  go_enter Tryd.func8, Tryd.ntmps8
  go_wp2_with (first | ((with_reducible refine (C.out _ rfl).mono ?_); rintro e w1 ⟨rfl, rfl⟩))
  go_returns
  exact ⟨rfl, rfl⟩
theorem without_any (ao : Option Addr) (cap : Nat) (l : List Int) (hl : l.length ≤ 1000) (s : Nat) (hs : s < 2 ^ 64) (w : World) (h : IntsRd w ao l) :
    Calls Tryd.prog 14 #[.int .u64 (s : Int), .slice ao l.length cap] w (RetW (.int .u64 ((lessS s (ofS 0 l) : Nat) : Int)) w) := by
  have C := fun wx (e : wx = w) => of_set ao cap l hl wx (e ▸ h)
  have D := fun wx => lessS_any s (ofS 0 l) hs (ofS_lt l 0 (by decide)) wx
  generalize lessS s (ofS 0 l) = u at *
  generalize ofS 0 l = v at *
  replace C := Lib.hid C
  replace D := Lib.hid D
  clear h
  go_enter Tryd.func14, Tryd.ntmps14
  go_wp2_with (first | ((with_reducible refine (C.out _ rfl).mono ?_); rintro e w1 ⟨rfl, rfl⟩) | ((with_reducible refine (D.out _).mono ?_); rintro e w1 ⟨rfl, rfl⟩))
  refine bodyPost_ret (results_tmp rfl _ _ _) rfl ?_
  exact ⟨rfl, rfl⟩
set_option maxRecDepth 100000 in
set_option maxHeartbeats 4000000 in
theorem joinS_any (ao : Option Addr) (cap : Nat) (l : List Nat) (hl : l.length ≤ 1000) (hb : ∀ t ∈ l, t < 2 ^ 64) (s : Nat) (hs : s < 2 ^ 64) (w : World) (h : SetsRd w ao l) :
    Calls Tryd.prog 15 #[.int .u64 (s : Int), .slice ao l.length cap] w (RetW (.int .u64 ((unionS s l : Nat) : Int)) w) := by
  have H := Lib.hid h
  have hF' : Hid (unionS s (l.drop 0) = unionS s l) := Lib.hid (by rw [List.drop_zero])
  generalize unionS s l = F at *
  replace hb := Lib.hid hb
  clear h
  go_enter Tryd.func15, Tryd.ntmps15
  go_wp2
  go_loopw [0, 9] (fun v x wr => ∃ (i t : Nat), v = .int .u64 (t : Int) ∧ x = .int .i64 (i : Int) ∧ i ≤ l.length ∧ t < 2 ^ 64 ∧ Hid (unionS t (l.drop i) = F) ∧ wr = w) (fun _ x _ => l.length - (intOf x).toNat)
  case atStart => exact ⟨0, s, rfl, rfl, Nat.zero_le _, hs, hF', rfl⟩
  case round =>
    obtain ⟨i, t, rfl, rfl, hi, ht, hf, rfl⟩ := hrel
    by_cases hlt : i < l.length
    · obtain ⟨g, rfl, hg, n1⟩ := H.out i hlt
      have hm := joinS_more (s := t) hlt
      rw [hf.out] at hm
      have hm' := Lib.hid hm.symm
      have hI : (i : Int) < (l.length : Int) := by omega
      have hu := hb.out _ (List.getElem_mem hlt)
      have e1 := bits_or t l[i] ht hu
      have ho : t ||| l[i] < 2 ^ 64 := Nat.or_lt_two_pow ht hu
      generalize l[i] = n at *
      generalize t ||| n = u at *
      clear hm hf
      go_wp2
      go_roundw
      case rel => exact ⟨i + 1, u, rfl, by go_num, by omega, ho, hm', trivial⟩
      case measure => simp [intOf]; omega
    · have hI : ¬ (i : Int) < (l.length : Int) := by omega
      have hm := joinS_end (s := t) (show l.length ≤ i by omega)
      rw [hf.out] at hm
      subst hm
      clear hf
      go_wp2
      go_returns
      exact ⟨rfl, rfl⟩
set_option maxRecDepth 100000 in
set_option maxHeartbeats 4000000 in
theorem rhas_any (ao : Option Addr) (cap : Nat) (l : List Int) (hl : l.length ≤ 1000) (n : Int) (w : World) (h : IntsRd w ao l) :
    Calls Tryd.prog 11 #[.slice ao l.length cap, .int .i64 n] w (RetW (.bool (hasL l n)) w) := by
  have H := Lib.hid h
  have hF' : Hid (hasL (l.drop 0) n = hasL l n) := Lib.hid (by rw [List.drop_zero])
  generalize hasL l n = F at *
  clear h
  go_enter Tryd.func11, Tryd.ntmps11
  go_wp2
  go_loopw [5] (fun x wr => ∃ (i : Nat), x = .int .i64 (i : Int) ∧ i ≤ l.length ∧ Hid (hasL (l.drop i) n = F) ∧ wr = w) (fun x _ => l.length - (intOf x).toNat)
  case atStart => exact ⟨0, rfl, Nat.zero_le _, hF', rfl⟩
  case round =>
    obtain ⟨i, rfl, hi, hf, rfl⟩ := hrel
    by_cases hlt : i < l.length
    · obtain ⟨g, o, rfl, hg, n1⟩ := H.out i hlt
      have hm := hasL_more (n := n) hlt
      rw [hf.out] at hm
      have hI : (i : Int) < (l.length : Int) := by omega
      generalize l[i] = x at *
      by_cases hx : x = n
      · have e1 : (x == n) = true := by simpa using hx
        rw [e1, Bool.true_or] at hm
        subst hm
        replace hx := Lib.hid hx
        clear hf
        go_wp2
        go_returns
        exact ⟨rfl, rfl⟩
      · have e1 : (x == n) = false := by simpa using hx
        rw [e1, Bool.false_or] at hm
        have hm' := Lib.hid hm.symm
        replace hx := Lib.hid hx
        clear hm hf
        go_wp2
        go_roundw
        case rel => exact ⟨i + 1, by go_num, by omega, hm', trivial⟩
        case measure => simp [intOf]; omega
    · have hI : ¬ (i : Int) < (l.length : Int) := by omega
      have hm := hasL_end (n := n) (show l.length ≤ i by omega)
      rw [hf.out] at hm
      subst hm
      clear hf
      go_wp2
      go_returns
      exact ⟨rfl, rfl⟩
/-! ### Lists as the document has them -/
theorem Tryd.infoI : (Tryd.prog.info? 3).map (fun i => (i.zero, i.size, i.bytes)) = some (some (.int .i64 0), 1, 8) := by kernel_rfl
def natsI (l : List Nat) : List Value := l.map fun n : Nat => Value.int .i64 (n : Int)
/-- Numbers, as a row of the call's own. -/
def NumsIs (ks : List Nat) (w : World) (e : Ending) (w' : World) : Prop := ∃ ao cap, e = .returned (.slice ao ks.length cap) ∧ w'.ownsRow w.heap.size 3 1 (.slice ao ks.length cap) ks.length (natsI ks) ∧ Below w.heap.size w w'
theorem numsF_more {f n s : Nat} : numsF (f + 1) n s = if s % 2 = 1 then n :: numsF f (n + 1) (s / 2) else numsF f (n + 1) (s / 2) := rfl
set_option maxRecDepth 100000 in
set_option maxHeartbeats 4000000 in
theorem rlist_any (s : Nat) (hs : s < 2 ^ 64) (w : World) : Calls Tryd.prog 7 #[.int .u64 (s : Int)] w (NumsIs (numsS s) w) := by
  have hF' : Hid (numsS s = [] ++ numsF 64 0 s) := Lib.hid rfl
  have hlen := nums_len s
  generalize numsS s = F at *
  obtain ⟨j0, hj, hy1, hy2, hy3⟩ := info_parts Tryd.infoI
  go_enter Tryd.func7, Tryd.ntmps7
  go_wp2
  go_loopw [0, 3, 4] (fun u v x wr => ∃ (i t : Nat) (ks : List Nat) (oa : Option Addr) (oc : Nat), u = .int .u64 (t : Int) ∧ x = .int .i64 (i : Int) ∧ i ≤ 64 ∧ t < 2 ^ 64 ∧ ks.length ≤ i ∧ Hid (F = ks ++ numsF (64 - i) i t) ∧ v = .slice oa ks.length oc ∧ wr.ownsRow w.heap.size 3 1 (.slice oa ks.length oc) ks.length (natsI ks) ∧ Below w.heap.size w wr) (fun _ _ x _ => 64 - (intOf x).toNat)
  case atStart => exact ⟨0, s, [], none, 0, rfl, rfl, by omega, hs, Nat.zero_le _, hF', rfl, World.ownsRow_nil _ _ _ _, by (first | exact gwT | exact lzT)⟩
  case round =>
    obtain ⟨i, t, ks, oa, oc, rfl, rfl, hi, ht, hk, hf, rfl, hown, hb⟩ := hrel
    rename World => wr
    have hwz := hb.size
    have hownK := Lib.hid hown
    clear hown
    by_cases hlt : i < 64
    · obtain ⟨f, hfe⟩ : ∃ f, 64 - i = f + 1 := ⟨63 - i, by omega⟩
      have hf1 : 64 - (i + 1) = f := by omega
      have hm := numsF_more (f := f) (n := i) (s := t)
      rw [hfe] at hf
      have hI : (i : Int) < 64 := by omega
      have e2 : IntKind.u64.wrap ((t : Int) / 2) = ((t / 2 : Nat) : Int) := by rw [IntKind.wrap_u64]; omega
      by_cases hh : t % 2 = 1
      · rw [if_pos hh] at hm
        have e1 : ((t : Int) % 2 == 1) = true := by rw [beq_iff_eq]; omega
        have hf2 : Hid (F = (ks ++ [i]) ++ numsF (64 - (i + 1)) (i + 1) (t / 2)) := Lib.hid (by rw [hf.out, hm, hf1]; simp)
        replace hh := Lib.hid hh
        replace hfe := Lib.hid hfe
        replace hf1 := Lib.hid hf1
        clear hf hm
        go_wp2_with (at_builtin; refine wpList_append_lies _ rfl _ _ 24 rfl w.heap.size 3 j0 _ 1 8 Tryd.underlying24 hj hy1 hy2 hy3 rfl (by decide) (.slice oa ks.length oc) ks.length (natsI ks) rfl (owns_below hownK.out (by (first | exact gwT | exact lzT))) ⟨_, 0, none⟩ 1 1 [.int .i64 (i : Int)] rfl rfl (World.news_of_block (new_at (by simp))) (by intro u hu; simp at hu; subst hu; rfl) (by decide) (by unfold maxLen; omega) (by omega) (by simp [go_sem]; omega) _ rfl ?_)
        intro g' cap' w1 hown1 hgrow hat1 hg1
        have hb1 : Below w.heap.size w w1 := Below.grown (by (first | exact gwT | exact lzT)) hgrow (by simp [go_sem]; omega) (fun k hk => (hownK.out.lt k hk).1)
        have hown2 := Lib.hid hown1
        clear hown1 hgrow hat1 hg1 hownK hb
        go_wp2
        go_roundw
        case rel => exact ⟨i + 1, t / 2, ks ++ [i], _, cap', by go_num, by go_num, by omega, by omega, by simp; omega, hf2, by rw [List.length_append]; rfl, by rw [List.length_append, show natsI (ks ++ [i]) = natsI ks ++ [.int .i64 (i : Int)] by simp [natsI]]; exact hown2.out, hb1⟩
        case measure => simp [intOf]; omega
      · have e1 : ((t : Int) % 2 == 1) = false := by rw [beq_eq_false_iff_ne]; omega
        rw [if_neg hh] at hm
        have hf2 : Hid (F = ks ++ numsF (64 - (i + 1)) (i + 1) (t / 2)) := Lib.hid (by rw [hf.out, hm, hf1])
        replace hh := Lib.hid hh
        replace hfe := Lib.hid hfe
        replace hf1 := Lib.hid hf1
        clear hf hm
        go_wp2
        go_roundw
        case rel => exact ⟨i + 1, t / 2, ks, oa, oc, by go_num, by go_num, by omega, by omega, by omega, hf2, rfl, owns_below hownK.out (by (first | exact gwT | exact lzT)), by (first | exact gwT | exact lzT)⟩
        case measure => simp [intOf]; omega
    · have hI : ¬ (i : Int) < 64 := by omega
      obtain rfl : i = 64 := by omega
      have hf2 : F = ks := by rw [hf.out, show 64 - 64 = 0 from rfl, numsF, List.append_nil]
      subst hf2
      clear hf
      go_wp2
      go_returns
      exact ⟨_, _, rfl, owns_below hownK.out (by (first | exact gwT | exact lzT)), by (first | exact gwT | exact lzT)⟩
set_option maxRecDepth 100000 in
set_option maxHeartbeats 4000000 in
theorem rset_any (ao : Option Addr) (cap : Nat) (l : List Int) (hl : l.length ≤ 1000) (w : World) (h : IntsRd w ao l) :
    Calls Tryd.prog 9 #[.slice ao l.length cap] w (RetW (.int .u64 ((ofS 0 l : Nat) : Int)) w) := by
  have H := Lib.hid (fun n wx (e : wx = w) => rhas_any ao cap l hl n wx (e ▸ h))
  have hM := Lib.hid (set_more l)
  have hE := Lib.hid (set_end l)
  clear h
  generalize ofS 0 l = F at *
  go_enter Tryd.func9, Tryd.ntmps9
  go_wp2
  go_loopw [3, 4, 5] (fun u v x wr => ∃ (i b : Nat), u = .int .u64 ((F % 2 ^ i : Nat) : Int) ∧ v = .int .u64 (b : Int) ∧ b < 2 ^ 64 ∧ (i < 64 → b = 2 ^ i) ∧ x = .int .i64 (i : Int) ∧ i ≤ 64 ∧ wr = w) (fun _ _ x _ => 64 - (intOf x).toNat)
  case atStart => exact ⟨0, 1, by simp [Nat.mod_one], rfl, by decide, fun _ => rfl, rfl, by omega, rfl⟩
  case round =>
    obtain ⟨i, b, rfl, rfl, hb, hb2, rfl, hi, rfl⟩ := hrel
    by_cases hlt : i < 64
    · have hI : (i : Int) < 64 := by omega
      have hm := hM.out i hlt
      obtain rfl := hb2 hlt
      have hlt2 : F % 2 ^ i < 2 ^ i := Nat.mod_lt _ (Nat.two_pow_pos i)
      have h63 : 2 ^ i ≤ 9223372036854775808 := Nat.pow_le_pow_right (n := 2) (by omega) (show i ≤ 63 by omega)
      have e5 : i + 1 < 64 → 2 * 2 ^ i % 2 ^ 64 = 2 ^ (i + 1) := fun h => by
        have : 2 ^ (i + 1) < 2 ^ 64 := Nat.pow_lt_pow_right (by omega) (by omega)
        rw [Nat.pow_succ] at *
        omega
      have e6 : 2 * 2 ^ i % 2 ^ 64 < 2 ^ 64 := Nat.mod_lt _ (by decide)
      obtain ⟨x1, hx1⟩ : ∃ x1, F % 2 ^ (i + 1) = x1 := ⟨_, rfl⟩
      have hx1' := Lib.hid hx1
      rw [hx1] at hm
      clear hx1
      obtain ⟨b2, hb2'⟩ : ∃ b2, 2 * 2 ^ i % 2 ^ 64 = b2 := ⟨_, rfl⟩
      have e3 : IntKind.u64.wrap (2 * ((2 ^ i : Nat) : Int)) = (b2 : Int) := by rw [IntKind.wrap_u64, ← hb2']; omega
      rw [hb2'] at e5 e6
      clear hb2' hb2
      replace e5 := Lib.hid e5
      generalize F % 2 ^ i = x0 at *
      generalize 2 ^ i = b1 at *
      have A := H.out (i : Int)
      cases hh : hasL l (i : Int) with
      | true =>
        rw [hh, if_pos rfl] at hm
        have e4 : IntKind.u64.wrap ((x0 : Int) + (b1 : Int)) = (x1 : Int) := by rw [IntKind.wrap_u64, hm]; omega
        rw [hh] at A
        replace A := Lib.hid A
        clear hm hh hlt2 h63
        go_wp2_with (first | ((with_reducible refine (A.out _ rfl).mono ?_); rintro e w1 ⟨rfl, rfl⟩))
        go_roundw
        case rel => exact ⟨i + 1, b2, by rw [hx1'.out], rfl, e6, e5.out, by go_num, by omega, trivial⟩
        case measure => simp [intOf]; omega
      | false =>
        rw [hh, if_neg Bool.false_ne_true, Nat.add_zero] at hm
        subst hm
        rw [hh] at A
        replace A := Lib.hid A
        clear hh hlt2 h63
        go_wp2_with (first | ((with_reducible refine (A.out _ rfl).mono ?_); rintro e w1 ⟨rfl, rfl⟩))
        go_roundw
        case rel => exact ⟨i + 1, b2, by rw [hx1'.out], rfl, e6, e5.out, by go_num, by omega, trivial⟩
        case measure => simp [intOf]; omega
    · have hI : ¬ (i : Int) < 64 := by omega
      obtain rfl : i = 64 := by omega
      rw [hE.out]
      clear hE hM
      go_wp2
      go_returns
      exact ⟨rfl, rfl⟩
end Go.Proofs.YtniecghigmgbnaaDoor

