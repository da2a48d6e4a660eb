/- Sets of numbers: the law on lists. -/
import Derived.Test.YtniecghigmgbnaaDoorBL
import Derived.Deep.Light
namespace Go.Proofs.YtniecghigmgbnaaDoor
open Go.RowKit
attribute [local go_sem] Oper.semAt_some
/-- How a round may end that goes on, or breaks the range. -/
def roundK (H id : Nat) (I Ib : Nat → World → Prop) (j : Nat) (W : World) : Exit → Act → World → Prop
  | .normal, _, W' => (∀ k, k = H ∨ k = H + 1 → W'.heap[k]? = W.heap[k]?) ∧ I (j + 1) W'
  | .exit i, _, W' => i = id ∧ (∀ k, k = H ∨ k = H + 1 → W'.heap[k]? = W.heap[k]?) ∧ Ib j W'
  | _, _, _ => False
/-- A range whose rounds go on, or break it: behind it the walk goes on in one way. -/
theorem range_brk {g : Operand} {ps : Array Tmp} {assign body : Code} {id : Nat} {Q : Exit → Act → World → Prop} {a : Act} {w : World} {n gf : Nat} {lb : Array Value} {vs : List (Array Value)} {Keep : World → Prop} (hn : 1 ≤ n)
    (hgf : ∀ args wx, (callFunc gf args).run Tryd.prog wx = .ok (.enter gf args) wx) (hg : a.eval g = .func (.func gf) #[] lb) (hps : ∀ j (hj : j < vs.length), vs[j].size = ps.size) (C : GivesL (n - 1) gf lb vs Keep)
    (I Ib : Nat → World → Prop) (hK : ∀ j W, I j W → Keep W)
    (hI : ∀ p W W' r, I p W → W.grownBy W' (some (w.heap.size + 1)) → W.heap[w.heap.size + 1]? = some (.loop r) → I p W') (hIb : ∀ p W W' r, Ib p W → W.grownBy W' (some (w.heap.size + 1)) → W.heap[w.heap.size + 1]? = some (.loop r) → Ib p W')
    (h0 : ∀ o o', I 0 ((w.alloc o).alloc o'))
    (hAB : ∃ a₁ : Nat → Act, (∀ (l j : Nat) (hj : j < vs.length) (W : World) (K : Act → World → Prop), K (a₁ j) W →
      assign.wpIn (Fence.wide.inRound l) (n - 1 - 1) Tryd.prog (Exit.then K (fun _ _ _ => False)) { tmps := (ps.zip vs[j]).foldl (fun t (p, v) => t.setIfInBounds p v) a.tmps, defers := [] } W) ∧
      ∀ (l j : Nat) (_ : j < vs.length) (W : World), I j W → body.wpIn (Fence.wide.inRound l) (n - 1 - 1) Tryd.prog (roundK w.heap.size id I Ib j W) (a₁ j) W)
    (hend : ∀ (D : Nat) (W : World), D = w.heap.size → (I vs.length W ∨ ∃ j, j < vs.length ∧ Ib j W) → W.heap[D]? = some (.deferred (some [])) → Q .normal { a with defers := { target := .collected D, args := #[] } :: a.defers } W) :
    (Code.rangeFunc g ps assign body).wpIn Fence.wide n Tryd.prog (Exit.inBlock id Q) a w := by
  obtain ⟨a₁, hassign, hbody⟩ := hAB
  refine range_gen hn hgf hg hps C I (fun c j W => c = .exit id ∧ Ib j W) hK hI (fun c p W W' r h hg hr => ⟨h.1, hIb p W W' r h.2 hg hr⟩) h0 a₁ hassign (fun l j hj W h _ _ => wpIn_mono (hbody l j hj W h) ?_) (fun D W hD h hd => hend D W hD (.inl h) hd) ?_
  · intro e a' W' h
    cases e with
    | normal => exact h
    | exit i => exact ⟨h.2.1, by rw [h.1], h.2.2⟩
    | ret => exact h.elim
    | goto t => exact h.elim
    | panic c => exact h.elim
    | outgrown => exact h.elim
  · rintro c D j W hD hj ⟨rfl, h⟩ hd
    refine wpIn_exit ?_
    show (if id = id then _ else _)
    rw [if_pos rfl]
    exact hend D W hD (.inr ⟨j, hj, h⟩) hd
/-- How many have come, if it is stopped at so many. -/
def stopN (p : Int) (m : Nat) : Nat := if 1 ≤ p ∧ p ≤ (m : Int) then p.toNat else m
theorem stopN_done {p : Int} {m : Nat} (h : ∀ i, i < m → ((i + 1 : Nat) : Int) ≠ p) : stopN p m = m := by
  unfold stopN
  rw [if_neg]
  rintro ⟨h1, h2⟩
  exact h (p.toNat - 1) (by omega) (by omega)
theorem stopN_at {p : Int} {m j : Nat} (hj : j < m) (h : ((j + 1 : Nat) : Int) = p) : stopN p m = j + 1 := by
  unfold stopN
  rw [if_pos (by omega)]
  omega
theorem stopN_or (p : Int) (m : Nat) : stopN p m = m ∨ ((stopN p m : Nat) : Int) = p := by
  unfold stopN
  split
  · right; omega
  · left; rfl
theorem stop_beq {j : Nat} {p : Int} (h : ((j : Int) + 1 == p) = true) : ((j + 1 : Nat) : Int) = p := by rw [beq_iff_eq] at h; omega
theorem stop_bne {j : Nat} {p : Int} (h : ((j : Int) + 1 == p) = false) : ¬ ((j + 1 : Nat) : Int) = p := by rw [beq_eq_false_iff_ne] at h; omega
theorem none_yet {j : Nat} {p : Int} (g : ∀ i, i < j → ((i + 1 : Nat) : Int) ≠ p) (h : ¬ ((j + 1 : Nat) : Int) = p) (i : Nat) (hi : i < j + 1) : ((i + 1 : Nat) : Int) ≠ p := by
  rcases Nat.lt_or_ge i j with h1 | h1
  · exact g i h1
  · obtain rfl : i = j := by omega
    exact h
theorem wrap_succ {j : Nat} (h : j < 1000) : wrap64 ((j : Int) + 1) = (j : Int) + 1 := by unfold wrap64; omega
theorem chain_lt {a b c d e f g : Nat} (h1 : a < b) (h2 : b ≤ c) (h3 : c < d) (h4 : d ≤ e) (h5 : e ≤ f) (h6 : f + 1 ≤ g) : a < g := by omega
theorem three_lt {a b c d : Nat} (h1 : a < b) (h2 : b + 2 ≤ c) (h3 : c + 1 ≤ d) : a < d := by omega
theorem two_lt2 {b c d : Nat} (h2 : b + 2 ≤ c) (h3 : c + 1 ≤ d) : b ≠ d := by omega
theorem beq_cast {a b : Nat} (h : a = b) : ((a : Int) == (b : Int)) = true := by rw [beq_iff_eq]; omega
theorem bne_cast {a b : Nat} (h : ¬ a = b) : ((a : Int) == (b : Int)) = false := by rw [beq_eq_false_iff_ne]; omega
theorem beq_stop {a : Nat} {p : Int} (h : (a : Int) = p) : ((a : Int) == p) = true := by rw [beq_iff_eq]; exact h
/-- The world behind the return: the answer stands in its cell; what was kept for the rounds is shut. -/
theorem fin_world {w V : World} {d1 d2 r : Nat} (b : Below w.heap.size w V) (hr : w.heap.size ≤ r) (qr : Cell1 V r (.bool false) 4) (h1 : r < d1) (h2 : r < d2) (h12 : d1 ≠ d2)
    (k1 : V.heap[d1]? = some (.deferred (some []))) (k2 : V.heap[d2]? = some (.deferred (some []))) :
    (V.setCell ⟨r, 0, none⟩ (.bool true)).heap[d2]? = some (.deferred (some [])) ∧ ((V.setCell ⟨r, 0, none⟩ (.bool true)).putObj d2 (.deferred none)).heap[d1]? = some (.deferred (some [])) ∧
    (((V.setCell ⟨r, 0, none⟩ (.bool true)).putObj d2 (.deferred none)).putObj d1 (.deferred none)).cell? ⟨r, 0, none⟩ = some (.bool true) ∧
    Below w.heap.size w (((V.setCell ⟨r, 0, none⟩ (.bool true)).putObj d2 (.deferred none)).putObj d1 (.deferred none)) := by
  have g1 := grownBy_putObj' (V.setCell ⟨r, 0, none⟩ (.bool true)) d2 (.deferred none)
  have g2 := grownBy_putObj' ((V.setCell ⟨r, 0, none⟩ (.bool true)).putObj d2 (.deferred none)) d1 (.deferred none)
  have hs : (V.setCell ⟨r, 0, none⟩ (.bool true)).heap[d1]? = some (.deferred (some [])) := (set_heap (by omega)).trans k1
  have hb : Below w.heap.size w (V.setCell ⟨r, 0, none⟩ (.bool true)) := b.setCell (p := ⟨_, _, none⟩) hr _
  have hb2 := hb.grown g1 hb.size fun k e => by cases e; omega
  refine ⟨(set_heap (by omega)).trans k2, (g1.block _ (Array.getElem?_eq_some_iff.1 hs).1 (by simpa using h12)).trans hs, ?_, hb2.grown g2 hb2.size fun k e => by cases e; omega⟩
  exact (one_cells (cell1_low (cell1_low (set_one qr) g1 (by omega)) g2 (by omega))).1
theorem cast_lt {a b : Nat} (h : a < b) : (a : Int) < (b : Int) := by omega
theorem cast_nle {a b : Nat} (h : a < b) : ¬ (b : Int) ≤ (a : Int) := by omega
theorem lt_1000 {a b : Nat} (h : a < b) (hb : b ≤ 64) : a < 1000 := by omega
theorem wrap_pred {n : Nat} (h : 0 < n) (h2 : n ≤ 64) : wrap64 ((n : Int) - 1) = (n : Int) - 1 := by unfold wrap64; omega
/-- The j-th of what comes falling. -/
theorem back_at {ks : List Nat} {j : Nat} (hl : ks.length ≤ 64) (hj : j < ks.length) : ∃ i, ∃ hi : i < ks.length, ks.reverse.getD j 0 = ks[i] ∧ wrap64 ((ks.length : Int) - 1 - (j : Int)) = (i : Int) := by
  refine ⟨ks.length - 1 - j, by omega, ?_, by unfold wrap64; omega⟩
  rw [List.getD_eq_getElem?_getD, List.getElem?_eq_getElem (by simpa using hj), Option.getD_some, List.getElem_reverse]
set_option maxRecDepth 100000 in
set_option maxHeartbeats 4000000 in
/-- The walk of BitsLists. -/
theorem lists10_walk (n0 : Int) (h0 : U64 n0) (stop : Int) (w : World) (hT : Db w) : Calls Tryd.prog 4 #[.int .u64 n0, .int .i64 stop] w (Ret (.bool true) w) := by
  obtain ⟨s, rfl, hs⟩ := u64_nat h0
  have hA := Lib.hid (fun wx hx => anchor10_any wx (db_below hT hx))
  have hT' := Lib.hid hT
  have la := Lib.hid (fun wx => rlist_any s hs wx)
  have lb := Lib.hid (fun wx hx => list_any s hs wx (db_below hT hx))
  have sh := Lib.hid (fun wx hx => showS_any s hs wx (db_below hT hx))
  have rs := Lib.hid (fun wx => rshowS_any s hs wx)
  have hGa := Lib.hid (fun b c => all_gives 8 b c s hs)
  have hGb := Lib.hid (fun b c => back_gives 8 b c s hs)
  have al := Lib.hid (fun wx hx => all_any s wx (db_below hT hx))
  have bl := Lib.hid (fun wx hx => back_set s wx (db_below hT hx))
  have hl := nums_len s
  have hfst : Hid (∀ wx, Below w.heap.size w wx → (numsS s = [] → Calls Tryd.prog 22 #[.int .u64 (s : Int)] wx (RetW (.int .i64 (-1)) wx)) ∧ ∀ k r, numsS s = k :: r → Calls Tryd.prog 22 #[.int .u64 (s : Int)] wx (RetW (.int .i64 (k : Int)) wx)) := Lib.hid (fun wx hx => by
    refine ⟨fun h => ?_, fun k r h => ?_⟩
    · have := nums_none hs h
      subst this
      exact first_none wx
    · have h0 : s ≠ 0 := fun e => by
        subst e
        rw [show numsS 0 = [] from numsF_zero 64 0] at h
        cases h
      rw [nums_first s h0 hs] at h
      obtain ⟨rfl, _⟩ := List.cons.inj h
      exact first_any s h0 hs wx (db_below hT hx))
  generalize joinB (digsN (numsS s)) ⟨#[44]⟩ = txt at *
  generalize numsS s = ks at *
  clear h0 hT hs
  refine (callsIn_wide (n := 9)).1 ?_
  refine callsIn_of_wp_marks Tryd.func4 rfl trivial ?_ rfl
  show Code.wpIn _ _ _ _ _ { tmps := #[.int .u64 (s : Int), .int .i64 stop] ++ _, defers := [] } _
  simp only [Tryd.ntmps4, List.size_toArray, List.length_cons, List.length_nil, Nat.reduceAdd, Nat.reduceSub, Array.replicate_succ, Array.replicate_zero, List.push_toArray, List.append_toArray, List.nil_append, List.cons_append]
  refine wpIn_wide.2 ?_
  go_wp2_with (first | ((with_reducible refine (hA.out _ (by (first | exact gwT | exact lzT))).mono ?_); intro e w1 hr; obtain ⟨rfl, p, rfl⟩ := hr.out; clear hr))
  refine (la.out _).mono ?_
  rintro e w1 ⟨ao1, cap1, rfl, ra, b1⟩
  obtain ⟨wa, hwa⟩ : ∃ wa, G p ((w.alloc (.cells #[.int .i64 stop] 3)).alloc (.cells #[.bool false] 4)) = wa := ⟨_, rfl⟩
  have b0 : Below w.heap.size w wa := by rw [← hwa]; (first | exact gwT | exact lzT)
  have q0 : Cell1 wa w.heap.size (.int .i64 stop) 3 := by
    rw [← hwa]
    exact cell1_keep (cell1_old _ (show Cell1 (w.alloc (.cells #[.int .i64 stop] 3)) w.heap.size (.int .i64 stop) 3 from heap_alloc_new w _)) (belowG0 p _)
  have qr : Cell1 wa (w.heap.size + 1) (.bool false) 4 := by
    rw [← hwa]
    exact cell1_keep (show Cell1 ((w.alloc (.cells #[.int .i64 stop] 3)).alloc (.cells #[.bool false] 4)) (w.heap.size + 1) (.bool false) 4 from new_at (by simp)) (belowG0 p _)
  rw [hwa] at ra b1
  have ra' := Lib.hid (nums_rd ra)
  replace b1 := Lib.hid b1
  clear hwa ra la
  have z0 := (one_cells qr).2.2
  have bw1 : Below w.heap.size w w1 := b0.trans (b1.out.mono b0.size)
  have szw1 := bw1.size
  have szb1 := b1.out.size
  go_wp2_with fail
  obtain ⟨wc, hwc⟩ : ∃ wc, w1.alloc (.cells #[.slice ao1 ks.length cap1] 24) = wc := ⟨_, rfl⟩
  rw [hwc]
  have bc : Below w1.heap.size w1 wc := by rw [← hwc]; (first | exact gwT | exact lzT)
  have qw : Cell1 wc w1.heap.size (.slice ao1 ks.length cap1) 24 := by rw [← hwc]; exact heap_alloc_new w1 _
  have bwc : Below w.heap.size w wc := bw1.trans (bc.mono szw1)
  have szc : wc.heap.size = w1.heap.size + 1 := by rw [← hwc]; simp
  refine (lb.out _ bwc).mono ?_
  rintro e w2 ⟨ao2, cap2, rfl, rb, b2⟩
  have rb' := Lib.hid (nums_rd rb)
  have ra2 := Lib.hid (intsRd_keep (intsRd_keep ra'.out bc) b2)
  have bw2 : Below w.heap.size w w2 := bwc.trans (b2.mono bwc.size)
  have q0' := Lib.hid (cell1_keep (cell1_keep (cell1_keep q0 b1.out) bc) b2)
  have qr' := Lib.hid (cell1_keep (cell1_keep (cell1_keep qr b1.out) bc) b2)
  have qw' := Lib.hid (cell1_keep qw b2)
  have sz2 := b2.size
  clear hwc rb lb b1 b0 q0 qr qw bc ra' bw1 bwc b2 hA
  dsimp only
  obtain ⟨c5, f5, l5⟩ := one_cells qw'.out
  have i5 : InW w1.heap.size w2 := ⟨l5⟩
  have S1 := Lib.hid (fun (wx : World) (hx : Below w2.heap.size w2 wx) => sh.out wx (bw2.trans (Below.mono hx bw2.size)))
  have F1 := Lib.hid (fun (wx : World) (hx : Below w2.heap.size w2 wx) => hfst.out wx (bw2.trans (Below.mono hx bw2.size)))
  clear sh hfst
  go_upto_region 5 with (fail)
  go_cut [52] from 18 (fun v wx => v = .bool false ∧ Below w2.heap.size w2 wx)
  case first =>
    have q5 : (txt.toArray == txt.toArray) = true := by simp
    rcases Nat.eq_zero_or_pos ks.length with h0 | h0
    · have hks := List.eq_nil_of_length_eq_zero h0
      have F2 := Lib.hid (fun (wx : World) (hx : Below w2.heap.size w2 wx) => (F1.out wx hx).1 hks)
      have e0 : ((ks.length : Int) == 0) = true := by rw [h0]; rfl
      have e1 : decide (0 < ks.length) = false := by simpa using h0
      replace h0 := Lib.hid h0
      replace hks := Lib.hid hks
      clear F1
      go_wp2
      (refine wp_region_G (by kernel_rfl) (by kernel_rfl) ?_; (repeat (go_big_quiet_step (first | (with_reducible exact quietG (S1.out _ (by (first | exact gwT | exact lzT)))) | (with_reducible exact quietG (rs.out _)) | (with_reducible exact quietGW (F2.out _ (by (first | exact gwT | exact lzT))))))); refine wpQuiet_nil ?_; intro _ hw'; obtain ⟨pg, hw''⟩ := hw'; subst hw'')
      go_wp2
      go_meet
      exact ⟨rfl, by (first | exact gwT | exact lzT)⟩
    · obtain ⟨k, r, hks⟩ : ∃ k r, ks = k :: r := by
        cases ks with
        | nil => simp at h0
        | cons k r => exact ⟨k, r, rfl⟩
      have F2 := Lib.hid (fun (wx : World) (hx : Below w2.heap.size w2 wx) => (F1.out wx hx).2 k r hks)
      obtain ⟨g, o, hg, hg2, n1⟩ := ra2.out 0 (by simp [intsN]; omega)
      rw [Nat.add_zero, show (intsN ks)[0]'(by simp [intsN]; omega) = (k : Int) by subst hks; rfl] at n1
      subst hg
      have ig : InW g w2 := ⟨hg2⟩
      have e0 : ((ks.length : Int) == 0) = false := by rw [beq_eq_false_iff_ne]; omega
      have e1 : decide (0 < ks.length) = true := by simpa using h0
      replace hks := Lib.hid hks
      clear F1
      go_wp2
      (refine wp_region_G (by kernel_rfl) (by kernel_rfl) ?_; (repeat (go_big_quiet_step (first | (with_reducible exact quietG (S1.out _ (by (first | exact gwT | exact lzT)))) | (with_reducible exact quietG (rs.out _)) | (with_reducible exact quietGW (F2.out _ (by (first | exact gwT | exact lzT))))))); refine wpQuiet_nil ?_; intro _ hw'; obtain ⟨pg, hw''⟩ := hw'; subst hw'')
      go_wp2
      go_meet
      exact ⟨rfl, by (first | exact gwT | exact lzT)⟩
  case rest =>
    obtain ⟨rfl, hb5⟩ := hcut
    clear S1 F1 rs
    have szc5 := hb5.size
    have ra3 := Lib.hid (intsRd_keep ra2.out hb5)
    have rb3 := Lib.hid (intsRd_keep rb'.out hb5)
    have q03 := Lib.hid (cell1_keep q0'.out hb5)
    have qr3 := Lib.hid (cell1_keep qr'.out hb5)
    have qw3 := Lib.hid (cell1_keep qw'.out hb5)
    have bwc3 : Below w.heap.size w wc := bw2.trans (hb5.mono bw2.size)
    clear ra2 rb' q0' qr' qw' c5 f5 i5
    go_wp2
    go_loopw [55] (fun x wr => ∃ i : Nat, x = .int .i64 (i : Int) ∧ i ≤ ks.length ∧ Below wc.heap.size wc wr) (fun x _ => ks.length - (intOf x).toNat)
    case atStart => exact ⟨0, rfl, Nat.zero_le _, Below.refl _ _⟩
    case round =>
      obtain ⟨i, rfl, hi, hbr⟩ := hrel
      rename World => wr
      have szr := hbr.size
      obtain ⟨c5, f5, l5⟩ := one_cells (cell1_keep qw3.out hbr)
      by_cases hlt : i < ks.length
      · obtain ⟨g1, o1, rfl, hg1, n1⟩ := intsRd_keep ra3.out hbr i (by simpa [intsN] using hlt)
        obtain ⟨g2, o2, rfl, hg2, n2⟩ := intsRd_keep rb3.out hbr i (by simpa [intsN] using hlt)
        have i1 : InW g1 wr := ⟨hg1⟩
        have i2 : InW g2 wr := ⟨hg2⟩
        have i5 : InW w1.heap.size wr := ⟨l5⟩
        have hI : (i : Int) < (ks.length : Int) := by omega
        generalize (intsN ks)[i]'(by simpa [intsN] using hlt) = x at *
        go_wp2
        (refine wp_region_G (by kernel_rfl) (by kernel_rfl) ?_; (repeat (go_big_quiet_step (fail))); refine wpQuiet_nil ?_; intro _ hw'; obtain ⟨pg, hw''⟩ := hw'; subst hw'')
        go_wp2
        go_roundw
        case rel => exact ⟨i + 1, by go_num, by omega, by (first | exact gwT | exact lzT)⟩
        case measure => simp [intOf]; omega
      · have hI : ¬ (i : Int) < (ks.length : Int) := by omega
        go_wp2_with fail
        have bwr : Below w.heap.size w wr := bwc3.trans (hbr.mono bwc3.size)
        have ra4 := Lib.hid (intsRd_keep ra3.out hbr)
        have q04 := Lib.hid (cell1_keep q03.out hbr)
        have qr4 := Lib.hid (cell1_keep qr3.out hbr)
        have qw4 := Lib.hid (cell1_keep qw3.out hbr)
        clear ra3 rb3 q03 qr3 qw3 c5 f5 l5 hlt hI hi
        refine (al.out _ (by (first | exact gwT | exact lzT))).mono ?_
        rintro e w3 ⟨b, c, rfl, tk, hb, hc, h3⟩
        have n3 : Cell1 w3 wr.heap.size (.int .i64 0) 3 := cell1_keep (show Cell1 (wr.alloc (.cells #[.int .i64 0] 3)) wr.heap.size (.int .i64 0) 3 from heap_alloc_new wr _) h3
        have b3 : Below wr.heap.size wr w3 := by
          have h0 : Below wr.heap.size wr (wr.alloc (.cells #[.int .i64 0] 3)) := by (first | exact gwT | exact lzT)
          exact h0.trans (h3.mono h0.size)
        have sz3 := h3.size
        rw [World.size_alloc] at hb hc sz3
        clear h3 al
        dsimp only
        go_wp2
        refine (wpIn_wide (n := 9)).1 ?_
        refine range_brk (n := 9) (by decide) (enters_of Tryd.func39 (by kernel_rfl) rfl) rfl (fun j hj => by rw [natsA_at]; rfl) (hGa.out b c)
          (fun j W => Cell1 W wr.heap.size (.int .i64 (j : Int)) 3 ∧ TkAt 22 s b c W ∧ Below wr.heap.size wr W ∧ (∀ i, i < j → ((i + 1 : Nat) : Int) ≠ stop) ∧ w3.heap.size + 2 ≤ W.heap.size)
          (fun j W => Cell1 W wr.heap.size (.int .i64 ((j + 1 : Nat) : Int)) 3 ∧ Below wr.heap.size wr W ∧ ((j + 1 : Nat) : Int) = stop ∧ w3.heap.size + 2 ≤ W.heap.size)
          (fun j W h => h.2.1) ?hI ?hIb ?h0 ?ab ?fin
        case hI =>
          rintro q V V' r ⟨g1, g2, g3, g4, g5⟩ hg hr
          go_light
          have hne : ∀ {k : Nat} {v : Value} {T : TypeId}, Cell1 V k v T → Cell1 V' k v T := fun {k v T} h => cell1_low h hg (fun e => by
            subst e
            unfold Cell1 at h
            rw [hr] at h
            cases h)
          have hb4 : Below wr.heap.size wr V' := g3.grown hg g3.size fun k e => by cases e; omega
          exact ⟨hne g1, ⟨hne g2.set, hne g2.nx, db_below hT'.out (bwr.trans (hb4.mono bwr.size))⟩, hb4, g4, Nat.le_trans g5 hg.size⟩
        case hIb =>
          rintro q V V' r ⟨g1, g3, g4, g5⟩ hg hr
          go_light
          have hb4 : Below wr.heap.size wr V' := g3.grown hg g3.size fun k e => by cases e; omega
          exact ⟨cell1_low g1 hg (by omega), hb4, g4, Nat.le_trans g5 hg.size⟩
        case h0 =>
          intro o o'
          exact ⟨cell1_old _ (cell1_old _ n3), tkAt_keep tk (by (first | exact gwT | exact lzT)), b3.trans ((show Below w3.heap.size w3 ((w3.alloc o).alloc o') by (first | exact gwT | exact lzT)).mono b3.size), fun i hi => absurd hi (Nat.not_lt_zero _), by simp⟩
        case ab =>
          apply Exists.intro
          constructor
          · intro l j hj V K hK
            have hj' : j < ks.length := by simpa [natsA] using hj
            rw [natsA_at]
            gi_wp2
            rw [show ks[j]'hj' = ks.getD j 0 by simp [List.getD, hj']]
            exact hK
          · rintro l j hj V ⟨g1, g2, g3, g4, g5⟩
            go_light
            have hj' : j < ks.length := by simpa [natsA] using hj
            obtain ⟨zn, fn, yn⟩ := one_cells g1
            obtain ⟨zs, _, ys⟩ := one_cells (cell1_keep q04.out g3)
            obtain ⟨zw, _, yw⟩ := one_cells (cell1_keep qw4.out g3)
            obtain ⟨g, o, hg, hgl, n1⟩ := intsRd_keep ra4.out g3 j (by simpa [intsN] using hj')
            rw [show (intsN ks)[j]'(by simpa [intsN] using hj') = ((ks.getD j 0 : Nat) : Int) by simp [intsN, List.getD, hj']] at n1
            subst hg
            generalize ks.getD j 0 = x at *
            have iN : InW wr.heap.size V := ⟨yn⟩
            have hJ0 := cast_nle hj'
            have hJ1 := cast_lt hj'
            have hw := wrap_succ (lt_1000 hj' hl)
            have hso : ∀ k, k = w3.heap.size ∨ k = w3.heap.size + 1 → (V.setCell ⟨wr.heap.size, 0, none⟩ (.int .i64 ((j : Int) + 1))).heap[k]? = V.heap[k]? := fun k hk => set_heap (by omega)
            have hbs : Below wr.heap.size wr (V.setCell ⟨wr.heap.size, 0, none⟩ (.int .i64 ((j : Int) + 1))) := g3.setCell (p := ⟨_, _, none⟩) (Nat.le_refl _) _
            have hn2 := set_one (u := .int .i64 ((j : Int) + 1)) g1
            have hss : w3.heap.size + 2 ≤ (V.setCell ⟨wr.heap.size, 0, none⟩ (.int .i64 ((j : Int) + 1))).heap.size := by rw [World.size_setCell]; exact g5
            have htk : TkAt 22 s b c (V.setCell ⟨wr.heap.size, 0, none⟩ (.int .i64 ((j : Int) + 1))) := ⟨set_far g2.set (by omega), set_far g2.nx (by omega), db_below hT'.out (bwr.trans (hbs.mono bwr.size))⟩
            replace hso := Lib.hid hso
            replace hbs := Lib.hid hbs
            replace hn2 := Lib.hid hn2
            replace hss := Lib.hid hss
            replace htk := Lib.hid htk
            replace g4 := Lib.hid g4
            clear g1 g2 g3 g5
            obtain ⟨bb, e1⟩ : ∃ bb, ((j : Int) + 1 == stop) = bb := ⟨_, rfl⟩
            have hy := Lib.hid (fun h : bb = true => stop_beq (e1.trans h))
            have hn := Lib.hid (fun h : ¬ bb = true => stop_bne (e1.trans (by simpa using h)))
            as_aux_lemma =>
              gi_wp2
              · rename_i h
                exact ⟨rfl, hso.out, hn2.out, hbs.out, hy.out h, hss.out⟩
              · rename_i h
                exact ⟨hso.out, hn2.out, htk.out, hbs.out, none_yet g4.out (hn.out (by simp [h])), hss.out⟩
        case fin =>
          rintro D V hD hIV hK
          subst hD
          obtain ⟨m, hm, nm, bV, szV⟩ : ∃ m : Nat, stopN stop ks.length = m ∧ Cell1 V wr.heap.size (.int .i64 (m : Int)) 3 ∧ Below wr.heap.size wr V ∧ w3.heap.size + 2 ≤ V.heap.size := by
            rw [show (natsA ks).length = ks.length by simp [natsA]] at hIV
            rcases hIV with ⟨g1, _, g3, g4, g5⟩ | ⟨j, hj, g1, g3, g4, g5⟩
            · exact ⟨ks.length, stopN_done g4, g1, g3, g5⟩
            · exact ⟨j + 1, stopN_at hj g4, g1, g3, g5⟩
          replace hm := Lib.hid hm
          replace nm := Lib.hid nm
          have bwV : Below w.heap.size w V := bwr.trans (bV.mono bwr.size)
          have ra5 := Lib.hid (intsRd_keep ra4.out bV)
          have q05 := Lib.hid (cell1_keep q04.out bV)
          have qr5 := Lib.hid (cell1_keep qr4.out bV)
          have qw5 := Lib.hid (cell1_keep qw4.out bV)
          replace hK := Lib.hid hK
          clear hIV tk n3 b3 ra4 q04 qr4 qw4 hGa
          go_wp2_with fail
          refine (bl.out _ (by (first | exact gwT | exact lzT))).mono ?_
          rintro e w4 ⟨b2, c2, rfl, tk, hb2, hc2, h4⟩
          have n4 : Cell1 w4 V.heap.size (.int .i64 0) 3 := cell1_keep (show Cell1 (V.alloc (.cells #[.int .i64 0] 3)) V.heap.size (.int .i64 0) 3 from heap_alloc_new V _) h4
          have b4 : Below V.heap.size V w4 := by
            have h0 : Below V.heap.size V (V.alloc (.cells #[.int .i64 0] 3)) := by (first | exact gwT | exact lzT)
            exact h0.trans (h4.mono h0.size)
          have sz4 := h4.size
          rw [World.size_alloc] at hb2 hc2 sz4
          clear h4 bl
          dsimp only
          go_wp2
          refine (wpIn_wide (n := 9)).1 ?_
          refine range_brk (n := 9) (by decide) (enters_of Tryd.func39 (by kernel_rfl) rfl) rfl (fun j hj => by rw [natsA_at]; rfl) (hGb.out b2 c2)
            (fun j W => Cell1 W V.heap.size (.int .i64 (j : Int)) 3 ∧ TkAt 33 s b2 c2 W ∧ Below V.heap.size V W ∧ (∀ i, i < j → ((i + 1 : Nat) : Int) ≠ stop) ∧ w4.heap.size + 2 ≤ W.heap.size)
            (fun j W => Cell1 W V.heap.size (.int .i64 ((j + 1 : Nat) : Int)) 3 ∧ Below V.heap.size V W ∧ ((j + 1 : Nat) : Int) = stop ∧ w4.heap.size + 2 ≤ W.heap.size)
            (fun j W h => h.2.1) ?hI ?hIb ?h0 ?ab ?fin
          case hI =>
            rintro q V1 V' r ⟨g1, g2, g3, g4, g5⟩ hg hr
            go_light
            have hne : ∀ {k : Nat} {v : Value} {T : TypeId}, Cell1 V1 k v T → Cell1 V' k v T := fun {k v T} h => cell1_low h hg (fun e => by
              subst e
              unfold Cell1 at h
              rw [hr] at h
              cases h)
            have hb4 : Below V.heap.size V V' := g3.grown hg g3.size fun k e => by cases e; omega
            exact ⟨hne g1, ⟨hne g2.set, hne g2.nx, db_below hT'.out (bwV.trans (hb4.mono bwV.size))⟩, hb4, g4, Nat.le_trans g5 hg.size⟩
          case hIb =>
            rintro q V1 V' r ⟨g1, g3, g4, g5⟩ hg hr
            go_light
            have hb4 : Below V.heap.size V V' := g3.grown hg g3.size fun k e => by cases e; omega
            exact ⟨cell1_low g1 hg (by omega), hb4, g4, Nat.le_trans g5 hg.size⟩
          case h0 =>
            intro o o'
            exact ⟨cell1_old _ (cell1_old _ n4), tkAt_keep tk (by (first | exact gwT | exact lzT)), b4.trans ((show Below w4.heap.size w4 ((w4.alloc o).alloc o') by (first | exact gwT | exact lzT)).mono b4.size), fun i hi => absurd hi (Nat.not_lt_zero _), by simp⟩
          case ab =>
            apply Exists.intro
            constructor
            · intro l j hj V1 K hK1
              have hj' : j < ks.reverse.length := by simpa [natsA] using hj
              rw [natsA_at]
              obtain ⟨x, hx⟩ : ∃ x, ks.reverse.getD j 0 = x := ⟨_, rfl⟩
              rw [show ks.reverse[j]'hj' = x by rw [← hx]; simp only [List.getD, List.getElem?_eq_getElem hj', Option.getD_some]]
              replace hx := Lib.hid hx
              skip
              gi_wp2
              have hx2 := hx.out
              subst hx2
              exact hK1
            · rintro l j hj V1 ⟨g1, g2, g3, g4, g5⟩
              go_light
              have hj' : j < ks.length := by simpa [natsA] using hj
              obtain ⟨zn, fn, yn⟩ := one_cells g1
              obtain ⟨zs, _, ys⟩ := one_cells (cell1_keep q05.out g3)
              obtain ⟨zw, _, yw⟩ := one_cells (cell1_keep qw5.out g3)
              obtain ⟨i, hi, hi2, hi3⟩ := back_at (show ks.length ≤ 64 from hl) hj'
              obtain ⟨g, o, hg, hgl, n1⟩ := intsRd_keep ra5.out g3 i (by simpa [intsN] using hi)
              rw [show (intsN ks)[i]'(by simpa [intsN] using hi) = ((ks.reverse.getD j 0 : Nat) : Int) by rw [hi2]; simp [intsN]] at n1
              subst hg
              generalize ks.reverse.getD j 0 = x at *
              have iN : InW V.heap.size V1 := ⟨yn⟩
              have hJ0 := cast_nle hj'
              have hJ1 := cast_lt hi
              have hw := wrap_succ (lt_1000 hj' hl)
              have hw1 := wrap_pred (Nat.lt_of_le_of_lt (Nat.zero_le _) hj') (show ks.length ≤ 64 from hl)
              have hso : ∀ k, k = w4.heap.size ∨ k = w4.heap.size + 1 → (V1.setCell ⟨V.heap.size, 0, none⟩ (.int .i64 ((j : Int) + 1))).heap[k]? = V1.heap[k]? := fun k hk => set_heap (by omega)
              have hbs : Below V.heap.size V (V1.setCell ⟨V.heap.size, 0, none⟩ (.int .i64 ((j : Int) + 1))) := g3.setCell (p := ⟨_, _, none⟩) (Nat.le_refl _) _
              have hn2 := set_one (u := .int .i64 ((j : Int) + 1)) g1
              have hss : w4.heap.size + 2 ≤ (V1.setCell ⟨V.heap.size, 0, none⟩ (.int .i64 ((j : Int) + 1))).heap.size := by rw [World.size_setCell]; exact g5
              have htk : TkAt 33 s b2 c2 (V1.setCell ⟨V.heap.size, 0, none⟩ (.int .i64 ((j : Int) + 1))) := ⟨set_far g2.set (by omega), set_far g2.nx (by omega), db_below hT'.out (bwV.trans (hbs.mono bwV.size))⟩
              replace hso := Lib.hid hso
              replace hbs := Lib.hid hbs
              replace hn2 := Lib.hid hn2
              replace hss := Lib.hid hss
              replace htk := Lib.hid htk
              replace g4 := Lib.hid g4
              clear g1 g2 g3 g5
              obtain ⟨bb, e1⟩ : ∃ bb, ((j : Int) + 1 == stop) = bb := ⟨_, rfl⟩
              have hy := Lib.hid (fun h : bb = true => stop_beq (e1.trans h))
              have hn := Lib.hid (fun h : ¬ bb = true => stop_bne (e1.trans (by simpa using h)))
              as_aux_lemma =>
                gi_wp2
                · rename_i h
                  exact ⟨rfl, hso.out, hn2.out, hbs.out, hy.out h, hss.out⟩
                · rename_i h
                  exact ⟨hso.out, hn2.out, htk.out, hbs.out, none_yet g4.out (hn.out (by simp [h])), hss.out⟩
          case fin =>
            rintro D V1 hD hIV hK1
            subst hD
            obtain ⟨nk, bV1, szV1⟩ : Cell1 V1 V.heap.size (.int .i64 (m : Int)) 3 ∧ Below V.heap.size V V1 ∧ w4.heap.size + 2 ≤ V1.heap.size := by
              rw [show (natsA ks.reverse).length = ks.length by simp [natsA]] at hIV
              rcases hIV with ⟨g1, _, g3, g4, g5⟩ | ⟨j, hj, g1, g3, g4, g5⟩
              · rw [← hm.out, stopN_done g4]
                exact ⟨g1, g3, g5⟩
              · rw [← hm.out, stopN_at hj g4]
                exact ⟨g1, g3, g5⟩
            obtain ⟨y1, _, x1⟩ := one_cells nk
            obtain ⟨y2, _, x2⟩ := one_cells (cell1_keep nm.out bV1)
            obtain ⟨y3, _, x3⟩ := one_cells (cell1_keep q05.out bV1)
            obtain ⟨y4, _, x4⟩ := one_cells (cell1_keep qw5.out bV1)
            have qr6 := cell1_keep qr5.out bV1
            obtain ⟨y5, f5, x5⟩ := one_cells qr6
            have hK0 : V1.heap[w3.heap.size]? = some (.deferred (some [])) := (bV1.block _ (by omega)).trans hK.out
            have hor : m = ks.length ∨ (m : Int) = stop := by rw [← hm.out]; exact stopN_or stop ks.length
            have bwV1 : Below w.heap.size w V1 := bwV.trans (bV1.mono bwV.size)
            have h1 : w.heap.size + 1 < w3.heap.size := chain_lt z0 szb1 l5 szc5 szr sz3
            obtain ⟨hA, hB, hz, hbf⟩ := fin_world bwV1 (Nat.le_succ _) qr6 h1 (three_lt h1 szV sz4) (two_lt2 szV sz4) hK0 hK1
            clear bV1 szV1 nk hm nm q05 qr5 qw5 ra5 bwV hK hK0 hK1 h1 qr6 bwV1 hGb
            by_cases hme : m = ks.length
            · have e1 := beq_cast hme
              replace hor := Lib.hid hor
              replace hme := Lib.hid hme
              go_wp2

              refine ⟨by simp, .inl ⟨_, _, rfl, run_takeDeferred hA, ?_⟩⟩
              refine ⟨by simp, .inl ⟨_, _, rfl, run_takeDeferred hB, ?_⟩⟩
              exact ⟨.bool true, by simp [results, Tryd.f4, go_sem, hz], rfl, hbf⟩
            · have e1 := bne_cast hme
              have e2 := beq_stop (hor.resolve_left hme)
              replace hor := Lib.hid hor
              replace hme := Lib.hid hme
              go_wp2
              refine ⟨by simp, .inl ⟨_, _, rfl, run_takeDeferred hA, ?_⟩⟩
              refine ⟨by simp, .inl ⟨_, _, rfl, run_takeDeferred hB, ?_⟩⟩
              exact ⟨.bool true, by simp [results, Tryd.f4, go_sem, hz], rfl, hbf⟩
end Go.Proofs.YtniecghigmgbnaaDoor
