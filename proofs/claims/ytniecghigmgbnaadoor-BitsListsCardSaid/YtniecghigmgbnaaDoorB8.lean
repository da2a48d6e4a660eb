/- A set's numbers, as a list. -/
import Derived.Test.YtniecghigmgbnaaDoorB6
namespace Go.Proofs.YtniecghigmgbnaaDoor
open Go.RowKit
attribute [local go_sem] Oper.semAt_some
set_option maxRecDepth 100000 in
set_option maxHeartbeats 4000000 in
theorem append_seq (b c s : Nat) (f : FuncId) (ks : List Nat) (hl : ks.length ≤ 64) (C : GivesL 8 39 #[.pointer (some ⟨b, 0, none⟩), .pointer (some ⟨c, 0, none⟩)] (natsA ks) (TkAt f s b c)) (w : World) (hk : TkAt f s b c w) :
    Calls Tryd.prog 34 #[.slice none 0 0, .func (.func 39) #[] #[.pointer (some ⟨b, 0, none⟩), .pointer (some ⟨c, 0, none⟩)]] w (NumsIs ks w) := by
  have hG := Lib.hid C
  obtain ⟨j0, hj0, hy1, hy2, hy3⟩ := info_parts Tryd.infoI
  have hbl := (one_cells hk.set).2.2
  have hcl := (one_cells hk.nx).2.2
  have hT' := Lib.hid hk.tab
  refine (callsIn_wide (n := 9)).1 ?_
  refine callsIn_of_wp_marks Tryd.func34 rfl trivial ?_ rfl
  simp only [Tryd.ntmps34, List.size_toArray, List.length_cons, List.length_nil, Nat.reduceAdd, Nat.reduceSub, Array.replicate_succ, Array.replicate_zero, List.push_toArray, List.append_toArray, List.nil_append, List.cons_append]
  refine wpIn_wide.2 ?_
  clear C
  go_wp2
  have q1 : Cell1 (w.alloc (.cells #[.slice none 0 0] 24)) w.heap.size (.slice none 0 0) 24 := heap_alloc_new w _
  refine (wpIn_wide (n := 9)).1 ?_
  refine range_gen (n := 9) (by decide) (enters_of Tryd.func39 (by kernel_rfl) rfl) rfl (fun j hj => by rw [natsA_at]; rfl) hG.out
    (fun j W' => ∃ ao cap, Cell1 W' w.heap.size (.slice ao j cap) 24 ∧ W'.ownsRow w.heap.size 3 1 (.slice ao j cap) j (natsI (ks.take j)) ∧ TkAt f s b c W' ∧ Below w.heap.size w W' ∧ w.heap.size + 3 ≤ W'.heap.size)
    (fun _ _ _ => False) (fun j W' h => by obtain ⟨_, _, _, _, h, _⟩ := h; exact h)
    ?hI ?hIx ?h0 (fun j => { tmps := #[.slice none 0 0, .func (.func 39) #[] #[.pointer (some ⟨b, 0, none⟩), .pointer (some ⟨c, 0, none⟩)], .pointer (some ⟨w.heap.size, 0, none⟩), undef, .slice none 0 0, .int .i64 ((ks.getD j 0 : Nat) : Int), .func (.func 39) #[] #[.pointer (some ⟨b, 0, none⟩), .pointer (some ⟨c, 0, none⟩)], .int .i64 ((ks.getD j 0 : Nat) : Int), undef, undef, undef, undef, undef], defers := [] }) ?assign ?body ?done ?stop
  case hI =>
    rintro p V V' r ⟨ao, cap, g1, g2, g3, g4, g5⟩ hg hr
    have hne : ∀ {k : Nat} {v : Value} {T : TypeId}, Cell1 V k v T → Cell1 V' k v T := fun {k v T} h => cell1_low h hg (fun e => by
      subst e
      unfold Cell1 at h
      rw [hr] at h
      cases h)
    have hb4 : Below w.heap.size w V' := g4.grown hg g4.size fun k e => by cases e; simp; omega
    exact ⟨ao, cap, hne g1, own_turn g2 hg (fun cs e => by rw [hr] at e; cases e), ⟨hne g3.set, hne g3.nx, db_below hT'.out hb4⟩, hb4, Nat.le_trans g5 hg.size⟩
  case hIx => exact fun _ _ _ _ _ h _ _ => h.elim
  case h0 =>
    intro o o'
    exact ⟨none, 0, cell1_old _ (cell1_old _ q1), World.ownsRow_nil _ _ _ _, tkAt_keep hk (by (first | exact gwT | exact lzT)), by (first | exact gwT | exact lzT), by simp⟩
  case assign =>
    intro l j hj V K hK
    have hj' : j < ks.length := by simpa [natsA] using hj
    rw [natsA_at]
    gi_wp2
    rw [show ks[j]'hj' = ks.getD j 0 by simp [List.getD, hj']]
    exact hK
  case body =>
    rintro l j hj V ⟨ao, cap, g1, g2, g3, g4, g5⟩ hdef hloop
    have hj' : j < ks.length := by simpa [natsA] using hj
    obtain ⟨z0, f0, y0⟩ := one_cells g1
    have htk : natsI (ks.take (j + 1)) = natsI (ks.take j) ++ [.int .i64 ((ks.getD j 0 : Nat) : Int)] := by
      have e : ks.take (j + 1) = ks.take j ++ [ks[j]'hj'] := by rw [List.take_add_one, List.getElem?_eq_getElem hj']; rfl
      rw [e, show ks.getD j 0 = ks[j]'hj' by simp [List.getD, hj']]
      unfold natsI
      rw [List.map_append]
      rfl
    have htk' := Lib.hid htk
    clear htk
    generalize hkk : ks.getD j 0 = k at *
    have hsz0 : (w.alloc (.cells #[.slice none 0 0] 24)).heap.size = w.heap.size + 1 := World.size_alloc _ _
    rw [hsz0] at hdef hloop ⊢
    have gO := owns_below g2 (w' := V.alloc (.cells #[.int .i64 (k : Int)] 3)) (by (first | exact gwT | exact lzT))
    gi_wp2_with (gi_at_builtin; refine wpListIn_append_lies _ rfl _ _ 24 rfl w.heap.size 3 j0 _ 1 8 Tryd.underlying24 hj0 hy1 hy2 hy3 rfl (by decide) (.slice ao j cap) j (natsI (ks.take j)) rfl gO ⟨_, 0, none⟩ 1 1 [.int .i64 (k : Int)] rfl rfl (World.news_of_block (new_at (by simp))) (by intro u hu; simp at hu; subst hu; rfl) (by decide) (by unfold maxLen; omega) (by omega) (by have := g4.size; simp; omega) _ rfl ?_)
    intro g' cap' w1 hown hg hat1 hg1
    have hV0 : Below V.heap.size V (V.alloc (.cells #[.int .i64 (k : Int)] 3)) := by (first | exact gwT | exact lzT)
    have far : ∀ {i : Nat} {cs : Array Value} {T' : TypeId} {fr : Nat × Nat}, T' ≠ 3 → V.heap[i]? = some (.cells cs T' fr) → w1.heap[i]? = some (.cells cs T' fr) := fun {i cs T' fr} hT h => own_other gO hg hT ((hV0.block i (Array.getElem?_eq_some_iff.1 h).1).trans h)
    have hc1 : Cell1 w1 w.heap.size (.slice ao j cap) 24 := far (by decide) g1
    have hset := far (by decide) g3.set
    have hnx := far (by decide) g3.nx
    have hz1 : V.heap.size ≤ w1.heap.size := Nat.le_trans hV0.size hg.size
    have hb2 : Below w.heap.size w w1 := (g4.trans (hV0.mono (by omega))).grown hg (by have := hV0.size; omega) fun i hi => (gO.lt i hi).1
    obtain ⟨zc, fc, yc⟩ := one_cells hc1
    gi_wp2
    have hb3 : Below w.heap.size w (w1.setCell ⟨w.heap.size, 0, none⟩ (.slice (some ⟨g', 0, none⟩) (j + 1) cap')) := hb2.setCell (p := ⟨_, _, none⟩) (Nat.le_refl _) _
    have hg3 := grown_set w1 w.heap.size 0 (.slice (some ⟨g', 0, none⟩) (j + 1) cap')
    refine ⟨fun i hi => ?_, some ⟨g', 0, none⟩, cap', set_one hc1, ?_, ⟨set_far hset (by omega), set_far hnx (by omega), db_below hT'.out hb3⟩, hb3, by rw [World.size_setCell]; omega⟩
    · rw [set_heap (by omega)]
      have hlt2 : i < V.heap.size := by omega
      rw [own_loop gO hg (by have := hV0.size; omega) (fun cs => by
        rw [hV0.block i hlt2]
        rcases hi with rfl | rfl
        · rw [hdef]; simp
        · obtain ⟨r, hr⟩ := hloop
          rw [hr]; simp), hV0.block i hlt2]
    · rw [htk'.out]
      exact hown.kept hg3 (.inr fun e => Lib.ownBlock_ne hown hc1 (by decide) e)
  case done =>
    rintro D V hD ⟨ao, cap, g1, g2, g3, g4, g5⟩ hK
    rw [show (w.alloc (.cells #[.slice none 0 0] 24)).heap.size = w.heap.size + 1 from World.size_alloc _ _] at hD
    subst hD
    rw [List.take_of_length_le (by simp [natsA]), show (natsA ks).length = ks.length by simp [natsA]] at g2
    rw [show (natsA ks).length = ks.length by simp [natsA]] at g1
    obtain ⟨z1, f1, y1⟩ := one_cells g1
    go_wp2
    have hgD := grownBy_putObj' V (w.heap.size + 1) (.deferred none)
    refine ⟨by simp, .inl ⟨_, _, rfl, run_takeDeferred hK, ?_⟩⟩
    refine ⟨_, by simp [results, Tryd.f34, go_sem], ao, cap, rfl, ?_, ?_⟩
    · exact own_turn g2 hgD (fun cs e => by rw [hK] at e; cases e)
    · exact g4.grown hgD g4.size fun k e => by cases e; omega
  case stop => exact fun _ _ _ _ _ _ h _ => h.elim
theorem collect_any (b c s : Nat) (f : FuncId) (ks : List Nat) (hl : ks.length ≤ 64) (C : GivesL 8 39 #[.pointer (some ⟨b, 0, none⟩), .pointer (some ⟨c, 0, none⟩)] (natsA ks) (TkAt f s b c)) (w : World) (hk : TkAt f s b c w) :
    Calls Tryd.prog 27 #[.func (.func 39) #[] #[.pointer (some ⟨b, 0, none⟩), .pointer (some ⟨c, 0, none⟩)]] w (NumsIs ks w) := by
  have A := Lib.hid (append_seq b c s f ks hl C w hk)
  clear C hk
  go_enter Tryd.func27, Tryd.ntmps27
  go_wp2_with fail
  refine A.out.mono ?_
  rintro e w1 ⟨ao, cap, rfl, h1, h2⟩
  replace h1 := Lib.hid h1
  go_wp2
  go_returns
  exact ⟨ao, cap, rfl, h1.out, h2⟩
theorem list_any (s : Nat) (hs : s < 2 ^ 64) (w : World) (hT : Db w) : Calls Tryd.prog 19 #[.int .u64 (s : Int)] w (NumsIs (numsS s) w) := by
  have A := Lib.hid (all_any s w hT)
  have C := Lib.hid (fun b c wx hk => collect_any b c s _ (numsS s) (nums_len s) (all_gives 8 b c s hs) wx hk)
  generalize numsS s = ks at *
  clear hT
  go_enter Tryd.func19, Tryd.ntmps19
  go_wp2_with fail
  refine A.out.mono ?_
  rintro e w1 ⟨b, c, rfl, hk, hb, hc, hw⟩
  have D := Lib.hid (C.out b c w1 hk)
  clear C A hk
  go_wp2_with fail
  refine D.out.mono ?_
  rintro e w2 ⟨ao, cap, rfl, h1, h2⟩
  replace h1 := Lib.hid h1
  go_wp2
  go_returns
  refine ⟨ao, cap, rfl, ⟨h1.out.1, ?_⟩, hw.trans (h2.mono hw.size)⟩
  rcases h1.out.2 with h | ⟨g, cp, cur, e1, e2, h⟩
  · exact .inl h
  · exact .inr ⟨g, cp, cur, e1, Nat.le_trans hw.size e2, h⟩
end Go.Proofs.YtniecghigmgbnaaDoor

