/- A set's numbers, as a list and as a text. -/
import Derived.Test.YtniecghigmgbnaaDoorB4
import Derived.Test.YtniecghigmgbnaaDoorSJ
import Derived.Test.YtniecghigmgbnaaDoorX8
import Derived.Test.YtniecghigmgbnaaDoorB7
import Derived.Deep.RegionHeld3
import Derived.Lib.ItoaNum
namespace Go.Proofs.YtniecghigmgbnaaDoor
open Go.RowKit
attribute [local go_sem] Oper.semAt_some
/-- A function that is ranged over, just made. -/
def TkIs (f : FuncId) (s : Nat) (w : World) (e : Ending) (w' : World) : Prop := ∃ b c, e = .returned (.func (.func 39) #[] #[.pointer (some ⟨b, 0, none⟩), .pointer (some ⟨c, 0, none⟩)]) ∧ TkAt f s b c w' ∧ w.heap.size ≤ b ∧ w.heap.size ≤ c ∧ Below w.heap.size w w'
theorem taken_any (s : Nat) (f : FuncId) (w : World) (hT : Db w) : Calls Tryd.prog 32 #[.int .u64 (s : Int), .func (.func f) #[] #[]] w (TkIs f s w) := by
  have hT' := Lib.hid hT
  clear hT
  go_enter Tryd.func32, Tryd.ntmps32
  go_wp2
  go_returns
  have h1 : Cell1 (w.alloc (.cells #[.int .u64 (s : Int)] 23)) w.heap.size (.int .u64 (s : Int)) 23 := heap_alloc_new w _
  exact ⟨w.heap.size, w.heap.size + 1, rfl, ⟨cell1_old _ h1, new_at (by simp), db_below hT'.out (by (first | exact gwT | exact lzT))⟩, by omega, by omega, by (first | exact gwT | exact lzT)⟩
theorem all_any (s : Nat) (w : World) (hT : Db w) : Calls Tryd.prog 23 #[.int .u64 (s : Int)] w (TkIs 22 s w) := by
  have A := Lib.hid (taken_any s 22 w hT)
  clear hT
  go_enter Tryd.func23, Tryd.ntmps23
  go_wp2_with fail
  refine A.out.mono ?_
  intro e w1 hr
  obtain ⟨b, c, rfl, hr⟩ := hr
  replace hr := Lib.hid hr
  clear A
  go_wp2
  go_returns
  exact ⟨b, c, rfl, hr.out⟩
theorem back_set (s : Nat) (w : World) (hT : Db w) : Calls Tryd.prog 24 #[.int .u64 (s : Int)] w (TkIs 33 s w) := by
  have A := Lib.hid (taken_any s 33 w hT)
  clear hT
  go_enter Tryd.func24, Tryd.ntmps24
  go_wp2_with fail
  refine A.out.mono ?_
  intro e w1 hr
  obtain ⟨b, c, rfl, hr⟩ := hr
  replace hr := Lib.hid hr
  clear A
  go_wp2
  go_returns
  exact ⟨b, c, rfl, hr.out⟩
theorem all_gives (n b c s : Nat) (hs : s < 2 ^ 64) : GivesL n 39 #[.pointer (some ⟨b, 0, none⟩), .pointer (some ⟨c, 0, none⟩)] (natsA (numsS s)) (TkAt 22 s b c) :=
  taken_in n b c s _ (enters_of Tryd.func22 (by kernel_rfl) rfl) (Lib.ctz 64) (numsS s) (runs_up _ s hs rfl) fun t wx h0 h1 h2 => first_any t h0 h1 wx h2
theorem back_gives (n b c s : Nat) (hs : s < 2 ^ 64) : GivesL n 39 #[.pointer (some ⟨b, 0, none⟩), .pointer (some ⟨c, 0, none⟩)] (natsA (numsS s).reverse) (TkAt 33 s b c) :=
  taken_in n b c s _ (enters_of Tryd.func33 (by kernel_rfl) rfl) (fun t => Lib.bitLen t - 1) (numsS s).reverse (runs_down _ s hs rfl) fun t wx h0 h1 _ => last_any t h0 h1 wx
/-! ### As a text -/
/-- A number from 0 to 99 in digits. -/
def digN (n : Nat) : ByteArray := ⟨(Lib.decDigits n).toArray⟩
theorem itoa_small (n : Nat) (h : n < 100) (w : World) : Calls Tryd.prog 28 #[.int .i64 (n : Int)] w (RetW (.string (digN n)) w) :=
  (Any.strconv_Itoa_small Tryd.lays171 n h w).mono fun _ _ h => ⟨h.1, h.2.symm⟩
def digsN (l : List Nat) : List ByteArray := l.map digN
def textsV (l : List ByteArray) : List Value := l.map fun x => Value.string x
theorem Tryd.infoS : (Tryd.prog.info? 9).map (fun i => (i.zero, i.size, i.bytes)) = some (some (.string ⟨#[]⟩), 1, 16) := by kernel_rfl
theorem sjoin_none (ao : Option Addr) (cap : Nat) (sep : ByteArray) (w : World) : Calls Tryd.prog 29 #[.slice ao 0 cap, .string sep] w (Ret (.string ⟨#[]⟩) w) := by
  go_enter Tryd.func29, Tryd.ntmps29
  go_wp2
  go_returns
  exact ⟨rfl, by (first | exact gwT | exact lzT)⟩
theorem sjoin_row (B : Nat) (ao : Option Addr) (cap : Nat) (xs : List ByteArray) (sep : ByteArray) (hn : xs.length ≤ 10000) (hs : 0 < sep.size) (hs2 : sep.size ≤ 1000) (hj : (joinB xs sep).length ≤ 900000) (w : World) (h : w.ownsRow B 9 1 (.slice ao xs.length cap) xs.length (textsV xs)) :
    Calls Tryd.prog 29 #[.slice ao xs.length cap, .string sep] w (Ret (.string ⟨(joinB xs sep).toArray⟩) w) := by
  rcases Nat.eq_zero_or_pos xs.length with h0 | h0
  · obtain rfl := List.eq_nil_of_length_eq_zero h0
    exact sjoin_none ao cap sep w
  · obtain ⟨g, cap', e, hg, h1, h2, hc⟩ := own_head h h0
    cases e
    refine sjoin_any g cap xs sep hn (by omega) hs hs2 hj w hg fun j hj' => hc _ _ ?_
    unfold textsV
    rw [List.getElem?_map, List.getElem?_eq_getElem hj']
    rfl
theorem digN_len (n : Nat) (h : n < 100) : (digN n).data.toList.length ≤ 2 := by
  have : ∀ n : Fin 100, (digN n.val).data.toList.length ≤ 2 := by decide +kernel
  exact this ⟨n, h⟩
theorem digs_len (l : List Nat) (hl : l.length ≤ 64) (h : ∀ n ∈ l, n < 64) : (joinB (digsN l) ⟨#[44]⟩).length ≤ 900000 := by
  have : ∀ (r : List Nat), (∀ n ∈ r, n < 64) → (Lib.joinTail [44] (r.map fun n => (digN n).data.toList)).length ≤ 3 * r.length := by
    intro r
    induction r with
    | nil => intro _; simp [Lib.joinTail]
    | cons n r ih =>
      intro hr
      have h1 := digN_len n (by have := hr n (by simp); omega)
      have h2 := ih fun m hm => hr m (by simp [hm])
      have e : ∀ (a : List UInt8) (l : List (List UInt8)), Lib.joinTail [44] (a :: l) = [44] ++ a ++ Lib.joinTail [44] l := fun a l => by simp [Lib.joinTail]
      rw [List.map_cons, e]
      simp only [List.length_append, List.length_cons, List.length_nil]
      omega
  cases l with
  | nil => decide
  | cons n r =>
    have h1 := digN_len n (by have := h n (by simp); omega)
    have h2 := this r fun m hm => h m (by simp [hm])
    unfold digsN
    rw [List.map_cons, joinB_cons, List.length_append, List.map_map]
    rw [List.length_cons] at hl
    have e : ((fun x => x.data.toList) ∘ digN) = fun n => (digN n).data.toList := rfl
    rw [e]
    show _ + (Lib.joinTail [44] _).length ≤ _
    omega
set_option maxRecDepth 100000 in
set_option maxHeartbeats 4000000 in
theorem showS_any (s : Nat) (hs : s < 2 ^ 64) (w : World) (hT : Db w) : Calls Tryd.prog 20 #[.int .u64 (s : Int)] w (Ret (.string ⟨(joinB (digsN (numsS s)) ⟨#[44]⟩).toArray⟩) w) := by
  have A := Lib.hid (fun wx (hx : Below w.heap.size w wx) => all_any s wx (db_below hT hx))
  have hG := Lib.hid (fun b c => all_gives 8 b c s hs)
  have hl := nums_len s
  have hlt := Lib.hid (fun n (hn : n ∈ numsS s) => nums_lt hn)
  generalize numsS s = ks at *
  obtain ⟨j0, hj0, hy1, hy2, hy3⟩ := info_parts Tryd.infoS
  refine (callsIn_wide (n := 9)).1 ?_
  refine callsIn_of_wp_marks Tryd.func20 rfl trivial ?_ rfl
  simp only [Tryd.ntmps20, List.size_toArray, List.length_cons, List.length_nil, Nat.reduceAdd, Nat.reduceSub, Array.replicate_succ, Array.replicate_zero, List.push_toArray, List.append_toArray, List.nil_append, List.cons_append]
  refine wpIn_wide.2 ?_
  have hT' := Lib.hid hT
  clear hT
  go_wp2_with fail
  refine (A.out _ (by (first | exact gwT | exact lzT))).mono ?_
  rintro e W ⟨b, c, rfl, hk, hb, hc, hW⟩
  dsimp only
  go_wp2
  have hb1 : Below w.heap.size w W := by
    have h0 : Below w.heap.size w (w.alloc (.cells #[.slice none 0 0] 48)) := by (first | exact gwT | exact lzT)
    exact h0.trans (hW.mono h0.size)
  have q0 : Cell1 (w.alloc (.cells #[.slice none 0 0] 48)) w.heap.size (.slice none 0 0) 48 := heap_alloc_new w _
  have q1 := cell1_keep q0 hW
  have hsz := hW.size
  rw [World.size_alloc] at hb hc hsz
  clear q0 hW A
  refine (wpIn_wide (n := 9)).1 ?_
  refine range_gen (n := 9) (by decide) (enters_of Tryd.func39 (by kernel_rfl) rfl) rfl (fun j hj => by rw [natsA_at]; rfl) (hG.out b c)
    (fun j W' => ∃ ao cap, Cell1 W' w.heap.size (.slice ao j cap) 48 ∧ W'.ownsRow (w.heap.size + 1) 9 1 (.slice ao j cap) j (textsV (digsN (ks.take j))) ∧ TkAt 22 s b c W' ∧ Below w.heap.size w W' ∧ W.heap.size + 2 ≤ W'.heap.size)
    (fun _ _ _ => False) (fun j W' h => by obtain ⟨_, _, _, _, h, _⟩ := h; exact h)
    ?hI ?hIx ?h0 (fun j => { tmps := #[.int .u64 (s : Int), undef, .string ⟨#[]⟩, .pointer (some ⟨w.heap.size, 0, none⟩), .int .i64 ((ks.getD j 0 : Nat) : Int), .int .u64 (s : Int), .func (.func 39) #[] #[.pointer (some ⟨b, 0, none⟩), .pointer (some ⟨c, 0, none⟩)], .int .i64 ((ks.getD j 0 : Nat) : Int), undef, undef, undef, undef, undef, undef, undef], defers := [] }) ?assign ?body ?done ?stop
  case hI =>
    rintro p V V' r ⟨ao, cap, g1, g2, g3, g4, g5⟩ hg hr
    have hne : ∀ {k : Nat} {v : Value} {T : TypeId}, Cell1 V k v T → Cell1 V' k v T := fun {k v T} h => cell1_low h hg (fun e => by
      subst e
      unfold Cell1 at h
      rw [hr] at h
      cases h)
    have hb4 : Below w.heap.size w V' := g4.grown hg (by omega) fun k e => by cases e; omega
    exact ⟨ao, cap, hne g1, own_turn g2 hg (fun cs e => by rw [hr] at e; cases e), ⟨hne g3.set, hne g3.nx, db_below hT'.out hb4⟩, hb4, Nat.le_trans g5 hg.size⟩
  case hIx => exact fun _ _ _ _ _ h _ _ => h.elim
  case h0 =>
    intro o o'
    exact ⟨none, 0, cell1_old _ (cell1_old _ q1), World.ownsRow_nil _ _ _ _, tkAt_keep hk (by (first | exact gwT | exact lzT)), by (first | exact gwT | exact lzT), by simp⟩
  case assign =>
    intro l j hj V K hK
    have hj' : j < ks.length := by simpa [natsA] using hj
    rw [natsA_at]
    gi_wp2
    rw [show ks[j]'hj' = ks.getD j 0 by simp [List.getD, hj']]
    exact hK
  case body =>
    rintro l j hj V ⟨ao, cap, g1, g2, g3, g4, g5⟩ hdef hloop
    have hj' : j < ks.length := by simpa [natsA] using hj
    have hk100 : ks.getD j 0 < 100 := by
      rw [show ks.getD j 0 = ks[j]'hj' by simp [List.getD, hj']]
      have := hlt.out _ (List.getElem_mem hj')
      omega
    obtain ⟨z0, f0, y0⟩ := one_cells g1
    have htk : digsN (ks.take (j + 1)) = digsN (ks.take j) ++ [digN (ks.getD j 0)] := by
      have e : ks.take (j + 1) = ks.take j ++ [ks[j]'hj'] := by rw [List.take_add_one, List.getElem?_eq_getElem hj']; rfl
      rw [e, show ks.getD j 0 = ks[j]'hj' by simp [List.getD, hj']]
      unfold digsN
      rw [List.map_append]
      rfl
    have htk' := Lib.hid htk
    clear htk
    generalize hkk : ks.getD j 0 = k at *
    have hHb : w.heap.size < W.heap.size := by omega
    have fin : ∀ (V0 w1 : World) (g' cap' : Nat), Below V.heap.size V V0 → V0.grownBy w1 (Value.slice ao j cap).ownBlock → w1.ownsRow (w.heap.size + 1) 9 1 (.slice (some ⟨g', 0, none⟩) (j + 1) cap') (j + 1) (textsV (digsN (ks.take j)) ++ [.string (digN k)]) →
        (∀ i, i = W.heap.size ∨ i = W.heap.size + 1 → (w1.setCell ⟨w.heap.size, 0, none⟩ (.slice (some ⟨g', 0, none⟩) (j + 1) cap')).heap[i]? = V.heap[i]?) ∧
        ∃ ao2 cap2, Cell1 (w1.setCell ⟨w.heap.size, 0, none⟩ (.slice (some ⟨g', 0, none⟩) (j + 1) cap')) w.heap.size (.slice ao2 (j + 1) cap2) 48 ∧ (w1.setCell ⟨w.heap.size, 0, none⟩ (.slice (some ⟨g', 0, none⟩) (j + 1) cap')).ownsRow (w.heap.size + 1) 9 1 (.slice ao2 (j + 1) cap2) (j + 1) (textsV (digsN (ks.take (j + 1)))) ∧ TkAt 22 s b c (w1.setCell ⟨w.heap.size, 0, none⟩ (.slice (some ⟨g', 0, none⟩) (j + 1) cap')) ∧ Below w.heap.size w (w1.setCell ⟨w.heap.size, 0, none⟩ (.slice (some ⟨g', 0, none⟩) (j + 1) cap')) ∧ W.heap.size + 2 ≤ (w1.setCell ⟨w.heap.size, 0, none⟩ (.slice (some ⟨g', 0, none⟩) (j + 1) cap')).heap.size := by
      intro V0 w1 g' cap' hV0 hg hown
      have gO := owns_below g2 hV0
      have far : ∀ {i : Nat} {cs : Array Value} {T' : TypeId} {fr : Nat × Nat}, T' ≠ 9 → V.heap[i]? = some (.cells cs T' fr) → w1.heap[i]? = some (.cells cs T' fr) := fun {i cs T' fr} hT h => own_other gO hg hT ((hV0.block i (Array.getElem?_eq_some_iff.1 h).1).trans h)
      have hc1 : Cell1 w1 w.heap.size (.slice ao j cap) 48 := far (by decide) g1
      have hset := far (by decide) g3.set
      have hnx := far (by decide) g3.nx
      have hz1 : V.heap.size ≤ w1.heap.size := Nat.le_trans hV0.size hg.size
      have hb2 : Below w.heap.size w w1 := (g4.trans (hV0.mono (by omega))).grown hg (by have := hV0.size; omega) fun i hi => by have := (gO.lt i hi).1; omega
      have hb3 : Below w.heap.size w (w1.setCell ⟨w.heap.size, 0, none⟩ (.slice (some ⟨g', 0, none⟩) (j + 1) cap')) := hb2.setCell (p := ⟨_, _, none⟩) (Nat.le_refl _) _
      have hg3 := grown_set w1 w.heap.size 0 (.slice (some ⟨g', 0, none⟩) (j + 1) cap')
      refine ⟨fun i hi => ?_, some ⟨g', 0, none⟩, cap', set_one hc1, ?_, ⟨set_far hset (by omega), set_far hnx (by omega), db_below hT'.out hb3⟩, hb3, by rw [World.size_setCell]; omega⟩
      · rw [set_heap (by omega)]
        have hlt2 : i < V.heap.size := by omega
        rw [own_loop gO hg (by have := hV0.size; omega) (fun cs => by
          rw [hV0.block i hlt2]
          rcases hi with rfl | rfl
          · rw [hdef]; simp
          · obtain ⟨r, hr⟩ := hloop
            rw [hr]; simp), hV0.block i hlt2]
      · rw [htk'.out, show textsV (digsN (ks.take j) ++ [digN k]) = textsV (digsN (ks.take j)) ++ [.string (digN k)] by simp [textsV]]
        exact hown.kept hg3 (.inr fun e => Lib.ownBlock_ne hown hc1 (by decide) e)
    have I1 := Lib.hid (fun wx => itoa_small k hk100 wx)
    gi_wp2
    refine wpIn_region_any (by kernel_rfl) ?_
    change wpAnyIn _ _ _ _ _ _ _ _ _ (World.drew _)
    refine wpAnyIn_ready (rs := [0, 1]) (by kernel_rfl) (by simp) (AllReadyIn.cons rfl ?a1_0 (AllReadyIn.cons rfl ?a1_1 AllReadyIn.nil))
    case a1_0 =>
      intro K hK
      go_simp
      refine hK _ _ ?_
      clear hK K
      refine wpAnyIn_ready (rs := [1]) (by kernel_rfl) (by simp) (AllReadyIn.cons rfl ?_ AllReadyIn.nil)
      intro K hK
      go_simp
      refine hK _ _ ?_
      clear hK K
      refine wpAnyIn_ready (rs := [2]) (by kernel_rfl) (by simp) (AllReadyIn.cons rfl ?_ AllReadyIn.nil)
      intro K hK
      go_simp
      refine ⟨trivial, (CallsIn.inRound l (callsIn_wide.2 (I1.out _))).mono ?_⟩
      rintro e w1 ⟨rfl, rfl⟩
      refine hK _ _ ?_
      clear hK K
      refine wpAnyIn_ready (rs := [3]) (by kernel_rfl) (by simp) (AllReadyIn.cons rfl ?_ AllReadyIn.nil)
      intro K hK
      go_simp
      refine hK _ _ ?_
      clear hK K
      refine wpAnyIn_ready (rs := [4]) (by kernel_rfl) (by simp) (AllReadyIn.cons rfl ?_ AllReadyIn.nil)
      intro K hK
      refine stepIn_append_lies _ rfl _ _ 48 rfl (w.heap.size + 1) 9 j0 _ 1 16 Tryd.underlying48 hj0 hy1 hy2 hy3 rfl (by decide) (.slice ao j cap) j (textsV (digsN (ks.take j))) rfl (owns_below g2 (by (first | exact gwT | exact lzT))) ⟨_, 0, none⟩ 1 1 [.string (digN k)] rfl rfl (World.news_of_block (new_at (by simp))) (by intro u hu; simp at hu; subst hu; rfl) (by decide) (by unfold maxLen; omega) (by omega) (by simp [go_sem]; omega) _ rfl ?_
      intro g' cap' w1 hown1 hgrow hat1 hg1
      refine hK _ _ ?_
      clear hK K
      have hc1 : Cell1 w1 w.heap.size (.slice ao j cap) 48 := own_other (owns_below g2 (by (first | exact gwT | exact lzT))) hgrow (by decide) (cell1_keep g1 (by (first | exact gwT | exact lzT)))
      obtain ⟨zc, fc, yc⟩ := one_cells hc1
      refine wpAnyIn_ready (rs := [5]) (by kernel_rfl) (by simp) (AllReadyIn.cons rfl ?_ AllReadyIn.nil)
      intro K hK
      go_simp
      refine hK _ _ ?_
      clear hK K
      refine wpAnyIn_done (by kernel_rfl) ?_ _
      exact fin _ _ _ _ (by (first | exact gwT | exact lzT)) hgrow hown1
    case a1_1 =>
      intro K hK
      go_simp
      refine hK _ _ ?_
      clear hK K
      refine wpAnyIn_ready (rs := [0, 2]) (by kernel_rfl) (by simp) (AllReadyIn.cons rfl ?a7_0 (AllReadyIn.cons rfl ?a7_2 AllReadyIn.nil))
      case a7_0 =>
        intro K hK
        go_simp
        refine hK _ _ ?_
        clear hK K
        refine wpAnyIn_ready (rs := [2]) (by kernel_rfl) (by simp) (AllReadyIn.cons rfl ?_ AllReadyIn.nil)
        intro K hK
        go_simp
        refine ⟨trivial, (CallsIn.inRound l (callsIn_wide.2 (I1.out _))).mono ?_⟩
        rintro e w1 ⟨rfl, rfl⟩
        refine hK _ _ ?_
        clear hK K
        refine wpAnyIn_ready (rs := [3]) (by kernel_rfl) (by simp) (AllReadyIn.cons rfl ?_ AllReadyIn.nil)
        intro K hK
        go_simp
        refine hK _ _ ?_
        clear hK K
        refine wpAnyIn_ready (rs := [4]) (by kernel_rfl) (by simp) (AllReadyIn.cons rfl ?_ AllReadyIn.nil)
        intro K hK
        refine stepIn_append_lies _ rfl _ _ 48 rfl (w.heap.size + 1) 9 j0 _ 1 16 Tryd.underlying48 hj0 hy1 hy2 hy3 rfl (by decide) (.slice ao j cap) j (textsV (digsN (ks.take j))) rfl (owns_below g2 (by (first | exact gwT | exact lzT))) ⟨_, 0, none⟩ 1 1 [.string (digN k)] rfl rfl (World.news_of_block (new_at (by simp))) (by intro u hu; simp at hu; subst hu; rfl) (by decide) (by unfold maxLen; omega) (by omega) (by simp [go_sem]; omega) _ rfl ?_
        intro g' cap' w1 hown1 hgrow hat1 hg1
        refine hK _ _ ?_
        clear hK K
        have hc1 : Cell1 w1 w.heap.size (.slice ao j cap) 48 := own_other (owns_below g2 (by (first | exact gwT | exact lzT))) hgrow (by decide) (cell1_keep g1 (by (first | exact gwT | exact lzT)))
        obtain ⟨zc, fc, yc⟩ := one_cells hc1
        refine wpAnyIn_ready (rs := [5]) (by kernel_rfl) (by simp) (AllReadyIn.cons rfl ?_ AllReadyIn.nil)
        intro K hK
        go_simp
        refine hK _ _ ?_
        clear hK K
        refine wpAnyIn_done (by kernel_rfl) ?_ _
        exact fin _ _ _ _ (by (first | exact gwT | exact lzT)) hgrow hown1
      case a7_2 =>
        intro K hK
        go_simp
        refine ⟨trivial, (CallsIn.inRound l (callsIn_wide.2 (I1.out _))).mono ?_⟩
        rintro e w1 ⟨rfl, rfl⟩
        refine hK _ _ ?_
        clear hK K
        refine wpAnyIn_ready (rs := [0, 3]) (by kernel_rfl) (by simp) (AllReadyIn.cons rfl ?a12_0 (AllReadyIn.cons rfl ?a12_3 AllReadyIn.nil))
        case a12_0 =>
          intro K hK
          go_simp
          refine hK _ _ ?_
          clear hK K
          refine wpAnyIn_ready (rs := [3]) (by kernel_rfl) (by simp) (AllReadyIn.cons rfl ?_ AllReadyIn.nil)
          intro K hK
          go_simp
          refine hK _ _ ?_
          clear hK K
          refine wpAnyIn_ready (rs := [4]) (by kernel_rfl) (by simp) (AllReadyIn.cons rfl ?_ AllReadyIn.nil)
          intro K hK
          refine stepIn_append_lies _ rfl _ _ 48 rfl (w.heap.size + 1) 9 j0 _ 1 16 Tryd.underlying48 hj0 hy1 hy2 hy3 rfl (by decide) (.slice ao j cap) j (textsV (digsN (ks.take j))) rfl (owns_below g2 (by (first | exact gwT | exact lzT))) ⟨_, 0, none⟩ 1 1 [.string (digN k)] rfl rfl (World.news_of_block (new_at (by simp))) (by intro u hu; simp at hu; subst hu; rfl) (by decide) (by unfold maxLen; omega) (by omega) (by simp [go_sem]; omega) _ rfl ?_
          intro g' cap' w1 hown1 hgrow hat1 hg1
          refine hK _ _ ?_
          clear hK K
          have hc1 : Cell1 w1 w.heap.size (.slice ao j cap) 48 := own_other (owns_below g2 (by (first | exact gwT | exact lzT))) hgrow (by decide) (cell1_keep g1 (by (first | exact gwT | exact lzT)))
          obtain ⟨zc, fc, yc⟩ := one_cells hc1
          refine wpAnyIn_ready (rs := [5]) (by kernel_rfl) (by simp) (AllReadyIn.cons rfl ?_ AllReadyIn.nil)
          intro K hK
          go_simp
          refine hK _ _ ?_
          clear hK K
          refine wpAnyIn_done (by kernel_rfl) ?_ _
          exact fin _ _ _ _ (by (first | exact gwT | exact lzT)) hgrow hown1
        case a12_3 =>
          intro K hK
          go_simp
          refine hK _ _ ?_
          clear hK K
          refine wpAnyIn_ready (rs := [0]) (by kernel_rfl) (by simp) (AllReadyIn.cons rfl ?_ AllReadyIn.nil)
          intro K hK
          go_simp
          refine hK _ _ ?_
          clear hK K
          refine wpAnyIn_ready (rs := [4]) (by kernel_rfl) (by simp) (AllReadyIn.cons rfl ?_ AllReadyIn.nil)
          intro K hK
          refine stepIn_append_lies _ rfl _ _ 48 rfl (w.heap.size + 1) 9 j0 _ 1 16 Tryd.underlying48 hj0 hy1 hy2 hy3 rfl (by decide) (.slice ao j cap) j (textsV (digsN (ks.take j))) rfl (owns_below g2 (by (first | exact gwT | exact lzT))) ⟨_, 0, none⟩ 1 1 [.string (digN k)] rfl rfl (World.news_of_block (new_at (by simp))) (by intro u hu; simp at hu; subst hu; rfl) (by decide) (by unfold maxLen; omega) (by omega) (by simp [go_sem]; omega) _ rfl ?_
          intro g' cap' w1 hown1 hgrow hat1 hg1
          refine hK _ _ ?_
          clear hK K
          have hc1 : Cell1 w1 w.heap.size (.slice ao j cap) 48 := own_other (owns_below g2 (by (first | exact gwT | exact lzT))) hgrow (by decide) (cell1_keep g1 (by (first | exact gwT | exact lzT)))
          obtain ⟨zc, fc, yc⟩ := one_cells hc1
          refine wpAnyIn_ready (rs := [5]) (by kernel_rfl) (by simp) (AllReadyIn.cons rfl ?_ AllReadyIn.nil)
          intro K hK
          go_simp
          refine hK _ _ ?_
          clear hK K
          refine wpAnyIn_done (by kernel_rfl) ?_ _
          exact fin _ _ _ _ (by (first | exact gwT | exact lzT)) hgrow hown1
  case done =>
    rintro D V hD ⟨ao, cap, g1, g2, g3, g4, g5⟩ hK
    have hlen : (natsA ks).length = (digsN ks).length := by simp [natsA, digsN]
    have hdl := digs_len ks hl hlt.out
    rw [List.take_of_length_le (by simp [natsA]), hlen] at g2
    rw [hlen] at g1
    obtain ⟨z1, f1, y1⟩ := one_cells g1
    have hJ := Lib.hid (sjoin_row _ ao cap (digsN ks) ⟨#[44]⟩ (by rw [← hlen]; simp [natsA]; omega) (by decide) (by decide) hdl V g2)
    generalize digsN ks = xs at *
    generalize joinB xs ⟨#[44]⟩ = ans at *
    clear hdl hlen
    go_wp2_with ((with_reducible refine (hJ.out).mono ?_); intro e w1 hr; obtain ⟨rfl, p, rfl⟩ := hr.out; clear hr)
    have hK2 := ((belowG0 p V).block W.heap.size (by omega)).trans (hD ▸ hK)
    have hgD := grownBy_putObj' (G p V) W.heap.size (.deferred none)
    have hbv : Below w.heap.size w (G p V) := g4.trans ((belowG0 p V).mono (by omega))
    refine ⟨by simp, .inl ⟨_, _, rfl, run_takeDeferred hK2, ?_⟩⟩
    exact ⟨.string ⟨ans.toArray⟩, by simp [results, Tryd.f20, go_sem], rfl, hbv.grown hgD hbv.size fun k e => by cases e; omega⟩
  case stop => exact fun _ _ _ _ _ _ h _ => h.elim
end Go.Proofs.YtniecghigmgbnaaDoor

