/- queue.Cancel: slices.IndexFunc and slices.DeleteFunc at timers. -/
import Derived.Test.YthpofpndlkhciaaQE
import Derived.WalkKit
import Derived.ProofKit
import Derived.OpenShut
import Derived.Handy
import Derived.BigQuiet
import Derived.OwnWalk
import Derived.Laws.IdiomCopy
import Derived.Lib.Strings
import Derived.Lib.Hide
import Derived.WalkSmall
import Derived.WalkLawsBesides
namespace Go.Proofs.Ythpofpndlkhciaa
open Go.RowKit
/-! ### A row that is written in place -/
theorem blk_put {w : World} {b i : Nat} {cs : Array Value} {u : Value} {t : TypeId} (h : w.heap[b]? = some (.cells cs t (0, 0))) : (w.setCell ⟨b, i, none⟩ u).heap[b]? = some (.cells (cs.setIfInBounds i u) t (0, 0)) := by
  have hlt := (Array.getElem?_eq_some_iff.1 h).1
  have h' : w.heap[b] = .cells cs t (0, 0) := by simpa [Array.getElem?_eq_getElem hlt] using h
  show (w.heap.modify b _)[b]? = _
  rw [Array.getElem?_eq_getElem (by simpa using hlt), Array.getElem_modify_self, h']
  rfl
theorem own_put1 {w : World} {B e s n cap g j : Nat} {xs : List Value} {u : Value} (h : w.ownsRow B e s (.slice (some ⟨g, 0, none⟩) n cap) n xs) : (w.setCell ⟨g, j, none⟩ u).ownsRow B e s (.slice (some ⟨g, 0, none⟩) n cap) n (xs.set j u) := by
  obtain ⟨h1, h2⟩ := h
  rcases h2 with ⟨h0, _⟩ | ⟨g', cap', cur, hv, hg, hh, hn, hcap, hsz, htake⟩
  · cases h0
  · cases hv
    refine ⟨by rw [List.length_set]; exact h1, .inr ⟨g, cap, cur.setIfInBounds j u, rfl, hg, blk_put hh, hn, hcap, by simpa using hsz, ?_⟩⟩
    rw [Array.toList_setIfInBounds, List.take_set, htake]
theorem own_cut {w : World} {B e s n m cap g : Nat} {xs : List Value} (hm : m ≤ n) (h : w.ownsRow B e s (.slice (some ⟨g, 0, none⟩) n cap) n xs) : w.ownsRow B e s (.slice (some ⟨g, 0, none⟩) m cap) m (xs.take (m * s)) := by
  obtain ⟨h1, h2⟩ := h
  have hms : m * s ≤ n * s := Nat.mul_le_mul_right s hm
  refine ⟨by rw [List.length_take, h1]; omega, ?_⟩
  rcases h2 with ⟨h0, _⟩ | ⟨g', cap', cur, hv, hg, hh, hn, hcap, hsz, htake⟩
  · cases h0
  · cases hv
    exact .inr ⟨g, cap, cur, rfl, hg, hh, Nat.le_trans hm hn, hcap, hsz, by rw [← htake, List.take_take, Nat.min_eq_left hms]⟩
theorem own_past {B e s n cap g : Nat} {xs : List Value} : ∀ (zs : List Value) (o : Nat) (w : World), n * s ≤ o → w.ownsRow B e s (.slice (some ⟨g, 0, none⟩) n cap) n xs → (w.setCells g o zs).ownsRow B e s (.slice (some ⟨g, 0, none⟩) n cap) n xs
  | [], _, _, _, h => h
  | z :: r, o, w, ho, h => by
    have h2 := own_put1 (j := o) (u := z) h
    rw [List.set_eq_of_length_le (by rw [h.1]; exact ho)] at h2
    exact own_past r (o + 1) _ (by omega) h2
theorem below_cells {B g : Nat} {a : World} (hg : B ≤ g) : ∀ (zs : List Value) (o : Nat) (w : World), Below B a w → Below B a (w.setCells g o zs)
  | [], _, _, h => h
  | z :: r, o, _, h => below_cells hg r (o + 1) _ (h.setCell (p := ⟨g, o, none⟩) hg z)
theorem tms_set (t : Tm) : ∀ (l : List Tm) (i : Nat), i < l.length → ((((tmsC l).set (i * 3) (.int .i64 t.due)).set (i * 3 + 1) (.int .i64 t.seq)).set (i * 3 + 2) (.string t.name)) = tmsC (l.set i t)
  | [], _, h => absurd h (Nat.not_lt_zero _)
  | x :: r, 0, _ => by simp [tmsC, tmC]
  | x :: r, i + 1, h => by
    have ih := tms_set t r i (by simpa using h)
    have e : ∀ (R : List Value) (k : Nat) (v : Value), (tmC x ++ R).set (3 + k) v = tmC x ++ R.set k v := fun R k v => by
      have hl : (tmC x).length = 3 := rfl
      rw [List.set_append, if_neg (by omega), hl, Nat.add_sub_cancel_left]
    unfold tmsC at ih ⊢
    rw [List.set_cons_succ, List.flatMap_cons, List.flatMap_cons, ← ih, show (i + 1) * 3 = 3 + i * 3 by omega, show 3 + i * 3 + 1 = 3 + (i * 3 + 1) by omega, show 3 + i * 3 + 2 = 3 + (i * 3 + 2) by omega, e, e, e]
/-! ### Those of a name -/
def idxT (nm : ByteArray) : List Tm → Nat → Int
  | [], _ => -1
  | x :: r, k => if x.name = nm then (k : Int) else idxT nm r (k + 1)
theorem idxT_at (nm : ByteArray) (l : List Tm) (i : Nat) (h : i < l.length) : idxT nm (l.drop i) i = if l[i].name = nm then (i : Int) else idxT nm (l.drop (i + 1)) (i + 1) := by
  rw [List.drop_eq_getElem_cons h, idxT]
theorem idxT_end (nm : ByteArray) (l : List Tm) (i : Nat) (h : l.length ≤ i) : idxT nm (l.drop i) i = -1 := by
  rw [List.drop_of_length_le h]; rfl
theorem idxT_told (nm : ByteArray) : ∀ (l : List Tm) (k : Nat), (idxT nm l k = -1 ∧ cancelT l nm = l) ∨ ∃ i, idxT nm l k = ((k + i : Nat) : Int) ∧ i < l.length ∧ cancelT (l.take (i + 1)) nm = l.take i
  | [], _ => .inl ⟨rfl, rfl⟩
  | x :: r, k => by
    unfold idxT
    by_cases hx : x.name = nm
    · rw [if_pos hx]
      exact .inr ⟨0, rfl, by simp, by simp [cancelT, hx]⟩
    · rw [if_neg hx]
      rcases idxT_told nm r (k + 1) with ⟨h1, h2⟩ | ⟨i, h1, h2, h3⟩
      · refine .inl ⟨h1, ?_⟩
        unfold cancelT at h2 ⊢
        rw [List.filter_cons_of_pos (by simpa using hx), h2]
      · refine .inr ⟨i + 1, by rw [h1]; congr 1; omega, by simpa using h2, ?_⟩
        unfold cancelT at h3 ⊢
        rw [List.take_succ_cons, List.take_succ_cons, List.filter_cons_of_pos (by simpa using hx), h3]
theorem cancel_step (l : List Tm) (nm : ByteArray) (i : Nat) (h : i < l.length) : cancelT (l.take (i + 1)) nm = if l[i].name = nm then cancelT (l.take i) nm else cancelT (l.take i) nm ++ [l[i]] := by
  unfold cancelT
  rw [List.take_succ_eq_append_getElem h, List.filter_append]
  by_cases hx : l[i].name = nm
  · rw [if_pos hx, List.filter_cons_of_neg (by simpa using hx)]
    simp
  · rw [if_neg hx, List.filter_cons_of_pos (by simpa using hx)]
    simp
theorem bytes_eq (a b : ByteArray) : (a.toList == b.toList) = decide (a = b) := by
  by_cases h : a = b
  · subst h; simp
  · rw [decide_eq_false h, beq_eq_false_iff_ne]
    intro e
    rw [Lib.toList_data, Lib.toList_data] at e
    exact h (ByteArray.ext (Array.toList_inj.1 e))
theorem named_q (x : Tm) (nm : ByteArray) (nb : Nat) (w : World) (h : w.cell? ⟨nb, 0, none⟩ = some (.string nm)) : Calls Try.prog 25 #[tmV x, .pointer (some ⟨nb, 0, none⟩)] w (Ret (.bool (decide (x.name = nm))) w) := by
  have i1 : InW nb w := ⟨World.block_lt_of_cell? _ _ h⟩
  go_enter Try.func25, Try.ntmps25
  go_wp2
  go_returns
  exact ⟨by rw [← bytes_eq]; rfl, by (first | exact gwT | exact lzT)⟩
set_option maxRecDepth 100000 in
set_option maxHeartbeats 4000000 in
theorem idx_any (ao : Option Addr) (cap : Nat) (l : List Tm) (nm : ByteArray) (nb : Nat) (h40 : l.length ≤ 40) (w : World) (h : TmsAt 33 w ao cap l) (hn : w.cell? ⟨nb, 0, none⟩ = some (.string nm)) :
    Calls Try.prog 31 #[.slice ao l.length cap, .func (.func 25) #[] #[.pointer (some ⟨nb, 0, none⟩)]] w (Ret (.int .i64 (idxT nm l 0)) w) := by
  have H := Lib.hid (fun wx (hb : Below w.heap.size w wx) => tms_keep h hb)
  have C := Lib.hid (fun x wx (hb : Below w.heap.size w wx) => named_q x nm nb wx ((hb.cell (p := ⟨nb, 0, none⟩) (World.block_lt_of_cell? _ _ hn)).trans hn))
  have S := Lib.hid (fun i h => idxT_at nm l i h)
  have En := Lib.hid (idxT_end nm l l.length (Nat.le_refl _))
  have h0 : Hid (idxT nm (l.drop 0) 0 = idxT nm l 0) := Lib.hid (by rw [List.drop_zero])
  generalize idxT nm l 0 = F at *
  clear h hn
  go_enter Try.func31, Try.ntmps31
  go_wp2
  go_loopw [8] (fun v wr => ∃ i : Nat, v = .int .i64 (i : Int) ∧ i ≤ l.length ∧ Hid (idxT nm (l.drop i) i = F) ∧ Below w.heap.size w wr) (fun v _ => l.length - (intOf v).toNat)
  case atStart => exact ⟨0, rfl, Nat.zero_le _, h0, by (first | exact gwT | exact lzT)⟩
  case round =>
    obtain ⟨i, rfl, hi, hf, hb⟩ := hrel
    rename World => wr
    have hwz := hb.size
    by_cases hlt : i < l.length
    · obtain ⟨g, rfl, hg, n1, n2, n3⟩ := tm_at (H.out wr hb) i hlt
      have st := S.out i hlt
      rw [hf.out] at st
      have hI : (i : Int) < (l.length : Int) := by omega
      have i1 : InW g wr := ⟨hg⟩
      have C1 := Lib.hid (fun wx (hx : Below wr.heap.size wr wx) => C.out l[i] wx (hb.trans (hx.mono hwz)))
      generalize l[i] = x at *
      generalize hd : decide (x.name = nm) = d at *
      cases d with
      | true =>
        rw [if_pos (of_decide_eq_true hd)] at st
        subst st
        clear hf hd C S En H h0
        go_wp2_with ((with_reducible refine (C1.out _ (by (first | exact gwT | exact lzT))).mono ?_); intro e w1 hr; obtain ⟨rfl, p, rfl⟩ := hr.out; clear hr)
        go_returns
        exact ⟨rfl, by (first | exact gwT | exact lzT)⟩
      | false =>
        rw [if_neg (of_decide_eq_false hd)] at st
        have st' := Lib.hid st.symm
        clear hf hd C S En H st h0
        go_wp2_with ((with_reducible refine (C1.out _ (by (first | exact gwT | exact lzT))).mono ?_); intro e w1 hr; obtain ⟨rfl, p, rfl⟩ := hr.out; clear hr)
        go_roundw
        case rel => exact ⟨i + 1, by go_num, by omega, st', by (first | exact gwT | exact lzT)⟩
        case measure => simp [intOf]; omega
    · obtain rfl : i = l.length := by omega
      have hI : ¬ ((l.length : Nat) : Int) < (l.length : Int) := by omega
      have := hf.out
      rw [En.out] at this
      subst this
      clear hf En h0
      go_wp2
      go_returns
      exact ⟨rfl, by (first | exact gwT | exact lzT)⟩
theorem run_clear_cells {P : Program} (w : World) (t e ty : TypeId) (z : Value) (ht : P.underlying t = some (.slice e)) (hv : (zeroValue e).run P w = .ok z w) (b o n c : Nat) (zs : List Value) (hn : 0 < n) (hz : (Builtin.zeroCells z.cells n).toList = zs) (h1 : ∀ v ∈ zs, v.oneCell' = true)
    (hc : ∀ j, j < zs.length → (w.cell? ⟨b, o + j, none⟩).isSome = true) (hf : ∀ j, j < zs.length → w.frozen? ⟨b, o + j, none⟩ = false) :
    (Builtin.clear_ #[t] ty #[.slice (some ⟨b, o, none⟩) n c]).run P w = .ok (.tuple #[]) (w.setCells b o zs) := by
  have hst := run_storeCells_cells (P := P) b o zs 0 w (by simpa using hc) (by simpa using hf) h1
  simp only [Nat.add_zero] at hst
  obtain ⟨m, rfl⟩ : ∃ m, n = m + 1 := ⟨n - 1, by omega⟩
  simp [Builtin.clear_, run_underlying ht, hv, hz, hst]
theorem zero_tm (w : World) : (zeroValue 33).run Try.prog w = .ok (.agg #[.int .i64 0, .int .i64 0, .string ⟨#[]⟩]) w := by
  obtain ⟨j0, hj, hy1, hy2, hy3⟩ := info_parts Try.infoQt
  simp [zeroValue, typeInfo, hj, hy1]
theorem zero_one (n : Nat) : ∀ v ∈ (Builtin.zeroCells (Value.agg #[.int .i64 0, .int .i64 0, .string ⟨#[]⟩]).cells n).toList, v.oneCell' = true := by
  intro v hv
  simp only [Builtin.zeroCells, Value.cells, Array.toList_map, List.mem_map] at hv
  obtain ⟨i, _, rfl⟩ := hv
  have : i % 3 < 3 := Nat.mod_lt _ (by decide)
  rcases (show i % 3 = 0 ∨ i % 3 = 1 ∨ i % 3 = 2 by omega) with h | h | h <;> simp [h] <;> rfl
theorem set_take {L : List Tm} {i : Nat} {x : Tm} (h : i < L.length) : (L.set i x).take (i + 1) = L.take i ++ [x] := by
  rw [List.take_succ_eq_append_getElem (by rw [List.length_set]; exact h), List.getElem_set_self, List.take_set_of_le (Nat.le_refl _)]
theorem tms_take {L : List Tm} {i : Nat} (h : i ≤ L.length) : (tmsC L).take (i * 3) = tmsC (L.take i) := by
  have h2 : tmsC L = tmsC (L.take i) ++ tmsC (L.drop i) := by rw [← tms_append, List.take_append_drop]
  rw [h2, List.take_left' (by rw [tms_len, List.length_take, Nat.min_eq_left h])]
/-- What DeleteFunc answers: the row, written in place. -/
def DelIs (B : Nat) (l : List Tm) (nm : ByteArray) (w : World) (e : Ending) (w' : World) : Prop := ∃ ao cap, e = .returned (.slice ao (cancelT l nm).length cap) ∧ w'.ownsRow B 33 3 (.slice ao (cancelT l nm).length cap) (cancelT l nm).length (tmsC (cancelT l nm)) ∧ Below B w w'
set_option maxRecDepth 100000 in
set_option maxHeartbeats 4000000 in
theorem del_any (B : Nat) (ao : Option Addr) (cap : Nat) (l : List Tm) (nm : ByteArray) (nb : Nat) (h40 : l.length ≤ 40) (w : World) (hB : B ≤ w.heap.size) (hnb : nb < B) (h : w.ownsRow B 33 3 (.slice ao l.length cap) l.length (tmsC l)) (hn : w.cell? ⟨nb, 0, none⟩ = some (.string nm)) :
    Calls Try.prog 24 #[.slice ao l.length cap, .func (.func 25) #[] #[.pointer (some ⟨nb, 0, none⟩)]] w (DelIs B l nm w) := by
  have I := Lib.hid (fun wx (hb : Below w.heap.size w wx) => idx_any ao cap l nm nb h40 wx ⟨B, owns_below h hb⟩ ((hb.cell (p := ⟨nb, 0, none⟩) (by show nb < w.heap.size; omega)).trans hn))
  have O := Lib.hid (fun wx (hb : Below w.heap.size w wx) => owns_below h hb)
  have C := Lib.hid (fun x wx (hb : Below B w wx) => named_q x nm nb wx ((hb.cell (p := ⟨nb, 0, none⟩) hnb).trans hn))
  have S := Lib.hid (fun i h => cancel_step l nm i h)
  have Z := Lib.hid (fun wx => zero_tm wx)
  clear hn
  rcases idxT_told nm l 0 with ⟨h1, h2⟩ | ⟨k, h1, h2, h3⟩
  · rw [h1] at I
    unfold DelIs
    rw [h2]
    clear C S Z h1 h2 h
    go_enter Try.func24, Try.ntmps24
    go_wp2_with ((with_reducible refine (I.out _ (by (first | exact gwT | exact lzT))).mono ?_); intro e w1 hr; obtain ⟨rfl, p, rfl⟩ := hr.out; clear hr)
    go_returns
    exact ⟨ao, cap, rfl, O.out _ (by (first | exact gwT | exact lzT)), Below.mono (B := w.heap.size) (by (first | exact gwT | exact lzT)) hB⟩
  · rw [h1, Nat.zero_add] at I
    obtain ⟨g, cap', hv, hg, hnc, hcm, _⟩ := own_head h (by omega)
    cases hv
    unfold DelIs
    have hgB : B ≤ g := by
      rcases h.2 with ⟨e, _⟩ | ⟨g', _, _, e, hb, _⟩
      · cases e
      · cases e; exact hb
    have h3' := Lib.hid h3
    have hk1 : ¬ (k : Int) = -1 := by omega
    have hke : ((k : Int) == -1) = false := by rw [beq_eq_false_iff_ne]; omega
    clear h h1 h3
    go_enter Try.func24, Try.ntmps24
    go_wp2_with ((with_reducible refine (I.out _ (by (first | exact gwT | exact lzT))).mono ?_); intro e w1 hr; obtain ⟨rfl, p, rfl⟩ := hr.out; clear hr)
    go_loopw [5, 6] (fun x v wr => ∃ (i j : Nat) (L : List Tm), x = .int .i64 (i : Int) ∧ v = .int .i64 (j : Int) ∧ i < j ∧ j ≤ l.length ∧ L.length = l.length ∧ L.drop j = l.drop j ∧ Hid (L.take i = cancelT (l.take j) nm) ∧ wr.ownsRow B 33 3 (.slice (some ⟨g, 0, none⟩) l.length cap) l.length (tmsC L) ∧ Below B w wr) (fun _ v _ => l.length - (intOf v).toNat)
    case atStart => exact ⟨k, k + 1, l, rfl, by go_num, by omega, by omega, rfl, rfl, Lib.hid h3'.out.symm, O.out _ (by (first | exact gwT | exact lzT)), Below.mono (B := w.heap.size) (by (first | exact gwT | exact lzT)) hB⟩
    case round =>
      obtain ⟨i, j, L, rfl, rfl, hij, hjl, hL, hd, ht, hown, hb⟩ := hrel
      rename World => wr
      have hzB := hb.size
      have hT : TmsAt 33 wr (some ⟨g, 0, none⟩) cap L := ⟨B, by rw [hL]; exact hown⟩
      have hfz : ∀ o, wr.frozen? ⟨g, o, none⟩ = false := by
        rcases hown.2 with ⟨e, _⟩ | ⟨g', _, cur, e, _, hh, _⟩
        · cases e
        · cases e
          exact fun o => frozen_of_row wr g o _ _ hh
      by_cases hlt : j < l.length
      · obtain ⟨_, e, hgw, n1, n2, n3⟩ := tm_at hT j (by omega)
        cases e
        obtain ⟨_, e, _, m1, m2, m3⟩ := tm_at hT i (by omega)
        cases e
        have hx : L[j]'(by omega) = l[j] := by
          have h1 := congrArg (·[0]?) hd
          simp only [List.getElem?_drop, Nat.add_zero] at h1
          rw [List.getElem?_eq_getElem (by omega), List.getElem?_eq_getElem hlt] at h1
          exact Option.some.inj h1
        have st := S.out j hlt
        rw [hx] at n1 n2 n3
        have C1 := Lib.hid (fun wx (hx : Below wr.heap.size wr wx) => C.out l[j] wx (hb.trans (hx.mono (by omega))))
        have hd' := Lib.hid (show L.drop (j + 1) = l.drop (j + 1) by
          have h1 := congrArg (List.drop 1) hd
          rwa [List.drop_drop, List.drop_drop] at h1)
        have hI : (j : Int) < (l.length : Int) := by omega
        have i1 : InW g wr := ⟨hgw⟩
        have hK := Lib.hid hown
        generalize l[j] = x at *
        generalize L[i] = y at *
        generalize hdx : decide (x.name = nm) = d at *
        have hgl : g < wr.heap.size := hgw
        cases d with
        | true =>
          rw [if_pos (of_decide_eq_true hdx)] at st
          have st' := Lib.hid (ht.out.trans st.symm)
          clear hdx C S st ht I O Z hd hown hT m1 m2 m3 hx
          go_wp2_with ((with_reducible refine (C1.out _ (by (first | exact gwT | exact lzT))).mono ?_); intro e w1 hr; obtain ⟨rfl, p, rfl⟩ := hr.out; clear hr)
          go_roundw
          case rel => exact ⟨i, j + 1, L, rfl, by go_num, by omega, by omega, hL, hd'.out, st', owns_below hK.out (by (first | exact gwT | exact lzT)), by (first | exact gwT | exact lzT)⟩
          case measure => simp [intOf]; omega
        | false =>
          rw [if_neg (of_decide_eq_false hdx), ← ht.out] at st
          have st' := Lib.hid st
          clear hdx C S st ht I O Z hd hown hT hx
          have hIi : (i : Int) < (l.length : Int) := by omega
          go_wp2_with ((with_reducible refine (C1.out _ (by (first | exact gwT | exact lzT))).mono ?_); intro e w1 hr; obtain ⟨rfl, p, rfl⟩ := hr.out; clear hr)
          go_roundw
          case rel => exact ⟨i + 1, j + 1, L.set i x, by go_num, by go_num, by omega, by omega, by rw [List.length_set]; exact hL, by rw [List.drop_set, if_pos (by omega)]; exact hd'.out, Lib.hid (by rw [set_take (by omega)]; exact st'.out.symm), owns_below (by rw [← tms_set x L i (by omega)]; exact own_put1 (own_put1 (own_put1 hK.out))) (by (first | exact gwT | exact lzT)), by (first | exact gwT | exact lzT)⟩
          case measure => simp [intOf]; omega
      · obtain rfl : j = l.length := by omega
        have ht' := ht.out
        rw [List.take_length] at ht'
        have hlen : (cancelT l nm).length = i := by rw [← ht', List.length_take]; omega
        replace hlen := Lib.hid hlen
        have hq := Lib.hid ht'
        have hI : ¬ ((l.length : Nat) : Int) < (l.length : Int) := by omega
        have i1 : InW g wr := ⟨(own_head hown (by omega)).elim fun g' h => by obtain ⟨_, e, hl, _⟩ := h; cases e; exact hl⟩
        have cl : ∀ o, o < l.length * 3 → (wr.cell? ⟨g, o, none⟩).isSome = true := fun o ho => by
          obtain ⟨g', _, e, _, _, _, hc⟩ := own_head hown (by omega)
          cases e
          have hto : o < (tmsC L).length := by rw [tms_len]; omega
          rw [hc o _ (List.getElem?_eq_getElem hto)]
          rfl
        have hzl : (Builtin.zeroCells (Value.agg #[.int .i64 0, .int .i64 0, .string ⟨#[]⟩]).cells (l.length - i)).toList.length = (l.length - i) * 3 := by simp [Builtin.zeroCells, Value.cells]
        have hz1 : ∀ v ∈ (Builtin.zeroCells (Value.agg #[.int .i64 0, .int .i64 0, .string ⟨#[]⟩]).cells (l.length - i)).toList, v.oneCell' = true := zero_one _
        obtain ⟨zs, hzs⟩ : ∃ zs, (Builtin.zeroCells (Value.agg #[.int .i64 0, .int .i64 0, .string ⟨#[]⟩]).cells (l.length - i)).toList = zs := ⟨_, rfl⟩
        rw [hzs] at hzl hz1
        have hcl : ∀ ty, (Builtin.clear_ #[30] ty #[.slice (some ⟨g, i * 3, none⟩) (l.length - i) (cap - i)]).run Try.prog wr = .ok (.tuple #[]) (wr.setCells g (i * 3) zs) := fun ty =>
          run_clear_cells wr _ 33 ty _ Try.underlying30 (Z.out wr) g (i * 3) _ _ zs (by omega) hzs hz1 (fun o ho => cl _ (by omega)) (fun o _ => hfz _)
        have hown' := Lib.hid (own_past zs (i * 3) wr (Nat.le_refl _) (own_cut (m := i) (by omega) hown))
        have hb' := Lib.hid (below_cells hgB zs (i * 3) wr hb)
        generalize wr.setCells g (i * 3) zs = w2 at *
        have hic : ¬ cap = i := by omega
        have hI2 : (i : Int) ≤ (l.length : Int) := by omega
        have hI3 : (i : Int) ≤ (cap : Int) := by omega
        have hI4 : (l.length : Int) ≤ (cap : Int) := by omega
        clear C S I O Z hown hb ht ht' hT hd cl hz1 hzl hzs hfz
        go_wp2
        go_returns
        refine ⟨some ⟨g, 0, none⟩, cap, by rw [hlen.out]; rfl, ?_, hb'.out⟩
        rw [hlen.out]
        have := hown'.out
        rw [tms_take (by omega), hq.out] at this
        exact this
end Go.Proofs.Ythpofpndlkhciaa

