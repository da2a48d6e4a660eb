/- The document's Arm and Due; the law's refs, same, texts. -/
import Derived.Test.YthpofpndlkhciaaQG
import Derived.WalkKit
import Derived.ProofKit
import Derived.OpenShut
import Derived.Handy
import Derived.BigQuiet
import Derived.OwnWalk
import Derived.Lib.Hide
import Derived.WalkSmall
import Derived.WalkLawsBesides
namespace Go.Proofs.Ythpofpndlkhciaa
open Go.RowKit
set_option maxRecDepth 100000 in
set_option maxHeartbeats 4000000 in
theorem rdue_any (ao : Option Addr) (cap : Nat) (l : List Tm) (now : Int) (h40 : l.length ≤ 40) (w : World) (h : TmsAt 38 w ao cap l) :
    Calls Try.prog 14 #[.slice ao l.length cap, .int .i64 now] w (DueIs 38 l now w) := by
  have H := Lib.hid (fun wx (hb : Below w.heap.size w wx) => tms_keep h hb)
  have St := Lib.hid (fun i h => due_step l now i h)
  have Ln := Lib.hid (fun i => due_len l now i)
  have hE : Hid (dueT (l.take l.length) now = dueT l now ∧ leftT (l.take l.length) now = leftT l now) := Lib.hid (by rw [List.take_length]; exact ⟨rfl, rfl⟩)
  unfold DueIs
  obtain ⟨j0, hj, hy1, hy2, hy3⟩ := info_parts Try.infoQs
  obtain ⟨j1, gj, gy1, gy2, gy3⟩ := info_parts Try.infoQx
  clear h
  go_enter Try.func14, Try.ntmps14
  go_wp2
  go_loopw [6, 7, 8] (fun x y v wr => ∃ (i : Nat) (na : Option Addr) (nc : Nat) (oa : Option Addr) (oc : Nat), v = .int .i64 (i : Int) ∧ i ≤ l.length ∧ x = .slice na (dueT (l.take i) now).length nc ∧ y = .slice oa (leftT (l.take i) now).length oc ∧ wr.ownsRow w.heap.size 9 1 (.slice na (dueT (l.take i) now).length nc) (dueT (l.take i) now).length (nmsC (dueT (l.take i) now)) ∧ wr.ownsRow w.heap.size 38 3 (.slice oa (leftT (l.take i) now).length oc) (leftT (l.take i) now).length (tmsC (leftT (l.take i) now)) ∧ Below w.heap.size w wr) (fun _ _ v _ => l.length - (intOf v).toNat)
  case atStart => exact ⟨0, none, 0, none, 0, rfl, Nat.zero_le _, rfl, rfl, World.ownsRow_nil _ _ _ _, World.ownsRow_nil _ _ _ _, by (first | exact gwT | exact lzT)⟩
  case round =>
    obtain ⟨i, na, nc, oa, oc, rfl, hi, rfl, rfl, hown1, hown2, hb⟩ := hrel
    rename World => wr
    have hwz := hb.size
    by_cases hlt : i < l.length
    · obtain ⟨g, rfl, hg, n1, n2, n3⟩ := tm_at (H.out wr hb) i hlt
      have st := St.out i hlt
      have ln := Ln.out i
      have hI : (i : Int) < (l.length : Int) := by omega
      have i1 : InW g wr := ⟨hg⟩
      generalize l[i] = x at *
      generalize dueT (l.take i) now = D at *
      generalize leftT (l.take i) now = R at *
      have h1 := Lib.hid hown1
      have h2 := Lib.hid hown2
      obtain ⟨ln1, ln2⟩ := ln
      by_cases hx : x.due ≤ now
      · rw [if_pos hx, if_pos hx] at st
        have st' := Lib.hid st
        clear H St Ln hE hown1 hown2 st gj gy1 gy2 gy3
        go_wp2_with (at_builtin; refine wpList_append_src rfl _ _ 22 rfl w.heap.size 9 j0 _ 1 16 Try.underlying22 hj hy1 hy2 hy3 rfl (by decide) (.slice na D.length nc) D.length _ rfl (owns_below h1.out (by (first | exact gwT | exact lzT))) (some ⟨_, 0, none⟩) 1 1 [.string x.name] rfl (src_new (new_blk (by simp)) rfl) rfl (by intro u hu; simp at hu; subst hu; rfl) (by unfold maxLen; omega) (by omega) (by (first | exact gwT | exact lzT)) ?_)
        intro v' w2 hown2 hgrow
        have k2 := own_two (owns_below h2.out (show Below wr.heap.size wr _ by (first | exact gwT | exact lzT))) (owns_below h1.out (show Below wr.heap.size wr _ by (first | exact gwT | exact lzT))) (by decide) hgrow
        have hb2 := Below.grown (B := w.heap.size) (show Below w.heap.size w _ by (first | exact gwT | exact lzT)) hgrow (by (first | exact gwT | exact lzT)) (fun k hk => (h1.out.lt k hk).1)
        obtain ⟨oa2, oc2, rfl⟩ := own_form hown2
        replace hown2 := Lib.hid hown2
        replace k2 := Lib.hid k2
        clear hgrow i1 h1 h2
        go_wp2
        go_roundw
        case rel => exact ⟨i + 1, oa2, oc2, oa, oc, by go_num, by omega, by rw [st'.out.1]; simp, by rw [st'.out.2], by rw [st'.out.1, nms_snoc]; simpa using hown2.out, by rw [st'.out.2]; exact k2.out, hb2⟩
        case measure => simp [intOf]; omega
      · rw [if_neg hx, if_neg hx] at st
        have st' := Lib.hid st
        clear H St Ln hE hown1 hown2 st hj hy1 hy2 hy3
        go_wp2_with (at_builtin; refine wpList_append_src rfl _ _ 31 rfl w.heap.size 38 j1 _ 3 32 Try.underlying31 gj gy1 gy2 gy3 rfl (by decide) (.slice oa R.length oc) R.length _ rfl (owns_below h2.out (by (first | exact gwT | exact lzT))) (some ⟨_, 0, none⟩) 1 1 (tmC x) rfl (src_new (new_blk (by simp)) rfl) rfl (by intro u hu; simp [tmC] at hu; rcases hu with rfl | rfl | rfl <;> rfl) (by unfold maxLen; omega) (by omega) (by (first | exact gwT | exact lzT)) ?_)
        intro v' w2 hown2 hgrow
        have k2 := own_two (owns_below h1.out (show Below wr.heap.size wr _ by (first | exact gwT | exact lzT))) (owns_below h2.out (show Below wr.heap.size wr _ by (first | exact gwT | exact lzT))) (by decide) hgrow
        have hb2 := Below.grown (B := w.heap.size) (show Below w.heap.size w _ by (first | exact gwT | exact lzT)) hgrow (by (first | exact gwT | exact lzT)) (fun k hk => (h2.out.lt k hk).1)
        obtain ⟨oa2, oc2, rfl⟩ := own_form hown2
        replace hown2 := Lib.hid hown2
        replace k2 := Lib.hid k2
        clear hgrow i1 h1 h2
        go_wp2
        go_roundw
        case rel => exact ⟨i + 1, na, nc, oa2, oc2, by go_num, by omega, by rw [st'.out.1], by rw [st'.out.2]; simp, by rw [st'.out.1]; exact k2.out, by rw [st'.out.2, tms_snoc]; simpa using hown2.out, hb2⟩
        case measure => simp [intOf]; omega
    · obtain rfl : i = l.length := by omega
      have hI : ¬ ((l.length : Nat) : Int) < (l.length : Int) := by omega
      rw [hE.out.1] at hown1 ⊢
      rw [hE.out.2] at hown2 ⊢
      have h1 := Lib.hid hown1
      have h2 := Lib.hid hown2
      clear hown1 hown2 H St Ln
      go_wp2
      go_returns
      exact ⟨na, nc, oa, oc, rfl, h1.out, h2.out, hb⟩
/-! ### Arm -/
def lowT (t : Tm) (l : List Tm) : List Tm := l.filter fun x => !ahT t x
def topT (t : Tm) (l : List Tm) : List Tm := l.filter fun x => ahT t x
theorem low_step (t : Tm) (l : List Tm) (i : Nat) (h : i < l.length) : lowT t (l.take (i + 1)) = if ahT t l[i] = true then lowT t (l.take i) else lowT t (l.take i) ++ [l[i]] := by
  unfold lowT
  rw [List.take_succ_eq_append_getElem h, List.filter_append]
  by_cases hx : ahT t l[i] = true
  · rw [if_pos hx, List.filter_cons_of_neg (by simpa using hx)]
    simp
  · rw [if_neg hx, List.filter_cons_of_pos (by simpa using hx)]
    simp
theorem top_step (t : Tm) (l : List Tm) (i : Nat) (h : i < l.length) : topT t (l.take (i + 1)) = if ahT t l[i] = true then topT t (l.take i) ++ [l[i]] else topT t (l.take i) := by
  unfold topT
  rw [List.take_succ_eq_append_getElem h, List.filter_append]
  by_cases hx : ahT t l[i] = true
  · rw [if_pos hx, List.filter_cons_of_pos hx]
    simp
  · rw [if_neg hx, List.filter_cons_of_neg hx]
    simp
theorem arm_parts (l : List Tm) (t : Tm) : armT l t = lowT t l ++ [t] ++ topT t l := by
  unfold armT lowT topT
  simp
def rarmL (l : List Tm) (t : Tm) : List Tm := if 8 ≤ l.length then l else armT l t
/-- What the document's Arm answers: the same row, or one of the call's own. -/
def RarmIs (l : List Tm) (t : Tm) (w : World) (e : Ending) (w' : World) : Prop := ∃ ao cap, e = .returned (.tuple #[.slice ao (rarmL l t).length cap, .bool (!decide (8 ≤ l.length))]) ∧ TmsAt 38 w' ao cap (rarmL l t) ∧ Below w.heap.size w w'
set_option maxRecDepth 100000 in
set_option maxHeartbeats 4000000 in
theorem rarm_any (ao : Option Addr) (cap : Nat) (l : List Tm) (t : Tm) (h40 : l.length ≤ 40) (w : World) (h : TmsAt 38 w ao cap l) :
    Calls Try.prog 11 #[.slice ao l.length cap, tmV t] w (RarmIs l t w) := by
  unfold RarmIs rarmL
  by_cases h8 : 8 ≤ l.length
  · rw [if_pos h8, decide_eq_true h8]
    have H := Lib.hid (fun wx (hb : Below w.heap.size w wx) => tms_keep h hb)
    have hI : (8 : Int) ≤ (l.length : Int) := by omega
    clear h
    go_enter Try.func11, Try.ntmps11
    go_wp2
    go_returns
    exact ⟨ao, cap, rfl, H.out _ (by (first | exact gwT | exact lzT)), by (first | exact gwT | exact lzT)⟩
  · rw [if_neg h8, decide_eq_false h8]
    have hI : ¬ (8 : Int) ≤ (l.length : Int) := by omega
    have A := Lib.hid (fun a wx => rahd_any t a wx)
    have H := Lib.hid (fun wx (hb : Below w.heap.size w wx) => tms_keep h hb)
    have S1 := Lib.hid (fun i h => low_step t l i h)
    have S2 := Lib.hid (fun i h => top_step t l i h)
    have hP := Lib.hid (arm_parts l t)
    have L1 := Lib.hid (show ∀ i, (lowT t (l.take i)).length ≤ l.length from fun i => by
      have := List.length_filter_le (fun x : Tm => !ahT t x) (l.take i)
      rw [List.length_take] at this
      unfold lowT
      omega)
    have L2 := Lib.hid (show ∀ i, (topT t (l.take i)).length ≤ l.length from fun i => by
      have := List.length_filter_le (fun x : Tm => ahT t x) (l.take i)
      rw [List.length_take] at this
      unfold topT
      omega)
    have hE : Hid (lowT t (l.take l.length) = lowT t l ∧ topT t (l.take l.length) = topT t l) := Lib.hid (by rw [List.take_length]; exact ⟨rfl, rfl⟩)
    obtain ⟨j0, hj, hy1, hy2, hy3⟩ := info_parts Try.infoQx
    clear h
    go_enter Try.func11, Try.ntmps11
    go_wp2
    go_loopw [6, 7] (fun x v wr => ∃ (i : Nat) (oa : Option Addr) (oc : Nat), v = .int .i64 (i : Int) ∧ i ≤ l.length ∧ x = .slice oa (lowT t (l.take i)).length oc ∧ wr.heap[w.heap.size]? = some (.cells #[.int .i64 t.due, .int .i64 t.seq, .string t.name] 38 (0, 0)) ∧ wr.ownsRow (w.heap.size + 1) 38 3 (.slice oa (lowT t (l.take i)).length oc) (lowT t (l.take i)).length (tmsC (lowT t (l.take i))) ∧ Below w.heap.size w wr) (fun _ v _ => l.length - (intOf v).toNat)
    case atStart => exact ⟨0, none, 0, rfl, Nat.zero_le _, rfl, heap_alloc_new w _, World.ownsRow_nil _ _ _ _, by (first | exact gwT | exact lzT)⟩
    case round =>
      obtain ⟨i, oa, oc, rfl, hi, rfl, hbox, hown, hb⟩ := hrel
      rename World => wr
      have hwz := hb.size
      obtain ⟨z0, z1, z2, zl⟩ := box3 hbox
      have i2 : InW w.heap.size wr := ⟨zl⟩
      have hK := Lib.hid hown
      have hB := Lib.hid hbox
      by_cases hlt : i < l.length
      · obtain ⟨g, rfl, hg, n1, n2, n3⟩ := tm_at (H.out wr hb) i hlt
        have st := S1.out i hlt
        have ln := L1.out i
        have hI2 : (i : Int) < (l.length : Int) := by omega
        have i1 : InW g wr := ⟨hg⟩
        have A1 := Lib.hid (fun wx => A.out l[i] wx)
        generalize l[i] = x at *
        generalize lowT t (l.take i) = D at *
        generalize hd : ahT t x = d at *
        clear hd
        cases d
        · rw [if_neg Bool.false_ne_true] at st
          have st' := Lib.hid st
          clear A H S1 S2 L1 L2 hE hP hown st hbox
          go_wp2
          (refine wp_region_G (by kernel_rfl) (by kernel_rfl) ?_; (repeat (go_big_quiet_step (exact quietG (A1.out _)))); refine wpQuiet_nil ?_; intro _ hw'; obtain ⟨pg, hw''⟩ := hw'; subst hw'')
          go_wp2_with (at_builtin; refine wpList_append_src rfl _ _ 31 rfl (w.heap.size + 1) 38 j0 _ 3 32 Try.underlying31 hj hy1 hy2 hy3 rfl (by decide) (.slice oa D.length oc) D.length _ rfl (owns_below hK.out (by (first | exact gwT | exact lzT))) (some ⟨_, 0, none⟩) 1 1 (tmC x) rfl (src_new (new_blk (by simp)) rfl) rfl (by intro u hu; simp [tmC] at hu; rcases hu with rfl | rfl | rfl <;> rfl) (by unfold maxLen; omega) (by omega) (by (first | exact gwT | exact lzT)) ?_)
          intro v' w2 hown2 hgrow
          have hb2 := Below.grown (B := w.heap.size) (show Below w.heap.size w _ by (first | exact gwT | exact lzT)) hgrow (by (first | exact gwT | exact lzT)) (fun k hk => Nat.le_of_succ_le (hK.out.lt k hk).1)
          have hx2 := Lib.hid ((Below.grown (B := w.heap.size + 1) (show Below (w.heap.size + 1) wr _ by (first | exact gwT | exact lzT)) hgrow (by (first | exact gwT | exact lzT)) (fun k hk => (hK.out.lt k hk).1)).block _ (Nat.lt_succ_self _))
          obtain ⟨oa2, oc2, rfl⟩ := own_form hown2
          replace hown2 := Lib.hid hown2
          clear hgrow i1 hK
          go_wp2
          go_roundw
          case rel => exact ⟨i + 1, oa2, oc2, by go_num, by omega, by rw [st'.out]; simp, hx2.out.trans hB.out, by rw [st'.out, tms_snoc]; simpa using hown2.out, hb2⟩
          case measure => simp [intOf]; omega
        · rw [if_pos rfl] at st
          have st' := Lib.hid st
          clear A H S1 S2 L1 L2 hE hP hown st hbox
          go_wp2
          (refine wp_region_G (by kernel_rfl) (by kernel_rfl) ?_; (repeat (go_big_quiet_step (exact quietG (A1.out _)))); refine wpQuiet_nil ?_; intro _ hw'; obtain ⟨pg, hw''⟩ := hw'; subst hw'')
          go_wp2
          go_roundw
          case rel => exact ⟨i + 1, oa, oc, by go_num, by omega, by rw [st'.out], ((show Below wr.heap.size wr _ by (first | exact gwT | exact lzT)).block _ zl).trans hB.out, by rw [st'.out]; exact owns_below hK.out (by (first | exact gwT | exact lzT)), by (first | exact gwT | exact lzT)⟩
          case measure => simp [intOf]; omega
      · obtain rfl : i = l.length := by omega
        have hI2 : ¬ ((l.length : Nat) : Int) < (l.length : Int) := by omega
        have ln := L1.out l.length
        rw [hE.out.1] at hK ln ⊢
        clear S1 L1 hown hbox
        generalize hlow : lowT t l = D at *
        replace hlow := Lib.hid hlow
        go_wp2_with (at_builtin; refine wpList_append_src rfl _ _ 31 rfl (w.heap.size + 1) 38 j0 _ 3 32 Try.underlying31 hj hy1 hy2 hy3 rfl (by decide) (.slice oa D.length oc) D.length _ rfl (owns_below hK.out (by (first | exact gwT | exact lzT))) (some ⟨_, 0, none⟩) 1 1 (tmC t) rfl (src_new (new_blk (by simp)) rfl) rfl (by intro u hu; simp [tmC] at hu; rcases hu with rfl | rfl | rfl <;> rfl) (by unfold maxLen; omega) (by omega) (by (first | exact gwT | exact lzT)) ?_)
        intro v' w2 hown2 hgrow
        have hb2 := Below.grown (B := w.heap.size) (show Below w.heap.size w _ by (first | exact gwT | exact lzT)) hgrow (by (first | exact gwT | exact lzT)) (fun k hk => Nat.le_of_succ_le (hK.out.lt k hk).1)
        have hx2 := ((Below.grown (B := w.heap.size + 1) (show Below (w.heap.size + 1) wr _ by (first | exact gwT | exact lzT)) hgrow (by (first | exact gwT | exact lzT)) (fun k hk => (hK.out.lt k hk).1)).block _ (Nat.lt_succ_self _)).trans hB.out
        obtain ⟨oa2, oc2, rfl⟩ := own_form hown2
        have hM : w2.ownsRow (w.heap.size + 1) 38 3 (.slice oa2 (D.length + 1) oc2) (D ++ [t]).length (tmsC (D ++ [t])) := by rw [tms_snoc]; simpa using hown2
        replace hx2 := Lib.hid hx2
        replace hM := Lib.hid hM
        clear hgrow hK hB hown2 hb z0 z1 z2 zl i2
        have hz2 := hb2.size
        go_wp2
        go_loopw [6, 8] (fun x v wr => ∃ (i : Nat) (oa : Option Addr) (oc : Nat), v = .int .i64 (i : Int) ∧ i ≤ l.length ∧ x = .slice oa (D.length + 1 + (topT t (l.take i)).length) oc ∧ wr.heap[w.heap.size]? = some (.cells #[.int .i64 t.due, .int .i64 t.seq, .string t.name] 38 (0, 0)) ∧ wr.ownsRow (w.heap.size + 1) 38 3 (.slice oa (D.length + 1 + (topT t (l.take i)).length) oc) (D.length + 1 + (topT t (l.take i)).length) (tmsC (D ++ [t] ++ topT t (l.take i))) ∧ Below w.heap.size w wr) (fun _ v _ => l.length - (intOf v).toNat)
        case atStart => exact ⟨0, oa2, oc2, rfl, Nat.zero_le _, rfl, hx2.out, by simpa [topT] using hM.out, hb2⟩
        case round =>
          obtain ⟨i, oa, oc, rfl, hi, rfl, hbox, hown, hb⟩ := hrel
          rename World => wq
          have hwz := hb.size
          obtain ⟨z0, z1, z2, zl⟩ := box3 hbox
          have i2 : InW w.heap.size wq := ⟨zl⟩
          have hK := Lib.hid hown
          have hB := Lib.hid hbox
          by_cases hlt : i < l.length
          · obtain ⟨g, rfl, hg, n1, n2, n3⟩ := tm_at (H.out wq hb) i hlt
            have st := S2.out i hlt
            have ln2 := L2.out i
            have hI2 : (i : Int) < (l.length : Int) := by omega
            have i1 : InW g wq := ⟨hg⟩
            have A1 := Lib.hid (fun wx => A.out l[i] wx)
            generalize l[i] = x at *
            generalize topT t (l.take i) = E at *
            generalize hd : ahT t x = d at *
            clear hd
            cases d
            · rw [if_neg Bool.false_ne_true] at st
              have st' := Lib.hid st
              clear A H S2 L2 hE hP hown st hbox hM hx2
              go_wp2
              (refine wp_region_G (by kernel_rfl) (by kernel_rfl) ?_; (repeat (go_big_quiet_step (exact quietG (A1.out _)))); refine wpQuiet_nil ?_; intro _ hw'; obtain ⟨pg, hw''⟩ := hw'; subst hw'')
              go_wp2
              go_roundw
              case rel => exact ⟨i + 1, oa, oc, by go_num, by omega, by rw [st'.out], ((show Below wq.heap.size wq _ by (first | exact gwT | exact lzT)).block _ zl).trans hB.out, by rw [st'.out]; exact owns_below hK.out (by (first | exact gwT | exact lzT)), by (first | exact gwT | exact lzT)⟩
              case measure => simp [intOf]; omega
            · rw [if_pos rfl] at st
              have st' := Lib.hid st
              clear A H S2 L2 hE hP hown st hbox hM hx2
              go_wp2
              (refine wp_region_G (by kernel_rfl) (by kernel_rfl) ?_; (repeat (go_big_quiet_step (exact quietG (A1.out _)))); refine wpQuiet_nil ?_; intro _ hw'; obtain ⟨pg, hw''⟩ := hw'; subst hw'')
              go_wp2_with (at_builtin; refine wpList_append_src rfl _ _ 31 rfl (w.heap.size + 1) 38 j0 _ 3 32 Try.underlying31 hj hy1 hy2 hy3 rfl (by decide) (.slice oa (D.length + 1 + E.length) oc) (D.length + 1 + E.length) _ rfl (owns_below hK.out (by (first | exact gwT | exact lzT))) (some ⟨_, 0, none⟩) 1 1 (tmC x) rfl (src_new (new_blk (by simp)) rfl) rfl (by intro u hu; simp [tmC] at hu; rcases hu with rfl | rfl | rfl <;> rfl) (by unfold maxLen; omega) (by omega) (by (first | exact gwT | exact lzT)) ?_)
              intro v' w3 hown2 hgrow
              have hb3 := Below.grown (B := w.heap.size) (show Below w.heap.size w _ by (first | exact gwT | exact lzT)) hgrow (by (first | exact gwT | exact lzT)) (fun k hk => Nat.le_of_succ_le (hK.out.lt k hk).1)
              have hx3 := Lib.hid ((Below.grown (B := w.heap.size + 1) (show Below (w.heap.size + 1) wq _ by (first | exact gwT | exact lzT)) hgrow (by (first | exact gwT | exact lzT)) (fun k hk => (hK.out.lt k hk).1)).block _ (Nat.lt_succ_self _))
              obtain ⟨oa3, oc3, rfl⟩ := own_form hown2
              replace hown2 := Lib.hid hown2
              clear hgrow i1 hK
              go_wp2
              go_roundw
              case rel => exact ⟨i + 1, oa3, oc3, by go_num, by omega, by rw [st'.out]; simp; omega, hx3.out.trans hB.out, by rw [st'.out, ← List.append_assoc, tms_snoc, show D ++ [t] ++ E = D ++ t :: E by simp]; have := hown2.out; rw [List.length_append, List.length_singleton, ← Nat.add_assoc]; exact this, hb3⟩
              case measure => simp [intOf]; omega
          · obtain rfl : i = l.length := by omega
            have hI2 : ¬ ((l.length : Nat) : Int) < (l.length : Int) := by omega
            rw [hE.out.2] at hK ⊢
            have hPP := hP.out
            have hlen : (armT l t).length = D.length + 1 + (topT t l).length := by rw [hPP]; simp; omega
            rw [← hPP] at hK
            rw [← hlen] at hK ⊢
            clear S2 L2 hown hbox hM hx2 hP hlow hlen hPP
            go_wp2
            go_returns
            exact ⟨oa, oc, rfl, ⟨_, hK.out⟩, hb⟩
/-! ### The law's own -/
theorem take_oneT (l : List Tm) (i : Nat) (h : i < l.length) : l.take (i + 1) = l.take i ++ [l[i]] := by rw [List.take_succ_eq_append_getElem h]
set_option maxRecDepth 100000 in
set_option maxHeartbeats 4000000 in
theorem qrefs_any (ao : Option Addr) (cap : Nat) (l : List Tm) (h40 : l.length ≤ 40) (w : World) (h : TmsAt 33 w ao cap l) :
    Calls Try.prog 17 #[.slice ao l.length cap] w (TmsIs 38 l w) := by
  have H := Lib.hid (fun wx (hb : Below w.heap.size w wx) => tms_keep h hb)
  have S := Lib.hid (fun i h => take_oneT l i h)
  have hE : Hid (l.take l.length = l) := Lib.hid (by rw [List.take_length])
  obtain ⟨j0, hj, hy1, hy2, hy3⟩ := info_parts Try.infoQx
  unfold TmsIs
  clear h
  go_enter Try.func17, Try.ntmps17
  go_wp2
  go_loopw [3, 8] (fun x v wr => ∃ (i : Nat) (oa : Option Addr) (oc : Nat), v = .int .i64 (i : Int) ∧ i ≤ l.length ∧ x = .slice oa i oc ∧ wr.ownsRow w.heap.size 38 3 (.slice oa i oc) i (tmsC (l.take i)) ∧ Below w.heap.size w wr) (fun _ v _ => l.length - (intOf v).toNat)
  case atStart => exact ⟨0, none, 0, rfl, Nat.zero_le _, rfl, World.ownsRow_nil _ _ _ _, by (first | exact gwT | exact lzT)⟩
  case round =>
    obtain ⟨i, oa, oc, rfl, hi, rfl, hown, hb⟩ := hrel
    rename World => wr
    have hwz := hb.size
    have hK := Lib.hid hown
    by_cases hlt : i < l.length
    · obtain ⟨g, rfl, hg, n1, n2, n3⟩ := tm_at (H.out wr hb) i hlt
      have st := S.out i hlt
      have hI : (i : Int) < (l.length : Int) := by omega
      have i1 : InW g wr := ⟨hg⟩
      generalize l[i] = x at *
      have st' := Lib.hid st
      clear H S hE hown st
      go_wp2_with (at_builtin; refine wpList_append_src rfl _ _ 31 rfl w.heap.size 38 j0 _ 3 32 Try.underlying31 hj hy1 hy2 hy3 rfl (by decide) (.slice oa i oc) i _ rfl (owns_below hK.out (by (first | exact gwT | exact lzT))) (some ⟨_, 0, none⟩) 1 1 (tmC x) rfl (src_new (new_blk (by simp)) rfl) rfl (by intro u hu; simp [tmC] at hu; rcases hu with rfl | rfl | rfl <;> rfl) (by unfold maxLen; omega) (by omega) (by (first | exact gwT | exact lzT)) ?_)
      intro v' w2 hown2 hgrow
      have hb2 := Below.grown (B := w.heap.size) (show Below w.heap.size w _ by (first | exact gwT | exact lzT)) hgrow (by (first | exact gwT | exact lzT)) (fun k hk => (hK.out.lt k hk).1)
      obtain ⟨oa2, oc2, rfl⟩ := own_form hown2
      replace hown2 := Lib.hid hown2
      clear hgrow i1 hK
      go_wp2
      go_roundw
      case rel => exact ⟨i + 1, oa2, oc2, by go_num, by omega, rfl, by rw [st'.out, tms_snoc]; exact hown2.out, hb2⟩
      case measure => simp [intOf]; omega
    · obtain rfl : i = l.length := by omega
      have hI : ¬ ((l.length : Nat) : Int) < (l.length : Int) := by omega
      rw [hE.out] at hK
      clear H S hown
      go_wp2
      go_returns
      exact ⟨oa, oc, rfl, hK.out, hb⟩
set_option maxRecDepth 100000 in
set_option maxHeartbeats 4000000 in
/-- Timers are the document's, where they are the same ones. -/
theorem qsame_any (ao bo : Option Addr) (cap dap : Nat) (l : List Tm) (h40 : l.length ≤ 40) (w : World) (h : TmsAt 33 w ao cap l) (k : TmsAt 38 w bo dap l) :
    Calls Try.prog 12 #[.slice ao l.length cap, .slice bo l.length dap] w (Ret (.bool true) w) := by
  have R := Lib.hid (fun wx (hb : Below w.heap.size w wx) => qrefs_any ao cap l h40 wx (tms_keep h hb))
  have K := Lib.hid (fun wx (hb : Below w.heap.size w wx) => tms_keep k hb)
  clear h k
  go_enter Try.func12, Try.ntmps12
  go_wp2_with fail
  refine (R.out _ (by (first | exact gwT | exact lzT))).mono ?_
  rintro e w1 ⟨oa, oc, rfl, hown, hb1⟩
  have hb : Below w.heap.size w w1 := hb1
  have O := Lib.hid (fun wx (hx : Below w1.heap.size w1 wx) => (show TmsAt 38 wx oa oc l from ⟨_, owns_below hown hx⟩))
  have hwz1 := hb.size
  clear R hown hb1
  dsimp only
  go_wp2
  go_loopw [15] (fun v wr => ∃ i : Nat, v = .int .i64 (i : Int) ∧ i ≤ l.length ∧ Below w1.heap.size w1 wr) (fun v _ => l.length - (intOf v).toNat)
  case atStart => exact ⟨0, rfl, Nat.zero_le _, by (first | exact gwT | exact lzT)⟩
  case round =>
    obtain ⟨i, rfl, hi, hx⟩ := hrel
    rename World => wr
    have hwz := hx.size
    by_cases hlt : i < l.length
    · obtain ⟨g, rfl, hg, n1, n2, n3⟩ := tm_at (O.out wr hx) i hlt
      obtain ⟨g2, rfl, hg2, m1, m2, m3⟩ := tm_at (K.out wr (hb.trans (hx.mono hwz1))) i hlt
      have hI : (i : Int) < (l.length : Int) := by omega
      have i1 : InW g wr := ⟨hg⟩
      have i2 : InW g2 wr := ⟨hg2⟩
      generalize l[i] = x at *
      clear O K
      go_wp2
      (refine wp_region_G (by kernel_rfl) (by kernel_rfl) ?_; (repeat (go_big_quiet_step (fail))); refine wpQuiet_nil ?_; intro _ hw'; obtain ⟨pg, hw''⟩ := hw'; subst hw'')
      go_wp2
      go_roundw
      case rel => exact ⟨i + 1, by go_num, by omega, by (first | exact gwT | exact lzT)⟩
      case measure => simp [intOf]; omega
    · obtain rfl : i = l.length := by omega
      have hI : ¬ ((l.length : Nat) : Int) < (l.length : Int) := by omega
      clear O K
      go_wp2
      go_returns
      exact ⟨rfl, hb.trans (hx.mono hwz1)⟩
/-! ### Texts -/
def txC (xs : List ByteArray) : List Value := xs.map .string
theorem nms_tx (l : List Tm) : nmsC l = txC (l.map (·.name)) := by
  unfold nmsC txC
  rw [List.map_map]
  rfl
theorem tx_one (xs : List ByteArray) : ∀ u ∈ txC xs, u.oneCell' = true := by
  intro u hu
  obtain ⟨x, _, rfl⟩ := List.mem_map.1 hu
  rfl
theorem tx_len (xs : List ByteArray) : (txC xs).length = xs.length * 1 := by unfold txC; simp
theorem tx_at {w : World} {ao : Option Addr} {c : Nat} {xs : List ByteArray} (h : SrcAt w ao c (txC xs)) (i : Nat) (hi : i < xs.length) : ∃ g o, ao = some ⟨g, o, none⟩ ∧ g < w.heap.size ∧ w.cell? ⟨g, o + i, none⟩ = some (.string xs[i]) := by
  obtain ⟨g, o, e, hg, hc⟩ := h.2 (fun e => by
    have := tx_len xs
    rw [e] at this
    simp at this
    omega)
  exact ⟨g, o, e, hg, hc i _ (by unfold txC; rw [List.getElem?_map, List.getElem?_eq_getElem hi]; rfl)⟩
set_option maxRecDepth 100000 in
set_option maxHeartbeats 4000000 in
theorem texts_any (ao bo : Option Addr) (c1 c2 : Nat) (xs : List ByteArray) (h4 : xs.length ≤ 400) (w : World) (h : SrcAt w ao c1 (txC xs)) (k : SrcAt w bo c2 (txC xs)) :
    Calls Try.prog 8 #[.slice ao xs.length c1, .slice bo xs.length c2] w (Ret (.bool true) w) := by
  have H := Lib.hid (fun wx (hb : Below w.heap.size w wx) => src_below h hb)
  have K := Lib.hid (fun wx (hb : Below w.heap.size w wx) => src_below k hb)
  clear h k
  go_enter Try.func8, Try.ntmps8
  go_wp2
  go_loopw [13] (fun v wr => ∃ i : Nat, v = .int .i64 (i : Int) ∧ i ≤ xs.length ∧ Below w.heap.size w wr) (fun v _ => xs.length - (intOf v).toNat)
  case atStart => exact ⟨0, rfl, Nat.zero_le _, by (first | exact gwT | exact lzT)⟩
  case round =>
    obtain ⟨i, rfl, hi, hb⟩ := hrel
    rename World => wr
    have hwz := hb.size
    by_cases hlt : i < xs.length
    · obtain ⟨g, o, rfl, hg, n1⟩ := tx_at (H.out wr hb) i hlt
      obtain ⟨g2, o2, rfl, hg2, m1⟩ := tx_at (K.out wr hb) i hlt
      have hI : (i : Int) < (xs.length : Int) := by omega
      have i1 : InW g wr := ⟨hg⟩
      have i2 : InW g2 wr := ⟨hg2⟩
      generalize xs[i] = x at *
      clear H K
      go_wp2
      (refine wp_region_G (by kernel_rfl) (by kernel_rfl) ?_; (repeat (go_big_quiet_step (fail))); refine wpQuiet_nil ?_; intro _ hw'; obtain ⟨pg, hw''⟩ := hw'; subst hw'')
      go_wp2
      go_roundw
      case rel => exact ⟨i + 1, by go_num, by omega, by (first | exact gwT | exact lzT)⟩
      case measure => simp [intOf]; omega
    · obtain rfl : i = xs.length := by omega
      have hI : ¬ ((xs.length : Nat) : Int) < (xs.length : Int) := by omega
      clear H K
      go_wp2
      go_returns
      exact ⟨rfl, by (first | exact gwT | exact lzT)⟩
end Go.Proofs.Ythpofpndlkhciaa

