/- queue.Due. -/
import Derived.Test.YthpofpndlkhciaaQD
import Derived.WalkKit
import Derived.ProofKit
import Derived.OpenShut
import Derived.Handy
import Derived.BigQuiet
import Derived.OwnWalk
import Derived.Lib.Hide
import Derived.WalkSmall
import Derived.WalkLawsBesides
namespace Go.Proofs.Ythpofpndlkhciaa
open Go.RowKit
theorem own_two {w w' : World} {B B' T T' s s' n n' : Nat} {v v' : Value} {xs xs' : List Value} (h : w.ownsRow B T s v n xs) (k : w.ownsRow B' T' s' v' n' xs') (hT : T ≠ T') (hg : w.grownBy w' v'.ownBlock) : w'.ownsRow B T s v n xs := by
  refine h.kept hg ?_
  rcases h.2 with ⟨hn, _⟩ | ⟨g, cap, cur, hv, _, hgg, _⟩
  · exact .inl (by rw [hn]; rfl)
  · refine .inr fun e => ?_
    rcases k.2 with ⟨hn', _⟩ | ⟨g', cap', cur', hv', _, hgg', _⟩
    · rw [hv, hn'] at e
      cases e
    · rw [hv, hv'] at e
      obtain rfl : g = g' := by simpa [Value.ownBlock] using e
      rw [hgg] at hgg'
      cases hgg'
      exact hT rfl
def nmsC (l : List Tm) : List Value := l.map fun t => .string t.name
theorem due_step (l : List Tm) (now : Int) (i : Nat) (h : i < l.length) : dueT (l.take (i + 1)) now = (if l[i].due ≤ now then dueT (l.take i) now ++ [l[i]] else dueT (l.take i) now) ∧ leftT (l.take (i + 1)) now = if l[i].due ≤ now then leftT (l.take i) now else leftT (l.take i) now ++ [l[i]] := by
  unfold dueT leftT
  rw [List.take_succ_eq_append_getElem h, List.filter_append, List.filter_append]
  by_cases hx : l[i].due ≤ now
  · rw [if_pos hx, if_pos hx, List.filter_cons_of_pos (by simpa using hx), List.filter_cons_of_neg (by simpa using hx)]
    simp
  · rw [if_neg hx, if_neg hx, List.filter_cons_of_neg (by simpa using hx), List.filter_cons_of_pos (by simpa using hx)]
    simp
theorem due_len (l : List Tm) (now : Int) (i : Nat) : (dueT (l.take i) now).length ≤ l.length ∧ (leftT (l.take i) now).length ≤ l.length := by
  have h1 : (dueT (l.take i) now).length ≤ (l.take i).length := List.length_filter_le _ _
  have h2 : (leftT (l.take i) now).length ≤ (l.take i).length := List.length_filter_le _ _
  rw [List.length_take] at h1 h2
  omega
theorem tms_snoc (l : List Tm) (t : Tm) : tmsC (l ++ [t]) = tmsC l ++ tmC t := by
  rw [tms_append]
  simp [tmsC]
theorem nms_snoc (l : List Tm) (t : Tm) : nmsC (l ++ [t]) = nmsC l ++ [.string t.name] := by
  unfold nmsC
  rw [List.map_append]
  rfl
/-- What Due answers. -/
def DueIs (T : TypeId) (l : List Tm) (now : Int) (w : World) (e : Ending) (w' : World) : Prop := ∃ na nc oa oc, e = .returned (.tuple #[.slice na (dueT l now).length nc, .slice oa (leftT l now).length oc]) ∧ w'.ownsRow w.heap.size 9 1 (.slice na (dueT l now).length nc) (dueT l now).length (nmsC (dueT l now)) ∧ w'.ownsRow w.heap.size T 3 (.slice oa (leftT l now).length oc) (leftT l now).length (tmsC (leftT l now)) ∧ Below w.heap.size w w'
set_option maxRecDepth 100000 in
set_option maxHeartbeats 4000000 in
theorem due_any (ao : Option Addr) (cap : Nat) (l : List Tm) (now : Int) (h40 : l.length ≤ 40) (w : World) (h : TmsAt 33 w ao cap l) :
    Calls Try.prog 13 #[.slice ao l.length cap, .int .i64 now] w (DueIs 33 l now w) := by
  have H := Lib.hid (fun wx (hb : Below w.heap.size w wx) => tms_keep h hb)
  have St := Lib.hid (fun i h => due_step l now i h)
  have Ln := Lib.hid (fun i => due_len l now i)
  have hE : Hid (dueT (l.take l.length) now = dueT l now ∧ leftT (l.take l.length) now = leftT l now) := Lib.hid (by rw [List.take_length]; exact ⟨rfl, rfl⟩)
  unfold DueIs
  obtain ⟨j0, hj, hy1, hy2, hy3⟩ := info_parts Try.infoQs
  obtain ⟨j1, gj, gy1, gy2, gy3⟩ := info_parts Try.infoQt
  clear h
  go_enter Try.func13, Try.ntmps13
  go_wp2
  go_loopw [6, 7, 12] (fun x y v wr => ∃ (i : Nat) (na : Option Addr) (nc : Nat) (oa : Option Addr) (oc : Nat), v = .int .i64 (i : Int) ∧ i ≤ l.length ∧ x = .slice na (dueT (l.take i) now).length nc ∧ y = .slice oa (leftT (l.take i) now).length oc ∧ wr.ownsRow w.heap.size 9 1 (.slice na (dueT (l.take i) now).length nc) (dueT (l.take i) now).length (nmsC (dueT (l.take i) now)) ∧ wr.ownsRow w.heap.size 33 3 (.slice oa (leftT (l.take i) now).length oc) (leftT (l.take i) now).length (tmsC (leftT (l.take i) now)) ∧ Below w.heap.size w wr) (fun _ _ v _ => l.length - (intOf v).toNat)
  case atStart => exact ⟨0, none, 0, none, 0, rfl, Nat.zero_le _, rfl, rfl, World.ownsRow_nil _ _ _ _, World.ownsRow_nil _ _ _ _, by (first | exact gwT | exact lzT)⟩
  case round =>
    obtain ⟨i, na, nc, oa, oc, rfl, hi, rfl, rfl, hown1, hown2, hb⟩ := hrel
    rename World => wr
    have hwz := hb.size
    by_cases hlt : i < l.length
    · obtain ⟨g, rfl, hg, n1, n2, n3⟩ := tm_at (H.out wr hb) i hlt
      have st := St.out i hlt
      have ln := Ln.out i
      have hI : (i : Int) < (l.length : Int) := by omega
      have i1 : InW g wr := ⟨hg⟩
      generalize l[i] = x at *
      generalize dueT (l.take i) now = D at *
      generalize leftT (l.take i) now = R at *
      have h1 := Lib.hid hown1
      have h2 := Lib.hid hown2
      obtain ⟨ln1, ln2⟩ := ln
      by_cases hx : x.due ≤ now
      · rw [if_pos hx, if_pos hx] at st
        have st' := Lib.hid st
        clear H St Ln hE hown1 hown2 st gj gy1 gy2 gy3
        go_wp2_with (at_builtin; refine wpList_append_src rfl _ _ 22 rfl w.heap.size 9 j0 _ 1 16 Try.underlying22 hj hy1 hy2 hy3 rfl (by decide) (.slice na D.length nc) D.length _ rfl (owns_below h1.out (by (first | exact gwT | exact lzT))) (some ⟨_, 0, none⟩) 1 1 [.string x.name] rfl (src_new (new_blk (by simp)) rfl) rfl (by intro u hu; simp at hu; subst hu; rfl) (by unfold maxLen; omega) (by omega) (by (first | exact gwT | exact lzT)) ?_)
        intro v' w2 hown2 hgrow
        have k2 := own_two (owns_below h2.out (show Below wr.heap.size wr _ by (first | exact gwT | exact lzT))) (owns_below h1.out (show Below wr.heap.size wr _ by (first | exact gwT | exact lzT))) (by decide) hgrow
        have hb2 := Below.grown (B := w.heap.size) (show Below w.heap.size w _ by (first | exact gwT | exact lzT)) hgrow (by (first | exact gwT | exact lzT)) (fun k hk => (h1.out.lt k hk).1)
        obtain ⟨oa2, oc2, rfl⟩ := own_form hown2
        replace hown2 := Lib.hid hown2
        replace k2 := Lib.hid k2
        clear hgrow i1 h1 h2
        go_wp2
        go_roundw
        case rel => exact ⟨i + 1, oa2, oc2, oa, oc, by go_num, by omega, by rw [st'.out.1]; simp, by rw [st'.out.2], by rw [st'.out.1, nms_snoc]; simpa using hown2.out, by rw [st'.out.2]; exact k2.out, hb2⟩
        case measure => simp [intOf]; omega
      · rw [if_neg hx, if_neg hx] at st
        have st' := Lib.hid st
        clear H St Ln hE hown1 hown2 st hj hy1 hy2 hy3
        go_wp2_with (at_builtin; refine wpList_append_src rfl _ _ 30 rfl w.heap.size 33 j1 _ 3 32 Try.underlying30 gj gy1 gy2 gy3 rfl (by decide) (.slice oa R.length oc) R.length _ rfl (owns_below h2.out (by (first | exact gwT | exact lzT))) (some ⟨_, 0, none⟩) 1 1 (tmC x) rfl (src_new (new_blk (by simp)) rfl) rfl (by intro u hu; simp [tmC] at hu; rcases hu with rfl | rfl | rfl <;> rfl) (by unfold maxLen; omega) (by omega) (by (first | exact gwT | exact lzT)) ?_)
        intro v' w2 hown2 hgrow
        have k2 := own_two (owns_below h1.out (show Below wr.heap.size wr _ by (first | exact gwT | exact lzT))) (owns_below h2.out (show Below wr.heap.size wr _ by (first | exact gwT | exact lzT))) (by decide) hgrow
        have hb2 := Below.grown (B := w.heap.size) (show Below w.heap.size w _ by (first | exact gwT | exact lzT)) hgrow (by (first | exact gwT | exact lzT)) (fun k hk => (h2.out.lt k hk).1)
        obtain ⟨oa2, oc2, rfl⟩ := own_form hown2
        replace hown2 := Lib.hid hown2
        replace k2 := Lib.hid k2
        clear hgrow i1 h1 h2
        go_wp2
        go_roundw
        case rel => exact ⟨i + 1, na, nc, oa2, oc2, by go_num, by omega, by rw [st'.out.1], by rw [st'.out.2]; simp, by rw [st'.out.1]; exact k2.out, by rw [st'.out.2, tms_snoc]; simpa using hown2.out, hb2⟩
        case measure => simp [intOf]; omega
    · obtain rfl : i = l.length := by omega
      have hI : ¬ ((l.length : Nat) : Int) < (l.length : Int) := by omega
      rw [hE.out.1] at hown1 ⊢
      rw [hE.out.2] at hown2 ⊢
      have h1 := Lib.hid hown1
      have h2 := Lib.hid hown2
      clear hown1 hown2 H St Ln
      go_wp2
      go_returns
      exact ⟨na, nc, oa, oc, rfl, h1.out, h2.out, hb⟩
end Go.Proofs.Ythpofpndlkhciaa

