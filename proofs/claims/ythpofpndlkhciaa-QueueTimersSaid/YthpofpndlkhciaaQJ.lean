/- QueueTimers, QueueParts: timers armed one by one. -/
import Derived.Test.YthpofpndlkhciaaQI
import Derived.Test.YthpofpndlkhciaaQO
import Derived.WalkKit
import Derived.ProofKit
import Derived.OpenShut
import Derived.Handy
import Derived.BigQuiet
import Derived.OwnWalk
import Derived.Lib.Hide
import Derived.WalkSmall
import Derived.WalkLawsBesides
namespace Go.Proofs.Ythpofpndlkhciaa
open Go.RowKit
/-- Timers, armed one by one. -/
def ownL (l : List Tm) : List Tm := l.foldl armL []
theorem own_step (l : List Tm) (i : Nat) (h : i < l.length) : ownL (l.take (i + 1)) = armL (ownL (l.take i)) l[i] := by
  unfold ownL
  rw [List.take_succ_eq_append_getElem h, List.foldl_append]
  rfl
theorem own_right (l : List Tm) : SortT (ownL l) ∧ (ownL l).length ≤ 8 := by
  have : ∀ (l acc : List Tm), SortT acc ∧ acc.length ≤ 8 → SortT (l.foldl armL acc) ∧ (l.foldl armL acc).length ≤ 8 := by
    intro l
    induction l with
    | nil => exact fun acc h => h
    | cons t r ih =>
      intro acc h
      refine ih _ ?_
      unfold armL
      by_cases h8 : 8 ≤ acc.length
      · rw [if_pos h8]; exact h
      · rw [if_neg h8]
        refine ⟨?_, by rw [insT_len]; omega⟩
        rw [ins_arm h.1]
        exact arm_sort h.1
  exact this l [] ⟨List.Pairwise.nil, Nat.zero_le _⟩
theorem rarm_same {l : List Tm} (t : Tm) (h : SortT l) : rarmL l t = armL l t := by
  unfold rarmL armL
  rw [ins_arm h]
theorem tm_src {w : World} {ao : Option Addr} {c : Nat} {l : List Tm} (h : SrcAt w ao c (tmsC l)) (i : Nat) (hi : i < l.length) : ∃ g o, ao = some ⟨g, o, none⟩ ∧ g < w.heap.size ∧ w.cell? ⟨g, o + i * 3, none⟩ = some (.int .i64 l[i].due) ∧ w.cell? ⟨g, o + i * 3 + 1, none⟩ = some (.int .i64 l[i].seq) ∧ w.cell? ⟨g, o + i * 3 + 2, none⟩ = some (.string l[i].name) := by
  obtain ⟨g, o, e, hg, hc⟩ := h.2 (fun e => by have := tms_len l; rw [e] at this; simp at this; omega)
  exact ⟨g, o, e, hg, hc _ _ (tmsC_at l i hi 0 (by decide)), hc (i * 3 + 1) _ (tmsC_at l i hi 1 (by decide)), hc (i * 3 + 2) _ (tmsC_at l i hi 2 (by decide))⟩
set_option maxRecDepth 100000 in
theorem qtimers_long (ao : Option Addr) (len cap : Nat) (nm : ByteArray) (now : Int) (hm : len ≤ maxLen) (hl : 40 < len) (w : World) : Calls Try.prog 4 #[.slice ao len cap, .string nm, .int .i64 now] w (Ret (.bool true) w) := by
  unfold maxLen at hm
  have A := Lib.hid (anchor13_any w)
  have hI : (40 : Int) < (len : Int) := by omega
  go_enter Try.func4, Try.ntmps4
  go_wp2_with (first | ((with_reducible refine (A.out).mono ?_); intro e w1 hr; obtain ⟨rfl, p, rfl⟩ := hr.out; clear hr))
  go_returns
  exact ⟨rfl, by (first | exact gwT | exact lzT)⟩
set_option maxRecDepth 100000 in
set_option maxHeartbeats 4000000 in
theorem qtimers_short (ao : Option Addr) (cap : Nat) (l : List Tm) (nm : ByteArray) (now : Int) (hl : l.length ≤ 40) (w : World) (h : SrcAt w ao cap (tmsC l)) : Calls Try.prog 4 #[.slice ao l.length cap, .string nm, .int .i64 now] w (Ret (.bool true) w) := by
  have A := Lib.hid (anchor13_any w)
  have hI : ¬ (40 : Int) < (l.length : Int) := by omega
  have H := Lib.hid (fun wx (hb : Below w.heap.size w wx) => src_below h hb)
  have S := Lib.hid (fun i h => own_step l i h)
  have R := Lib.hid (fun i => own_right (l.take i))
  have hE : Hid (ownL (l.take l.length) = ownL l) := Lib.hid (by rw [List.take_length])
  have hR := Lib.hid (own_right l)
  clear h
  go_enter Try.func4, Try.ntmps4
  go_wp2_with (first | ((with_reducible refine (A.out).mono ?_); intro e w1 hr; obtain ⟨rfl, p, rfl⟩ := hr.out; clear hr))
  go_loopw [7, 8, 26] (fun x y v wr => ∃ (i : Nat) (pa : Option Addr) (pc : Nat) (qa : Option Addr) (qc : Nat), v = .int .i64 (i : Int) ∧ i ≤ l.length ∧ x = .slice pa (ownL (l.take i)).length pc ∧ y = .slice qa (ownL (l.take i)).length qc ∧ TmsAt 33 wr pa pc (ownL (l.take i)) ∧ TmsAt 38 wr qa qc (ownL (l.take i)) ∧ Below w.heap.size w wr) (fun _ _ v _ => l.length - (intOf v).toNat)
  case atStart => exact ⟨0, none, 0, none, 0, rfl, Nat.zero_le _, rfl, rfl, ⟨0, World.ownsRow_nil _ _ _ _⟩, ⟨0, World.ownsRow_nil _ _ _ _⟩, by (first | exact gwT | exact lzT)⟩
  case round =>
    obtain ⟨i, pa, pc, qa, qc, rfl, hi, rfl, rfl, hown1, hown2, hb⟩ := hrel
    rename World => wr
    have hwz := hb.size
    have hK1 := Lib.hid (fun wx (hx : Below wr.heap.size wr wx) => tms_keep hown1 hx)
    have hK2 := Lib.hid (fun wx (hx : Below wr.heap.size wr wx) => tms_keep hown2 hx)
    by_cases hlt : i < l.length
    · obtain ⟨g, o, rfl, hg, n1, n2, n3⟩ := tm_src (H.out wr hb) i hlt
      have st := S.out i hlt
      obtain ⟨r1, r2⟩ := R.out i
      have hI2 : (i : Int) < (l.length : Int) := by omega
      have i1 : InW g wr := ⟨hg⟩
      generalize l[i] = x at *
      generalize ownL (l.take i) = D at *
      have P := Lib.hid (fun wx (hx : Below wr.heap.size wr wx) => arm_any pa pc D x (by omega) wx (hK1.out wx hx))
      have Q := Lib.hid (fun wx (hx : Below wr.heap.size wr wx) => rarm_any qa qc D x (by omega) wx (hK2.out wx hx))
      unfold ArmIs at P
      unfold RarmIs at Q
      rw [rarm_same x r1] at Q
      have hlen : (armL D x).length ≤ 40 := by
        unfold armL
        split
        · omega
        · rw [insT_len]; omega
      have st' := Lib.hid st
      obtain ⟨e, b, he⟩ : ∃ (e : Int) (b : Bool), armE D = e ∧ (!decide (8 ≤ D.length)) = b ∧ (e = 40 ∧ b = false ∨ e = 0 ∧ b = true) := by
        unfold armE
        by_cases h8 : 8 ≤ D.length
        · exact ⟨40, false, by rw [if_pos h8], by rw [decide_eq_true h8]; rfl, .inl ⟨rfl, rfl⟩⟩
        · exact ⟨0, true, by rw [if_neg h8], by rw [decide_eq_false h8]; rfl, .inr ⟨rfl, rfl⟩⟩
      obtain ⟨he1, he2, he3⟩ := he
      rw [he1] at P
      rw [he2] at Q
      clear A H S R hE hR hown1 hown2 st he1 he2 r1 hK1 hK2
      generalize armL D x = L at *
      rcases he3 with ⟨rfl, rfl⟩ | ⟨rfl, rfl⟩
      all_goals
        go_wp2_with fail
        refine (P.out _ (by (first | exact gwT | exact lzT))).mono ?_
        rintro e w1 ⟨oa, oc, rfl, ho, hb1⟩
        have hb2 : Below wr.heap.size wr w1 := Below.trans (show Below wr.heap.size wr _ by (first | exact gwT | exact lzT)) (hb1.mono (by (first | exact gwT | exact lzT)))
        have hbx : Below (wr.heap.size + 1) (wr.alloc (.cells #[.int .i64 x.due, .int .i64 x.seq, .string x.name] 33)) w1 := hb1.mono (by simp)
        obtain ⟨z0, z1, z2, zl⟩ := box3 ((hbx.block wr.heap.size (Nat.lt_succ_self _)).trans (heap_alloc_new wr _))
        have i2 : InW wr.heap.size w1 := ⟨zl⟩
        have hO := Lib.hid (fun wx (hx : Below w1.heap.size w1 wx) => (show TmsAt 33 wx oa oc L from ⟨_, owns_below ho hx⟩))
        have Q1 := Lib.hid (fun wx (hx : Below w1.heap.size w1 wx) => Q.out wx (hb2.trans (hx.mono hb2.size)))
        have hb3 := hb.trans (hb2.mono hwz)
        have hz3 := hb3.size
        clear P Q ho hb1 hb2 hbx i1 n1 n2 n3
        dsimp only
        go_wp2_with fail
        refine (Q1.out _ (by (first | exact gwT | exact lzT))).mono ?_
        rintro e w2 ⟨va, vc, rfl, hv, hb1⟩
        have hb4 : Below w.heap.size w w2 := Below.trans (show Below w.heap.size w _ by (first | exact gwT | exact lzT)) (hb1.mono (by (first | exact gwT | exact lzT)))
        have hb5 : Below w1.heap.size w1 w2 := Below.trans (show Below w1.heap.size w1 _ by (first | exact gwT | exact lzT)) (hb1.mono (by (first | exact gwT | exact lzT)))
        have hz4 := hb4.size
        have M := Lib.hid (fun wx (hx : Below w2.heap.size w2 wx) => qsame_any oa va oc vc L hlen wx (hO.out wx (hb5.trans (hx.mono hb5.size))) (tms_keep hv hx))
        have hV := Lib.hid (fun wx (hx : Below w2.heap.size w2 wx) => tms_keep hv hx)
        have hO2 := Lib.hid (fun wx (hx : Below w2.heap.size w2 wx) => hO.out wx (hb5.trans (hx.mono hb5.size)))
        clear Q1 hv hO hb1 hb5 hb3 z0 z1 z2 zl i2 hb
        dsimp only
        go_wp2_with ((with_reducible refine (M.out _ (by (first | exact gwT | exact lzT))).mono ?_); intro e w1 hr; obtain ⟨rfl, p, rfl⟩ := hr.out; clear hr)
        go_roundw
        case rel => exact ⟨i + 1, oa, oc, va, vc, by go_num, by omega, by rw [st'.out], by rw [st'.out], by rw [st'.out]; exact hO2.out _ (by (first | exact gwT | exact lzT)), by rw [st'.out]; exact hV.out _ (by (first | exact gwT | exact lzT)), by (first | exact gwT | exact lzT)⟩
        case measure => simp [intOf]; omega
    · obtain rfl : i = l.length := by omega
      have hI2 : ¬ ((l.length : Nat) : Int) < (l.length : Int) := by omega
      rw [hE.out] at hK1 hK2 ⊢
      obtain ⟨r1, r2⟩ := hR.out
      clear A H S R hE hR hown1 hown2 hi hlt
      generalize ownL l = D at *
      have D1 := Lib.hid (fun wx (hx : Below wr.heap.size wr wx) => due_any pa pc D now (by omega) wx (hK1.out wx hx))
      have D2 := Lib.hid (fun wx (hx : Below wr.heap.size wr wx) => rdue_any qa qc D now (by omega) wx (hK2.out wx hx))
      have C1 := Lib.hid (fun wx (hx : Below wr.heap.size wr wx) => cancel_any pa pc D nm (by omega) wx (hK1.out wx hx))
      have C2 := Lib.hid (fun wx (hx : Below wr.heap.size wr wx) => rcancel_any qa qc D nm (by omega) wx (hK2.out wx hx))
      have M4 := Lib.hid (fun wx (hx : Below wr.heap.size wr wx) => qsame_any pa qa pc qc D (by omega) wx (hK1.out wx hx) (hK2.out wx hx))
      have ld : (dueT D now).length ≤ 40 := Nat.le_trans (List.length_filter_le _ _) (by omega)
      have ll : (leftT D now).length ≤ 40 := Nat.le_trans (List.length_filter_le _ _) (by omega)
      have lc : (cancelT D nm).length ≤ 40 := Nat.le_trans (List.length_filter_le _ _) (by omega)
      unfold DueIs at D1 D2
      unfold TmsIs at C1 C2
      generalize dueT D now = N at *
      generalize leftT D now = F at *
      generalize cancelT D nm = K at *
      clear hK1 hK2 r1
      go_wp2_with fail
      refine (D1.out _ (by (first | exact gwT | exact lzT))).mono ?_
      rintro e w1 ⟨na, nc, oa, oc, rfl, h1, h2, hb1⟩
      have hb2 : Below wr.heap.size wr w1 := Below.trans (show Below wr.heap.size wr _ by (first | exact gwT | exact lzT)) (hb1.mono (by (first | exact gwT | exact lzT)))
      have s1 := src_own h1
      rw [nms_tx] at s1
      have T1 := Lib.hid (fun wx (hx : Below w1.heap.size w1 wx) => src_below s1 hx)
      have S1 := Lib.hid (fun wx (hx : Below w1.heap.size w1 wx) => (show TmsAt 33 wx oa oc F from ⟨_, owns_below h2 hx⟩))
      have hz2 := hb2.size
      clear D1 h1 h2 hb1 s1
      dsimp only
      go_wp2_with fail
      refine (D2.out _ (by (first | exact gwT | exact lzT))).mono ?_
      rintro e w2 ⟨na2, nc2, oa2, oc2, rfl, h1, h2, hb1⟩
      have hb3 : Below w1.heap.size w1 w2 := Below.trans (show Below w1.heap.size w1 _ by (first | exact gwT | exact lzT)) (hb1.mono (by (first | exact gwT | exact lzT)))
      have hb4 : Below wr.heap.size wr w2 := hb2.trans (hb3.mono hz2)
      have s1 := src_own h1
      rw [nms_tx] at s1
      have hN : N.length = (N.map (·.name)).length := by rw [List.length_map]
      have M1 := Lib.hid (fun wx (hx : Below w2.heap.size w2 wx) => texts_any na na2 nc nc2 (N.map (·.name)) (by rw [← hN]; omega) wx (T1.out wx (hb3.trans (hx.mono hb3.size))) (src_below s1 hx))
      rw [← hN] at M1
      have M2 := Lib.hid (fun wx (hx : Below w2.heap.size w2 wx) => qsame_any oa oa2 oc oc2 F ll wx (S1.out wx (hb3.trans (hx.mono hb3.size))) ⟨_, owns_below h2 hx⟩)
      have hz4 := hb4.size
      clear D2 h1 h2 hb1 s1 T1 S1 hb3 hb2 hz2 hN
      dsimp only
      go_wp2_with (first | ((with_reducible refine (M1.out _ (by (first | exact gwT | exact lzT))).mono ?_); intro e w1 hr; obtain ⟨rfl, p, rfl⟩ := hr.out; clear hr) | ((with_reducible refine (M2.out _ (by (first | exact gwT | exact lzT))).mono ?_); intro e w1 hr; obtain ⟨rfl, p, rfl⟩ := hr.out; clear hr))
      refine (C1.out _ (by (first | exact gwT | exact lzT))).mono ?_
      rintro e w3 ⟨ca, cc, rfl, h1, hb1⟩
      have hb5 : Below wr.heap.size wr w3 := Below.trans (show Below wr.heap.size wr _ by (first | exact gwT | exact lzT)) (hb1.mono (by (first | exact gwT | exact lzT)))
      have S3 := Lib.hid (fun wx (hx : Below w3.heap.size w3 wx) => (show TmsAt 33 wx ca cc K from ⟨_, owns_below h1 hx⟩))
      have hz5 := hb5.size
      clear C1 h1 hb1 M1 M2 hb4 hz4
      dsimp only
      go_wp2_with fail
      refine (C2.out _ (by (first | exact gwT | exact lzT))).mono ?_
      rintro e w4 ⟨ca2, cc2, rfl, h1, hb1⟩
      have hb6 : Below w3.heap.size w3 w4 := Below.trans (show Below w3.heap.size w3 _ by (first | exact gwT | exact lzT)) (hb1.mono (by (first | exact gwT | exact lzT)))
      have hb7 := hb5.trans (hb6.mono hz5)
      have M3 := Lib.hid (fun wx (hx : Below w4.heap.size w4 wx) => qsame_any ca ca2 cc cc2 K lc wx (S3.out wx (hb6.trans (hx.mono hb6.size))) ⟨_, owns_below h1 hx⟩)
      have M5 := Lib.hid (fun wx (hx : Below w4.heap.size w4 wx) => M4.out wx (hb7.trans (hx.mono hb7.size)))
      have hb8 := hb.trans (hb7.mono hwz)
      have hz7 := hb8.size
      clear C2 M4 S3 h1 hb1 hb5 hb6 hb7 hb
      dsimp only
      go_wp2_with (first | ((with_reducible refine (M3.out _ (by (first | exact gwT | exact lzT))).mono ?_); intro e w1 hr; obtain ⟨rfl, p, rfl⟩ := hr.out; clear hr) | ((with_reducible refine (M5.out _ (by (first | exact gwT | exact lzT))).mono ?_); intro e w1 hr; obtain ⟨rfl, p, rfl⟩ := hr.out; clear hr))
      go_returns
      exact ⟨rfl, by (first | exact gwT | exact lzT)⟩
theorem qtimers_walk (v : Value) (nm : ByteArray) (now : Int) (w : World) (S : ∃ (ao : Option Addr) (l : List Tm) (cap : Nat), v = .slice ao l.length cap ∧ l.length ≤ maxLen ∧ SrcAt w ao cap (tmsC l)) : Calls Try.prog 4 #[v, .string nm, .int .i64 now] w (Ret (.bool true) w) := by
  obtain ⟨ao, l, cap, rfl, hm, hs⟩ := S
  by_cases hl : 40 < l.length
  · exact qtimers_long ao l.length cap nm now hm hl w
  · exact qtimers_short ao cap l nm now (by omega) w hs
/-! ### QueueParts -/
set_option maxRecDepth 100000 in
theorem qparts_long (ao : Option Addr) (len cap : Nat) (now more : Int) (hm : len ≤ maxLen) (hl : 40 < len) (w : World) : Calls Try.prog 5 #[.slice ao len cap, .int .i64 now, .int .i64 more] w (Ret (.bool true) w) := by
  unfold maxLen at hm
  have A := Lib.hid (anchor13_any w)
  have hI : (40 : Int) < (len : Int) := by omega
  go_enter Try.func5, Try.ntmps5
  go_wp2_with (first | ((with_reducible refine (A.out).mono ?_); intro e w1 hr; obtain ⟨rfl, p, rfl⟩ := hr.out; clear hr))
  go_returns
  exact ⟨rfl, by (first | exact gwT | exact lzT)⟩
set_option maxRecDepth 100000 in
theorem qparts_back (ao : Option Addr) (len cap : Nat) (now more : Int) (hl : len ≤ 40) (hb : more < now) (w : World) : Calls Try.prog 5 #[.slice ao len cap, .int .i64 now, .int .i64 more] w (Ret (.bool true) w) := by
  have A := Lib.hid (anchor13_any w)
  have hI : ¬ (40 : Int) < (len : Int) := by omega
  go_enter Try.func5, Try.ntmps5
  go_wp2_with (first | ((with_reducible refine (A.out).mono ?_); intro e w1 hr; obtain ⟨rfl, p, rfl⟩ := hr.out; clear hr))
  go_returns
  exact ⟨rfl, by (first | exact gwT | exact lzT)⟩
set_option maxRecDepth 100000 in
set_option maxHeartbeats 4000000 in
theorem qparts_short (ao : Option Addr) (cap : Nat) (l : List Tm) (now more : Int) (hl : l.length ≤ 40) (hnm : ¬ more < now) (w : World) (h : SrcAt w ao cap (tmsC l)) : Calls Try.prog 5 #[.slice ao l.length cap, .int .i64 now, .int .i64 more] w (Ret (.bool true) w) := by
  have A := Lib.hid (anchor13_any w)
  have hI : ¬ (40 : Int) < (l.length : Int) := by omega
  have H := Lib.hid (fun wx (hb : Below w.heap.size w wx) => src_below h hb)
  have S := Lib.hid (fun i h => own_step l i h)
  have R := Lib.hid (fun i => own_right (l.take i))
  have hE : Hid (ownL (l.take l.length) = ownL l) := Lib.hid (by rw [List.take_length])
  have hR := Lib.hid (own_right l)
  clear h
  go_enter Try.func5, Try.ntmps5
  go_wp2_with (first | ((with_reducible refine (A.out).mono ?_); intro e w1 hr; obtain ⟨rfl, p, rfl⟩ := hr.out; clear hr))
  go_loopw [7, 28] (fun x v wr => ∃ (i : Nat) (pa : Option Addr) (pc : Nat), v = .int .i64 (i : Int) ∧ i ≤ l.length ∧ x = .slice pa (ownL (l.take i)).length pc ∧ TmsAt 33 wr pa pc (ownL (l.take i)) ∧ Below w.heap.size w wr) (fun _ v _ => l.length - (intOf v).toNat)
  case atStart => exact ⟨0, none, 0, rfl, Nat.zero_le _, rfl, ⟨0, World.ownsRow_nil _ _ _ _⟩, by (first | exact gwT | exact lzT)⟩
  case round =>
    obtain ⟨i, pa, pc, rfl, hi, rfl, hown1, hb⟩ := hrel
    rename World => wr
    have hwz := hb.size
    have hK1 := Lib.hid (fun wx (hx : Below wr.heap.size wr wx) => tms_keep hown1 hx)
    by_cases hlt : i < l.length
    · obtain ⟨g, o, rfl, hg, n1, n2, n3⟩ := tm_src (H.out wr hb) i hlt
      have st := S.out i hlt
      obtain ⟨r1, r2⟩ := R.out i
      have hI2 : (i : Int) < (l.length : Int) := by omega
      have i1 : InW g wr := ⟨hg⟩
      generalize l[i] = x at *
      generalize ownL (l.take i) = D at *
      have P := Lib.hid (fun wx (hx : Below wr.heap.size wr wx) => arm_any pa pc D x (by omega) wx (hK1.out wx hx))
      unfold ArmIs at P
      have st' := Lib.hid st
      clear A H S R hE hR hown1 st r1 hK1
      generalize armL D x = L at *
      generalize armE D = e at *
      go_wp2_with fail
      refine (P.out _ (by (first | exact gwT | exact lzT))).mono ?_
      rintro e w1 ⟨oa, oc, rfl, ho, hb1⟩
      have hb2 : Below wr.heap.size wr w1 := Below.trans (show Below wr.heap.size wr _ by (first | exact gwT | exact lzT)) (hb1.mono (by (first | exact gwT | exact lzT)))
      have hO := Lib.hid (fun wx (hx : Below w1.heap.size w1 wx) => (show TmsAt 33 wx oa oc L from ⟨_, owns_below ho hx⟩))
      have hb3 := hb.trans (hb2.mono hwz)
      have hz3 := hb3.size
      clear P ho hb1 hb2 i1 n1 n2 n3
      dsimp only
      go_wp2
      go_roundw
      case rel => exact ⟨i + 1, oa, oc, by go_num, by omega, by rw [st'.out], by rw [st'.out]; exact hO.out _ (by (first | exact gwT | exact lzT)), by (first | exact gwT | exact lzT)⟩
      case measure => simp [intOf]; omega
    · obtain rfl : i = l.length := by omega
      have hI2 : ¬ ((l.length : Nat) : Int) < (l.length : Int) := by omega
      rw [hE.out] at hK1 ⊢
      obtain ⟨r1, r2⟩ := hR.out
      clear A H S R hE hR hown1 hi hlt
      generalize ownL l = D at *
      have e1 := due_two r1 (show now ≤ more by omega)
      have e2 := left_two (l := D) (show now ≤ more by omega)
      have ll : (leftT D now).length ≤ 40 := Nat.le_trans (List.length_filter_le _ _) (by omega)
      have D1 := Lib.hid (fun wx (hx : Below wr.heap.size wr wx) => due_any pa pc D now (by omega) wx (hK1.out wx hx))
      have D3 := Lib.hid (fun wx (hx : Below wr.heap.size wr wx) => due_any pa pc D more (by omega) wx (hK1.out wx hx))
      have D2 := Lib.hid (fun oa oc wx h => due_any oa oc (leftT D now) more ll wx h)
      have l1 : (dueT D now).length ≤ 8 := Nat.le_trans (List.length_filter_le _ _) (by omega)
      have l2 : (dueT (leftT D now) more).length ≤ 8 := Nat.le_trans (List.length_filter_le _ _) (Nat.le_trans (List.length_filter_le _ _) (by omega))
      have l3 : (leftT D more).length ≤ 40 := Nat.le_trans (List.length_filter_le _ _) (by omega)
      unfold DueIs at D1 D2 D3
      rw [e2] at D2
      rw [← e1] at D3
      clear hK1 r1 e1 e2
      generalize dueT (leftT D now) more = N2 at *
      generalize dueT D now = N at *
      generalize leftT D more = F at *
      generalize leftT D now = E at *
      go_wp2_with fail
      refine (D1.out _ (by (first | exact gwT | exact lzT))).mono ?_
      rintro e w1 ⟨na, nc, oa, oc, rfl, h1, h2, hb1⟩
      have hb2 : Below wr.heap.size wr w1 := Below.trans (show Below wr.heap.size wr _ by (first | exact gwT | exact lzT)) (hb1.mono (by (first | exact gwT | exact lzT)))
      have s1 := src_own h1
      have T1 := Lib.hid (fun wx (hx : Below w1.heap.size w1 wx) => src_below s1 hx)
      have S1 := Lib.hid (fun wx (hx : Below w1.heap.size w1 wx) => (show TmsAt 33 wx oa oc E from ⟨_, owns_below h2 hx⟩))
      have hz2 := hb2.size
      clear D1 h1 h2 hb1 s1
      dsimp only
      go_wp2_with fail
      refine (D2.out oa oc _ (S1.out _ (by (first | exact gwT | exact lzT)))).mono ?_
      rintro e w2 ⟨na2, nc2, oa2, oc2, rfl, h1, h2, hb1⟩
      have hb3 : Below w1.heap.size w1 w2 := Below.trans (show Below w1.heap.size w1 _ by (first | exact gwT | exact lzT)) (hb1.mono (by (first | exact gwT | exact lzT)))
      have hb4 : Below wr.heap.size wr w2 := hb2.trans (hb3.mono hz2)
      have s1 := src_own h1
      have T3 := Lib.hid (fun wx (hx : Below w2.heap.size w2 wx) => T1.out wx (hb3.trans (hx.mono hb3.size)))
      have T2 := Lib.hid (fun wx (hx : Below w2.heap.size w2 wx) => src_below s1 hx)
      have S2 := Lib.hid (fun wx (hx : Below w2.heap.size w2 wx) => (show TmsAt 33 wx oa2 oc2 F from ⟨_, owns_below h2 hx⟩))
      have D4 := Lib.hid (fun wx (hx : Below w2.heap.size w2 wx) => D3.out wx (hb4.trans (hx.mono hb4.size)))
      have hb5 := hb.trans (hb4.mono hwz)
      have hz5 := hb5.size
      clear D2 D3 h1 h2 hb1 s1 T1 S1 hb3 hb2 hz2 hb4 hb ll
      dsimp only
      go_wp2_with fail
      refine (D4.out _ (by (first | exact gwT | exact lzT))).mono ?_
      rintro e w3 ⟨na3, nc3, oa3, oc3, rfl, h1, h2, hb1⟩
      have hb3 : Below w2.heap.size w2 w3 := Below.trans (show Below w2.heap.size w2 _ by (first | exact gwT | exact lzT)) (hb1.mono (by (first | exact gwT | exact lzT)))
      have hb6 := hb5.trans (hb3.mono hz5)
      have s1 := src_own h1
      have T4 := Lib.hid (fun wx (hx : Below w3.heap.size w3 wx) => T3.out wx (hb3.trans (hx.mono hb3.size)))
      have T5 := Lib.hid (fun wx (hx : Below w3.heap.size w3 wx) => T2.out wx (hb3.trans (hx.mono hb3.size)))
      have T6 := Lib.hid (fun wx (hx : Below w3.heap.size w3 wx) => src_below s1 hx)
      have S3 := Lib.hid (fun wx (hx : Below w3.heap.size w3 wx) => S2.out wx (hb3.trans (hx.mono hb3.size)))
      have S4 := Lib.hid (fun wx (hx : Below w3.heap.size w3 wx) => (show TmsAt 33 wx oa3 oc3 F from ⟨_, owns_below h2 hx⟩))
      have O1 : ∀ u ∈ nmsC N, u.oneCell' = true := by rw [nms_tx]; exact tx_one _
      have O2 : ∀ u ∈ nmsC N2, u.oneCell' = true := by rw [nms_tx]; exact tx_one _
      replace O1 := Lib.hid O1
      replace O2 := Lib.hid O2
      have ln : (N ++ N2).length = N.length + N2.length := List.length_append
      rw [ln]
      have tn : txC ((N ++ N2).map (·.name)) = nmsC N ++ nmsC N2 := by rw [← nms_tx]; unfold nmsC; rw [List.map_append]
      rw [nms_tx] at s1
      have hN : ((N ++ N2).map (·.name)).length = N.length + N2.length := by rw [List.length_map, ln]
      have nl1 : (nmsC N).length = N.length * 1 := by unfold nmsC; simp
      have nl2 : (nmsC N2).length = N2.length * 1 := by unfold nmsC; simp
      have X := Lib.hid (fun ao c1 wx (hx : Below w3.heap.size w3 wx) (h : SrcAt wx ao c1 (txC ((N ++ N2).map (·.name)))) => texts_any ao na3 c1 nc3 ((N ++ N2).map (·.name)) (by rw [hN]; omega) wx h (src_below s1 hx))
      rw [hN, tn] at X
      have hz6 := hb6.size
      obtain ⟨j0, hj, hy1, hy2, hy3⟩ := info_parts Try.infoQs
      replace nl1 := Lib.hid nl1
      replace nl2 := Lib.hid nl2
      clear D4 T2 T3 S2 h1 h2 hb1 s1 hb3 hb5 hz5 ln tn hN
      dsimp only
      go_wp2_with (at_builtin; refine wpList_append_src rfl _ _ 22 rfl w3.heap.size 9 j0 _ 1 16 Try.underlying22 hj hy1 hy2 hy3 rfl (by decide) (.slice (some ⟨w3.heap.size, 0, none⟩) 0 0) 0 [] rfl (own_empty (Nat.le_refl _) (heap_alloc_new w3 _)) na N.length nc (nmsC N) rfl (T4.out _ (by (first | exact gwT | exact lzT))) nl1.out O1.out (by unfold maxLen; omega) (by omega) (by simp) ?_)
      intro v' w4 hown4 hgrow
      have hb7 : Below w3.heap.size w3 w4 := Below.grown (by (first | exact gwT | exact lzT)) hgrow (by simp) (fun k hk => by cases hk; simp)
      obtain ⟨oa4, oc4, rfl⟩ := own_form hown4
      replace hown4 := Lib.hid hown4
      have hz7 := hb7.size
      clear hgrow T4
      go_wp2_with (at_builtin; refine wpList_append_src rfl _ _ 22 rfl w3.heap.size 9 j0 _ 1 16 Try.underlying22 hj hy1 hy2 hy3 rfl (by decide) (.slice oa4 _ oc4) _ _ rfl hown4.out na2 N2.length nc2 (nmsC N2) rfl (T5.out _ (by (first | exact gwT | exact lzT))) nl2.out O2.out (by unfold maxLen; omega) (by omega) (by omega) ?_)
      intro v' w5 hown5 hgrow
      have hb8 : Below w3.heap.size w3 w5 := Below.grown hb7 hgrow hz7 (fun k hk => (hown4.out.lt k hk).1)
      obtain ⟨oa5, oc5, rfl⟩ := own_form hown5
      have s5 := src_own hown5
      have X1 := Lib.hid (fun wx (hx : Below w5.heap.size w5 wx) => X.out oa5 oc5 wx (hb8.trans (hx.mono hb8.size)) (src_below s5 hx))
      have R1 := Lib.hid (fun wx (hx : Below w5.heap.size w5 wx) => qrefs_any oa3 oc3 F l3 wx (S4.out wx (hb8.trans (hx.mono hb8.size))))
      have S5 := Lib.hid (fun wx (hx : Below w5.heap.size w5 wx) => S3.out wx (hb8.trans (hx.mono hb8.size)))
      have hb9 := hb6.trans (hb8.mono hz6)
      have hz9 := hb9.size
      clear hgrow hown4 hown5 X S3 S4 T5 T6 s5 hb8 hb7 hb6
      go_wp2_with ((with_reducible refine (X1.out _ (by (first | exact gwT | exact lzT))).mono ?_); intro e w1 hr; obtain ⟨rfl, p, rfl⟩ := hr.out; clear hr)
      refine (R1.out _ (by (first | exact gwT | exact lzT))).mono ?_
      rintro e w6 ⟨ra, rc, rfl, h1, hb1⟩
      have hb7 : Below w5.heap.size w5 w6 := Below.trans (show Below w5.heap.size w5 _ by (first | exact gwT | exact lzT)) (hb1.mono (by (first | exact gwT | exact lzT)))
      have M := Lib.hid (fun wx (hx : Below w6.heap.size w6 wx) => qsame_any oa2 ra oc2 rc F l3 wx (S5.out wx (hb7.trans (hx.mono hb7.size))) ⟨_, owns_below h1 hx⟩)
      have hb8 := hb9.trans (hb7.mono hz9)
      have hz8 := hb8.size
      clear R1 X1 S5 h1 hb1 hb7 hb9
      dsimp only
      go_wp2_with ((with_reducible refine (M.out _ (by (first | exact gwT | exact lzT))).mono ?_); intro e w1 hr; obtain ⟨rfl, p, rfl⟩ := hr.out; clear hr)
      go_returns
      exact ⟨rfl, by (first | exact gwT | exact lzT)⟩
theorem qparts_walk (v : Value) (now more : Int) (w : World) (S : ∃ (ao : Option Addr) (l : List Tm) (cap : Nat), v = .slice ao l.length cap ∧ l.length ≤ maxLen ∧ SrcAt w ao cap (tmsC l)) : Calls Try.prog 5 #[v, .int .i64 now, .int .i64 more] w (Ret (.bool true) w) := by
  obtain ⟨ao, l, cap, rfl, hm, hs⟩ := S
  by_cases hl : 40 < l.length
  · exact qparts_long ao l.length cap now more hm hl w
  · by_cases hb : more < now
    · exact qparts_back ao l.length cap now more (by omega) hb w
    · exact qparts_short ao cap l now more (by omega) hb w hs
end Go.Proofs.Ythpofpndlkhciaa

