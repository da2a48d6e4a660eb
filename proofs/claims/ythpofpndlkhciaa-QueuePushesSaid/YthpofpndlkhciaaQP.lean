/- queue.Push, queue.Pop; QueuePushes. -/
import Derived.Test.YthpofpndlkhciaaQI
import Derived.Test.YthpofpndlkhciaaQO
import Derived.WalkKit
import Derived.ProofKit
import Derived.OpenShut
import Derived.Handy
import Derived.BigQuiet
import Derived.OwnWalk
import Derived.Deep.RegionHeld3
import Derived.Lib.Hide
import Derived.WalkSmall
import Derived.WalkLawsBesides
namespace Go.Proofs.Ythpofpndlkhciaa
open Go.RowKit
theorem tx_append (xs ys : List ByteArray) : txC (xs ++ ys) = txC xs ++ txC ys := List.map_append
set_option maxRecDepth 100000 in
theorem concat2_any (g c : Nat) (o1 o2 : Option Addr) (c1 c2 : Nat) (x1 x2 : List ByteArray) (hn : x1.length + x2.length ≤ 400) (w : World)
    (k0 : w.cell? ⟨g, 0, none⟩ = some (.slice o1 x1.length c1)) (k1 : w.cell? ⟨g, 1, none⟩ = some (.slice o2 x2.length c2)) (h1 : SrcAt w o1 c1 (txC x1)) (h2 : SrcAt w o2 c2 (txC x2)) :
    Calls Try.prog 19 #[.slice (some ⟨g, 0, none⟩) 2 c] w (RowQs (x1.length + x2.length) (txC (x1 ++ x2)) w) := by
  have h := concatQs_any g c [⟨o1, x1.length, c1, txC x1⟩, ⟨o2, x2.length, c2, txC x2⟩] (by simp [sumM]; omega) w (World.block_lt_of_cell? _ _ k0) (fun i hi => by
      match i, hi with
      | 0, _ => exact k0
      | 1, _ => exact k1
      | i + 2, hi => exact absurd hi (by simp)) (fun i hi => by
      match i, hi with
      | 0, _ => exact ⟨h1, tx_len _, tx_one _⟩
      | 1, _ => exact ⟨h2, tx_len _, tx_one _⟩
      | i + 2, hi => exact absurd hi (by simp)) (by simp)
  have a1 : sumM [⟨o1, x1.length, c1, txC x1⟩, ⟨o2, x2.length, c2, txC x2⟩] = x1.length + x2.length := by simp [sumM]
  have a2 : cellsP [⟨o1, x1.length, c1, txC x1⟩, ⟨o2, x2.length, c2, txC x2⟩] = txC (x1 ++ x2) := by simp [cellsP, tx_append]
  rw [a1, a2] at h
  exact h
/-- What Push answers. -/
def pushL (x y : List ByteArray) : List ByteArray := if 8 < x.length + y.length then x else x ++ y
def pushE (x y : List ByteArray) : Int := if 8 < x.length + y.length then 40 else 0
def PushIs (x y : List ByteArray) (w : World) (e : Ending) (w' : World) : Prop := ∃ ao cap, e = .returned (.tuple #[.slice ao (pushL x y).length cap, .int .i64 (pushE x y)]) ∧ w'.ownsRow w.heap.size 9 1 (.slice ao (pushL x y).length cap) (pushL x y).length (txC (pushL x y)) ∧ Below w.heap.size w w'
set_option maxRecDepth 100000 in
theorem push_any (o1 o2 : Option Addr) (c1 c2 : Nat) (x y : List ByteArray) (h5 : x.length ≤ 50) (h6 : y.length ≤ 50) (w : World) (h1 : SrcAt w o1 c1 (txC x)) (h2 : SrcAt w o2 c2 (txC y)) :
    Calls Try.prog 7 #[.slice o1 x.length c1, .slice o2 y.length c2] w (PushIs x y w) := by
  unfold PushIs pushL pushE
  by_cases h8 : 8 < x.length + y.length
  · rw [if_pos h8, if_pos h8]
    have C := Lib.hid (fun wx (hb : Below w.heap.size w wx) => cloneQs_any o1 x.length c1 (txC x) (by omega) (tx_len x) (tx_one x) wx (src_below h1 hb))
    have hI : (8 : Int) < (x.length : Int) + (y.length : Int) := by omega
    clear h1 h2
    go_enter Try.func7, Try.ntmps7
    go_wp2_with fail
    refine (C.out _ (by (first | exact gwT | exact lzT))).mono ?_
    rintro e w1 ⟨oa, oc, rfl, hown, hb⟩
    replace hown := Lib.hid hown
    clear C
    go_wp2
    go_returns
    exact ⟨oa, oc, rfl, hown.out, hb⟩
  · rw [if_neg h8, if_neg h8]
    have C := Lib.hid (fun g c wx (hb : Below w.heap.size w wx) k0 k1 => concat2_any g c o1 o2 c1 c2 x y (by omega) wx k0 k1 (src_below h1 hb) (src_below h2 hb))
    have hI : ¬ (8 : Int) < (x.length : Int) + (y.length : Int) := by omega
    have hlen : (x ++ y).length = x.length + y.length := List.length_append
    rw [hlen]
    generalize x ++ y = z at *
    clear h1 h2 hlen
    go_enter Try.func7, Try.ntmps7
    go_wp2_with fail
    refine (C.out _ _ _ (by (first | exact gwT | exact lzT)) (by simp [go_sem]) (by simp [go_sem])).mono ?_
    rintro e w1 ⟨oa, oc, rfl, hown, hb⟩
    have hb2 : Below w.heap.size w w1 := Below.trans (show Below w.heap.size w _ by (first | exact gwT | exact lzT)) (hb.mono (by simp))
    replace hown := Lib.hid hown
    clear C hb
    dsimp only
    go_wp2
    go_returns
    exact ⟨oa, oc, rfl, owns_base hown.out (by simp), hb2⟩
theorem pop_none (w : World) (ao : Option Addr) (c : Nat) : Calls Try.prog 9 #[.slice ao 0 c] w (Ret (.tuple #[.string ⟨#[]⟩, .slice none 0 0, .bool false]) w) := by
  go_enter Try.func9, Try.ntmps9
  go_wp2
  go_returns
  exact ⟨rfl, by (first | exact gwT | exact lzT)⟩
/-- What Pop answers. -/
def PopIs (x : ByteArray) (r : List ByteArray) (w : World) (e : Ending) (w' : World) : Prop := ∃ ao cap, e = .returned (.tuple #[.string x, .slice ao r.length cap, .bool true]) ∧ w'.ownsRow w.heap.size 9 1 (.slice ao r.length cap) r.length (txC r) ∧ Below w.heap.size w w'
theorem src_tail {w : World} {g n c : Nat} {x : ByteArray} {r : List ByteArray} (h : SrcAt w (some ⟨g, 0, none⟩) c (txC (x :: r))) (hc : r.length + 1 ≤ c) : SrcAt w (if c = 1 then some ⟨g, 0, none⟩ else some ⟨g, 1, none⟩) n (txC r) := by
  by_cases e : c = 1
  · obtain rfl : r = [] := List.eq_nil_of_length_eq_zero (by omega)
    rw [if_pos e]
    exact ⟨fun e => (by cases e), fun e => absurd rfl e⟩
  · rw [if_neg e]
    refine ⟨fun e => (by cases e), fun _ => ?_⟩
    obtain ⟨g', o, e, hg, hc⟩ := h.2 (by simp [txC])
    cases e
    exact ⟨g, 1, rfl, hg, fun j u hu => by
      have := hc (j + 1) u (by simpa [txC] using hu)
      rw [Nat.zero_add, Nat.add_comm] at this
      exact this⟩
set_option maxRecDepth 100000 in
set_option maxHeartbeats 4000000 in
theorem pop_any (B g cap : Nat) (x : ByteArray) (r : List ByteArray) (h5 : r.length ≤ 100) (w : World) (h : w.ownsRow B 9 1 (.slice (some ⟨g, 0, none⟩) (r.length + 1) cap) (r.length + 1) (txC (x :: r))) :
    Calls Try.prog 9 #[.slice (some ⟨g, 0, none⟩) (r.length + 1) cap] w (PopIs x r w) := by
  unfold PopIs
  obtain ⟨_, cap', e, hg, hc, hm, hk⟩ := own_head h (by omega)
  cases e
  have n1 := hk 0 _ rfl
  have s1 := src_own h
  have i1 : InW g w := ⟨hg⟩
  have C := Lib.hid (fun ao c wx h => cloneQs_any ao r.length c (txC r) (by omega) (tx_len r) (tx_one r) wx h)
  have T := Lib.hid (fun n wx (hb : Below w.heap.size w wx) => src_tail (n := n) (src_below s1 hb) hc)
  have hI : ¬ (r.length : Int) + 1 = 0 := by omega
  have hI2 : (1 : Int) ≤ (r.length : Int) + 1 := by omega
  have hI3 : (r.length : Int) + 1 ≤ (cap : Int) := by omega
  clear h hk s1
  by_cases hc1 : cap = 1
  · obtain rfl : cap = 1 := hc1
    obtain rfl : r = [] := List.eq_nil_of_length_eq_zero (by omega)
    rw [if_pos rfl] at T
    rw [show ([] : List ByteArray).length = 0 from rfl] at C
    go_enter Try.func9, Try.ntmps9
    go_wp2
    go_region_held3 (fun w' => w'.cell? ⟨g, 0, none⟩ = some (.string x)) ((first | assumption | (simp [go_sem, *]; done)))
      (first
        | ((with_reducible refine (C.out _ _ _ (T.out _ _ (by (first | exact gwT | exact lzT)))).mono ?_); rintro e w1 ⟨oa, oc, rfl, hown, hb1⟩; have hbr : Below w.heap.size w w1 := Below.trans (show Below w.heap.size w _ by (first | exact gwT | exact lzT)) (hb1.mono (by (first | exact gwT | exact lzT))); have q0 := (hbr.cell (p := ⟨g, 0, none⟩) hg).trans n1; have hO := Lib.hid hown; clear hown hb1))
    go_wp2
    go_returns
    exact ⟨oa, oc, rfl, owns_base hO.out (by (first | exact gwT | exact lzT)), hbr⟩
  · rw [if_neg hc1] at T
    go_enter Try.func9, Try.ntmps9
    go_wp2
    go_region_held3 (fun w' => w'.cell? ⟨g, 0, none⟩ = some (.string x)) ((first | assumption | (simp [go_sem, *]; done)))
      (first
        | ((with_reducible refine (C.out _ _ _ (T.out _ _ (by (first | exact gwT | exact lzT)))).mono ?_); rintro e w1 ⟨oa, oc, rfl, hown, hb1⟩; have hbr : Below w.heap.size w w1 := Below.trans (show Below w.heap.size w _ by (first | exact gwT | exact lzT)) (hb1.mono (by (first | exact gwT | exact lzT))); have q0 := (hbr.cell (p := ⟨g, 0, none⟩) hg).trans n1; have hO := Lib.hid hown; clear hown hb1))
    go_wp2
    go_returns
    exact ⟨oa, oc, rfl, owns_base hO.out (by (first | exact gwT | exact lzT)), hbr⟩
set_option maxRecDepth 100000 in
theorem qpushes_long (o1 o2 : Option Addr) (n1 n2 c1 c2 : Nat) (m1 : n1 ≤ maxLen) (m2 : n2 ≤ maxLen) (hl : 50 < n1 ∨ 50 < n2) (w : World) : Calls Try.prog 3 #[.slice o1 n1 c1, .slice o2 n2 c2] w (Ret (.bool true) w) := by
  unfold maxLen at m1 m2
  have A := Lib.hid (anchor13_any w)
  by_cases h1 : 50 < n1
  · have hI : (50 : Int) < (n1 : Int) := by omega
    clear hl
    go_enter Try.func3, Try.ntmps3
    go_wp2_with (first | ((with_reducible refine (A.out).mono ?_); intro e w1 hr; obtain ⟨rfl, p, rfl⟩ := hr.out; clear hr))
    go_returns
    exact ⟨rfl, by (first | exact gwT | exact lzT)⟩
  · have h2 : 50 < n2 := by omega
    have hI : ¬ (50 : Int) < (n1 : Int) := by omega
    have hI2 : (50 : Int) < (n2 : Int) := by omega
    clear hl
    go_enter Try.func3, Try.ntmps3
    go_wp2_with (first | ((with_reducible refine (A.out).mono ?_); intro e w1 hr; obtain ⟨rfl, p, rfl⟩ := hr.out; clear hr))
    go_returns
    exact ⟨rfl, by (first | exact gwT | exact lzT)⟩
theorem tx_drop (z : List ByteArray) (i : Nat) (h : i < z.length) : txC (z.drop i) = txC (z[i] :: z.drop (i + 1)) := by rw [List.drop_eq_getElem_cons h]
set_option maxRecDepth 100000 in
set_option maxHeartbeats 4000000 in
theorem qpushes_short (o1 o2 : Option Addr) (c1 c2 : Nat) (x y : List ByteArray) (h5 : x.length ≤ 50) (h6 : y.length ≤ 50) (w : World) (h1 : SrcAt w o1 c1 (txC x)) (h2 : SrcAt w o2 c2 (txC y)) :
    Calls Try.prog 3 #[.slice o1 x.length c1, .slice o2 y.length c2] w (Ret (.bool true) w) := by
  have A := Lib.hid (anchor13_any w)
  have hI : ¬ (50 : Int) < (x.length : Int) := by omega
  have hI2 : ¬ (50 : Int) < (y.length : Int) := by omega
  have P := Lib.hid (fun wx (hb : Below w.heap.size w wx) => push_any o1 o2 c1 c2 x y h5 h6 wx (src_below h1 hb) (src_below h2 hb))
  unfold PushIs pushL pushE at P
  have X := Lib.hid (fun wx (hb : Below w.heap.size w wx) => src_below h1 hb)
  have Y := Lib.hid (fun wx (hb : Below w.heap.size w wx) => src_below h2 hb)
  have O1 := Lib.hid (tx_one x)
  have O2 := Lib.hid (tx_one y)
  have L1 := Lib.hid (tx_len x)
  have L2 := Lib.hid (tx_len y)
  have hz := Lib.hid (tx_append x y)
  have hlen : (x ++ y).length = x.length + y.length := List.length_append
  obtain ⟨j0, hj, hy1, hy2, hy3⟩ := info_parts Try.infoQs
  clear h1 h2
  by_cases h8 : 8 < x.length + y.length
  · rw [if_pos h8, if_pos h8] at P
    have hI3 : (8 : Int) < (x.length : Int) + (y.length : Int) := by omega
    go_enter Try.func3, Try.ntmps3
    go_wp2_with (first | ((with_reducible refine (A.out).mono ?_); intro e w1 hr; obtain ⟨rfl, p, rfl⟩ := hr.out; clear hr))
    refine (P.out _ (by (first | exact gwT | exact lzT))).mono ?_
    rintro e w1 ⟨oa, oc, rfl, hown, hb1⟩
    have hb : Below w.heap.size w w1 := Below.trans (show Below w.heap.size w _ by (first | exact gwT | exact lzT)) (hb1.mono (by (first | exact gwT | exact lzT)))
    have hz1 := hb.size
    have X1 := Lib.hid (fun wx (hx : Below w1.heap.size w1 wx) => X.out wx (hb.trans (hx.mono hz1)))
    have Y1 := Lib.hid (fun wx (hx : Below w1.heap.size w1 wx) => Y.out wx (hb.trans (hx.mono hz1)))
    have s1 := src_own hown
    have T := Lib.hid (fun wx (hx : Below w1.heap.size w1 wx) => texts_any oa o1 oc c1 x (by omega) wx (src_below s1 hx) (X.out wx (hb.trans (hx.mono hz1))))
    clear P A hown hb1 s1 hlen
    dsimp only
    go_wp2_with (at_builtin; refine wpList_append_src rfl _ _ 22 rfl w1.heap.size 9 j0 _ 1 16 Try.underlying22 hj hy1 hy2 hy3 rfl (by decide) (.slice (some ⟨w1.heap.size, 0, none⟩) 0 0) 0 [] rfl (own_empty (Nat.le_refl _) (heap_alloc_new w1 _)) o1 x.length c1 (txC x) rfl (X1.out _ (by (first | exact gwT | exact lzT))) L1.out O1.out (by unfold maxLen; omega) (by omega) (by simp) ?_)
    intro v' w4 hown4 hgrow
    have hb7 : Below w1.heap.size w1 w4 := Below.grown (by (first | exact gwT | exact lzT)) hgrow (by simp) (fun k hk => by cases hk; simp)
    obtain ⟨oa4, oc4, rfl⟩ := own_form hown4
    replace hown4 := Lib.hid hown4
    have hz7 := hb7.size
    clear hgrow
    go_wp2_with (at_builtin; refine wpList_append_src rfl _ _ 22 rfl w1.heap.size 9 j0 _ 1 16 Try.underlying22 hj hy1 hy2 hy3 rfl (by decide) (.slice oa4 _ oc4) _ _ rfl hown4.out o2 y.length c2 (txC y) rfl (Y1.out _ (by (first | exact gwT | exact lzT))) L2.out O2.out (by unfold maxLen; omega) (by omega) (by omega) ?_)
    intro v' w5 hown5 hgrow
    have hb8 : Below w1.heap.size w1 w5 := Below.grown hb7 hgrow hz7 (fun k hk => (hown4.out.lt k hk).1)
    obtain ⟨oa5, oc5, rfl⟩ := own_form hown5
    have T5 := Lib.hid (fun wx (hx : Below w5.heap.size w5 wx) => T.out wx (hb8.trans (hx.mono hb8.size)))
    have hb9 := hb.trans (hb8.mono hz1)
    have hz9 := hb9.size
    clear hgrow hown4 hown5 hb8 hb7 hb X Y X1 Y1
    go_wp2_with ((with_reducible refine (T5.out _ (by (first | exact gwT | exact lzT))).mono ?_); intro e w1 hr; obtain ⟨rfl, p, rfl⟩ := hr.out; clear hr)
    go_returns
    exact ⟨rfl, by (first | exact gwT | exact lzT)⟩
  · rw [if_neg h8, if_neg h8] at P
    have hI3 : ¬ (8 : Int) < (x.length : Int) + (y.length : Int) := by omega
    rw [hlen] at P
    have hlz := Lib.hid hlen
    generalize hZ : x ++ y = z at *
    have hzx := Lib.hid hZ
    go_enter Try.func3, Try.ntmps3
    go_wp2_with (first | ((with_reducible refine (A.out).mono ?_); intro e w1 hr; obtain ⟨rfl, p, rfl⟩ := hr.out; clear hr))
    refine (P.out _ (by (first | exact gwT | exact lzT))).mono ?_
    rintro e w1 ⟨oa, oc, rfl, hown, hb1⟩
    have hb : Below w.heap.size w w1 := Below.trans (show Below w.heap.size w _ by (first | exact gwT | exact lzT)) (hb1.mono (by (first | exact gwT | exact lzT)))
    have hz1 := hb.size
    have X1 := Lib.hid (fun wx (hx : Below w1.heap.size w1 wx) => X.out wx (hb.trans (hx.mono hz1)))
    have Y1 := Lib.hid (fun wx (hx : Below w1.heap.size w1 wx) => Y.out wx (hb.trans (hx.mono hz1)))
    have hG := Lib.hid (fun wx (hx : Below w1.heap.size w1 wx) => owns_below hown hx)
    clear P A hown hb1 hlen
    dsimp only
    go_wp2_with (at_builtin; refine wpList_append_src rfl _ _ 22 rfl w1.heap.size 9 j0 _ 1 16 Try.underlying22 hj hy1 hy2 hy3 rfl (by decide) (.slice (some ⟨w1.heap.size, 0, none⟩) 0 0) 0 [] rfl (own_empty (Nat.le_refl _) (heap_alloc_new w1 _)) o1 x.length c1 (txC x) rfl (X1.out _ (by (first | exact gwT | exact lzT))) L1.out O1.out (by unfold maxLen; omega) (by omega) (by simp) ?_)
    intro v' w4 hown4 hgrow
    have hb7 : Below w1.heap.size w1 w4 := Below.grown (by (first | exact gwT | exact lzT)) hgrow (by simp) (fun k hk => by cases hk; simp)
    obtain ⟨oa4, oc4, rfl⟩ := own_form hown4
    replace hown4 := Lib.hid hown4
    have hz7 := hb7.size
    clear hgrow
    go_wp2_with (at_builtin; refine wpList_append_src rfl _ _ 22 rfl w1.heap.size 9 j0 _ 1 16 Try.underlying22 hj hy1 hy2 hy3 rfl (by decide) (.slice oa4 _ oc4) _ _ rfl hown4.out o2 y.length c2 (txC y) rfl (Y1.out _ (by (first | exact gwT | exact lzT))) L2.out O2.out (by unfold maxLen; omega) (by omega) (by omega) ?_)
    intro v' w5 hown5 hgrow
    have hb8 : Below w1.heap.size w1 w5 := Below.grown hb7 hgrow hz7 (fun k hk => (hown4.out.lt k hk).1)
    obtain ⟨oa5, oc5, rfl⟩ := own_form hown5
    rw [← hz.out, ← hlz.out] at hown5
    have hz8 : z.length ≤ 8 := by rw [hlz.out]; omega
    rw [← hlz.out]
    rw [← hlz.out] at hG
    clear hI3
    have hI3 : ¬ (8 : Int) < (z.length : Int) := by omega
    have s5 := src_own hown5
    have hG5 := Lib.hid (fun wx (hx : Below w5.heap.size w5 wx) => hG.out wx (hb8.trans (hx.mono hb8.size)))
    have T := Lib.hid (fun wx (hx : Below w5.heap.size w5 wx) => texts_any oa oa5 oc oc5 z (by omega) wx (src_own (hG5.out wx hx)) (src_below s5 hx))
    have W5 := Lib.hid (fun wx (hx : Below w5.heap.size w5 wx) => owns_below hown5 hx)
    have hb9 := hb.trans (hb8.mono hz1)
    have hz9 := hb9.size
    have Pn := Lib.hid (fun ao c wx => pop_none wx ao c)
    have Pp := Lib.hid (fun B g cap x r h5 wx h => pop_any B g cap x r h5 wx h)
    have hD0 := Lib.hid (show z.drop 0 = z from List.drop_zero)
    have hD := Lib.hid (fun i h => tx_drop z i h)
    clear hgrow hown4 hown5 hb8 hb7 hb X Y X1 Y1 hG O1 O2 L1 L2 hZ hzx hz hlz s5 hz7 hj hy1 hy2 hy3 h8 hI hI2
    go_wp2_with ((with_reducible refine (T.out _ (by (first | exact gwT | exact lzT))).mono ?_); intro e w1 hr; obtain ⟨rfl, p, rfl⟩ := hr.out; clear hr)
    go_loopw [5, 57] (fun x v wr => ∃ (i : Nat) (ga : Option Addr) (gc B : Nat), v = .int .i64 (i : Int) ∧ i ≤ z.length ∧ x = .slice ga (z.drop i).length gc ∧ wr.ownsRow B 9 1 (.slice ga (z.drop i).length gc) (z.drop i).length (txC (z.drop i)) ∧ Below w5.heap.size w5 wr) (fun _ v _ => z.length - (intOf v).toNat)
    case atStart => exact ⟨0, oa, oc, _, rfl, Nat.zero_le _, by rw [hD0.out], by rw [hD0.out]; exact hG5.out _ (by (first | exact gwT | exact lzT)), by (first | exact gwT | exact lzT)⟩
    case round =>
      obtain ⟨i, ga, gc, B, rfl, hi, rfl, hown, hbx⟩ := hrel
      rename World => wr
      have hwz := hbx.size
      have hb10 := hb9.trans (hbx.mono hz9)
      have hz10 := hb10.size
      by_cases hlt : i < z.length
      · obtain ⟨g5, _, e, hg5, _, _, k5⟩ := own_head (W5.out wr hbx) (by omega)
        cases e
        have n5 := k5 i (.string z[i]) (by unfold txC; rw [List.getElem?_map, List.getElem?_eq_getElem hlt]; rfl)
        have hdl : (z.drop i).length = (z.drop (i + 1)).length + 1 := by rw [List.length_drop, List.length_drop]; omega
        rw [hdl, hD.out i hlt] at hown
        rw [hdl]
        obtain ⟨gg, _, e, hgg, _, _, _⟩ := own_head hown (by omega)
        cases e
        have hr : (z.drop (i + 1)).length ≤ 100 := by rw [List.length_drop]; omega
        have Q := Lib.hid (fun wx (hx : Below wr.heap.size wr wx) => Pp.out B gg gc z[i] (z.drop (i + 1)) hr wx (owns_below hown hx))
        unfold PopIs at Q
        have i5 : InW g5 wr := ⟨hg5⟩
        have hI5 : (i : Int) < (z.length : Int) := by omega
        generalize z[i] = c at *
        have hdd : Hid (z.drop (i + 1) = z.drop (i + 1)) := Lib.hid rfl
        obtain ⟨r, hr2⟩ : ∃ r, z.drop (i + 1) = r := ⟨_, rfl⟩
        rw [hr2] at Q ⊢
        replace hr2 := Lib.hid hr2
        clear hown hdl hr hdd k5 T Pn Pp hD0 hD W5 hG5 hb9
        go_wp2_with fail
        refine (Q.out _ (by (first | exact gwT | exact lzT))).mono ?_
        rintro e w6 ⟨va, vc, rfl, h1, hb1⟩
        have hb11 : Below wr.heap.size wr w6 := Below.trans (show Below wr.heap.size wr _ by (first | exact gwT | exact lzT)) (hb1.mono (by (first | exact gwT | exact lzT)))
        have hb12 := hbx.trans (hb11.mono hwz)
        have hK := Lib.hid h1
        have hz12 := hb12.size
        clear Q h1 hb1
        dsimp only
        go_wp2
        go_roundw
        case rel => exact ⟨i + 1, va, vc, _, by go_num, by omega, by rw [hr2.out], by rw [hr2.out]; exact owns_below hK.out (by (first | exact gwT | exact lzT)), by (first | exact gwT | exact lzT)⟩
        case measure => simp [intOf]; omega
      · obtain rfl : i = z.length := by omega
        have hI5 : ¬ ((z.length : Nat) : Int) < (z.length : Int) := by omega
        have hdl : (z.drop z.length).length = 0 := by rw [List.length_drop]; omega
        rw [hdl]
        clear hown T Pp hD0 hD W5 hG5 hdl
        go_wp2_with ((with_reducible refine (Pn.out _ _ _).mono ?_); intro e w1 hr; obtain ⟨rfl, p, rfl⟩ := hr.out; clear hr)
        go_returns
        exact ⟨rfl, by (first | exact gwT | exact lzT)⟩
theorem qpushes_walk (u v : Value) (w : World) (S : ∃ (ao : Option Addr) (xs : List ByteArray) (cap : Nat), u = .slice ao xs.length cap ∧ xs.length ≤ maxLen ∧ xs.length ≤ cap ∧ SrcAt w ao cap (txC xs)) (T : ∃ (ao : Option Addr) (xs : List ByteArray) (cap : Nat), v = .slice ao xs.length cap ∧ xs.length ≤ maxLen ∧ xs.length ≤ cap ∧ SrcAt w ao cap (txC xs)) :
    Calls Try.prog 3 #[u, v] w (Ret (.bool true) w) := by
  obtain ⟨o1, x, c1, rfl, m1, _, h1⟩ := S
  obtain ⟨o2, y, c2, rfl, m2, _, h2⟩ := T
  by_cases h : 50 < x.length ∨ 50 < y.length
  · exact qpushes_long o1 o2 _ _ c1 c2 m1 m2 h w
  · exact qpushes_short o1 o2 c1 c2 x y (by omega) (by omega) w h1 h2
end Go.Proofs.Ythpofpndlkhciaa

