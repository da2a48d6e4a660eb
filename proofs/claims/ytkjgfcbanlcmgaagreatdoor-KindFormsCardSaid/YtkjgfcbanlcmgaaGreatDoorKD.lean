/- The document's kinds: whirligigref04.Of, from a node down. -/
import Derived.Test.YtkjgfcbanlcmgaaGreatDoorY7
import Derived.Test.YtkjgfcbanlcmgaaGreatDoorY5
import Derived.WalkKit
import Derived.ProofKit
import Derived.OpenShut
import Derived.Handy
import Derived.BigQuiet
import Derived.Lib.Hide
import Derived.WalkSmall
import Derived.WalkLawsBesides
namespace Go.Proofs.YtkjgfcbanlcmgaaGreatDoor
open Go.RowKit
section
variable (ao : Option Addr) (cap : Nat) (ns : List Nd) (va : Option Addr) (vc : Nat) (vs : List (ByteArray × Int)) (sa : Option Addr) (sc : Nat) (ss : List ByteArray)
theorem ownR_lit {n : Nd} (h : n.op = 0) (a b : Int) : ownR vs ss n a b = .ok n.k := by unfold ownR; rw [if_pos h]
theorem ownR_var {n : Nd} (h : n.op = 16) (a b : Int) : ownR vs ss n a b = match findV vs ⟨n.name.toArray⟩ with | some k => .ok k | none => .error 24 := by
  unfold ownR
  rw [if_neg (by omega), if_pos h]
  cases findV vs ⟨n.name.toArray⟩ <;> rfl
theorem ownR_in {n : Nd} (h : n.op = 17) (a b : Int) : ownR vs ss n a b = if hasB ss ⟨n.name.toArray⟩ then .ok 2 else .error 24 := by unfold ownR; rw [if_neg (by omega), if_neg (by omega), if_pos h]
theorem ownR_op {n : Nd} (h1 : 1 ≤ n.op) (h2 : n.op ≤ 15) (a b : Int) : ownR vs ss n a b = if resK n.op a (if n.op ≤ 2 then 0 else b) = 0 then .error 20 else .ok (resK n.op a (if n.op ≤ 2 then 0 else b)) := by unfold ownR; rw [if_neg (by omega), if_neg (by omega), if_neg (by omega)]
set_option maxRecDepth 100000 in
set_option maxHeartbeats 2000000 in
theorem rof_lit (i : Nat) (n : Nd) (hi : i < ns.length) (hn : ns[i] = n) (hop : n.op = 0) (vn sn : Nat) (w : World) (h : NdsAt w ao ns) :
    Calls Tryz.prog 10 #[.slice ao ns.length cap, .int .i64 (i : Int), .slice va vn vc, .slice sa sn sc] w (Ret (ofV (.ok n.k)) w) := by
  obtain ⟨g, o, rfl, hg, hc⟩ := h (by omega)
  obtain ⟨n1, n2, n3, n4, n5, n6, n7⟩ := hc i hi
  rw [hn] at n1 n2 n3 n4 n5 n6 n7
  have i1 : InW g w := ⟨hg⟩
  have hI : (i : Int) < (ns.length : Int) := by omega
  obtain ⟨op, k0, nn, s, name, l, r⟩ := n
  simp only at hop n1 n2 n3 n4 n5 n6 n7
  subst hop
  clear hc hn h
  go_enter Tryz.func10, Tryz.ntmps10
  go_wp2
  go_returns
  exact ⟨rfl, by repeat' (first | (with_reducible exact Below.refl _ _) | (with_reducible assumption) | (with_reducible refine Below.alloc ?_ ?_ _) | (with_reducible refine Below.drew ?_) | (with_reducible refine belowN ?_ _) | (with_reducible refine Below.setCell ?_ ?_ _) | (with_reducible refine belowG ?_ ?_) | (with_reducible exact Nat.le_refl _) | (with_reducible refine le_sizeG ?_) | (with_reducible refine le_sizeA ?_) | (with_reducible refine le_sizeC ?_) | (with_reducible refine le_sizeD ?_) | (with_reducible refine le_sizeN ?_) | go_size | (simp [go_sem]; done))⟩
set_option maxRecDepth 100000 in
set_option maxHeartbeats 2000000 in
theorem rof_var (i : Nat) (n : Nd) (hi : i < ns.length) (hn : ns[i] = n) (hop : n.op = 16) (hvn : vs.length ≤ 1000000) (sn : Nat) (w : World) (h : NdsAt w ao ns) (hv : VarsAt w va vs) :
    Calls Tryz.prog 10 #[.slice ao ns.length cap, .int .i64 (i : Int), .slice va vs.length vc, .slice sa sn sc] w (Ret (ofV (match findV vs ⟨n.name.toArray⟩ with | some k => .ok k | none => .error (24, i))) w) := by
  obtain ⟨g, o, rfl, hg, hc⟩ := h (by omega)
  obtain ⟨n1, n2, n3, n4, n5, n6, n7⟩ := hc i hi
  rw [hn] at n1 n2 n3 n4 n5 n6 n7
  have i1 : InW g w := ⟨hg⟩
  have hI : (i : Int) < (ns.length : Int) := by omega
  obtain ⟨op, k0, nn, s, name, l, r⟩ := n
  simp only at hop n1 n2 n3 n4 n5 n6 n7 ⊢
  subst hop
  generalize (⟨name.toArray⟩ : ByteArray) = x at *
  have H := Lib.hid (fun wx hk => vars_below (w' := wx) hv hk)
  have hit := Lib.hid (fun i hi he hp => findV_hit (vs := vs) (x := x) (i := i) hi he hp)
  have skip := Lib.hid (fun i hi he hp => findV_skip (vs := vs) (x := x) (i := i) hi he hp)
  obtain ⟨R, hR⟩ : ∃ R, (match findV vs x with | some k => Except.ok k | none => Except.error (24, i) : Except (Int × Nat) Int) = R := ⟨_, rfl⟩
  have hyes := Lib.hid (fun k (h : findV vs x = some k) => show ofV R = .tuple #[.int .i64 k, .int .i64 0, .int .i64 0] by rw [← hR, h]; rfl)
  have hno := Lib.hid (fun (h : findV vs x = none) => show ofV R = .tuple #[.int .i64 0, .int .i64 24, .int .i64 (i : Int)] by rw [← hR, h]; rfl)
  rw [hR]
  clear hc hn h hv hR
  go_enter Tryz.func10, Tryz.ntmps10
  go_wp2
  go_loopw [12] (fun v wr => ∃ j : Nat, v = .int .i64 (j : Int) ∧ j ≤ vs.length ∧ findV vs x = findV (vs.drop j) x ∧ wr.cell? ⟨w.heap.size, 4, none⟩ = some (.string x) ∧ Below w.heap.size w wr ∧ w.heap.size < wr.heap.size) (fun v _ => vs.length - (intOf v).toNat)
  case atStart => exact ⟨0, rfl, Nat.zero_le _, rfl, by simp [go_sem], by repeat' (first | (with_reducible exact Below.refl _ _) | (with_reducible assumption) | (with_reducible refine Below.alloc ?_ ?_ _) | (with_reducible refine Below.drew ?_) | (with_reducible refine belowN ?_ _) | (with_reducible refine Below.setCell ?_ ?_ _) | (with_reducible refine belowG ?_ ?_) | (with_reducible exact Nat.le_refl _) | (with_reducible refine le_sizeG ?_) | (with_reducible refine le_sizeA ?_) | (with_reducible refine le_sizeC ?_) | (with_reducible refine le_sizeD ?_) | (with_reducible refine le_sizeN ?_) | go_size | (simp [go_sem]; done)), by simp [go_sem]⟩
  case round =>
    obtain ⟨j, rfl, hj, hp, hx, hk, hlw⟩ := hrel
    rename World => wr
    by_cases hlt : j < vs.length
    · obtain ⟨g2, o2, rfl, hg2, hc2⟩ := H.out wr hk (by omega)
      obtain ⟨c1, c2⟩ := hc2 j hlt
      have hJ : (j : Int) < (vs.length : Int) := by omega
      have i2 : InW g2 wr := ⟨hg2⟩
      have i3 : InW w.heap.size wr := ⟨hlw⟩
      rcases he : (vs[j].1.toList == x.toList)
      · have hs := Lib.hid (skip.out j hlt he hp)
        generalize vs[j] = v at *
        clear hp hc2
        go_wp2_with fail
        (refine wp_region_G (by kernel_rfl) (by kernel_rfl) ?_; (repeat (go_big_quiet_step (fail))); refine wpQuiet_nil ?_; intro _ hw'; obtain ⟨pg, hw''⟩ := hw'; subst hw'')
        go_wp2
        go_roundw
        case rel => exact ⟨j + 1, by go_num, by omega, hs.out, by simp [go_sem, hx], by repeat' (first | (with_reducible exact Below.refl _ _) | (with_reducible assumption) | (with_reducible refine Below.alloc ?_ ?_ _) | (with_reducible refine Below.drew ?_) | (with_reducible refine belowN ?_ _) | (with_reducible refine Below.setCell ?_ ?_ _) | (with_reducible refine belowG ?_ ?_) | (with_reducible exact Nat.le_refl _) | (with_reducible refine le_sizeG ?_) | (with_reducible refine le_sizeA ?_) | (with_reducible refine le_sizeC ?_) | (with_reducible refine le_sizeD ?_) | (with_reducible refine le_sizeN ?_) | go_size | (simp [go_sem]; done)), by first | exact le_sizeN hlw | (simp [go_sem]; done) | exact Nat.lt_of_lt_of_le hlw (belowG0 _ _).size⟩
        case measure => simp [intOf]; omega
      · have hs := Lib.hid (hyes.out _ (hit.out j hlt he hp))
        generalize vs[j] = v at *
        clear hp hc2
        go_wp2_with fail
        (refine wp_region_G (by kernel_rfl) (by kernel_rfl) ?_; (repeat (go_big_quiet_step (fail))); refine wpQuiet_nil ?_; intro _ hw'; obtain ⟨pg, hw''⟩ := hw'; subst hw'')
        go_wp2
        go_returns
        exact ⟨by rw [hs.out]; rfl, by repeat' (first | (with_reducible exact Below.refl _ _) | (with_reducible assumption) | (with_reducible refine Below.alloc ?_ ?_ _) | (with_reducible refine Below.drew ?_) | (with_reducible refine belowN ?_ _) | (with_reducible refine Below.setCell ?_ ?_ _) | (with_reducible refine belowG ?_ ?_) | (with_reducible exact Nat.le_refl _) | (with_reducible refine le_sizeG ?_) | (with_reducible refine le_sizeA ?_) | (with_reducible refine le_sizeC ?_) | (with_reducible refine le_sizeD ?_) | (with_reducible refine le_sizeN ?_) | go_size | (simp [go_sem]; done))⟩
    · have hge : ¬ (j : Int) < (vs.length : Int) := by omega
      have hs := Lib.hid (hno.out (by rw [hp, List.drop_of_length_le (by omega)]; rfl))
      clear hp
      go_wp2
      go_returns
      exact ⟨by rw [hs.out]; rfl, by repeat' (first | (with_reducible exact Below.refl _ _) | (with_reducible assumption) | (with_reducible refine Below.alloc ?_ ?_ _) | (with_reducible refine Below.drew ?_) | (with_reducible refine belowN ?_ _) | (with_reducible refine Below.setCell ?_ ?_ _) | (with_reducible refine belowG ?_ ?_) | (with_reducible exact Nat.le_refl _) | (with_reducible refine le_sizeG ?_) | (with_reducible refine le_sizeA ?_) | (with_reducible refine le_sizeC ?_) | (with_reducible refine le_sizeD ?_) | (with_reducible refine le_sizeN ?_) | go_size | (simp [go_sem]; done))⟩
theorem hasB_no {zs : List ByteArray} {x : ByteArray} {i : Nat} (h : i < zs.length) (hp : hasB (zs.take i) x = false) (he : (zs[i].toList == x.toList) = false) : hasB (zs.take (i + 1)) x = false := by rw [hasB_succ zs x i h, hp, he]; rfl
set_option maxRecDepth 100000 in
set_option maxHeartbeats 2000000 in
theorem rof_in (i : Nat) (n : Nd) (hi : i < ns.length) (hn : ns[i] = n) (hop : n.op = 17) (hsn : ss.length ≤ 1000000) (vn : Nat) (w : World) (h : NdsAt w ao ns) (hs : StrsAt w sa ss) :
    Calls Tryz.prog 10 #[.slice ao ns.length cap, .int .i64 (i : Int), .slice va vn vc, .slice sa ss.length sc] w (Ret (ofV (if hasB ss ⟨n.name.toArray⟩ then .ok 2 else .error (24, i))) w) := by
  obtain ⟨g, o, rfl, hg, hc⟩ := h (by omega)
  obtain ⟨n1, n2, n3, n4, n5, n6, n7⟩ := hc i hi
  rw [hn] at n1 n2 n3 n4 n5 n6 n7
  have i1 : InW g w := ⟨hg⟩
  have hI : (i : Int) < (ns.length : Int) := by omega
  obtain ⟨op, k0, nn, s, name, l, r⟩ := n
  simp only at hop n1 n2 n3 n4 n5 n6 n7 ⊢
  subst hop
  generalize (⟨name.toArray⟩ : ByteArray) = x at *
  have H := Lib.hid (fun wx hk => strs_below (w' := wx) hs hk)
  have hit := Lib.hid (fun i hi he => hasB_at ss x i hi he)
  have skip := Lib.hid (fun i hi hp he => hasB_no (zs := ss) (x := x) (i := i) hi hp he)
  obtain ⟨R, hR⟩ : ∃ R, (if hasB ss x then Except.ok 2 else Except.error (24, i) : Except (Int × Nat) Int) = R := ⟨_, rfl⟩
  have hyes := Lib.hid (fun (h : hasB ss x = true) => show ofV R = .tuple #[.int .i64 2, .int .i64 0, .int .i64 0] by rw [← hR, h]; rfl)
  have hno := Lib.hid (fun (h : hasB ss x = false) => show ofV R = .tuple #[.int .i64 0, .int .i64 24, .int .i64 (i : Int)] by rw [← hR, h]; rfl)
  rw [hR]
  clear hc hn h hs hR
  go_enter Tryz.func10, Tryz.ntmps10
  go_wp2
  go_loopw [13] (fun v wr => ∃ j : Nat, v = .int .i64 (j : Int) ∧ j ≤ ss.length ∧ hasB (ss.take j) x = false ∧ wr.cell? ⟨w.heap.size, 4, none⟩ = some (.string x) ∧ Below w.heap.size w wr ∧ w.heap.size < wr.heap.size) (fun v _ => ss.length - (intOf v).toNat)
  case atStart => exact ⟨0, rfl, Nat.zero_le _, rfl, by simp [go_sem], by repeat' (first | (with_reducible exact Below.refl _ _) | (with_reducible assumption) | (with_reducible refine Below.alloc ?_ ?_ _) | (with_reducible refine Below.drew ?_) | (with_reducible refine belowN ?_ _) | (with_reducible refine Below.setCell ?_ ?_ _) | (with_reducible refine belowG ?_ ?_) | (with_reducible exact Nat.le_refl _) | (with_reducible refine le_sizeG ?_) | (with_reducible refine le_sizeA ?_) | (with_reducible refine le_sizeC ?_) | (with_reducible refine le_sizeD ?_) | (with_reducible refine le_sizeN ?_) | go_size | (simp [go_sem]; done)), by simp [go_sem]⟩
  case round =>
    obtain ⟨j, rfl, hj, hp, hx, hk, hlw⟩ := hrel
    rename World => wr
    by_cases hlt : j < ss.length
    · obtain ⟨g2, o2, rfl, hg2, hc2⟩ := H.out wr hk (by omega)
      have c1 := hc2 j hlt
      have hJ : (j : Int) < (ss.length : Int) := by omega
      have i2 : InW g2 wr := ⟨hg2⟩
      have i3 : InW w.heap.size wr := ⟨hlw⟩
      rcases he : (ss[j].toList == x.toList)
      · have hs := Lib.hid (skip.out j hlt hp he)
        generalize ss[j] = v at *
        clear hp hc2
        go_wp2_with fail
        (refine wp_region_G (by kernel_rfl) (by kernel_rfl) ?_; (repeat (go_big_quiet_step (fail))); refine wpQuiet_nil ?_; intro _ hw'; obtain ⟨pg, hw''⟩ := hw'; subst hw'')
        go_wp2
        go_roundw
        case rel => exact ⟨j + 1, by go_num, by omega, hs.out, by simp [go_sem, hx], by repeat' (first | (with_reducible exact Below.refl _ _) | (with_reducible assumption) | (with_reducible refine Below.alloc ?_ ?_ _) | (with_reducible refine Below.drew ?_) | (with_reducible refine belowN ?_ _) | (with_reducible refine Below.setCell ?_ ?_ _) | (with_reducible refine belowG ?_ ?_) | (with_reducible exact Nat.le_refl _) | (with_reducible refine le_sizeG ?_) | (with_reducible refine le_sizeA ?_) | (with_reducible refine le_sizeC ?_) | (with_reducible refine le_sizeD ?_) | (with_reducible refine le_sizeN ?_) | go_size | (simp [go_sem]; done)), by first | exact le_sizeN hlw | (simp [go_sem]; done) | exact Nat.lt_of_lt_of_le hlw (belowG0 _ _).size⟩
        case measure => simp [intOf]; omega
      · have hs := Lib.hid (hyes.out (hit.out j hlt he))
        generalize ss[j] = v at *
        clear hp hc2
        go_wp2_with fail
        (refine wp_region_G (by kernel_rfl) (by kernel_rfl) ?_; (repeat (go_big_quiet_step (fail))); refine wpQuiet_nil ?_; intro _ hw'; obtain ⟨pg, hw''⟩ := hw'; subst hw'')
        go_wp2
        go_returns
        exact ⟨by rw [hs.out]; rfl, by repeat' (first | (with_reducible exact Below.refl _ _) | (with_reducible assumption) | (with_reducible refine Below.alloc ?_ ?_ _) | (with_reducible refine Below.drew ?_) | (with_reducible refine belowN ?_ _) | (with_reducible refine Below.setCell ?_ ?_ _) | (with_reducible refine belowG ?_ ?_) | (with_reducible exact Nat.le_refl _) | (with_reducible refine le_sizeG ?_) | (with_reducible refine le_sizeA ?_) | (with_reducible refine le_sizeC ?_) | (with_reducible refine le_sizeD ?_) | (with_reducible refine le_sizeN ?_) | go_size | (simp [go_sem]; done))⟩
    · have hge : ¬ (j : Int) < (ss.length : Int) := by omega
      have hs := Lib.hid (hno.out (by rw [List.take_of_length_le (by omega)] at hp; exact hp))
      clear hp
      go_wp2
      go_returns
      exact ⟨by rw [hs.out]; rfl, by repeat' (first | (with_reducible exact Below.refl _ _) | (with_reducible assumption) | (with_reducible refine Below.alloc ?_ ?_ _) | (with_reducible refine Below.drew ?_) | (with_reducible refine belowN ?_ _) | (with_reducible refine Below.setCell ?_ ?_ _) | (with_reducible refine belowG ?_ ?_) | (with_reducible exact Nat.le_refl _) | (with_reducible refine le_sizeG ?_) | (with_reducible refine le_sizeA ?_) | (with_reducible refine le_sizeC ?_) | (with_reducible refine le_sizeD ?_) | (with_reducible refine le_sizeN ?_) | go_size | (simp [go_sem]; done))⟩
theorem rof_err (i : Nat) (n : Nd) (a : Nat) (x : Int) (j : Nat) (hi : i < ns.length) (hn : ns[i] = n) (h1 : 1 ≤ n.op) (h2 : n.op ≤ 15) (hl : n.l = (a : Int)) (hx : x = 24 ∨ x = 20) (vn sn : Nat) (w : World) (h : NdsAt w ao ns)
    (CA : ∀ wx, Below w.heap.size w wx → Calls Tryz.prog 10 #[.slice ao ns.length cap, .int .i64 (a : Int), .slice va vn vc, .slice sa sn sc] wx (Ret (ofV (.error (x, j))) wx)) :
    Calls Tryz.prog 10 #[.slice ao ns.length cap, .int .i64 (i : Int), .slice va vn vc, .slice sa sn sc] w (Ret (ofV (.error (x, j))) w) := by
  replace CA := Lib.hid CA
  obtain ⟨g, o, rfl, hg, hc⟩ := h (by omega)
  obtain ⟨n1, n2, n3, n4, n5, n6, n7⟩ := hc i hi
  rw [hn] at n1 n2 n3 n4 n5 n6 n7
  have i1 : InW g w := ⟨hg⟩
  have hI : (i : Int) < (ns.length : Int) := by omega
  obtain ⟨op, k0, nn, s, name, l, r⟩ := n
  simp only at h1 h2 hl n1 n2 n3 n4 n5 n6 n7
  subst hl
  have o0 : (op == 0) = false := beq_eq_false_iff_ne.mpr (by omega)
  have o16 : (op == 16) = false := beq_eq_false_iff_ne.mpr (by omega)
  have o17 : (op == 17) = false := beq_eq_false_iff_ne.mpr (by omega)
  clear hc hn h h1 h2
  unfold ofV at *
  rcases hx with rfl | rfl
  all_goals
    go_enter Tryz.func10, Tryz.ntmps10
    go_wp2_with ((with_reducible refine (CA.out _ (by repeat' (first | (with_reducible exact Below.refl _ _) | (with_reducible assumption) | (with_reducible refine Below.alloc ?_ ?_ _) | (with_reducible refine Below.drew ?_) | (with_reducible refine belowN ?_ _) | (with_reducible refine Below.setCell ?_ ?_ _) | (with_reducible refine belowG ?_ ?_) | (with_reducible exact Nat.le_refl _) | (with_reducible refine le_sizeG ?_) | (with_reducible refine le_sizeA ?_) | (with_reducible refine le_sizeC ?_) | (with_reducible refine le_sizeD ?_) | (with_reducible refine le_sizeN ?_) | go_size | (simp [go_sem]; done)))).mono ?_); intro e w1 hr; obtain ⟨rfl, p, rfl⟩ := hr.out; clear hr)
    go_returns
    exact ⟨rfl, by repeat' (first | (with_reducible exact Below.refl _ _) | (with_reducible assumption) | (with_reducible refine Below.alloc ?_ ?_ _) | (with_reducible refine Below.drew ?_) | (with_reducible refine belowN ?_ _) | (with_reducible refine Below.setCell ?_ ?_ _) | (with_reducible refine belowG ?_ ?_) | (with_reducible exact Nat.le_refl _) | (with_reducible refine le_sizeG ?_) | (with_reducible refine le_sizeA ?_) | (with_reducible refine le_sizeC ?_) | (with_reducible refine le_sizeD ?_) | (with_reducible refine le_sizeN ?_) | go_size | (simp [go_sem]; done))⟩
/-- An operation on one part, or of two of which the second one has no kind. -/
def resV (k : Int) (i : Nat) : Value := if k = 0 then .tuple #[.int .i64 0, .int .i64 20, .int .i64 (i : Int)] else .tuple #[.int .i64 k, .int .i64 0, .int .i64 0]
set_option maxRecDepth 100000 in
set_option maxHeartbeats 2000000 in
theorem rof_one (i : Nat) (n : Nd) (a : Nat) (x k : Int) (hk : resK n.op x 0 = k) (hi : i < ns.length) (hn : ns[i] = n) (h1 : 1 ≤ n.op) (h2 : n.op ≤ 2) (hl : n.l = (a : Int)) (vn sn : Nat) (w : World) (h : NdsAt w ao ns)
    (CA : ∀ wx, Below w.heap.size w wx → Calls Tryz.prog 10 #[.slice ao ns.length cap, .int .i64 (a : Int), .slice va vn vc, .slice sa sn sc] wx (Ret (ofV (.ok x)) wx)) :
    Calls Tryz.prog 10 #[.slice ao ns.length cap, .int .i64 (i : Int), .slice va vn vc, .slice sa sn sc] w (Ret (resV k i) w) := by
  replace CA := Lib.hid CA
  have R := Lib.hid (fun wx => rresult_any n.op x 0 wx)
  rw [hk] at R
  obtain ⟨g, o, rfl, hg, hc⟩ := h (by omega)
  obtain ⟨n1, n2, n3, n4, n5, n6, n7⟩ := hc i hi
  rw [hn] at n1 n2 n3 n4 n5 n6 n7
  have i1 : InW g w := ⟨hg⟩
  have hI : (i : Int) < (ns.length : Int) := by omega
  obtain ⟨op, k0, nn, s, name, l, r⟩ := n
  simp only at h1 h2 hl n1 n2 n3 n4 n5 n6 n7 R
  subst hl
  have o0 : (op == 0) = false := beq_eq_false_iff_ne.mpr (by omega)
  have o16 : (op == 16) = false := beq_eq_false_iff_ne.mpr (by omega)
  have o17 : (op == 17) = false := beq_eq_false_iff_ne.mpr (by omega)
  have o2 : ¬ (2 : Int) < op := by omega
  clear hc hn h h1 h2 hk
  unfold ofV at *
  unfold resV
  by_cases h0 : k = 0
  · subst h0
    rw [if_pos rfl]
    go_enter Tryz.func10, Tryz.ntmps10
    go_wp2_with (first | ((with_reducible refine (CA.out _ (by repeat' (first | (with_reducible exact Below.refl _ _) | (with_reducible assumption) | (with_reducible refine Below.alloc ?_ ?_ _) | (with_reducible refine Below.drew ?_) | (with_reducible refine belowN ?_ _) | (with_reducible refine Below.setCell ?_ ?_ _) | (with_reducible refine belowG ?_ ?_) | (with_reducible exact Nat.le_refl _) | (with_reducible refine le_sizeG ?_) | (with_reducible refine le_sizeA ?_) | (with_reducible refine le_sizeC ?_) | (with_reducible refine le_sizeD ?_) | (with_reducible refine le_sizeN ?_) | go_size | (simp [go_sem]; done)))).mono ?_); intro e w1 hr; obtain ⟨rfl, p, rfl⟩ := hr.out; clear hr) | ((with_reducible refine (R.out _).mono ?_); rintro e w1 ⟨rfl, rfl⟩))
    go_returns
    exact ⟨rfl, by repeat' (first | (with_reducible exact Below.refl _ _) | (with_reducible assumption) | (with_reducible refine Below.alloc ?_ ?_ _) | (with_reducible refine Below.drew ?_) | (with_reducible refine belowN ?_ _) | (with_reducible refine Below.setCell ?_ ?_ _) | (with_reducible refine belowG ?_ ?_) | (with_reducible exact Nat.le_refl _) | (with_reducible refine le_sizeG ?_) | (with_reducible refine le_sizeA ?_) | (with_reducible refine le_sizeC ?_) | (with_reducible refine le_sizeD ?_) | (with_reducible refine le_sizeN ?_) | go_size | (simp [go_sem]; done))⟩
  · rw [if_neg h0]
    have hz : (k == 0) = false := beq_eq_false_iff_ne.mpr h0
    clear h0
    go_enter Tryz.func10, Tryz.ntmps10
    go_wp2_with (first | ((with_reducible refine (CA.out _ (by repeat' (first | (with_reducible exact Below.refl _ _) | (with_reducible assumption) | (with_reducible refine Below.alloc ?_ ?_ _) | (with_reducible refine Below.drew ?_) | (with_reducible refine belowN ?_ _) | (with_reducible refine Below.setCell ?_ ?_ _) | (with_reducible refine belowG ?_ ?_) | (with_reducible exact Nat.le_refl _) | (with_reducible refine le_sizeG ?_) | (with_reducible refine le_sizeA ?_) | (with_reducible refine le_sizeC ?_) | (with_reducible refine le_sizeD ?_) | (with_reducible refine le_sizeN ?_) | go_size | (simp [go_sem]; done)))).mono ?_); intro e w1 hr; obtain ⟨rfl, p, rfl⟩ := hr.out; clear hr) | ((with_reducible refine (R.out _).mono ?_); rintro e w1 ⟨rfl, rfl⟩))
    go_returns
    exact ⟨rfl, by repeat' (first | (with_reducible exact Below.refl _ _) | (with_reducible assumption) | (with_reducible refine Below.alloc ?_ ?_ _) | (with_reducible refine Below.drew ?_) | (with_reducible refine belowN ?_ _) | (with_reducible refine Below.setCell ?_ ?_ _) | (with_reducible refine belowG ?_ ?_) | (with_reducible exact Nat.le_refl _) | (with_reducible refine le_sizeG ?_) | (with_reducible refine le_sizeA ?_) | (with_reducible refine le_sizeC ?_) | (with_reducible refine le_sizeD ?_) | (with_reducible refine le_sizeN ?_) | go_size | (simp [go_sem]; done))⟩
set_option maxRecDepth 100000 in
set_option maxHeartbeats 2000000 in
theorem rof_two_err (i : Nat) (n : Nd) (a b : Nat) (x y : Int) (j : Nat) (hi : i < ns.length) (hn : ns[i] = n) (h1 : 3 ≤ n.op) (h2 : n.op ≤ 15) (hl : n.l = (a : Int)) (hr : n.r = (b : Int)) (hy : y = 24 ∨ y = 20) (vn sn : Nat) (w : World) (h : NdsAt w ao ns)
    (CA : ∀ wx, Below w.heap.size w wx → Calls Tryz.prog 10 #[.slice ao ns.length cap, .int .i64 (a : Int), .slice va vn vc, .slice sa sn sc] wx (Ret (ofV (.ok x)) wx))
    (CB : ∀ wx, Below w.heap.size w wx → Calls Tryz.prog 10 #[.slice ao ns.length cap, .int .i64 (b : Int), .slice va vn vc, .slice sa sn sc] wx (Ret (ofV (.error (y, j))) wx)) :
    Calls Tryz.prog 10 #[.slice ao ns.length cap, .int .i64 (i : Int), .slice va vn vc, .slice sa sn sc] w (Ret (ofV (.error (y, j))) w) := by
  replace CA := Lib.hid CA
  replace CB := Lib.hid CB
  obtain ⟨g, o, rfl, hg, hc⟩ := h (by omega)
  obtain ⟨n1, n2, n3, n4, n5, n6, n7⟩ := hc i hi
  rw [hn] at n1 n2 n3 n4 n5 n6 n7
  have i1 : InW g w := ⟨hg⟩
  have hI : (i : Int) < (ns.length : Int) := by omega
  obtain ⟨op, k0, nn, s, name, l, r⟩ := n
  simp only at h1 h2 hl hr n1 n2 n3 n4 n5 n6 n7
  subst hl hr
  have o0 : (op == 0) = false := beq_eq_false_iff_ne.mpr (by omega)
  have o16 : (op == 16) = false := beq_eq_false_iff_ne.mpr (by omega)
  have o17 : (op == 17) = false := beq_eq_false_iff_ne.mpr (by omega)
  have o2 : (2 : Int) < op := by omega
  clear hc hn h h1 h2
  unfold ofV at *
  rcases hy with rfl | rfl
  all_goals
    go_enter Tryz.func10, Tryz.ntmps10
    go_wp2_with (first | ((with_reducible refine (CA.out _ (by repeat' (first | (with_reducible exact Below.refl _ _) | (with_reducible assumption) | (with_reducible refine Below.alloc ?_ ?_ _) | (with_reducible refine Below.drew ?_) | (with_reducible refine belowN ?_ _) | (with_reducible refine Below.setCell ?_ ?_ _) | (with_reducible refine belowG ?_ ?_) | (with_reducible exact Nat.le_refl _) | (with_reducible refine le_sizeG ?_) | (with_reducible refine le_sizeA ?_) | (with_reducible refine le_sizeC ?_) | (with_reducible refine le_sizeD ?_) | (with_reducible refine le_sizeN ?_) | go_size | (simp [go_sem]; done)))).mono ?_); intro e w1 hr; obtain ⟨rfl, p, rfl⟩ := hr.out; clear hr) | ((with_reducible refine (CB.out _ (by repeat' (first | (with_reducible exact Below.refl _ _) | (with_reducible assumption) | (with_reducible refine Below.alloc ?_ ?_ _) | (with_reducible refine Below.drew ?_) | (with_reducible refine belowN ?_ _) | (with_reducible refine Below.setCell ?_ ?_ _) | (with_reducible refine belowG ?_ ?_) | (with_reducible exact Nat.le_refl _) | (with_reducible refine le_sizeG ?_) | (with_reducible refine le_sizeA ?_) | (with_reducible refine le_sizeC ?_) | (with_reducible refine le_sizeD ?_) | (with_reducible refine le_sizeN ?_) | go_size | (simp [go_sem]; done)))).mono ?_); intro e w1 hr; obtain ⟨rfl, p, rfl⟩ := hr.out; clear hr))
    go_returns
    exact ⟨rfl, by repeat' (first | (with_reducible exact Below.refl _ _) | (with_reducible assumption) | (with_reducible refine Below.alloc ?_ ?_ _) | (with_reducible refine Below.drew ?_) | (with_reducible refine belowN ?_ _) | (with_reducible refine Below.setCell ?_ ?_ _) | (with_reducible refine belowG ?_ ?_) | (with_reducible exact Nat.le_refl _) | (with_reducible refine le_sizeG ?_) | (with_reducible refine le_sizeA ?_) | (with_reducible refine le_sizeC ?_) | (with_reducible refine le_sizeD ?_) | (with_reducible refine le_sizeN ?_) | go_size | (simp [go_sem]; done))⟩
set_option maxRecDepth 100000 in
set_option maxHeartbeats 2000000 in
theorem rof_two (i : Nat) (n : Nd) (a b : Nat) (x y k : Int) (hk : resK n.op x y = k) (hi : i < ns.length) (hn : ns[i] = n) (h1 : 3 ≤ n.op) (h2 : n.op ≤ 15) (hl : n.l = (a : Int)) (hr : n.r = (b : Int)) (vn sn : Nat) (w : World) (h : NdsAt w ao ns)
    (CA : ∀ wx, Below w.heap.size w wx → Calls Tryz.prog 10 #[.slice ao ns.length cap, .int .i64 (a : Int), .slice va vn vc, .slice sa sn sc] wx (Ret (ofV (.ok x)) wx))
    (CB : ∀ wx, Below w.heap.size w wx → Calls Tryz.prog 10 #[.slice ao ns.length cap, .int .i64 (b : Int), .slice va vn vc, .slice sa sn sc] wx (Ret (ofV (.ok y)) wx)) :
    Calls Tryz.prog 10 #[.slice ao ns.length cap, .int .i64 (i : Int), .slice va vn vc, .slice sa sn sc] w (Ret (resV k i) w) := by
  replace CA := Lib.hid CA
  replace CB := Lib.hid CB
  have R := Lib.hid (fun wx => rresult_any n.op x y wx)
  rw [hk] at R
  obtain ⟨g, o, rfl, hg, hc⟩ := h (by omega)
  obtain ⟨n1, n2, n3, n4, n5, n6, n7⟩ := hc i hi
  rw [hn] at n1 n2 n3 n4 n5 n6 n7
  have i1 : InW g w := ⟨hg⟩
  have hI : (i : Int) < (ns.length : Int) := by omega
  obtain ⟨op, k0, nn, s, name, l, r⟩ := n
  simp only at h1 h2 hl hr n1 n2 n3 n4 n5 n6 n7 R
  subst hl hr
  have o0 : (op == 0) = false := beq_eq_false_iff_ne.mpr (by omega)
  have o16 : (op == 16) = false := beq_eq_false_iff_ne.mpr (by omega)
  have o17 : (op == 17) = false := beq_eq_false_iff_ne.mpr (by omega)
  have o2 : (2 : Int) < op := by omega
  clear hc hn h h1 h2 hk
  unfold ofV at *
  unfold resV
  by_cases h0 : k = 0
  · subst h0
    rw [if_pos rfl]
    go_enter Tryz.func10, Tryz.ntmps10
    go_wp2_with (first | ((with_reducible refine (CA.out _ (by repeat' (first | (with_reducible exact Below.refl _ _) | (with_reducible assumption) | (with_reducible refine Below.alloc ?_ ?_ _) | (with_reducible refine Below.drew ?_) | (with_reducible refine belowN ?_ _) | (with_reducible refine Below.setCell ?_ ?_ _) | (with_reducible refine belowG ?_ ?_) | (with_reducible exact Nat.le_refl _) | (with_reducible refine le_sizeG ?_) | (with_reducible refine le_sizeA ?_) | (with_reducible refine le_sizeC ?_) | (with_reducible refine le_sizeD ?_) | (with_reducible refine le_sizeN ?_) | go_size | (simp [go_sem]; done)))).mono ?_); intro e w1 hr; obtain ⟨rfl, p, rfl⟩ := hr.out; clear hr) | ((with_reducible refine (CB.out _ (by repeat' (first | (with_reducible exact Below.refl _ _) | (with_reducible assumption) | (with_reducible refine Below.alloc ?_ ?_ _) | (with_reducible refine Below.drew ?_) | (with_reducible refine belowN ?_ _) | (with_reducible refine Below.setCell ?_ ?_ _) | (with_reducible refine belowG ?_ ?_) | (with_reducible exact Nat.le_refl _) | (with_reducible refine le_sizeG ?_) | (with_reducible refine le_sizeA ?_) | (with_reducible refine le_sizeC ?_) | (with_reducible refine le_sizeD ?_) | (with_reducible refine le_sizeN ?_) | go_size | (simp [go_sem]; done)))).mono ?_); intro e w1 hr; obtain ⟨rfl, p, rfl⟩ := hr.out; clear hr) | ((with_reducible refine (R.out _).mono ?_); rintro e w1 ⟨rfl, rfl⟩))
    go_returns
    exact ⟨rfl, by repeat' (first | (with_reducible exact Below.refl _ _) | (with_reducible assumption) | (with_reducible refine Below.alloc ?_ ?_ _) | (with_reducible refine Below.drew ?_) | (with_reducible refine belowN ?_ _) | (with_reducible refine Below.setCell ?_ ?_ _) | (with_reducible refine belowG ?_ ?_) | (with_reducible exact Nat.le_refl _) | (with_reducible refine le_sizeG ?_) | (with_reducible refine le_sizeA ?_) | (with_reducible refine le_sizeC ?_) | (with_reducible refine le_sizeD ?_) | (with_reducible refine le_sizeN ?_) | go_size | (simp [go_sem]; done))⟩
  · rw [if_neg h0]
    have hz : (k == 0) = false := beq_eq_false_iff_ne.mpr h0
    clear h0
    go_enter Tryz.func10, Tryz.ntmps10
    go_wp2_with (first | ((with_reducible refine (CA.out _ (by repeat' (first | (with_reducible exact Below.refl _ _) | (with_reducible assumption) | (with_reducible refine Below.alloc ?_ ?_ _) | (with_reducible refine Below.drew ?_) | (with_reducible refine belowN ?_ _) | (with_reducible refine Below.setCell ?_ ?_ _) | (with_reducible refine belowG ?_ ?_) | (with_reducible exact Nat.le_refl _) | (with_reducible refine le_sizeG ?_) | (with_reducible refine le_sizeA ?_) | (with_reducible refine le_sizeC ?_) | (with_reducible refine le_sizeD ?_) | (with_reducible refine le_sizeN ?_) | go_size | (simp [go_sem]; done)))).mono ?_); intro e w1 hr; obtain ⟨rfl, p, rfl⟩ := hr.out; clear hr) | ((with_reducible refine (CB.out _ (by repeat' (first | (with_reducible exact Below.refl _ _) | (with_reducible assumption) | (with_reducible refine Below.alloc ?_ ?_ _) | (with_reducible refine Below.drew ?_) | (with_reducible refine belowN ?_ _) | (with_reducible refine Below.setCell ?_ ?_ _) | (with_reducible refine belowG ?_ ?_) | (with_reducible exact Nat.le_refl _) | (with_reducible refine le_sizeG ?_) | (with_reducible refine le_sizeA ?_) | (with_reducible refine le_sizeC ?_) | (with_reducible refine le_sizeD ?_) | (with_reducible refine le_sizeN ?_) | go_size | (simp [go_sem]; done)))).mono ?_); intro e w1 hr; obtain ⟨rfl, p, rfl⟩ := hr.out; clear hr) | ((with_reducible refine (R.out _).mono ?_); rintro e w1 ⟨rfl, rfl⟩))
    go_returns
    exact ⟨rfl, by repeat' (first | (with_reducible exact Below.refl _ _) | (with_reducible assumption) | (with_reducible refine Below.alloc ?_ ?_ _) | (with_reducible refine Below.drew ?_) | (with_reducible refine belowN ?_ _) | (with_reducible refine Below.setCell ?_ ?_ _) | (with_reducible refine belowG ?_ ?_) | (with_reducible exact Nat.le_refl _) | (with_reducible refine le_sizeG ?_) | (with_reducible refine le_sizeA ?_) | (with_reducible refine le_sizeC ?_) | (with_reducible refine le_sizeD ?_) | (with_reducible refine le_sizeN ?_) | go_size | (simp [go_sem]; done))⟩
def errAt (x : Except Int Int) (i : Nat) : Except (Int × Nat) Int :=
  match x with
  | .error x => .error (x, i)
  | .ok k => .ok k
theorem ofV_res {n : Nd} (i : Nat) (a b : Int) (h1 : 1 ≤ n.op) (h2 : n.op ≤ 15) : ofV (errAt (ownR vs ss n a b) i) = resV (resK n.op a (if n.op ≤ 2 then 0 else b)) i := by
  rw [ownR_op vs ss h1 h2]
  unfold resV
  by_cases h0 : resK n.op a (if n.op ≤ 2 then 0 else b) = 0
  · rw [if_pos h0, if_pos h0]
    rfl
  · rw [if_neg h0, if_neg h0]
    rfl
/-- From a node down. -/
theorem rof_any (hah : ∀ j (h : j < ns.length), Ahead j ns[j]) (hvn : vs.length ≤ 1000000) (hsn : ss.length ≤ 1000000) : ∀ (f i : Nat), i < f → i < ns.length → ∀ w, NdsAt w ao ns → VarsAt w va vs → StrsAt w sa ss →
    Calls Tryz.prog 10 #[.slice ao ns.length cap, .int .i64 (i : Int), .slice va vs.length vc, .slice sa ss.length sc] w (Ret (ofV (downK (ownR vs ss) ns f i)) w)
  | 0, i, hf, _, _, _, _, _ => absurd hf (Nat.not_lt_zero _)
  | f + 1, i, hf, hi, w, h, hv, hs => by
    have ha := hah i hi
    have herr := fun j hj x y he => downK_err (vs := vs) (ss := ss) hah f j hj he x y
    obtain ⟨n, hn⟩ : ∃ n, ns[i] = n := ⟨_, rfl⟩
    rw [hn] at ha
    have IH := fun j hj hjn (wx : World) (hb : Below w.heap.size w wx) => rof_any hah hvn hsn f j hj hjn wx (nds_below h hb) (vars_below hv hb) (strs_below hs hb)
    rw [downK, List.getElem?_eq_getElem hi, hn]
    simp only
    rcases ha.range with h0 | h0 | h0 | h0
    · rw [if_pos (.inl h0), ownR_lit vs ss h0]
      exact rof_lit ao cap ns va vc sa sc i n hi hn h0 vs.length ss.length w h
    · rw [if_neg (by omega)]
      obtain ⟨a, el, hal⟩ := ha.l h0.1 h0.2
      rw [el, Int.toNat_natCast]
      have CA := IH a (by omega) (by omega)
      rcases hA : downK (ownR vs ss) ns f a with ⟨x, j⟩ | x
      · rw [hA] at CA
        exact rof_err ao cap ns va vc sa sc i n a x j hi hn h0.1 h0.2 el (herr a (by omega) x j (by omega) hA) vs.length ss.length w h CA
      · rw [hA] at CA
        simp only
        by_cases h2 : n.op ≤ 2
        · rw [if_pos h2]
          show Calls _ _ _ _ (Ret (ofV (errAt (ownR vs ss n x 0) i)) w)
          rw [ofV_res vs ss i x 0 h0.1 h0.2, if_pos h2]
          exact rof_one ao cap ns va vc sa sc i n a x _ rfl hi hn h0.1 h2 el vs.length ss.length w h CA
        · rw [if_neg h2]
          obtain ⟨b, er, hbl⟩ := ha.r (by omega) h0.2
          rw [er, Int.toNat_natCast]
          have CB := IH b (by omega) (by omega)
          rcases hB : downK (ownR vs ss) ns f b with ⟨y, j⟩ | y
          · rw [hB] at CB
            exact rof_two_err ao cap ns va vc sa sc i n a b x y j hi hn (by omega) h0.2 el er (herr b (by omega) y j (by omega) hB) vs.length ss.length w h CA CB
          · rw [hB] at CB
            simp only
            show Calls _ _ _ _ (Ret (ofV (errAt (ownR vs ss n x y) i)) w)
            rw [ofV_res vs ss i x y h0.1 h0.2, if_neg h2]
            exact rof_two ao cap ns va vc sa sc i n a b x y _ rfl hi hn (by omega) h0.2 el er vs.length ss.length w h CA CB
    · rw [if_pos (.inr (.inl h0)), ownR_var vs ss h0]
      have := rof_var ao cap ns va vc vs sa sc i n hi hn h0 hvn ss.length w h hv
      refine this.mono fun e w' hr => ?_
      revert hr
      cases findV vs ⟨n.name.toArray⟩ <;> exact fun hr => hr
    · rw [if_pos (.inr (.inr h0)), ownR_in vs ss h0]
      have := rof_in ao cap ns va vc sa sc ss i n hi hn h0 hsn vs.length w h hs
      refine this.mono fun e w' hr => ?_
      revert hr
      cases hasB ss ⟨n.name.toArray⟩ <;> exact fun hr => hr
end
end Go.Proofs.YtkjgfcbanlcmgaaGreatDoor

