/- The document's answer (layer 5): whirligigref05.Eval, from a node down. -/
import Derived.Test.YtlekmpjmcbnjdaaGreatDoorEC
import Derived.Test.YtlekmpjmcbnjdaaGreatDoorY5
import Derived.WalkKit
import Derived.ProofKit
import Derived.OpenShut
import Derived.Handy
import Derived.BigQuiet
import Derived.Lib.Hide
import Derived.WalkSmall
import Derived.WalkLawsBesides
namespace Go.Proofs.YtlekmpjmcbnjdaaGreatDoor
open Go.RowKit
theorem sound_w {r : Rk} (h : SoundV r) : rkV r = .tuple #[.agg #[.int .i64 r.k, .int .i64 r.n, .string r.s], .int .i64 0] := by unfold rkV; rw [h.1]
theorem err_w (e : Int) : rkV (errR e) = .tuple #[.agg #[.int .i64 0, .int .i64 0, .string ⟨#[]⟩], .int .i64 e] := rfl
/-- The ways of an operation of two whose first part is known. -/
theorem stop_no {op : Int} {a : Rk} (ha : SoundV a) (hs : stopB op a = false) : (op ≠ 14 ∧ op ≠ 15) ∨ ((op = 14 ∨ op = 15) ∧ a.k ≠ 2) ∨ (op = 14 ∧ a.k = 2 ∧ a.n = 1 ∧ a.s = ⟨#[]⟩) ∨ (op = 15 ∧ a.k = 2 ∧ a.n = 0 ∧ a.s = ⟨#[]⟩) := by
  obtain ⟨-, hr, -⟩ := ha
  by_cases h : op = 14 ∨ op = 15
  · by_cases hk : a.k = 2
    · rcases right_cases _ _ _ hr with ⟨h1, _⟩ | ⟨_, h2, h3⟩ | ⟨h1, _⟩
      · omega
      · rcases h with rfl | rfl
        · rcases h3 with h3 | h3
          · exfalso
            simp [stopB, hk, h3, h2, Lib.toList_data] at hs
          · exact .inr (.inr (.inl ⟨rfl, hk, h3, h2⟩))
        · rcases h3 with h3 | h3
          · exact .inr (.inr (.inr ⟨rfl, hk, h3, h2⟩))
          · exfalso
            simp [stopB, hk, h3, h2, Lib.toList_data] at hs
      · omega
    · exact .inr (.inl ⟨h, hk⟩)
  · exact .inl ⟨fun e => h (.inl e), fun e => h (.inr e)⟩
theorem stop_yes {op : Int} {a : Rk} (ha : SoundV a) (hs : stopB op a = true) : (op = 14 ∧ a = ⟨2, 0, ⟨#[]⟩, 0⟩) ∨ (op = 15 ∧ a = ⟨2, 1, ⟨#[]⟩, 0⟩) := by
  obtain ⟨he, hr, -⟩ := ha
  obtain ⟨k, n, s, e⟩ := a
  simp only at he hr
  subst he
  simp only [stopB, Bool.or_eq_true, Bool.and_eq_true, beq_iff_eq] at hs
  rcases hs with ⟨rfl, ⟨rfl, rfl⟩, h⟩ | ⟨rfl, ⟨rfl, rfl⟩, h⟩
  · exact .inl ⟨rfl, by rw [nil_of s h]⟩
  · exact .inr ⟨rfl, by rw [nil_of s h]⟩
/-- A cell is there: found by instances, also behind stores. -/
class HasC (w : World) (b i : Nat) : Prop where
  has : (w.cell? ⟨b, i, none⟩).isSome = true
theorem hasC_of {w : World} {b i : Nat} {v : Value} (h : w.cell? ⟨b, i, none⟩ = some v) : HasC w b i := ⟨by rw [h]; rfl⟩
instance hasC_set (w : World) (b i : Nat) (a : Addr) (v : Value) [h : HasC w b i] : HasC (w.setCell a v) b i := ⟨by
  obtain ⟨u, hu⟩ := Option.isSome_iff_exists.1 h.has
  obtain ⟨u', hu'⟩ := cell?_setCell_some (p := a) (x := v) hu
  rw [hu']
  rfl⟩
@[go_sem] theorem cell_setI (w : World) (b i : Nat) (v : Value) [h : HasC w b i] : (w.setCell ⟨b, i, none⟩ v).cell? ⟨b, i, none⟩ = some v := World.cell?_setCell_same' w ⟨b, i, none⟩ v h.has
theorem hasB_nx {zs : List ByteArray} {x : ByteArray} {i : Nat} (h : i < zs.length) (hp : hasB (zs.take i) x = false) (he : (zs[i].toList == x.toList) = false) : hasB (zs.take (i + 1)) x = false := by rw [hasB_succ zs x i h, hp, he]; rfl
section
variable (ao : Option Addr) (cap : Nat) (ns : List Nd) (va : Option Addr) (vc : Nat) (cs : List Cl) (sa : Option Addr) (sc : Nat) (ss : List ByteArray)
set_option maxRecDepth 100000 in
set_option maxHeartbeats 2000000 in
theorem rev_lit (i : Nat) (n : Nd) (hi : i < ns.length) (hn : ns[i] = n) (hop : n.op = 0) (vn sn : Nat) (w : World) (h : NdsAt w ao ns) :
    Calls Tryz.prog 11 #[.slice ao ns.length cap, .int .i64 (i : Int), .slice va vn vc, .slice sa sn sc] w (Ret (rkV ⟨n.k, n.n, ⟨n.s.toArray⟩, 0⟩) w) := by
  obtain ⟨g, o, rfl, hg, hc⟩ := h (by omega)
  obtain ⟨n1, n2, n3, n4, n5, n6, n7⟩ := hc i hi
  rw [hn] at n1 n2 n3 n4 n5 n6 n7
  have i1 : InW g w := ⟨hg⟩
  have hI : (i : Int) < (ns.length : Int) := by omega
  obtain ⟨op, k0, nn, s, name, l, r⟩ := n
  simp only at hop n1 n2 n3 n4 n5 n6 n7
  subst hop
  clear hc hn h
  go_enter Tryz.func11, Tryz.ntmps11
  go_wp2
  go_returns
  exact ⟨rfl, by repeat' (first | (with_reducible exact Below.refl _ _) | (with_reducible assumption) | (with_reducible refine Below.alloc ?_ ?_ _) | (with_reducible refine Below.drew ?_) | (with_reducible refine belowN ?_ _) | (with_reducible refine Below.setCell ?_ ?_ _) | (with_reducible refine belowG ?_ ?_) | (with_reducible exact Nat.le_refl _) | (with_reducible refine le_sizeG ?_) | (with_reducible refine le_sizeA ?_) | (with_reducible refine le_sizeC ?_) | (with_reducible refine le_sizeD ?_) | (with_reducible refine le_sizeN ?_) | go_size | (simp [go_sem]; done))⟩
set_option maxRecDepth 100000 in
set_option maxHeartbeats 2000000 in
theorem rev_var (i : Nat) (n : Nd) (hi : i < ns.length) (hn : ns[i] = n) (hop : n.op = 16) (hvn : cs.length ≤ 1000000) (sn : Nat) (w : World) (h : NdsAt w ao ns) (hv : CellsAt w va cs) :
    Calls Tryz.prog 11 #[.slice ao ns.length cap, .int .i64 (i : Int), .slice va cs.length vc, .slice sa sn sc] w (Ret (rkV (cellR cs ⟨n.name.toArray⟩)) w) := by
  obtain ⟨g, o, rfl, hg, hc⟩ := h (by omega)
  obtain ⟨n1, n2, n3, n4, n5, n6, n7⟩ := hc i hi
  rw [hn] at n1 n2 n3 n4 n5 n6 n7
  have i1 : InW g w := ⟨hg⟩
  have hI : (i : Int) < (ns.length : Int) := by omega
  obtain ⟨op, k0, nn, s, name, l, r⟩ := n
  simp only at hop n1 n2 n3 n4 n5 n6 n7 ⊢
  subst hop
  generalize (⟨name.toArray⟩ : ByteArray) = x at *
  have H := Lib.hid (fun wx hk => cls_below (w' := wx) hv hk)
  have hit := Lib.hid (fun i hi he hp => findC_hit (cs := cs) (x := x) (i := i) hi he hp)
  have skip := Lib.hid (fun i hi he hp => findC_skip (cs := cs) (x := x) (i := i) hi he hp)
  obtain ⟨R, hR⟩ : ∃ R, rkV (cellR cs x) = R := ⟨_, rfl⟩
  have hyes := Lib.hid (fun c (h : findC cs x = some c) => show R = .tuple #[.agg #[.int .i64 c.k, .int .i64 c.n, .string c.s], .int .i64 0] by rw [← hR]; unfold cellR; rw [h]; rfl)
  have hno := Lib.hid (fun (h : findC cs x = none) => show R = .tuple #[.agg #[.int .i64 0, .int .i64 0, .string ⟨#[]⟩], .int .i64 24] by rw [← hR]; unfold cellR; rw [h]; rfl)
  rw [hR]
  clear hc hn h hv hR
  go_enter Tryz.func11, Tryz.ntmps11
  go_wp2
  generalize hW : (w.alloc (.cells #[.int .i64 0, .int .i64 0, .string ⟨#[]⟩] 39)).alloc (.cells #[.int .i64 16, .int .i64 k0, .int .i64 nn, .string ⟨s.toArray⟩, .string x, .int .i64 l, .int .i64 r] 73) = W1
  have hbW : Below w.heap.size w W1 := by rw [← hW]; repeat' (first | (with_reducible exact Below.refl _ _) | (with_reducible assumption) | (with_reducible refine Below.alloc ?_ ?_ _) | (with_reducible refine Below.drew ?_) | (with_reducible refine belowN ?_ _) | (with_reducible refine Below.setCell ?_ ?_ _) | (with_reducible refine belowG ?_ ?_) | (with_reducible exact Nat.le_refl _) | (with_reducible refine le_sizeG ?_) | (with_reducible refine le_sizeA ?_) | (with_reducible refine le_sizeC ?_) | (with_reducible refine le_sizeD ?_) | (with_reducible refine le_sizeN ?_) | go_size | (simp [go_sem]; done))
  have hx0 : W1.cell? ⟨w.heap.size + 1, 4, none⟩ = some (.string x) := by rw [← hW]; simp [go_sem]
  have r0 : W1.cell? ⟨w.heap.size, 0, none⟩ = some (.int .i64 0) := by rw [← hW]; simp [go_sem]
  have r1 : W1.cell? ⟨w.heap.size, 1, none⟩ = some (.int .i64 0) := by rw [← hW]; simp [go_sem]
  have r2 : W1.cell? ⟨w.heap.size, 2, none⟩ = some (.string ⟨#[]⟩) := by rw [← hW]; simp [go_sem]
  have f0 : W1.frozen? ⟨w.heap.size, 0, none⟩ = false := by rw [← hW]; simp [go_sem]
  have f1 : W1.frozen? ⟨w.heap.size, 1, none⟩ = false := by rw [← hW]; simp [go_sem]
  have f2 : W1.frozen? ⟨w.heap.size, 2, none⟩ = false := by rw [← hW]; simp [go_sem]
  have hl0 := World.block_lt_of_cell? _ _ r0
  have hl1 := World.block_lt_of_cell? _ _ hx0
  have hbWz := hbW.size
  clear hW
  go_loopw [11] (fun v wr => ∃ j : Nat, v = .int .i64 (j : Int) ∧ j ≤ cs.length ∧ findC cs x = findC (cs.drop j) x ∧ Below W1.heap.size W1 wr) (fun v _ => cs.length - (intOf v).toNat)
  case atStart => exact ⟨0, rfl, Nat.zero_le _, rfl, by repeat' (first | (with_reducible exact Below.refl _ _) | (with_reducible assumption) | (with_reducible refine Below.alloc ?_ ?_ _) | (with_reducible refine Below.drew ?_) | (with_reducible refine belowN ?_ _) | (with_reducible refine Below.setCell ?_ ?_ _) | (with_reducible refine belowG ?_ ?_) | (with_reducible exact Nat.le_refl _) | (with_reducible refine le_sizeG ?_) | (with_reducible refine le_sizeA ?_) | (with_reducible refine le_sizeC ?_) | (with_reducible refine le_sizeD ?_) | (with_reducible refine le_sizeN ?_) | go_size | (simp [go_sem]; done))⟩
  case round =>
    obtain ⟨j, rfl, hj, hp, hk⟩ := hrel
    rename World => wr
    have hbw : Below w.heap.size w wr := hbW.trans (hk.mono hbWz)
    have hx := (hk.cell (p := ⟨w.heap.size + 1, 4, none⟩) hl1).trans hx0
    have s0 := (hk.cell (p := ⟨w.heap.size, 0, none⟩) hl0).trans r0
    have s1 := (hk.cell (p := ⟨w.heap.size, 1, none⟩) hl0).trans r1
    have s2 := (hk.cell (p := ⟨w.heap.size, 2, none⟩) hl0).trans r2
    have g0 := (hk.frozen (p := ⟨w.heap.size, 0, none⟩) hl0).trans f0
    have g1 := (hk.frozen (p := ⟨w.heap.size, 1, none⟩) hl0).trans f1
    have g2 := (hk.frozen (p := ⟨w.heap.size, 2, none⟩) hl0).trans f2
    have c6 := hasC_of s0
    have c7 := hasC_of s1
    have c8 := hasC_of s2
    have hkz := hk.size
    have i4 : InW w.heap.size wr := ⟨World.block_lt_of_cell? _ _ s0⟩
    have i5 : InW (w.heap.size + 1) wr := ⟨World.block_lt_of_cell? _ _ hx⟩
    clear hx0 r0 r1 r2 f0 f1 f2
    by_cases hlt : j < cs.length
    · obtain ⟨g2, o2, rfl, hg2, hc2⟩ := H.out wr hbw (by omega)
      obtain ⟨c1, c2, c3, c4⟩ := hc2 j hlt
      have hJ : (j : Int) < (cs.length : Int) := by omega
      have i2 : InW g2 wr := ⟨hg2⟩
      rcases he : (cs[j].name.toList == x.toList)
      · have hs := Lib.hid (skip.out j hlt he hp)
        generalize cs[j] = v at *
        clear hp hc2
        go_wp2_with fail
        (refine wp_region_G (by kernel_rfl) (by kernel_rfl) ?_; (repeat (go_big_quiet_step (fail))); refine wpQuiet_nil ?_; intro _ hw'; obtain ⟨pg, hw''⟩ := hw'; subst hw'')
        go_wp2
        go_roundw
        case rel => exact ⟨j + 1, by go_num, by omega, hs.out, by repeat' (first | (with_reducible exact Below.refl _ _) | (with_reducible assumption) | (with_reducible refine Below.alloc ?_ ?_ _) | (with_reducible refine Below.drew ?_) | (with_reducible refine belowN ?_ _) | (with_reducible refine Below.setCell ?_ ?_ _) | (with_reducible refine belowG ?_ ?_) | (with_reducible exact Nat.le_refl _) | (with_reducible refine le_sizeG ?_) | (with_reducible refine le_sizeA ?_) | (with_reducible refine le_sizeC ?_) | (with_reducible refine le_sizeD ?_) | (with_reducible refine le_sizeN ?_) | go_size | (simp [go_sem]; done))⟩
        case measure => simp [intOf]; omega
      · have hs := Lib.hid (hyes.out _ (hit.out j hlt he hp))
        generalize cs[j] = v at *
        clear hp hc2
        go_wp2_with fail
        (refine wp_region_G (by kernel_rfl) (by kernel_rfl) ?_; (repeat (go_big_quiet_step (fail))); refine wpQuiet_nil ?_; intro _ hw'; obtain ⟨pg, hw''⟩ := hw'; subst hw'')
        go_wp2
        go_returns
        exact ⟨by rw [hs.out], by repeat' (first | (with_reducible exact Below.refl _ _) | (with_reducible assumption) | (with_reducible refine Below.alloc ?_ ?_ _) | (with_reducible refine Below.drew ?_) | (with_reducible refine belowN ?_ _) | (with_reducible refine Below.setCell ?_ ?_ _) | (with_reducible refine belowG ?_ ?_) | (with_reducible exact Nat.le_refl _) | (with_reducible refine le_sizeG ?_) | (with_reducible refine le_sizeA ?_) | (with_reducible refine le_sizeC ?_) | (with_reducible refine le_sizeD ?_) | (with_reducible refine le_sizeN ?_) | go_size | (simp [go_sem]; done))⟩
    · have hge : ¬ (j : Int) < (cs.length : Int) := by omega
      have hs := Lib.hid (hno.out (by rw [hp, List.drop_of_length_le (by omega)]; rfl))
      clear hp
      go_wp2
      go_returns
      exact ⟨by rw [hs.out], by repeat' (first | (with_reducible exact Below.refl _ _) | (with_reducible assumption) | (with_reducible refine Below.alloc ?_ ?_ _) | (with_reducible refine Below.drew ?_) | (with_reducible refine belowN ?_ _) | (with_reducible refine Below.setCell ?_ ?_ _) | (with_reducible refine belowG ?_ ?_) | (with_reducible exact Nat.le_refl _) | (with_reducible refine le_sizeG ?_) | (with_reducible refine le_sizeA ?_) | (with_reducible refine le_sizeC ?_) | (with_reducible refine le_sizeD ?_) | (with_reducible refine le_sizeN ?_) | go_size | (simp [go_sem]; done))⟩
set_option maxRecDepth 100000 in
set_option maxHeartbeats 2000000 in
theorem rev_in (i : Nat) (n : Nd) (hi : i < ns.length) (hn : ns[i] = n) (hop : n.op = 17) (hsn : ss.length ≤ 1000000) (vn : Nat) (w : World) (h : NdsAt w ao ns) (hs : StrsAt w sa ss) :
    Calls Tryz.prog 11 #[.slice ao ns.length cap, .int .i64 (i : Int), .slice va vn vc, .slice sa ss.length sc] w (Ret (rkV (trR (hasB ss ⟨n.name.toArray⟩))) w) := by
  obtain ⟨g, o, rfl, hg, hc⟩ := h (by omega)
  obtain ⟨n1, n2, n3, n4, n5, n6, n7⟩ := hc i hi
  rw [hn] at n1 n2 n3 n4 n5 n6 n7
  have i1 : InW g w := ⟨hg⟩
  have hI : (i : Int) < (ns.length : Int) := by omega
  obtain ⟨op, k0, nn, s, name, l, r⟩ := n
  simp only at hop n1 n2 n3 n4 n5 n6 n7 ⊢
  subst hop
  generalize (⟨name.toArray⟩ : ByteArray) = x at *
  have H := Lib.hid (fun wx hk => strs_below (w' := wx) hs hk)
  have hit := Lib.hid (fun i hi he => hasB_at ss x i hi he)
  have skip := Lib.hid (fun i hi hp he => hasB_nx (zs := ss) (x := x) (i := i) hi hp he)
  obtain ⟨R, hR⟩ : ∃ R, rkV (trR (hasB ss x)) = R := ⟨_, rfl⟩
  have hyes := Lib.hid (fun (h : hasB ss x = true) => show R = .tuple #[.agg #[.int .i64 2, .int .i64 1, .string ⟨#[]⟩], .int .i64 0] by rw [← hR, h]; rfl)
  have hno := Lib.hid (fun (h : hasB ss x = false) => show R = .tuple #[.agg #[.int .i64 2, .int .i64 0, .string ⟨#[]⟩], .int .i64 0] by rw [← hR, h]; rfl)
  rw [hR]
  clear hc hn h hs hR
  go_enter Tryz.func11, Tryz.ntmps11
  go_wp2
  generalize hW : (w.alloc (.cells #[.int .i64 0, .int .i64 0, .string ⟨#[]⟩] 39)).alloc (.cells #[.int .i64 17, .int .i64 k0, .int .i64 nn, .string ⟨s.toArray⟩, .string x, .int .i64 l, .int .i64 r] 73) = W1
  have hbW : Below w.heap.size w W1 := by rw [← hW]; repeat' (first | (with_reducible exact Below.refl _ _) | (with_reducible assumption) | (with_reducible refine Below.alloc ?_ ?_ _) | (with_reducible refine Below.drew ?_) | (with_reducible refine belowN ?_ _) | (with_reducible refine Below.setCell ?_ ?_ _) | (with_reducible refine belowG ?_ ?_) | (with_reducible exact Nat.le_refl _) | (with_reducible refine le_sizeG ?_) | (with_reducible refine le_sizeA ?_) | (with_reducible refine le_sizeC ?_) | (with_reducible refine le_sizeD ?_) | (with_reducible refine le_sizeN ?_) | go_size | (simp [go_sem]; done))
  have hx0 : W1.cell? ⟨w.heap.size + 1, 4, none⟩ = some (.string x) := by rw [← hW]; simp [go_sem]
  have r0 : W1.cell? ⟨w.heap.size, 0, none⟩ = some (.int .i64 0) := by rw [← hW]; simp [go_sem]
  have r1 : W1.cell? ⟨w.heap.size, 1, none⟩ = some (.int .i64 0) := by rw [← hW]; simp [go_sem]
  have r2 : W1.cell? ⟨w.heap.size, 2, none⟩ = some (.string ⟨#[]⟩) := by rw [← hW]; simp [go_sem]
  have f0 : W1.frozen? ⟨w.heap.size, 0, none⟩ = false := by rw [← hW]; simp [go_sem]
  have f1 : W1.frozen? ⟨w.heap.size, 1, none⟩ = false := by rw [← hW]; simp [go_sem]
  have f2 : W1.frozen? ⟨w.heap.size, 2, none⟩ = false := by rw [← hW]; simp [go_sem]
  have hl0 := World.block_lt_of_cell? _ _ r0
  have hl1 := World.block_lt_of_cell? _ _ hx0
  have hbWz := hbW.size
  clear hW
  go_loopw [12] (fun v wr => ∃ j : Nat, v = .int .i64 (j : Int) ∧ j ≤ ss.length ∧ hasB (ss.take j) x = false ∧ Below W1.heap.size W1 wr) (fun v _ => ss.length - (intOf v).toNat)
  case atStart => exact ⟨0, rfl, Nat.zero_le _, rfl, by repeat' (first | (with_reducible exact Below.refl _ _) | (with_reducible assumption) | (with_reducible refine Below.alloc ?_ ?_ _) | (with_reducible refine Below.drew ?_) | (with_reducible refine belowN ?_ _) | (with_reducible refine Below.setCell ?_ ?_ _) | (with_reducible refine belowG ?_ ?_) | (with_reducible exact Nat.le_refl _) | (with_reducible refine le_sizeG ?_) | (with_reducible refine le_sizeA ?_) | (with_reducible refine le_sizeC ?_) | (with_reducible refine le_sizeD ?_) | (with_reducible refine le_sizeN ?_) | go_size | (simp [go_sem]; done))⟩
  case round =>
    obtain ⟨j, rfl, hj, hp, hk⟩ := hrel
    rename World => wr
    have hbw : Below w.heap.size w wr := hbW.trans (hk.mono hbWz)
    have hx := (hk.cell (p := ⟨w.heap.size + 1, 4, none⟩) hl1).trans hx0
    have s0 := (hk.cell (p := ⟨w.heap.size, 0, none⟩) hl0).trans r0
    have s1 := (hk.cell (p := ⟨w.heap.size, 1, none⟩) hl0).trans r1
    have s2 := (hk.cell (p := ⟨w.heap.size, 2, none⟩) hl0).trans r2
    have g0 := (hk.frozen (p := ⟨w.heap.size, 0, none⟩) hl0).trans f0
    have g1 := (hk.frozen (p := ⟨w.heap.size, 1, none⟩) hl0).trans f1
    have g2 := (hk.frozen (p := ⟨w.heap.size, 2, none⟩) hl0).trans f2
    have c6 := hasC_of s0
    have c7 := hasC_of s1
    have c8 := hasC_of s2
    have hkz := hk.size
    have i4 : InW w.heap.size wr := ⟨World.block_lt_of_cell? _ _ s0⟩
    have i5 : InW (w.heap.size + 1) wr := ⟨World.block_lt_of_cell? _ _ hx⟩
    clear hx0 r0 r1 r2 f0 f1 f2
    by_cases hlt : j < ss.length
    · obtain ⟨g2, o2, rfl, hg2, hc2⟩ := H.out wr hbw (by omega)
      have c1 := hc2 j hlt
      have hJ : (j : Int) < (ss.length : Int) := by omega
      have i2 : InW g2 wr := ⟨hg2⟩
      rcases he : (ss[j].toList == x.toList)
      · have hs := Lib.hid (skip.out j hlt hp he)
        generalize ss[j] = v at *
        clear hp hc2
        go_wp2_with fail
        (refine wp_region_G (by kernel_rfl) (by kernel_rfl) ?_; (repeat (go_big_quiet_step (fail))); refine wpQuiet_nil ?_; intro _ hw'; obtain ⟨pg, hw''⟩ := hw'; subst hw'')
        go_wp2
        go_roundw
        case rel => exact ⟨j + 1, by go_num, by omega, hs.out, by repeat' (first | (with_reducible exact Below.refl _ _) | (with_reducible assumption) | (with_reducible refine Below.alloc ?_ ?_ _) | (with_reducible refine Below.drew ?_) | (with_reducible refine belowN ?_ _) | (with_reducible refine Below.setCell ?_ ?_ _) | (with_reducible refine belowG ?_ ?_) | (with_reducible exact Nat.le_refl _) | (with_reducible refine le_sizeG ?_) | (with_reducible refine le_sizeA ?_) | (with_reducible refine le_sizeC ?_) | (with_reducible refine le_sizeD ?_) | (with_reducible refine le_sizeN ?_) | go_size | (simp [go_sem]; done))⟩
        case measure => simp [intOf]; omega
      · have hs := Lib.hid (hyes.out (hit.out j hlt he))
        generalize ss[j] = v at *
        clear hp hc2
        go_wp2_with fail
        (refine wp_region_G (by kernel_rfl) (by kernel_rfl) ?_; (repeat (go_big_quiet_step (fail))); refine wpQuiet_nil ?_; intro _ hw'; obtain ⟨pg, hw''⟩ := hw'; subst hw'')
        go_wp2
        go_returns
        exact ⟨by rw [hs.out], by repeat' (first | (with_reducible exact Below.refl _ _) | (with_reducible assumption) | (with_reducible refine Below.alloc ?_ ?_ _) | (with_reducible refine Below.drew ?_) | (with_reducible refine belowN ?_ _) | (with_reducible refine Below.setCell ?_ ?_ _) | (with_reducible refine belowG ?_ ?_) | (with_reducible exact Nat.le_refl _) | (with_reducible refine le_sizeG ?_) | (with_reducible refine le_sizeA ?_) | (with_reducible refine le_sizeC ?_) | (with_reducible refine le_sizeD ?_) | (with_reducible refine le_sizeN ?_) | go_size | (simp [go_sem]; done))⟩
    · have hge : ¬ (j : Int) < (ss.length : Int) := by omega
      have hs := Lib.hid (hno.out (by rw [List.take_of_length_le (by omega)] at hp; exact hp))
      clear hp
      go_wp2
      go_returns
      exact ⟨by rw [hs.out], by repeat' (first | (with_reducible exact Below.refl _ _) | (with_reducible assumption) | (with_reducible refine Below.alloc ?_ ?_ _) | (with_reducible refine Below.drew ?_) | (with_reducible refine belowN ?_ _) | (with_reducible refine Below.setCell ?_ ?_ _) | (with_reducible refine belowG ?_ ?_) | (with_reducible exact Nat.le_refl _) | (with_reducible refine le_sizeG ?_) | (with_reducible refine le_sizeA ?_) | (with_reducible refine le_sizeC ?_) | (with_reducible refine le_sizeD ?_) | (with_reducible refine le_sizeN ?_) | go_size | (simp [go_sem]; done))⟩
/-- What a call comes to, from w on. -/
def RevC (w : World) (vn sn a : Nat) (r : Rk) : Prop := ∀ wx, Below w.heap.size w wx → Calls Tryz.prog 11 #[.slice ao ns.length cap, .int .i64 (a : Int), .slice va vn vc, .slice sa sn sc] wx (Ret (rkV r) wx)
theorem rev_err (i : Nat) (n : Nd) (a : Nat) (r : Rk) (hi : i < ns.length) (hn : ns[i] = n) (h1 : 1 ≤ n.op) (h2 : n.op ≤ 15) (hl : n.l = (a : Int)) (hr : ErrA r) (vn sn : Nat) (w : World) (h : NdsAt w ao ns)
    (CA : RevC ao cap ns va vc sa sc w vn sn a r) :
    Calls Tryz.prog 11 #[.slice ao ns.length cap, .int .i64 (i : Int), .slice va vn vc, .slice sa sn sc] w (Ret (rkV r) w) := by
  unfold RevC at CA
  obtain ⟨hne, hre⟩ := hr
  rw [hre] at CA ⊢
  generalize r.e = e at *
  rw [err_w] at CA ⊢
  replace CA := Lib.hid CA
  obtain ⟨g, o, rfl, hg, hc⟩ := h (by omega)
  obtain ⟨n1, n2, n3, n4, n5, n6, n7⟩ := hc i hi
  rw [hn] at n1 n2 n3 n4 n5 n6 n7
  have i1 : InW g w := ⟨hg⟩
  have hI : (i : Int) < (ns.length : Int) := by omega
  obtain ⟨op, k0, nn, s, name, l, rr⟩ := n
  simp only at h1 h2 hl n1 n2 n3 n4 n5 n6 n7
  subst hl
  have o0 : (op == 0) = false := beq_eq_false_iff_ne.mpr (by omega)
  have o16 : (op == 16) = false := beq_eq_false_iff_ne.mpr (by omega)
  have o17 : (op == 17) = false := beq_eq_false_iff_ne.mpr (by omega)
  have e0 : (e == 0) = false := beq_eq_false_iff_ne.mpr hne
  have e1 : (e != 0) = true := by rw [bne, e0]; rfl
  clear hc hn h h1 h2 hre hne
  go_enter Tryz.func11, Tryz.ntmps11
  go_wp2_with ((with_reducible refine (CA.out _ (by repeat' (first | (with_reducible exact Below.refl _ _) | (with_reducible assumption) | (with_reducible refine Below.alloc ?_ ?_ _) | (with_reducible refine Below.drew ?_) | (with_reducible refine belowN ?_ _) | (with_reducible refine Below.setCell ?_ ?_ _) | (with_reducible refine belowG ?_ ?_) | (with_reducible exact Nat.le_refl _) | (with_reducible refine le_sizeG ?_) | (with_reducible refine le_sizeA ?_) | (with_reducible refine le_sizeC ?_) | (with_reducible refine le_sizeD ?_) | (with_reducible refine le_sizeN ?_) | go_size | (simp [go_sem]; done)))).mono ?_); intro e w1 hr; obtain ⟨rfl, p, rfl⟩ := hr.out; clear hr)
  go_returns
  exact ⟨rfl, by repeat' (first | (with_reducible exact Below.refl _ _) | (with_reducible assumption) | (with_reducible refine Below.alloc ?_ ?_ _) | (with_reducible refine Below.drew ?_) | (with_reducible refine belowN ?_ _) | (with_reducible refine Below.setCell ?_ ?_ _) | (with_reducible refine belowG ?_ ?_) | (with_reducible exact Nat.le_refl _) | (with_reducible refine le_sizeG ?_) | (with_reducible refine le_sizeA ?_) | (with_reducible refine le_sizeC ?_) | (with_reducible refine le_sizeD ?_) | (with_reducible refine le_sizeN ?_) | go_size | (simp [go_sem]; done))⟩
set_option maxRecDepth 100000 in
set_option maxHeartbeats 2000000 in
theorem rev_one (i : Nat) (n : Nd) (a : Nat) (r : Rk) (hi : i < ns.length) (hn : ns[i] = n) (h1 : 1 ≤ n.op) (h2 : n.op ≤ 2) (hl : n.l = (a : Int)) (hr : SoundV r) (vn sn : Nat) (w : World) (h : NdsAt w ao ns)
    (CA : RevC ao cap ns va vc sa sc w vn sn a r) :
    Calls Tryz.prog 11 #[.slice ao ns.length cap, .int .i64 (i : Int), .slice va vn vc, .slice sa sn sc] w (Ret (rkV (finR n.op r (errR 0))) w) := by
  unfold RevC at CA
  have hal : aloneB n.op = true := alone_of (by omega)
  rw [sound_w hr] at CA
  replace CA := Lib.hid CA
  have R := Lib.hid (fun wx => rresult_any n.op r.k 0 wx)
  have K := Lib.hid (fun (hb : resB n.op r.k 0 = true) wx => rreckon_any n.op r.k r.n r.s 0 0 ⟨#[]⟩ hr.2.1 (fun h => by rw [hal] at h; cases h) hr.2.2 i64_0 hb wx)
  obtain ⟨g, o, rfl, hg, hc⟩ := h (by omega)
  obtain ⟨n1, n2, n3, n4, n5, n6, n7⟩ := hc i hi
  rw [hn] at n1 n2 n3 n4 n5 n6 n7
  have i1 : InW g w := ⟨hg⟩
  have hI : (i : Int) < (ns.length : Int) := by omega
  rcases hb : resB n.op r.k 0
  · rw [fin_f (b := errR 0) hb, err_w]
    rw [(resK_zero _ _ _).2 hb] at R
    obtain ⟨op, k0, nn, s, name, l, rr⟩ := n
    simp only at h1 h2 hl n1 n2 n3 n4 n5 n6 n7 R
    subst hl
    obtain ⟨rk0, rn, rs, re⟩ := r
    simp only at CA R
    have o0 : (op == 0) = false := beq_eq_false_iff_ne.mpr (by omega)
    have o16 : (op == 16) = false := beq_eq_false_iff_ne.mpr (by omega)
    have o17 : (op == 17) = false := beq_eq_false_iff_ne.mpr (by omega)
    have o2 : ¬ (2 : Int) < op := by omega
    clear hc hn h h1 h2 hr hb hal K
    go_enter Tryz.func11, Tryz.ntmps11
    go_wp2_with (first | ((with_reducible refine (CA.out _ (by repeat' (first | (with_reducible exact Below.refl _ _) | (with_reducible assumption) | (with_reducible refine Below.alloc ?_ ?_ _) | (with_reducible refine Below.drew ?_) | (with_reducible refine belowN ?_ _) | (with_reducible refine Below.setCell ?_ ?_ _) | (with_reducible refine belowG ?_ ?_) | (with_reducible exact Nat.le_refl _) | (with_reducible refine le_sizeG ?_) | (with_reducible refine le_sizeA ?_) | (with_reducible refine le_sizeC ?_) | (with_reducible refine le_sizeD ?_) | (with_reducible refine le_sizeN ?_) | go_size | (simp [go_sem]; done)))).mono ?_); intro e w1 hr; obtain ⟨rfl, p, rfl⟩ := hr.out; clear hr) | ((with_reducible refine (R.out _).mono ?_); rintro e w1 ⟨rfl, rfl⟩))
    go_returns
    exact ⟨rfl, by repeat' (first | (with_reducible exact Below.refl _ _) | (with_reducible assumption) | (with_reducible refine Below.alloc ?_ ?_ _) | (with_reducible refine Below.drew ?_) | (with_reducible refine belowN ?_ _) | (with_reducible refine Below.setCell ?_ ?_ _) | (with_reducible refine belowG ?_ ?_) | (with_reducible exact Nat.le_refl _) | (with_reducible refine le_sizeG ?_) | (with_reducible refine le_sizeA ?_) | (with_reducible refine le_sizeC ?_) | (with_reducible refine le_sizeD ?_) | (with_reducible refine le_sizeN ?_) | go_size | (simp [go_sem]; done))⟩
  · rw [fin_t (b := errR 0) hb]
    have hz : (resK n.op r.k 0 == 0) = false := resK_ne hr.2.1 hb
    have K1 := fun wx => K.out hb wx
    show Calls _ _ _ _ (Ret (rkV (rk n.op r.k r.n r.s 0 ⟨#[]⟩)) w)
    generalize rk n.op r.k r.n r.s 0 ⟨#[]⟩ = q at *
    generalize resK n.op r.k 0 = kk at *
    rw [rkV_def] at K1 ⊢
    replace K1 := Lib.hid K1
    obtain ⟨op, k0, nn, s, name, l, rr⟩ := n
    simp only at h1 h2 hl n1 n2 n3 n4 n5 n6 n7 R K1
    subst hl
    obtain ⟨rk0, rn, rs, re⟩ := r
    simp only at CA R K1
    have o0 : (op == 0) = false := beq_eq_false_iff_ne.mpr (by omega)
    have o16 : (op == 16) = false := beq_eq_false_iff_ne.mpr (by omega)
    have o17 : (op == 17) = false := beq_eq_false_iff_ne.mpr (by omega)
    have o2 : ¬ (2 : Int) < op := by omega
    clear hc hn h h1 h2 hr hb hal K
    go_enter Tryz.func11, Tryz.ntmps11
    go_wp2_with (first | ((with_reducible refine (CA.out _ (by repeat' (first | (with_reducible exact Below.refl _ _) | (with_reducible assumption) | (with_reducible refine Below.alloc ?_ ?_ _) | (with_reducible refine Below.drew ?_) | (with_reducible refine belowN ?_ _) | (with_reducible refine Below.setCell ?_ ?_ _) | (with_reducible refine belowG ?_ ?_) | (with_reducible exact Nat.le_refl _) | (with_reducible refine le_sizeG ?_) | (with_reducible refine le_sizeA ?_) | (with_reducible refine le_sizeC ?_) | (with_reducible refine le_sizeD ?_) | (with_reducible refine le_sizeN ?_) | go_size | (simp [go_sem]; done)))).mono ?_); intro e w1 hr; obtain ⟨rfl, p, rfl⟩ := hr.out; clear hr) | ((with_reducible refine (R.out _).mono ?_); rintro e w1 ⟨rfl, rfl⟩) | ((with_reducible refine (K1.out _).mono ?_); intro e w1 hr; obtain ⟨rfl, p, rfl⟩ := hr.out; clear hr))
    go_returns
    exact ⟨rfl, by repeat' (first | (with_reducible exact Below.refl _ _) | (with_reducible assumption) | (with_reducible refine Below.alloc ?_ ?_ _) | (with_reducible refine Below.drew ?_) | (with_reducible refine belowN ?_ _) | (with_reducible refine Below.setCell ?_ ?_ _) | (with_reducible refine belowG ?_ ?_) | (with_reducible exact Nat.le_refl _) | (with_reducible refine le_sizeG ?_) | (with_reducible refine le_sizeA ?_) | (with_reducible refine le_sizeC ?_) | (with_reducible refine le_sizeD ?_) | (with_reducible refine le_sizeN ?_) | go_size | (simp [go_sem]; done))⟩
set_option maxRecDepth 100000 in
set_option maxHeartbeats 2000000 in
theorem rev_stop (i : Nat) (n : Nd) (a : Nat) (r : Rk) (hi : i < ns.length) (hn : ns[i] = n) (h1 : 3 ≤ n.op) (h2 : n.op ≤ 15) (hl : n.l = (a : Int)) (hr : SoundV r) (hs : stopB n.op r = true) (vn sn : Nat) (w : World) (h : NdsAt w ao ns)
    (CA : RevC ao cap ns va vc sa sc w vn sn a r) :
    Calls Tryz.prog 11 #[.slice ao ns.length cap, .int .i64 (i : Int), .slice va vn vc, .slice sa sn sc] w (Ret (rkV r) w) := by
  unfold RevC at CA
  have hy := stop_yes hr hs
  obtain ⟨g, o, rfl, hg, hc⟩ := h (by omega)
  obtain ⟨n1, n2, n3, n4, n5, n6, n7⟩ := hc i hi
  rw [hn] at n1 n2 n3 n4 n5 n6 n7
  have i1 : InW g w := ⟨hg⟩
  have hI : (i : Int) < (ns.length : Int) := by omega
  obtain ⟨op, k0, nn, s, name, l, rr⟩ := n
  simp only at h1 h2 hl n1 n2 n3 n4 n5 n6 n7 hy
  subst hl
  clear hs hr hc hn h h1 h2
  rcases hy with ⟨rfl, rfl⟩ | ⟨rfl, rfl⟩
  all_goals
    rw [rkV_def] at CA ⊢
    replace CA := Lib.hid CA
    go_enter Tryz.func11, Tryz.ntmps11
    go_wp2_with ((with_reducible refine (CA.out _ (by repeat' (first | (with_reducible exact Below.refl _ _) | (with_reducible assumption) | (with_reducible refine Below.alloc ?_ ?_ _) | (with_reducible refine Below.drew ?_) | (with_reducible refine belowN ?_ _) | (with_reducible refine Below.setCell ?_ ?_ _) | (with_reducible refine belowG ?_ ?_) | (with_reducible exact Nat.le_refl _) | (with_reducible refine le_sizeG ?_) | (with_reducible refine le_sizeA ?_) | (with_reducible refine le_sizeC ?_) | (with_reducible refine le_sizeD ?_) | (with_reducible refine le_sizeN ?_) | go_size | (simp [go_sem]; done)))).mono ?_); intro e w1 hr; obtain ⟨rfl, p, rfl⟩ := hr.out; clear hr)
    go_returns
    exact ⟨rfl, by repeat' (first | (with_reducible exact Below.refl _ _) | (with_reducible assumption) | (with_reducible refine Below.alloc ?_ ?_ _) | (with_reducible refine Below.drew ?_) | (with_reducible refine belowN ?_ _) | (with_reducible refine Below.setCell ?_ ?_ _) | (with_reducible refine belowG ?_ ?_) | (with_reducible exact Nat.le_refl _) | (with_reducible refine le_sizeG ?_) | (with_reducible refine le_sizeA ?_) | (with_reducible refine le_sizeC ?_) | (with_reducible refine le_sizeD ?_) | (with_reducible refine le_sizeN ?_) | go_size | (simp [go_sem]; done))⟩
set_option maxRecDepth 100000 in
set_option maxHeartbeats 4000000 in
theorem rev_two_err (i : Nat) (n : Nd) (a b : Nat) (r q : Rk) (hi : i < ns.length) (hn : ns[i] = n) (h1 : 3 ≤ n.op) (h2 : n.op ≤ 15) (hl : n.l = (a : Int)) (hrr : n.r = (b : Int)) (hr : SoundV r) (hs : stopB n.op r = false) (hq : ErrA q) (vn sn : Nat) (w : World) (h : NdsAt w ao ns)
    (CA : RevC ao cap ns va vc sa sc w vn sn a r) (CB : RevC ao cap ns va vc sa sc w vn sn b q) :
    Calls Tryz.prog 11 #[.slice ao ns.length cap, .int .i64 (i : Int), .slice va vn vc, .slice sa sn sc] w (Ret (rkV q) w) := by
  unfold RevC at CA CB
  have hy := stop_no hr hs
  rw [sound_w hr] at CA
  obtain ⟨hne, hre⟩ := hq
  rw [hre] at CB ⊢
  generalize q.e = e at *
  rw [err_w] at CB ⊢
  replace CB := Lib.hid CB
  obtain ⟨g, o, rfl, hg, hc⟩ := h (by omega)
  obtain ⟨n1, n2, n3, n4, n5, n6, n7⟩ := hc i hi
  rw [hn] at n1 n2 n3 n4 n5 n6 n7
  have i1 : InW g w := ⟨hg⟩
  have hI : (i : Int) < (ns.length : Int) := by omega
  obtain ⟨op, k0, nn, s, name, l, rr⟩ := n
  obtain ⟨rk0, rn, rs, re⟩ := r
  simp only at h1 h2 hl hrr n1 n2 n3 n4 n5 n6 n7 hy CA
  subst hl hrr
  have e0 : (e == 0) = false := beq_eq_false_iff_ne.mpr hne
  have e1 : (e != 0) = true := by rw [bne, e0]; rfl
  have o0 : (op == 0) = false := beq_eq_false_iff_ne.mpr (by omega)
  have o16 : (op == 16) = false := beq_eq_false_iff_ne.mpr (by omega)
  have o17 : (op == 17) = false := beq_eq_false_iff_ne.mpr (by omega)
  have o2 : (2 : Int) < op := by omega
  clear hs hr hc hn h h1 h2 hre hne
  rcases hy with ⟨p1, p2⟩ | ⟨rfl | rfl, p2⟩ | ⟨rfl, rfl, rfl, rfl⟩ | ⟨rfl, rfl, rfl, rfl⟩
  · replace CA := Lib.hid CA
    have q1 : (op == 14) = false := beq_eq_false_iff_ne.mpr p1
    have q2 : (op == 15) = false := beq_eq_false_iff_ne.mpr p2
    clear p1 p2
    go_enter Tryz.func11, Tryz.ntmps11
    go_wp2_with (first | ((with_reducible refine (CA.out _ (by repeat' (first | (with_reducible exact Below.refl _ _) | (with_reducible assumption) | (with_reducible refine Below.alloc ?_ ?_ _) | (with_reducible refine Below.drew ?_) | (with_reducible refine belowN ?_ _) | (with_reducible refine Below.setCell ?_ ?_ _) | (with_reducible refine belowG ?_ ?_) | (with_reducible exact Nat.le_refl _) | (with_reducible refine le_sizeG ?_) | (with_reducible refine le_sizeA ?_) | (with_reducible refine le_sizeC ?_) | (with_reducible refine le_sizeD ?_) | (with_reducible refine le_sizeN ?_) | go_size | (simp [go_sem]; done)))).mono ?_); intro e w1 hr; obtain ⟨rfl, p, rfl⟩ := hr.out; clear hr) | ((with_reducible refine (CB.out _ (by repeat' (first | (with_reducible exact Below.refl _ _) | (with_reducible assumption) | (with_reducible refine Below.alloc ?_ ?_ _) | (with_reducible refine Below.drew ?_) | (with_reducible refine belowN ?_ _) | (with_reducible refine Below.setCell ?_ ?_ _) | (with_reducible refine belowG ?_ ?_) | (with_reducible exact Nat.le_refl _) | (with_reducible refine le_sizeG ?_) | (with_reducible refine le_sizeA ?_) | (with_reducible refine le_sizeC ?_) | (with_reducible refine le_sizeD ?_) | (with_reducible refine le_sizeN ?_) | go_size | (simp [go_sem]; done)))).mono ?_); intro e w1 hr; obtain ⟨rfl, p, rfl⟩ := hr.out; clear hr))
    go_returns
    exact ⟨rfl, by repeat' (first | (with_reducible exact Below.refl _ _) | (with_reducible assumption) | (with_reducible refine Below.alloc ?_ ?_ _) | (with_reducible refine Below.drew ?_) | (with_reducible refine belowN ?_ _) | (with_reducible refine Below.setCell ?_ ?_ _) | (with_reducible refine belowG ?_ ?_) | (with_reducible exact Nat.le_refl _) | (with_reducible refine le_sizeG ?_) | (with_reducible refine le_sizeA ?_) | (with_reducible refine le_sizeC ?_) | (with_reducible refine le_sizeD ?_) | (with_reducible refine le_sizeN ?_) | go_size | (simp [go_sem]; done))⟩
  · replace CA := Lib.hid CA
    have q2 : (rk0 == 2) = false := beq_eq_false_iff_ne.mpr p2
    clear p2
    go_enter Tryz.func11, Tryz.ntmps11
    go_wp2_with (first | ((with_reducible refine (CA.out _ (by repeat' (first | (with_reducible exact Below.refl _ _) | (with_reducible assumption) | (with_reducible refine Below.alloc ?_ ?_ _) | (with_reducible refine Below.drew ?_) | (with_reducible refine belowN ?_ _) | (with_reducible refine Below.setCell ?_ ?_ _) | (with_reducible refine belowG ?_ ?_) | (with_reducible exact Nat.le_refl _) | (with_reducible refine le_sizeG ?_) | (with_reducible refine le_sizeA ?_) | (with_reducible refine le_sizeC ?_) | (with_reducible refine le_sizeD ?_) | (with_reducible refine le_sizeN ?_) | go_size | (simp [go_sem]; done)))).mono ?_); intro e w1 hr; obtain ⟨rfl, p, rfl⟩ := hr.out; clear hr) | ((with_reducible refine (CB.out _ (by repeat' (first | (with_reducible exact Below.refl _ _) | (with_reducible assumption) | (with_reducible refine Below.alloc ?_ ?_ _) | (with_reducible refine Below.drew ?_) | (with_reducible refine belowN ?_ _) | (with_reducible refine Below.setCell ?_ ?_ _) | (with_reducible refine belowG ?_ ?_) | (with_reducible exact Nat.le_refl _) | (with_reducible refine le_sizeG ?_) | (with_reducible refine le_sizeA ?_) | (with_reducible refine le_sizeC ?_) | (with_reducible refine le_sizeD ?_) | (with_reducible refine le_sizeN ?_) | go_size | (simp [go_sem]; done)))).mono ?_); intro e w1 hr; obtain ⟨rfl, p, rfl⟩ := hr.out; clear hr))
    go_returns
    exact ⟨rfl, by repeat' (first | (with_reducible exact Below.refl _ _) | (with_reducible assumption) | (with_reducible refine Below.alloc ?_ ?_ _) | (with_reducible refine Below.drew ?_) | (with_reducible refine belowN ?_ _) | (with_reducible refine Below.setCell ?_ ?_ _) | (with_reducible refine belowG ?_ ?_) | (with_reducible exact Nat.le_refl _) | (with_reducible refine le_sizeG ?_) | (with_reducible refine le_sizeA ?_) | (with_reducible refine le_sizeC ?_) | (with_reducible refine le_sizeD ?_) | (with_reducible refine le_sizeN ?_) | go_size | (simp [go_sem]; done))⟩
  · replace CA := Lib.hid CA
    have q2 : (rk0 == 2) = false := beq_eq_false_iff_ne.mpr p2
    clear p2
    go_enter Tryz.func11, Tryz.ntmps11
    go_wp2_with (first | ((with_reducible refine (CA.out _ (by repeat' (first | (with_reducible exact Below.refl _ _) | (with_reducible assumption) | (with_reducible refine Below.alloc ?_ ?_ _) | (with_reducible refine Below.drew ?_) | (with_reducible refine belowN ?_ _) | (with_reducible refine Below.setCell ?_ ?_ _) | (with_reducible refine belowG ?_ ?_) | (with_reducible exact Nat.le_refl _) | (with_reducible refine le_sizeG ?_) | (with_reducible refine le_sizeA ?_) | (with_reducible refine le_sizeC ?_) | (with_reducible refine le_sizeD ?_) | (with_reducible refine le_sizeN ?_) | go_size | (simp [go_sem]; done)))).mono ?_); intro e w1 hr; obtain ⟨rfl, p, rfl⟩ := hr.out; clear hr) | ((with_reducible refine (CB.out _ (by repeat' (first | (with_reducible exact Below.refl _ _) | (with_reducible assumption) | (with_reducible refine Below.alloc ?_ ?_ _) | (with_reducible refine Below.drew ?_) | (with_reducible refine belowN ?_ _) | (with_reducible refine Below.setCell ?_ ?_ _) | (with_reducible refine belowG ?_ ?_) | (with_reducible exact Nat.le_refl _) | (with_reducible refine le_sizeG ?_) | (with_reducible refine le_sizeA ?_) | (with_reducible refine le_sizeC ?_) | (with_reducible refine le_sizeD ?_) | (with_reducible refine le_sizeN ?_) | go_size | (simp [go_sem]; done)))).mono ?_); intro e w1 hr; obtain ⟨rfl, p, rfl⟩ := hr.out; clear hr))
    go_returns
    exact ⟨rfl, by repeat' (first | (with_reducible exact Below.refl _ _) | (with_reducible assumption) | (with_reducible refine Below.alloc ?_ ?_ _) | (with_reducible refine Below.drew ?_) | (with_reducible refine belowN ?_ _) | (with_reducible refine Below.setCell ?_ ?_ _) | (with_reducible refine belowG ?_ ?_) | (with_reducible exact Nat.le_refl _) | (with_reducible refine le_sizeG ?_) | (with_reducible refine le_sizeA ?_) | (with_reducible refine le_sizeC ?_) | (with_reducible refine le_sizeD ?_) | (with_reducible refine le_sizeN ?_) | go_size | (simp [go_sem]; done))⟩
  all_goals
    replace CA := Lib.hid CA
    go_enter Tryz.func11, Tryz.ntmps11
    go_wp2_with (first | ((with_reducible refine (CA.out _ (by repeat' (first | (with_reducible exact Below.refl _ _) | (with_reducible assumption) | (with_reducible refine Below.alloc ?_ ?_ _) | (with_reducible refine Below.drew ?_) | (with_reducible refine belowN ?_ _) | (with_reducible refine Below.setCell ?_ ?_ _) | (with_reducible refine belowG ?_ ?_) | (with_reducible exact Nat.le_refl _) | (with_reducible refine le_sizeG ?_) | (with_reducible refine le_sizeA ?_) | (with_reducible refine le_sizeC ?_) | (with_reducible refine le_sizeD ?_) | (with_reducible refine le_sizeN ?_) | go_size | (simp [go_sem]; done)))).mono ?_); intro e w1 hr; obtain ⟨rfl, p, rfl⟩ := hr.out; clear hr) | ((with_reducible refine (CB.out _ (by repeat' (first | (with_reducible exact Below.refl _ _) | (with_reducible assumption) | (with_reducible refine Below.alloc ?_ ?_ _) | (with_reducible refine Below.drew ?_) | (with_reducible refine belowN ?_ _) | (with_reducible refine Below.setCell ?_ ?_ _) | (with_reducible refine belowG ?_ ?_) | (with_reducible exact Nat.le_refl _) | (with_reducible refine le_sizeG ?_) | (with_reducible refine le_sizeA ?_) | (with_reducible refine le_sizeC ?_) | (with_reducible refine le_sizeD ?_) | (with_reducible refine le_sizeN ?_) | go_size | (simp [go_sem]; done)))).mono ?_); intro e w1 hr; obtain ⟨rfl, p, rfl⟩ := hr.out; clear hr))
    go_returns
    exact ⟨rfl, by repeat' (first | (with_reducible exact Below.refl _ _) | (with_reducible assumption) | (with_reducible refine Below.alloc ?_ ?_ _) | (with_reducible refine Below.drew ?_) | (with_reducible refine belowN ?_ _) | (with_reducible refine Below.setCell ?_ ?_ _) | (with_reducible refine belowG ?_ ?_) | (with_reducible exact Nat.le_refl _) | (with_reducible refine le_sizeG ?_) | (with_reducible refine le_sizeA ?_) | (with_reducible refine le_sizeC ?_) | (with_reducible refine le_sizeD ?_) | (with_reducible refine le_sizeN ?_) | go_size | (simp [go_sem]; done))⟩
set_option maxRecDepth 100000 in
set_option maxHeartbeats 8000000 in
/-- Of two, neither enough nor refused: the ways. -/
theorem rev_two_gen (i : Nat) (n : Nd) (a b : Nat) (r q : Rk) (z : Rk) (kk : Int) (hi : i < ns.length) (hn : ns[i] = n) (h1 : 3 ≤ n.op) (h2 : n.op ≤ 15) (hl : n.l = (a : Int)) (hrr : n.r = (b : Int)) (hr : SoundV r) (hs : stopB n.op r = false) (hq : SoundV q) (vn sn : Nat) (w : World) (h : NdsAt w ao ns)
    (R : ∀ wx, Calls Tryz.prog 23 #[.int .i64 n.op, .int .i64 r.k, .int .i64 q.k] wx (RetW (.int .i64 kk) wx)) (hz : (kk = 0 ∧ z = errR 20) ∨ (kk ≠ 0 ∧ ∀ wx, Calls Tryz.prog 24 #[.int .i64 n.op, .agg #[.int .i64 r.k, .int .i64 r.n, .string r.s], .agg #[.int .i64 q.k, .int .i64 q.n, .string q.s]] wx (Ret (rkV z) wx)))
    (CA : RevC ao cap ns va vc sa sc w vn sn a r) (CB : RevC ao cap ns va vc sa sc w vn sn b q) :
    Calls Tryz.prog 11 #[.slice ao ns.length cap, .int .i64 (i : Int), .slice va vn vc, .slice sa sn sc] w (Ret (rkV z) w) := by
  unfold RevC at CA CB
  have hy := stop_no hr hs
  rw [sound_w hr] at CA
  rw [sound_w hq] at CB
  replace CB := Lib.hid CB
  replace R := Lib.hid R
  obtain ⟨g, o, rfl, hg, hc⟩ := h (by omega)
  obtain ⟨n1, n2, n3, n4, n5, n6, n7⟩ := hc i hi
  rw [hn] at n1 n2 n3 n4 n5 n6 n7
  have i1 : InW g w := ⟨hg⟩
  have hI : (i : Int) < (ns.length : Int) := by omega
  obtain ⟨op, k0, nn, s, name, l, rr⟩ := n
  obtain ⟨rk0, rn, rs, re⟩ := r
  obtain ⟨qk, qn, qs, qe⟩ := q
  simp only at h1 h2 hl hrr n1 n2 n3 n4 n5 n6 n7 hy CA CB R hz
  subst hl hrr
  have o0 : (op == 0) = false := beq_eq_false_iff_ne.mpr (by omega)
  have o16 : (op == 16) = false := beq_eq_false_iff_ne.mpr (by omega)
  have o17 : (op == 17) = false := beq_eq_false_iff_ne.mpr (by omega)
  have o2 : (2 : Int) < op := by omega
  clear hs hr hq hc hn h h1 h2
  rcases hz with ⟨rfl, rfl⟩ | ⟨hk, K⟩
  · rw [err_w]
    rcases hy with ⟨p1, p2⟩ | ⟨rfl | rfl, p2⟩ | ⟨rfl, rfl, rfl, rfl⟩ | ⟨rfl, rfl, rfl, rfl⟩
    · replace CA := Lib.hid CA
      have q1 : (op == 14) = false := beq_eq_false_iff_ne.mpr p1
      have q2 : (op == 15) = false := beq_eq_false_iff_ne.mpr p2
      clear p1 p2
      go_enter Tryz.func11, Tryz.ntmps11
      go_wp2_with (first | ((with_reducible refine (CA.out _ (by repeat' (first | (with_reducible exact Below.refl _ _) | (with_reducible assumption) | (with_reducible refine Below.alloc ?_ ?_ _) | (with_reducible refine Below.drew ?_) | (with_reducible refine belowN ?_ _) | (with_reducible refine Below.setCell ?_ ?_ _) | (with_reducible refine belowG ?_ ?_) | (with_reducible exact Nat.le_refl _) | (with_reducible refine le_sizeG ?_) | (with_reducible refine le_sizeA ?_) | (with_reducible refine le_sizeC ?_) | (with_reducible refine le_sizeD ?_) | (with_reducible refine le_sizeN ?_) | go_size | (simp [go_sem]; done)))).mono ?_); intro e w1 hr; obtain ⟨rfl, p, rfl⟩ := hr.out; clear hr) | ((with_reducible refine (CB.out _ (by repeat' (first | (with_reducible exact Below.refl _ _) | (with_reducible assumption) | (with_reducible refine Below.alloc ?_ ?_ _) | (with_reducible refine Below.drew ?_) | (with_reducible refine belowN ?_ _) | (with_reducible refine Below.setCell ?_ ?_ _) | (with_reducible refine belowG ?_ ?_) | (with_reducible exact Nat.le_refl _) | (with_reducible refine le_sizeG ?_) | (with_reducible refine le_sizeA ?_) | (with_reducible refine le_sizeC ?_) | (with_reducible refine le_sizeD ?_) | (with_reducible refine le_sizeN ?_) | go_size | (simp [go_sem]; done)))).mono ?_); intro e w1 hr; obtain ⟨rfl, p, rfl⟩ := hr.out; clear hr) | ((with_reducible refine (R.out _).mono ?_); rintro e w1 ⟨rfl, rfl⟩))
      go_returns
      exact ⟨rfl, by repeat' (first | (with_reducible exact Below.refl _ _) | (with_reducible assumption) | (with_reducible refine Below.alloc ?_ ?_ _) | (with_reducible refine Below.drew ?_) | (with_reducible refine belowN ?_ _) | (with_reducible refine Below.setCell ?_ ?_ _) | (with_reducible refine belowG ?_ ?_) | (with_reducible exact Nat.le_refl _) | (with_reducible refine le_sizeG ?_) | (with_reducible refine le_sizeA ?_) | (with_reducible refine le_sizeC ?_) | (with_reducible refine le_sizeD ?_) | (with_reducible refine le_sizeN ?_) | go_size | (simp [go_sem]; done))⟩
    · replace CA := Lib.hid CA
      have q2 : (rk0 == 2) = false := beq_eq_false_iff_ne.mpr p2
      clear p2
      go_enter Tryz.func11, Tryz.ntmps11
      go_wp2_with (first | ((with_reducible refine (CA.out _ (by repeat' (first | (with_reducible exact Below.refl _ _) | (with_reducible assumption) | (with_reducible refine Below.alloc ?_ ?_ _) | (with_reducible refine Below.drew ?_) | (with_reducible refine belowN ?_ _) | (with_reducible refine Below.setCell ?_ ?_ _) | (with_reducible refine belowG ?_ ?_) | (with_reducible exact Nat.le_refl _) | (with_reducible refine le_sizeG ?_) | (with_reducible refine le_sizeA ?_) | (with_reducible refine le_sizeC ?_) | (with_reducible refine le_sizeD ?_) | (with_reducible refine le_sizeN ?_) | go_size | (simp [go_sem]; done)))).mono ?_); intro e w1 hr; obtain ⟨rfl, p, rfl⟩ := hr.out; clear hr) | ((with_reducible refine (CB.out _ (by repeat' (first | (with_reducible exact Below.refl _ _) | (with_reducible assumption) | (with_reducible refine Below.alloc ?_ ?_ _) | (with_reducible refine Below.drew ?_) | (with_reducible refine belowN ?_ _) | (with_reducible refine Below.setCell ?_ ?_ _) | (with_reducible refine belowG ?_ ?_) | (with_reducible exact Nat.le_refl _) | (with_reducible refine le_sizeG ?_) | (with_reducible refine le_sizeA ?_) | (with_reducible refine le_sizeC ?_) | (with_reducible refine le_sizeD ?_) | (with_reducible refine le_sizeN ?_) | go_size | (simp [go_sem]; done)))).mono ?_); intro e w1 hr; obtain ⟨rfl, p, rfl⟩ := hr.out; clear hr) | ((with_reducible refine (R.out _).mono ?_); rintro e w1 ⟨rfl, rfl⟩))
      go_returns
      exact ⟨rfl, by repeat' (first | (with_reducible exact Below.refl _ _) | (with_reducible assumption) | (with_reducible refine Below.alloc ?_ ?_ _) | (with_reducible refine Below.drew ?_) | (with_reducible refine belowN ?_ _) | (with_reducible refine Below.setCell ?_ ?_ _) | (with_reducible refine belowG ?_ ?_) | (with_reducible exact Nat.le_refl _) | (with_reducible refine le_sizeG ?_) | (with_reducible refine le_sizeA ?_) | (with_reducible refine le_sizeC ?_) | (with_reducible refine le_sizeD ?_) | (with_reducible refine le_sizeN ?_) | go_size | (simp [go_sem]; done))⟩
    · replace CA := Lib.hid CA
      have q2 : (rk0 == 2) = false := beq_eq_false_iff_ne.mpr p2
      clear p2
      go_enter Tryz.func11, Tryz.ntmps11
      go_wp2_with (first | ((with_reducible refine (CA.out _ (by repeat' (first | (with_reducible exact Below.refl _ _) | (with_reducible assumption) | (with_reducible refine Below.alloc ?_ ?_ _) | (with_reducible refine Below.drew ?_) | (with_reducible refine belowN ?_ _) | (with_reducible refine Below.setCell ?_ ?_ _) | (with_reducible refine belowG ?_ ?_) | (with_reducible exact Nat.le_refl _) | (with_reducible refine le_sizeG ?_) | (with_reducible refine le_sizeA ?_) | (with_reducible refine le_sizeC ?_) | (with_reducible refine le_sizeD ?_) | (with_reducible refine le_sizeN ?_) | go_size | (simp [go_sem]; done)))).mono ?_); intro e w1 hr; obtain ⟨rfl, p, rfl⟩ := hr.out; clear hr) | ((with_reducible refine (CB.out _ (by repeat' (first | (with_reducible exact Below.refl _ _) | (with_reducible assumption) | (with_reducible refine Below.alloc ?_ ?_ _) | (with_reducible refine Below.drew ?_) | (with_reducible refine belowN ?_ _) | (with_reducible refine Below.setCell ?_ ?_ _) | (with_reducible refine belowG ?_ ?_) | (with_reducible exact Nat.le_refl _) | (with_reducible refine le_sizeG ?_) | (with_reducible refine le_sizeA ?_) | (with_reducible refine le_sizeC ?_) | (with_reducible refine le_sizeD ?_) | (with_reducible refine le_sizeN ?_) | go_size | (simp [go_sem]; done)))).mono ?_); intro e w1 hr; obtain ⟨rfl, p, rfl⟩ := hr.out; clear hr) | ((with_reducible refine (R.out _).mono ?_); rintro e w1 ⟨rfl, rfl⟩))
      go_returns
      exact ⟨rfl, by repeat' (first | (with_reducible exact Below.refl _ _) | (with_reducible assumption) | (with_reducible refine Below.alloc ?_ ?_ _) | (with_reducible refine Below.drew ?_) | (with_reducible refine belowN ?_ _) | (with_reducible refine Below.setCell ?_ ?_ _) | (with_reducible refine belowG ?_ ?_) | (with_reducible exact Nat.le_refl _) | (with_reducible refine le_sizeG ?_) | (with_reducible refine le_sizeA ?_) | (with_reducible refine le_sizeC ?_) | (with_reducible refine le_sizeD ?_) | (with_reducible refine le_sizeN ?_) | go_size | (simp [go_sem]; done))⟩
    all_goals
      replace CA := Lib.hid CA
      go_enter Tryz.func11, Tryz.ntmps11
      go_wp2_with (first | ((with_reducible refine (CA.out _ (by repeat' (first | (with_reducible exact Below.refl _ _) | (with_reducible assumption) | (with_reducible refine Below.alloc ?_ ?_ _) | (with_reducible refine Below.drew ?_) | (with_reducible refine belowN ?_ _) | (with_reducible refine Below.setCell ?_ ?_ _) | (with_reducible refine belowG ?_ ?_) | (with_reducible exact Nat.le_refl _) | (with_reducible refine le_sizeG ?_) | (with_reducible refine le_sizeA ?_) | (with_reducible refine le_sizeC ?_) | (with_reducible refine le_sizeD ?_) | (with_reducible refine le_sizeN ?_) | go_size | (simp [go_sem]; done)))).mono ?_); intro e w1 hr; obtain ⟨rfl, p, rfl⟩ := hr.out; clear hr) | ((with_reducible refine (CB.out _ (by repeat' (first | (with_reducible exact Below.refl _ _) | (with_reducible assumption) | (with_reducible refine Below.alloc ?_ ?_ _) | (with_reducible refine Below.drew ?_) | (with_reducible refine belowN ?_ _) | (with_reducible refine Below.setCell ?_ ?_ _) | (with_reducible refine belowG ?_ ?_) | (with_reducible exact Nat.le_refl _) | (with_reducible refine le_sizeG ?_) | (with_reducible refine le_sizeA ?_) | (with_reducible refine le_sizeC ?_) | (with_reducible refine le_sizeD ?_) | (with_reducible refine le_sizeN ?_) | go_size | (simp [go_sem]; done)))).mono ?_); intro e w1 hr; obtain ⟨rfl, p, rfl⟩ := hr.out; clear hr) | ((with_reducible refine (R.out _).mono ?_); rintro e w1 ⟨rfl, rfl⟩))
      go_returns
      exact ⟨rfl, by repeat' (first | (with_reducible exact Below.refl _ _) | (with_reducible assumption) | (with_reducible refine Below.alloc ?_ ?_ _) | (with_reducible refine Below.drew ?_) | (with_reducible refine belowN ?_ _) | (with_reducible refine Below.setCell ?_ ?_ _) | (with_reducible refine belowG ?_ ?_) | (with_reducible exact Nat.le_refl _) | (with_reducible refine le_sizeG ?_) | (with_reducible refine le_sizeA ?_) | (with_reducible refine le_sizeC ?_) | (with_reducible refine le_sizeD ?_) | (with_reducible refine le_sizeN ?_) | go_size | (simp [go_sem]; done))⟩
  · have hk0 : (kk == 0) = false := beq_eq_false_iff_ne.mpr hk
    rw [rkV_def] at K ⊢
    replace K := Lib.hid K
    clear hk
    rcases hy with ⟨p1, p2⟩ | ⟨rfl | rfl, p2⟩ | ⟨rfl, rfl, rfl, rfl⟩ | ⟨rfl, rfl, rfl, rfl⟩
    · replace CA := Lib.hid CA
      have q1 : (op == 14) = false := beq_eq_false_iff_ne.mpr p1
      have q2 : (op == 15) = false := beq_eq_false_iff_ne.mpr p2
      clear p1 p2
      go_enter Tryz.func11, Tryz.ntmps11
      go_wp2_with (first | ((with_reducible refine (CA.out _ (by repeat' (first | (with_reducible exact Below.refl _ _) | (with_reducible assumption) | (with_reducible refine Below.alloc ?_ ?_ _) | (with_reducible refine Below.drew ?_) | (with_reducible refine belowN ?_ _) | (with_reducible refine Below.setCell ?_ ?_ _) | (with_reducible refine belowG ?_ ?_) | (with_reducible exact Nat.le_refl _) | (with_reducible refine le_sizeG ?_) | (with_reducible refine le_sizeA ?_) | (with_reducible refine le_sizeC ?_) | (with_reducible refine le_sizeD ?_) | (with_reducible refine le_sizeN ?_) | go_size | (simp [go_sem]; done)))).mono ?_); intro e w1 hr; obtain ⟨rfl, p, rfl⟩ := hr.out; clear hr) | ((with_reducible refine (CB.out _ (by repeat' (first | (with_reducible exact Below.refl _ _) | (with_reducible assumption) | (with_reducible refine Below.alloc ?_ ?_ _) | (with_reducible refine Below.drew ?_) | (with_reducible refine belowN ?_ _) | (with_reducible refine Below.setCell ?_ ?_ _) | (with_reducible refine belowG ?_ ?_) | (with_reducible exact Nat.le_refl _) | (with_reducible refine le_sizeG ?_) | (with_reducible refine le_sizeA ?_) | (with_reducible refine le_sizeC ?_) | (with_reducible refine le_sizeD ?_) | (with_reducible refine le_sizeN ?_) | go_size | (simp [go_sem]; done)))).mono ?_); intro e w1 hr; obtain ⟨rfl, p, rfl⟩ := hr.out; clear hr) | ((with_reducible refine (R.out _).mono ?_); rintro e w1 ⟨rfl, rfl⟩) | ((with_reducible refine (K.out _).mono ?_); intro e w1 hr; obtain ⟨rfl, p, rfl⟩ := hr.out; clear hr))
      go_returns
      exact ⟨rfl, by repeat' (first | (with_reducible exact Below.refl _ _) | (with_reducible assumption) | (with_reducible refine Below.alloc ?_ ?_ _) | (with_reducible refine Below.drew ?_) | (with_reducible refine belowN ?_ _) | (with_reducible refine Below.setCell ?_ ?_ _) | (with_reducible refine belowG ?_ ?_) | (with_reducible exact Nat.le_refl _) | (with_reducible refine le_sizeG ?_) | (with_reducible refine le_sizeA ?_) | (with_reducible refine le_sizeC ?_) | (with_reducible refine le_sizeD ?_) | (with_reducible refine le_sizeN ?_) | go_size | (simp [go_sem]; done))⟩
    · replace CA := Lib.hid CA
      have q2 : (rk0 == 2) = false := beq_eq_false_iff_ne.mpr p2
      clear p2
      go_enter Tryz.func11, Tryz.ntmps11
      go_wp2_with (first | ((with_reducible refine (CA.out _ (by repeat' (first | (with_reducible exact Below.refl _ _) | (with_reducible assumption) | (with_reducible refine Below.alloc ?_ ?_ _) | (with_reducible refine Below.drew ?_) | (with_reducible refine belowN ?_ _) | (with_reducible refine Below.setCell ?_ ?_ _) | (with_reducible refine belowG ?_ ?_) | (with_reducible exact Nat.le_refl _) | (with_reducible refine le_sizeG ?_) | (with_reducible refine le_sizeA ?_) | (with_reducible refine le_sizeC ?_) | (with_reducible refine le_sizeD ?_) | (with_reducible refine le_sizeN ?_) | go_size | (simp [go_sem]; done)))).mono ?_); intro e w1 hr; obtain ⟨rfl, p, rfl⟩ := hr.out; clear hr) | ((with_reducible refine (CB.out _ (by repeat' (first | (with_reducible exact Below.refl _ _) | (with_reducible assumption) | (with_reducible refine Below.alloc ?_ ?_ _) | (with_reducible refine Below.drew ?_) | (with_reducible refine belowN ?_ _) | (with_reducible refine Below.setCell ?_ ?_ _) | (with_reducible refine belowG ?_ ?_) | (with_reducible exact Nat.le_refl _) | (with_reducible refine le_sizeG ?_) | (with_reducible refine le_sizeA ?_) | (with_reducible refine le_sizeC ?_) | (with_reducible refine le_sizeD ?_) | (with_reducible refine le_sizeN ?_) | go_size | (simp [go_sem]; done)))).mono ?_); intro e w1 hr; obtain ⟨rfl, p, rfl⟩ := hr.out; clear hr) | ((with_reducible refine (R.out _).mono ?_); rintro e w1 ⟨rfl, rfl⟩) | ((with_reducible refine (K.out _).mono ?_); intro e w1 hr; obtain ⟨rfl, p, rfl⟩ := hr.out; clear hr))
      go_returns
      exact ⟨rfl, by repeat' (first | (with_reducible exact Below.refl _ _) | (with_reducible assumption) | (with_reducible refine Below.alloc ?_ ?_ _) | (with_reducible refine Below.drew ?_) | (with_reducible refine belowN ?_ _) | (with_reducible refine Below.setCell ?_ ?_ _) | (with_reducible refine belowG ?_ ?_) | (with_reducible exact Nat.le_refl _) | (with_reducible refine le_sizeG ?_) | (with_reducible refine le_sizeA ?_) | (with_reducible refine le_sizeC ?_) | (with_reducible refine le_sizeD ?_) | (with_reducible refine le_sizeN ?_) | go_size | (simp [go_sem]; done))⟩
    · replace CA := Lib.hid CA
      have q2 : (rk0 == 2) = false := beq_eq_false_iff_ne.mpr p2
      clear p2
      go_enter Tryz.func11, Tryz.ntmps11
      go_wp2_with (first | ((with_reducible refine (CA.out _ (by repeat' (first | (with_reducible exact Below.refl _ _) | (with_reducible assumption) | (with_reducible refine Below.alloc ?_ ?_ _) | (with_reducible refine Below.drew ?_) | (with_reducible refine belowN ?_ _) | (with_reducible refine Below.setCell ?_ ?_ _) | (with_reducible refine belowG ?_ ?_) | (with_reducible exact Nat.le_refl _) | (with_reducible refine le_sizeG ?_) | (with_reducible refine le_sizeA ?_) | (with_reducible refine le_sizeC ?_) | (with_reducible refine le_sizeD ?_) | (with_reducible refine le_sizeN ?_) | go_size | (simp [go_sem]; done)))).mono ?_); intro e w1 hr; obtain ⟨rfl, p, rfl⟩ := hr.out; clear hr) | ((with_reducible refine (CB.out _ (by repeat' (first | (with_reducible exact Below.refl _ _) | (with_reducible assumption) | (with_reducible refine Below.alloc ?_ ?_ _) | (with_reducible refine Below.drew ?_) | (with_reducible refine belowN ?_ _) | (with_reducible refine Below.setCell ?_ ?_ _) | (with_reducible refine belowG ?_ ?_) | (with_reducible exact Nat.le_refl _) | (with_reducible refine le_sizeG ?_) | (with_reducible refine le_sizeA ?_) | (with_reducible refine le_sizeC ?_) | (with_reducible refine le_sizeD ?_) | (with_reducible refine le_sizeN ?_) | go_size | (simp [go_sem]; done)))).mono ?_); intro e w1 hr; obtain ⟨rfl, p, rfl⟩ := hr.out; clear hr) | ((with_reducible refine (R.out _).mono ?_); rintro e w1 ⟨rfl, rfl⟩) | ((with_reducible refine (K.out _).mono ?_); intro e w1 hr; obtain ⟨rfl, p, rfl⟩ := hr.out; clear hr))
      go_returns
      exact ⟨rfl, by repeat' (first | (with_reducible exact Below.refl _ _) | (with_reducible assumption) | (with_reducible refine Below.alloc ?_ ?_ _) | (with_reducible refine Below.drew ?_) | (with_reducible refine belowN ?_ _) | (with_reducible refine Below.setCell ?_ ?_ _) | (with_reducible refine belowG ?_ ?_) | (with_reducible exact Nat.le_refl _) | (with_reducible refine le_sizeG ?_) | (with_reducible refine le_sizeA ?_) | (with_reducible refine le_sizeC ?_) | (with_reducible refine le_sizeD ?_) | (with_reducible refine le_sizeN ?_) | go_size | (simp [go_sem]; done))⟩
    all_goals
      replace CA := Lib.hid CA
      go_enter Tryz.func11, Tryz.ntmps11
      go_wp2_with (first | ((with_reducible refine (CA.out _ (by repeat' (first | (with_reducible exact Below.refl _ _) | (with_reducible assumption) | (with_reducible refine Below.alloc ?_ ?_ _) | (with_reducible refine Below.drew ?_) | (with_reducible refine belowN ?_ _) | (with_reducible refine Below.setCell ?_ ?_ _) | (with_reducible refine belowG ?_ ?_) | (with_reducible exact Nat.le_refl _) | (with_reducible refine le_sizeG ?_) | (with_reducible refine le_sizeA ?_) | (with_reducible refine le_sizeC ?_) | (with_reducible refine le_sizeD ?_) | (with_reducible refine le_sizeN ?_) | go_size | (simp [go_sem]; done)))).mono ?_); intro e w1 hr; obtain ⟨rfl, p, rfl⟩ := hr.out; clear hr) | ((with_reducible refine (CB.out _ (by repeat' (first | (with_reducible exact Below.refl _ _) | (with_reducible assumption) | (with_reducible refine Below.alloc ?_ ?_ _) | (with_reducible refine Below.drew ?_) | (with_reducible refine belowN ?_ _) | (with_reducible refine Below.setCell ?_ ?_ _) | (with_reducible refine belowG ?_ ?_) | (with_reducible exact Nat.le_refl _) | (with_reducible refine le_sizeG ?_) | (with_reducible refine le_sizeA ?_) | (with_reducible refine le_sizeC ?_) | (with_reducible refine le_sizeD ?_) | (with_reducible refine le_sizeN ?_) | go_size | (simp [go_sem]; done)))).mono ?_); intro e w1 hr; obtain ⟨rfl, p, rfl⟩ := hr.out; clear hr) | ((with_reducible refine (R.out _).mono ?_); rintro e w1 ⟨rfl, rfl⟩) | ((with_reducible refine (K.out _).mono ?_); intro e w1 hr; obtain ⟨rfl, p, rfl⟩ := hr.out; clear hr))
      go_returns
      exact ⟨rfl, by repeat' (first | (with_reducible exact Below.refl _ _) | (with_reducible assumption) | (with_reducible refine Below.alloc ?_ ?_ _) | (with_reducible refine Below.drew ?_) | (with_reducible refine belowN ?_ _) | (with_reducible refine Below.setCell ?_ ?_ _) | (with_reducible refine belowG ?_ ?_) | (with_reducible exact Nat.le_refl _) | (with_reducible refine le_sizeG ?_) | (with_reducible refine le_sizeA ?_) | (with_reducible refine le_sizeC ?_) | (with_reducible refine le_sizeD ?_) | (with_reducible refine le_sizeN ?_) | go_size | (simp [go_sem]; done))⟩
theorem rev_two (i : Nat) (n : Nd) (a b : Nat) (r q : Rk) (hi : i < ns.length) (hn : ns[i] = n) (h1 : 3 ≤ n.op) (h2 : n.op ≤ 15) (hl : n.l = (a : Int)) (hrr : n.r = (b : Int)) (hr : SoundV r) (hs : stopB n.op r = false) (hq : SoundV q) (vn sn : Nat) (w : World) (h : NdsAt w ao ns)
    (CA : RevC ao cap ns va vc sa sc w vn sn a r) (CB : RevC ao cap ns va vc sa sc w vn sn b q) :
    Calls Tryz.prog 11 #[.slice ao ns.length cap, .int .i64 (i : Int), .slice va vn vc, .slice sa sn sc] w (Ret (rkV (finR n.op r q)) w) := by
  refine rev_two_gen ao cap ns va vc sa sc i n a b r q (finR n.op r q) (resK n.op r.k q.k) hi hn h1 h2 hl hrr hr hs hq vn sn w h (fun wx => rresult_any n.op r.k q.k wx) ?_ CA CB
  rcases hb : resB n.op r.k q.k
  · exact .inl ⟨(resK_zero _ _ _).2 hb, fin_f hb⟩
  · refine .inr ⟨fun e => ?_, fun wx => ?_⟩
    · rw [(resK_zero _ _ _).1 e] at hb
      cases hb
    · rw [fin_t hb]
      exact rreckon_any n.op r.k r.n r.s q.k q.n q.s hr.2.1 (fun _ => hq.2.1) hr.2.2 hq.2.2 hb wx
/-- From a node down. -/
theorem rev_any (hcs : CsGood cs) (hns : NsGood ns) (hah : ∀ j (h : j < ns.length), Ahead j ns[j]) (hvn : cs.length ≤ 1000000) (hin : ss.length ≤ 1000000) : ∀ (f i : Nat), i < f → i < ns.length → ∀ w, NdsAt w ao ns → CellsAt w va cs → StrsAt w sa ss →
    Calls Tryz.prog 11 #[.slice ao ns.length cap, .int .i64 (i : Int), .slice va cs.length vc, .slice sa ss.length sc] w (Ret (rkV (evR cs ss ns f i)) w)
  | 0, i, hf, _, _, _, _, _ => absurd hf (Nat.not_lt_zero _)
  | f + 1, i, hf, hi, w, h, hv, hs => by
    have ha := hah i hi
    have hsd := fun j hj hjn => ev_sound (ins := ss) hcs hns hah f j hj hjn
    obtain ⟨m, hm⟩ : ∃ m, ns[i] = m := ⟨_, rfl⟩
    rw [hm] at ha
    have IH := fun j hj hjn => (fun (wx : World) (hb : Below w.heap.size w wx) => rev_any hcs hns hah hvn hin f j hj hjn wx (nds_below h hb) (cls_below hv hb) (strs_below hs hb) : RevC ao cap ns va vc sa sc w cs.length ss.length j (evR cs ss ns f j))
    rw [evR, List.getElem?_eq_getElem hi, hm]
    simp only
    by_cases hc : m.op = 0 ∨ m.op = 16 ∨ m.op = 17
    · rw [if_pos hc]
      rcases hc with h0 | h0 | h0
      · rw [leaf_lit cs ss h0]
        exact rev_lit ao cap ns va vc sa sc i m hi hm h0 cs.length ss.length w h
      · rw [leaf_var cs ss h0]
        exact rev_var ao cap ns va vc cs sa sc i m hi hm h0 hvn ss.length w h hv
      · rw [leaf_in cs ss h0]
        exact rev_in ao cap ns va vc sa sc ss i m hi hm h0 hin cs.length w h hs
    · rw [if_neg hc]
      have hop : 1 ≤ m.op ∧ m.op ≤ 15 := by
        rcases ha.range with h | h | h
        · exact absurd (.inl h) hc
        · exact h
        · exact absurd (.inr h) hc
      obtain ⟨a, hl, hlt⟩ := ha.l hop.1 hop.2
      rw [hl, show ((a : Int)).toNat = a from rfl]
      have CA := IH a (by omega) (by omega)
      have s1 := hsd a (by omega) (by omega)
      by_cases h2 : m.op ≤ 2
      · rw [if_pos h2]
        unfold oneR
        rcases s1 with s1 | s1
        · rw [if_neg (fun e => e s1.1)]
          exact rev_one ao cap ns va vc sa sc i m a _ hi hm hop.1 h2 hl s1 _ _ w h CA
        · rw [if_pos s1.1, ← s1.2]
          exact rev_err ao cap ns va vc sa sc i m a _ hi hm hop.1 hop.2 hl s1 _ _ w h CA
      · rw [if_neg h2]
        obtain ⟨b, hrr, hrt⟩ := ha.r (by omega) hop.2
        rw [hrr, show ((b : Int)).toNat = b from rfl]
        have CB := IH b (by omega) (by omega)
        have s2 := hsd b (by omega) (by omega)
        unfold twoR
        rcases s1 with s1 | s1
        · rw [if_neg (fun e => e s1.1)]
          rcases hst : stopB m.op (evR cs ss ns f a)
          · rw [if_neg Bool.false_ne_true]
            rcases s2 with s2 | s2
            · rw [if_neg (fun e => e s2.1)]
              exact rev_two ao cap ns va vc sa sc i m a b _ _ hi hm (by omega) hop.2 hl hrr s1 hst s2 _ _ w h CA CB
            · rw [if_pos s2.1, ← s2.2]
              exact rev_two_err ao cap ns va vc sa sc i m a b _ _ hi hm (by omega) hop.2 hl hrr s1 hst s2 _ _ w h CA CB
          · rw [if_pos rfl]
            exact rev_stop ao cap ns va vc sa sc i m a _ hi hm (by omega) hop.2 hl s1 hst _ _ w h CA
        · rw [if_pos s1.1, ← s1.2]
          exact rev_err ao cap ns va vc sa sc i m a _ hi hm hop.1 hop.2 hl s1 _ _ w h CA
end
end Go.Proofs.YtlekmpjmcbnjdaaGreatDoor

