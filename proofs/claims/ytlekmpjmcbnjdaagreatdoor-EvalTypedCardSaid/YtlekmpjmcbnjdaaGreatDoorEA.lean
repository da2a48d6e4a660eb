/- eval: names with values, as data. -/
import Derived.Test.YtlekmpjmcbnjdaaGreatDoorY7
import Derived.Test.YtlekmpjmcbnjdaaGreatDoorXW
import Derived.WalkKit
import Derived.ProofKit
import Derived.OpenShut
import Derived.Handy
import Derived.BigQuiet
import Derived.Lib.Hide
import Derived.WalkSmall
import Derived.WalkLawsBesides
namespace Go.Proofs.YtlekmpjmcbnjdaaGreatDoor
open Go.RowKit
/-- Names with values lie where a slice says. -/
def CellsAt (w : World) (ao : Option Addr) (cs : List Cl) : Prop := 0 < cs.length → ∃ g o, ao = some ⟨g, o, none⟩ ∧ g < w.heap.size ∧ ∀ i (h : i < cs.length),
  w.cell? ⟨g, o + i * 4, none⟩ = some (.string cs[i].name) ∧ w.cell? ⟨g, o + i * 4 + 1, none⟩ = some (.int .i64 cs[i].k) ∧ w.cell? ⟨g, o + i * 4 + 2, none⟩ = some (.int .i64 cs[i].n) ∧ w.cell? ⟨g, o + i * 4 + 3, none⟩ = some (.string cs[i].s)
theorem cls_below {w w' : World} {ao : Option Addr} {cs : List Cl} (h : CellsAt w ao cs) (hb : Below w.heap.size w w') : CellsAt w' ao cs := by
  intro h0
  obtain ⟨g, o, e, hg, hc⟩ := h h0
  refine ⟨g, o, e, Nat.lt_of_lt_of_le hg hb.size, fun i hi => ?_⟩
  obtain ⟨h1, h2, h3, h4⟩ := hc i hi
  exact ⟨(hb.cell (p := ⟨g, _, none⟩) hg).trans h1, (hb.cell (p := ⟨g, _, none⟩) hg).trans h2, (hb.cell (p := ⟨g, _, none⟩) hg).trans h3, (hb.cell (p := ⟨g, _, none⟩) hg).trans h4⟩
/-- An environment's value. -/
def envV (va : Option Addr) (vn vc : Nat) (ia : Option Addr) (n ic : Nat) : Value := .agg #[.slice va vn vc, .slice ia n ic]
/-- What a name comes to. -/
def cellR (cs : List Cl) (x : ByteArray) : Rk :=
  match findC cs x with
  | some c => ⟨c.k, c.n, c.s, 0⟩
  | none => errR 24
theorem leaf_lit (cs : List Cl) (ins : List ByteArray) {n : Nd} (h : n.op = 0) : leafR cs ins n = ⟨n.k, n.n, ⟨n.s.toArray⟩, 0⟩ := by unfold leafR; rw [if_pos h]
theorem leaf_var (cs : List Cl) (ins : List ByteArray) {n : Nd} (h : n.op = 16) : leafR cs ins n = cellR cs ⟨n.name.toArray⟩ := by
  unfold leafR
  rw [if_neg (by omega), if_pos h]
  rfl
theorem leaf_in (cs : List Cl) (ins : List ByteArray) {n : Nd} (h : n.op = 17) : leafR cs ins n = trR (hasB ins ⟨n.name.toArray⟩) := by
  unfold leafR
  rw [if_neg (by omega), if_neg (by omega)]
theorem active_any (va : Option Addr) (vn vc : Nat) (ia : Option Addr) (ic : Nat) (ins : List ByteArray) (x : ByteArray) (hn : ins.length ≤ 1000) (w : World) (h : StrsAt w ia ins) :
    Calls Tryz.prog 37 #[envV va vn vc ia ins.length ic, .string x] w (Ret (.bool (hasB ins x)) w) := by
  have C := Lib.hid (fun wx hb => contains_any ia ins ic x hn wx (txts_below (w' := wx) (strs_txts h) hb))
  unfold envV
  generalize hasB ins x = b at *
  clear h
  go_enter Tryz.func37, Tryz.ntmps37
  go_wp2_with ((with_reducible refine (C.out _ (by repeat' (first | (with_reducible exact Below.refl _ _) | (with_reducible assumption) | (with_reducible refine Below.alloc ?_ ?_ _) | (with_reducible refine Below.drew ?_) | (with_reducible refine belowN ?_ _) | (with_reducible refine Below.setCell ?_ ?_ _) | (with_reducible refine belowG ?_ ?_) | (with_reducible exact Nat.le_refl _) | (with_reducible refine le_sizeG ?_) | (with_reducible refine le_sizeA ?_) | (with_reducible refine le_sizeC ?_) | (with_reducible refine le_sizeD ?_) | (with_reducible refine le_sizeN ?_) | go_size | (simp [go_sem]; done)))).mono ?_); rintro e w1 ⟨rfl, rfl⟩)
  go_returns
  exact ⟨rfl, by repeat' (first | (with_reducible exact Below.refl _ _) | (with_reducible assumption) | (with_reducible refine Below.alloc ?_ ?_ _) | (with_reducible refine Below.drew ?_) | (with_reducible refine belowN ?_ _) | (with_reducible refine Below.setCell ?_ ?_ _) | (with_reducible refine belowG ?_ ?_) | (with_reducible exact Nat.le_refl _) | (with_reducible refine le_sizeG ?_) | (with_reducible refine le_sizeA ?_) | (with_reducible refine le_sizeC ?_) | (with_reducible refine le_sizeD ?_) | (with_reducible refine le_sizeN ?_) | go_size | (simp [go_sem]; done))⟩
theorem cell_c (s : ByteArray) (k n : Int) (t x : ByteArray) (b : Nat) (w : World) (hb : w.cell? ⟨b, 0, none⟩ = some (.string x)) :
    Calls Tryz.prog 64 #[.agg #[.string s, .int .i64 k, .int .i64 n, .string t], .pointer (some ⟨b, 0, none⟩)] w (Ret (.bool (s.toList == x.toList)) w) := by
  have i1 : InW b w := ⟨World.block_lt_of_cell? _ _ hb⟩
  go_enter Tryz.func64, Tryz.ntmps64
  go_wp2
  go_returns
  exact ⟨rfl, by repeat' (first | (with_reducible exact Below.refl _ _) | (with_reducible assumption) | (with_reducible refine Below.alloc ?_ ?_ _) | (with_reducible refine Below.drew ?_) | (with_reducible refine belowN ?_ _) | (with_reducible refine Below.setCell ?_ ?_ _) | (with_reducible refine belowG ?_ ?_) | (with_reducible exact Nat.le_refl _) | (with_reducible refine le_sizeG ?_) | (with_reducible refine le_sizeA ?_) | (with_reducible refine le_sizeC ?_) | (with_reducible refine le_sizeD ?_) | (with_reducible refine le_sizeN ?_) | go_size | (simp [go_sem]; done))⟩
/-- Where a name stands. -/
def CIdx (cs : List Cl) (x : ByteArray) (w : World) (e : Ending) (w' : World) : Prop :=
  ((e = .returned (.int .i64 (-1)) ∧ findC cs x = none) ∨ ∃ (i : Nat) (h : i < cs.length), e = .returned (.int .i64 (i : Int)) ∧ findC cs x = some cs[i]) ∧ Below w.heap.size w w'
set_option maxRecDepth 100000 in
set_option maxHeartbeats 1000000 in
theorem cidx_any (ao : Option Addr) (cap : Nat) (cs : List Cl) (x : ByteArray) (hn : cs.length ≤ 1000000) (b : Nat) (w : World) (h : CellsAt w ao cs) (hb : w.cell? ⟨b, 0, none⟩ = some (.string x)) :
    Calls Tryz.prog 63 #[.slice ao cs.length cap, .func (.func 64) #[] #[.pointer (some ⟨b, 0, none⟩)]] w (CIdx cs x w) := by
  have H := Lib.hid (fun wx hk => cls_below (w' := wx) h hk)
  have hlt := World.block_lt_of_cell? _ _ hb
  have C := fun s k n t wx (hk : Below w.heap.size w wx) => Lib.hid (cell_c s k n t x b wx ((hk.cell (p := ⟨b, 0, none⟩) hlt).trans hb))
  replace C := Lib.hid C
  have hit := Lib.hid (fun i hi he hp => findC_hit (cs := cs) (x := x) (i := i) hi he hp)
  have skip := Lib.hid (fun i hi he hp => findC_skip (cs := cs) (x := x) (i := i) hi he hp)
  clear h hb hlt
  go_enter Tryz.func63, Tryz.ntmps63
  go_wp2
  go_loopw [8] (fun v wr => ∃ i : Nat, v = .int .i64 (i : Int) ∧ i ≤ cs.length ∧ findC cs x = findC (cs.drop i) x ∧ Below w.heap.size w wr) (fun v _ => cs.length - (intOf v).toNat)
  case atStart => exact ⟨0, rfl, Nat.zero_le _, rfl, by repeat' (first | (with_reducible exact Below.refl _ _) | (with_reducible assumption) | (with_reducible refine Below.alloc ?_ ?_ _) | (with_reducible refine Below.drew ?_) | (with_reducible refine belowN ?_ _) | (with_reducible refine Below.setCell ?_ ?_ _) | (with_reducible refine belowG ?_ ?_) | (with_reducible exact Nat.le_refl _) | (with_reducible refine le_sizeG ?_) | (with_reducible refine le_sizeA ?_) | (with_reducible refine le_sizeC ?_) | (with_reducible refine le_sizeD ?_) | (with_reducible refine le_sizeN ?_) | go_size | (simp [go_sem]; done))⟩
  case round =>
    obtain ⟨i, rfl, hi, hp, hk⟩ := hrel
    rename World => wr
    have hwz := hk.size
    by_cases hlt : i < cs.length
    · obtain ⟨g, o, rfl, hg, hc⟩ := H.out wr hk (by omega)
      obtain ⟨c1, c2, c3, c4⟩ := hc i hlt
      have hI : (i : Int) < (cs.length : Int) := by omega
      have i1 : InW g wr := ⟨hg⟩
      have C1 := Lib.hid (fun wx (hx : Below wr.heap.size wr wx) => (C.out cs[i].name cs[i].k cs[i].n cs[i].s wx (hk.trans (hx.mono hwz))).out)
      rcases he : (cs[i].name.toList == x.toList)
      · have hs := Lib.hid (skip.out i hlt he hp)
        rw [he] at C1
        generalize cs[i] = v at *
        clear hp he hc C
        go_wp2_with ((with_reducible refine (C1.out _ (by repeat' (first | (with_reducible exact Below.refl _ _) | (with_reducible assumption) | (with_reducible refine Below.alloc ?_ ?_ _) | (with_reducible refine Below.drew ?_) | (with_reducible refine belowN ?_ _) | (with_reducible refine Below.setCell ?_ ?_ _) | (with_reducible refine belowG ?_ ?_) | (with_reducible exact Nat.le_refl _) | (with_reducible refine le_sizeG ?_) | (with_reducible refine le_sizeA ?_) | (with_reducible refine le_sizeC ?_) | (with_reducible refine le_sizeD ?_) | (with_reducible refine le_sizeN ?_) | go_size | (simp [go_sem]; done)))).mono ?_); intro e w1 hr; obtain ⟨rfl, p, rfl⟩ := hr.out; clear hr)
        go_roundw
        case rel => exact ⟨i + 1, by go_num, by omega, hs.out, by repeat' (first | (with_reducible exact Below.refl _ _) | (with_reducible assumption) | (with_reducible refine Below.alloc ?_ ?_ _) | (with_reducible refine Below.drew ?_) | (with_reducible refine belowN ?_ _) | (with_reducible refine Below.setCell ?_ ?_ _) | (with_reducible refine belowG ?_ ?_) | (with_reducible exact Nat.le_refl _) | (with_reducible refine le_sizeG ?_) | (with_reducible refine le_sizeA ?_) | (with_reducible refine le_sizeC ?_) | (with_reducible refine le_sizeD ?_) | (with_reducible refine le_sizeN ?_) | go_size | (simp [go_sem]; done))⟩
        case measure => simp [intOf]; omega
      · have hs := Lib.hid (hit.out i hlt he hp)
        rw [he] at C1
        obtain ⟨v, hv⟩ : ∃ v, cs[i] = v := ⟨_, rfl⟩
        rw [hv] at C1 c1 c2 c3 c4
        clear hp he hc C hv
        go_wp2_with ((with_reducible refine (C1.out _ (by repeat' (first | (with_reducible exact Below.refl _ _) | (with_reducible assumption) | (with_reducible refine Below.alloc ?_ ?_ _) | (with_reducible refine Below.drew ?_) | (with_reducible refine belowN ?_ _) | (with_reducible refine Below.setCell ?_ ?_ _) | (with_reducible refine belowG ?_ ?_) | (with_reducible exact Nat.le_refl _) | (with_reducible refine le_sizeG ?_) | (with_reducible refine le_sizeA ?_) | (with_reducible refine le_sizeC ?_) | (with_reducible refine le_sizeD ?_) | (with_reducible refine le_sizeN ?_) | go_size | (simp [go_sem]; done)))).mono ?_); intro e w1 hr; obtain ⟨rfl, p, rfl⟩ := hr.out; clear hr)
        go_returns
        exact ⟨.inr ⟨i, hlt, rfl, hs.out⟩, by repeat' (first | (with_reducible exact Below.refl _ _) | (with_reducible assumption) | (with_reducible refine Below.alloc ?_ ?_ _) | (with_reducible refine Below.drew ?_) | (with_reducible refine belowN ?_ _) | (with_reducible refine Below.setCell ?_ ?_ _) | (with_reducible refine belowG ?_ ?_) | (with_reducible exact Nat.le_refl _) | (with_reducible refine le_sizeG ?_) | (with_reducible refine le_sizeA ?_) | (with_reducible refine le_sizeC ?_) | (with_reducible refine le_sizeD ?_) | (with_reducible refine le_sizeN ?_) | go_size | (simp [go_sem]; done))⟩
    · have hge : ¬ (i : Int) < (cs.length : Int) := by omega
      have hno : findC cs x = none := by rw [hp, List.drop_of_length_le (by omega)]; rfl
      have hnK := Lib.hid hno
      clear hp hno
      go_wp2
      go_returns
      exact ⟨.inl ⟨rfl, hnK.out⟩, by repeat' (first | (with_reducible exact Below.refl _ _) | (with_reducible assumption) | (with_reducible refine Below.alloc ?_ ?_ _) | (with_reducible refine Below.drew ?_) | (with_reducible refine belowN ?_ _) | (with_reducible refine Below.setCell ?_ ?_ _) | (with_reducible refine belowG ?_ ?_) | (with_reducible exact Nat.le_refl _) | (with_reducible refine le_sizeG ?_) | (with_reducible refine le_sizeA ?_) | (with_reducible refine le_sizeC ?_) | (with_reducible refine le_sizeD ?_) | (with_reducible refine le_sizeN ?_) | go_size | (simp [go_sem]; done))⟩
set_option maxRecDepth 100000 in
set_option maxHeartbeats 1000000 in
theorem evalue_any (va : Option Addr) (vc : Nat) (cs : List Cl) (ia : Option Addr) (n ic : Nat) (x : ByteArray) (hn : cs.length ≤ 1000000) (w : World) (h : CellsAt w va cs) :
    Calls Tryz.prog 36 #[envV va cs.length vc ia n ic, .string x] w (Ret (rkV (cellR cs x)) w) := by
  have H := Lib.hid (fun wx hk => cls_below (w' := wx) h hk)
  have I := fun b wx hk hb => Lib.hid (cidx_any va vc cs x hn b wx (cls_below h hk) hb)
  replace I := Lib.hid I
  have hmf : ∀ (fn : Fn) (first cap : Array Value) (w : World), (Instr.makeFunc fn first cap).run Tryz.prog w = .ok (.func fn first cap) w := fun _ _ _ _ => rfl
  unfold envV
  clear h
  go_enter Tryz.func36, Tryz.ntmps36
  go_wp2_with fail
  refine ((I.out _ _ (by repeat' (first | (with_reducible exact Below.refl _ _) | (with_reducible assumption) | (with_reducible refine Below.alloc ?_ ?_ _) | (with_reducible refine Below.drew ?_) | (with_reducible refine belowN ?_ _) | (with_reducible refine Below.setCell ?_ ?_ _) | (with_reducible refine belowG ?_ ?_) | (with_reducible exact Nat.le_refl _) | (with_reducible refine le_sizeG ?_) | (with_reducible refine le_sizeA ?_) | (with_reducible refine le_sizeC ?_) | (with_reducible refine le_sizeD ?_) | (with_reducible refine le_sizeN ?_) | go_size | (simp [go_sem]; done))) (by simp [go_sem])).out).mono ?_
  intro e w1 hr
  obtain ⟨hr, hb⟩ := hr
  obtain ⟨p, rfl⟩ := toG hb
  clear hb I
  rcases hr with ⟨rfl, hf⟩ | ⟨i, hi, rfl, hf⟩
  · have hv := Lib.hid (show rkV (cellR cs x) = .tuple #[.agg #[.int .i64 0, .int .i64 0, .string ⟨#[]⟩], .int .i64 24] by unfold cellR; rw [hf]; rfl)
    clear hf
    go_wp2
    go_returns
    exact ⟨by rw [hv.out], by repeat' (first | (with_reducible exact Below.refl _ _) | (with_reducible assumption) | (with_reducible refine Below.alloc ?_ ?_ _) | (with_reducible refine Below.drew ?_) | (with_reducible refine belowN ?_ _) | (with_reducible refine Below.setCell ?_ ?_ _) | (with_reducible refine belowG ?_ ?_) | (with_reducible exact Nat.le_refl _) | (with_reducible refine le_sizeG ?_) | (with_reducible refine le_sizeA ?_) | (with_reducible refine le_sizeC ?_) | (with_reducible refine le_sizeD ?_) | (with_reducible refine le_sizeN ?_) | go_size | (simp [go_sem]; done))⟩
  · have hv := Lib.hid (show rkV (cellR cs x) = .tuple #[.agg #[.int .i64 cs[i].k, .int .i64 cs[i].n, .string cs[i].s], .int .i64 0] by unfold cellR; rw [hf]; rfl)
    obtain ⟨g, o, rfl, hg, hc⟩ := H.out w (Below.refl _ _) (by omega)
    obtain ⟨c1, c2, c3, c4⟩ := hc i hi
    have hI : (i : Int) < (cs.length : Int) := by omega
    have i1 : InW g w := ⟨hg⟩
    generalize cs[i] = v at *
    clear hf hc
    go_wp2
    go_returns
    exact ⟨by rw [hv.out], by repeat' (first | (with_reducible exact Below.refl _ _) | (with_reducible assumption) | (with_reducible refine Below.alloc ?_ ?_ _) | (with_reducible refine Below.drew ?_) | (with_reducible refine belowN ?_ _) | (with_reducible refine Below.setCell ?_ ?_ _) | (with_reducible refine belowG ?_ ?_) | (with_reducible exact Nat.le_refl _) | (with_reducible refine le_sizeG ?_) | (with_reducible refine le_sizeA ?_) | (with_reducible refine le_sizeC ?_) | (with_reducible refine le_sizeD ?_) | (with_reducible refine le_sizeN ?_) | go_size | (simp [go_sem]; done))⟩
end Go.Proofs.YtlekmpjmcbnjdaaGreatDoor

