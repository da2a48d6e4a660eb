/- kind: names that are looked up in a scope. -/
import Derived.Test.YtkjgfcbanlcmgaaGreatDoorXO
import Derived.Test.YtkjgfcbanlcmgaaGreatDoorAR
import Derived.Test.YtkjgfcbanlcmgaaGreatDoorTN
import Derived.WalkKit
import Derived.ProofKit
import Derived.OpenShut
import Derived.Handy
import Derived.BigQuiet
import Derived.Lib.Hide
import Derived.WalkSmall
import Derived.WalkLawsBesides
namespace Go.Proofs.YtkjgfcbanlcmgaaGreatDoor
open Go.RowKit
theorem strs_txts {w : World} {ao : Option Addr} {ss : List ByteArray} (h : StrsAt w ao ss) : Txts w ao ss := by
  intro i hi
  obtain ⟨g, o, rfl, _, hc⟩ := h (by omega)
  exact ⟨_, rfl, by rw [add_plain]; exact hc i hi⟩
/-- A state's kind, and a variable's. -/
def stateV (ss : List ByteArray) (x : ByteArray) : Value := .tuple #[.int .i64 (if hasB ss x then 2 else 0), .int .i64 (if hasB ss x then 0 else 24)]
def lookV (vs : List (ByteArray × Int)) (x : ByteArray) : Value :=
  match findV vs x with
  | some k => .tuple #[.int .i64 k, .int .i64 0]
  | none => .tuple #[.int .i64 0, .int .i64 24]
theorem kstate_any (va : Option Addr) (vn vc : Nat) (sa : Option Addr) (sc : Nat) (ss : List ByteArray) (x : ByteArray) (hn : ss.length ≤ 1000) (w : World) (h : StrsAt w sa ss) :
    Calls Tryz.prog 26 #[.agg #[.slice va vn vc, .slice sa ss.length sc], .string x] w (Ret (stateV ss x) w) := by
  have C := Lib.hid (fun wx hb => contains_any sa ss sc x hn wx (txts_below (w' := wx) (strs_txts h) hb))
  unfold stateV
  generalize hasB ss x = b at *
  clear h
  cases b
  all_goals
    go_enter Tryz.func26, Tryz.ntmps26
    go_wp2_with ((with_reducible refine (C.out _ (by repeat' (first | (with_reducible exact Below.refl _ _) | (with_reducible assumption) | (with_reducible refine Below.alloc ?_ ?_ _) | (with_reducible refine Below.drew ?_) | (with_reducible refine belowN ?_ _) | (with_reducible refine Below.setCell ?_ ?_ _) | (with_reducible refine belowG ?_ ?_) | (with_reducible exact Nat.le_refl _) | (with_reducible refine le_sizeG ?_) | (with_reducible refine le_sizeA ?_) | (with_reducible refine le_sizeC ?_) | (with_reducible refine le_sizeD ?_) | (with_reducible refine le_sizeN ?_) | go_size | (simp [go_sem]; done)))).mono ?_); rintro e w1 ⟨rfl, rfl⟩)
    go_returns
    exact ⟨rfl, by repeat' (first | (with_reducible exact Below.refl _ _) | (with_reducible assumption) | (with_reducible refine Below.alloc ?_ ?_ _) | (with_reducible refine Below.drew ?_) | (with_reducible refine belowN ?_ _) | (with_reducible refine Below.setCell ?_ ?_ _) | (with_reducible refine belowG ?_ ?_) | (with_reducible exact Nat.le_refl _) | (with_reducible refine le_sizeG ?_) | (with_reducible refine le_sizeA ?_) | (with_reducible refine le_sizeC ?_) | (with_reducible refine le_sizeD ?_) | (with_reducible refine le_sizeN ?_) | go_size | (simp [go_sem]; done))⟩
theorem var_c (s : ByteArray) (k : Int) (x : ByteArray) (b : Nat) (w : World) (hb : w.cell? ⟨b, 0, none⟩ = some (.string x)) :
    Calls Tryz.prog 45 #[.agg #[.string s, .int .i64 k], .pointer (some ⟨b, 0, none⟩)] w (Ret (.bool (s.toList == x.toList)) w) := by
  have i1 : InW b w := ⟨World.block_lt_of_cell? _ _ hb⟩
  go_enter Tryz.func45, Tryz.ntmps45
  go_wp2
  go_returns
  exact ⟨rfl, by repeat' (first | (with_reducible exact Below.refl _ _) | (with_reducible assumption) | (with_reducible refine Below.alloc ?_ ?_ _) | (with_reducible refine Below.drew ?_) | (with_reducible refine belowN ?_ _) | (with_reducible refine Below.setCell ?_ ?_ _) | (with_reducible refine belowG ?_ ?_) | (with_reducible exact Nat.le_refl _) | (with_reducible refine le_sizeG ?_) | (with_reducible refine le_sizeA ?_) | (with_reducible refine le_sizeC ?_) | (with_reducible refine le_sizeD ?_) | (with_reducible refine le_sizeN ?_) | go_size | (simp [go_sem]; done))⟩
/-- Where a variable stands. -/
def VIdx (vs : List (ByteArray × Int)) (x : ByteArray) (w : World) (e : Ending) (w' : World) : Prop :=
  ((e = .returned (.int .i64 (-1)) ∧ findV vs x = none) ∨ ∃ (i : Nat) (h : i < vs.length), e = .returned (.int .i64 (i : Int)) ∧ findV vs x = some vs[i].2) ∧ Below w.heap.size w w'
set_option maxRecDepth 100000 in
set_option maxHeartbeats 1000000 in
theorem vidx_any (ao : Option Addr) (cap : Nat) (vs : List (ByteArray × Int)) (x : ByteArray) (hn : vs.length ≤ 1000000) (b : Nat) (w : World) (h : VarsAt w ao vs) (hb : w.cell? ⟨b, 0, none⟩ = some (.string x)) :
    Calls Tryz.prog 44 #[.slice ao vs.length cap, .func (.func 45) #[] #[.pointer (some ⟨b, 0, none⟩)]] w (VIdx vs x w) := by
  have H := Lib.hid (fun wx hk => vars_below (w' := wx) h hk)
  have hlt := World.block_lt_of_cell? _ _ hb
  have C := fun s k wx (hk : Below w.heap.size w wx) => Lib.hid (var_c s k x b wx ((hk.cell (p := ⟨b, 0, none⟩) hlt).trans hb))
  replace C := Lib.hid C
  have hit := Lib.hid (fun i hi he hp => findV_hit (vs := vs) (x := x) (i := i) hi he hp)
  have skip := Lib.hid (fun i hi he hp => findV_skip (vs := vs) (x := x) (i := i) hi he hp)
  clear h hb hlt
  go_enter Tryz.func44, Tryz.ntmps44
  go_wp2
  go_loopw [8] (fun v wr => ∃ i : Nat, v = .int .i64 (i : Int) ∧ i ≤ vs.length ∧ findV vs x = findV (vs.drop i) x ∧ Below w.heap.size w wr) (fun v _ => vs.length - (intOf v).toNat)
  case atStart => exact ⟨0, rfl, Nat.zero_le _, rfl, by repeat' (first | (with_reducible exact Below.refl _ _) | (with_reducible assumption) | (with_reducible refine Below.alloc ?_ ?_ _) | (with_reducible refine Below.drew ?_) | (with_reducible refine belowN ?_ _) | (with_reducible refine Below.setCell ?_ ?_ _) | (with_reducible refine belowG ?_ ?_) | (with_reducible exact Nat.le_refl _) | (with_reducible refine le_sizeG ?_) | (with_reducible refine le_sizeA ?_) | (with_reducible refine le_sizeC ?_) | (with_reducible refine le_sizeD ?_) | (with_reducible refine le_sizeN ?_) | go_size | (simp [go_sem]; done))⟩
  case round =>
    obtain ⟨i, rfl, hi, hp, hk⟩ := hrel
    rename World => wr
    have hwz := hk.size
    by_cases hlt : i < vs.length
    · obtain ⟨g, o, rfl, hg, hc⟩ := H.out wr hk (by omega)
      obtain ⟨c1, c2⟩ := hc i hlt
      have hI : (i : Int) < (vs.length : Int) := by omega
      have i1 : InW g wr := ⟨hg⟩
      have C1 := Lib.hid (fun wx (hx : Below wr.heap.size wr wx) => (C.out vs[i].1 vs[i].2 wx (hk.trans (hx.mono hwz))).out)
      rcases he : (vs[i].1.toList == x.toList)
      · have hs := Lib.hid (skip.out i hlt he hp)
        rw [he] at C1
        generalize vs[i] = v at *
        clear hp he hc C
        go_wp2_with ((with_reducible refine (C1.out _ (by repeat' (first | (with_reducible exact Below.refl _ _) | (with_reducible assumption) | (with_reducible refine Below.alloc ?_ ?_ _) | (with_reducible refine Below.drew ?_) | (with_reducible refine belowN ?_ _) | (with_reducible refine Below.setCell ?_ ?_ _) | (with_reducible refine belowG ?_ ?_) | (with_reducible exact Nat.le_refl _) | (with_reducible refine le_sizeG ?_) | (with_reducible refine le_sizeA ?_) | (with_reducible refine le_sizeC ?_) | (with_reducible refine le_sizeD ?_) | (with_reducible refine le_sizeN ?_) | go_size | (simp [go_sem]; done)))).mono ?_); intro e w1 hr; obtain ⟨rfl, p, rfl⟩ := hr.out; clear hr)
        go_roundw
        case rel => exact ⟨i + 1, by go_num, by omega, hs.out, by repeat' (first | (with_reducible exact Below.refl _ _) | (with_reducible assumption) | (with_reducible refine Below.alloc ?_ ?_ _) | (with_reducible refine Below.drew ?_) | (with_reducible refine belowN ?_ _) | (with_reducible refine Below.setCell ?_ ?_ _) | (with_reducible refine belowG ?_ ?_) | (with_reducible exact Nat.le_refl _) | (with_reducible refine le_sizeG ?_) | (with_reducible refine le_sizeA ?_) | (with_reducible refine le_sizeC ?_) | (with_reducible refine le_sizeD ?_) | (with_reducible refine le_sizeN ?_) | go_size | (simp [go_sem]; done))⟩
        case measure => simp [intOf]; omega
      · have hs := Lib.hid (hit.out i hlt he hp)
        rw [he] at C1
        obtain ⟨v, hv⟩ : ∃ v, vs[i] = v := ⟨_, rfl⟩
        rw [hv] at C1 c1 c2
        clear hp he hc C hv
        go_wp2_with ((with_reducible refine (C1.out _ (by repeat' (first | (with_reducible exact Below.refl _ _) | (with_reducible assumption) | (with_reducible refine Below.alloc ?_ ?_ _) | (with_reducible refine Below.drew ?_) | (with_reducible refine belowN ?_ _) | (with_reducible refine Below.setCell ?_ ?_ _) | (with_reducible refine belowG ?_ ?_) | (with_reducible exact Nat.le_refl _) | (with_reducible refine le_sizeG ?_) | (with_reducible refine le_sizeA ?_) | (with_reducible refine le_sizeC ?_) | (with_reducible refine le_sizeD ?_) | (with_reducible refine le_sizeN ?_) | go_size | (simp [go_sem]; done)))).mono ?_); intro e w1 hr; obtain ⟨rfl, p, rfl⟩ := hr.out; clear hr)
        go_returns
        exact ⟨.inr ⟨i, hlt, rfl, hs.out⟩, by repeat' (first | (with_reducible exact Below.refl _ _) | (with_reducible assumption) | (with_reducible refine Below.alloc ?_ ?_ _) | (with_reducible refine Below.drew ?_) | (with_reducible refine belowN ?_ _) | (with_reducible refine Below.setCell ?_ ?_ _) | (with_reducible refine belowG ?_ ?_) | (with_reducible exact Nat.le_refl _) | (with_reducible refine le_sizeG ?_) | (with_reducible refine le_sizeA ?_) | (with_reducible refine le_sizeC ?_) | (with_reducible refine le_sizeD ?_) | (with_reducible refine le_sizeN ?_) | go_size | (simp [go_sem]; done))⟩
    · have hge : ¬ (i : Int) < (vs.length : Int) := by omega
      have hno : findV vs x = none := by rw [hp, List.drop_of_length_le (by omega)]; rfl
      have hnK := Lib.hid hno
      clear hp hno
      go_wp2
      go_returns
      exact ⟨.inl ⟨rfl, hnK.out⟩, by repeat' (first | (with_reducible exact Below.refl _ _) | (with_reducible assumption) | (with_reducible refine Below.alloc ?_ ?_ _) | (with_reducible refine Below.drew ?_) | (with_reducible refine belowN ?_ _) | (with_reducible refine Below.setCell ?_ ?_ _) | (with_reducible refine belowG ?_ ?_) | (with_reducible exact Nat.le_refl _) | (with_reducible refine le_sizeG ?_) | (with_reducible refine le_sizeA ?_) | (with_reducible refine le_sizeC ?_) | (with_reducible refine le_sizeD ?_) | (with_reducible refine le_sizeN ?_) | go_size | (simp [go_sem]; done))⟩
set_option maxRecDepth 100000 in
set_option maxHeartbeats 1000000 in
theorem kvar_any (va : Option Addr) (vc : Nat) (vs : List (ByteArray × Int)) (sa : Option Addr) (sn sc : Nat) (x : ByteArray) (hn : vs.length ≤ 1000000) (w : World) (h : VarsAt w va vs) :
    Calls Tryz.prog 25 #[.agg #[.slice va vs.length vc, .slice sa sn sc], .string x] w (Ret (lookV vs x) w) := by
  have H := Lib.hid (fun wx hk => vars_below (w' := wx) h hk)
  have I := fun b wx hk hb => Lib.hid (vidx_any va vc vs x hn b wx (vars_below h hk) hb)
  replace I := Lib.hid I
  have hmf : ∀ (fn : Fn) (first cap : Array Value) (w : World), (Instr.makeFunc fn first cap).run Tryz.prog w = .ok (.func fn first cap) w := fun _ _ _ _ => rfl
  clear h
  go_enter Tryz.func25, Tryz.ntmps25
  go_wp2_with fail
  refine ((I.out _ _ (by repeat' (first | (with_reducible exact Below.refl _ _) | (with_reducible assumption) | (with_reducible refine Below.alloc ?_ ?_ _) | (with_reducible refine Below.drew ?_) | (with_reducible refine belowN ?_ _) | (with_reducible refine Below.setCell ?_ ?_ _) | (with_reducible refine belowG ?_ ?_) | (with_reducible exact Nat.le_refl _) | (with_reducible refine le_sizeG ?_) | (with_reducible refine le_sizeA ?_) | (with_reducible refine le_sizeC ?_) | (with_reducible refine le_sizeD ?_) | (with_reducible refine le_sizeN ?_) | go_size | (simp [go_sem]; done))) (by simp [go_sem])).out).mono ?_
  intro e w1 hr
  obtain ⟨hr, hb⟩ := hr
  obtain ⟨p, rfl⟩ := toG hb
  clear hb I
  rcases hr with ⟨rfl, hf⟩ | ⟨i, hi, rfl, hf⟩
  · have hv := Lib.hid (show lookV vs x = .tuple #[.int .i64 0, .int .i64 24] by unfold lookV; rw [hf])
    clear hf
    go_wp2
    go_returns
    exact ⟨by rw [hv.out]; rfl, by repeat' (first | (with_reducible exact Below.refl _ _) | (with_reducible assumption) | (with_reducible refine Below.alloc ?_ ?_ _) | (with_reducible refine Below.drew ?_) | (with_reducible refine belowN ?_ _) | (with_reducible refine Below.setCell ?_ ?_ _) | (with_reducible refine belowG ?_ ?_) | (with_reducible exact Nat.le_refl _) | (with_reducible refine le_sizeG ?_) | (with_reducible refine le_sizeA ?_) | (with_reducible refine le_sizeC ?_) | (with_reducible refine le_sizeD ?_) | (with_reducible refine le_sizeN ?_) | go_size | (simp [go_sem]; done))⟩
  · have hv := Lib.hid (show lookV vs x = .tuple #[.int .i64 vs[i].2, .int .i64 0] by unfold lookV; rw [hf])
    obtain ⟨g, o, rfl, hg, hc⟩ := H.out w (Below.refl _ _) (by omega)
    obtain ⟨c1, c2⟩ := hc i hi
    have hI : (i : Int) < (vs.length : Int) := by omega
    have i1 : InW g w := ⟨hg⟩
    generalize vs[i] = v at *
    clear hf hc
    go_wp2
    go_returns
    exact ⟨by rw [hv.out]; rfl, by repeat' (first | (with_reducible exact Below.refl _ _) | (with_reducible assumption) | (with_reducible refine Below.alloc ?_ ?_ _) | (with_reducible refine Below.drew ?_) | (with_reducible refine belowN ?_ _) | (with_reducible refine Below.setCell ?_ ?_ _) | (with_reducible refine belowG ?_ ?_) | (with_reducible exact Nat.le_refl _) | (with_reducible refine le_sizeG ?_) | (with_reducible refine le_sizeA ?_) | (with_reducible refine le_sizeC ?_) | (with_reducible refine le_sizeD ?_) | (with_reducible refine le_sizeN ?_) | go_size | (simp [go_sem]; done))⟩
end Go.Proofs.YtkjgfcbanlcmgaaGreatDoor

