/- Behind a false that is and'ed, and a true that is or'ed, whatever stands makes no difference. -/
import Derived.Test.YtlekmpjmcbnjdaaGreatDoorEH
import Derived.WalkKit
import Derived.ProofKit
import Derived.OpenShut
import Derived.Handy
import Derived.BigQuiet
import Derived.Lib.Hide
import Derived.WalkSmall
import Derived.WalkLawsBesides
namespace Go.Proofs.YtlekmpjmcbnjdaaGreatDoor
open Go.RowKit
theorem quietG2 {P : Program} {f : FuncId} {args : Array Value} {w : World} {p g : Regrown} {v : Value} (h : Calls P f args (G (pq p g) w) (Ret v (G (pq p g) w))) :
    Calls P f args (G (pq p g) w) fun e w'' => e = .returned v ∧ ∃ q, w'' = G q (G g w) :=
  h.mono fun _ _ hr => by
    obtain ⟨he, q, hq⟩ := hr.out
    exact ⟨he, pq q p, by rw [hq, ← G_G p g, G_G q p]⟩
theorem quietG3 {P : Program} {f : FuncId} {args : Array Value} {w : World} {p g : Regrown} {v : Value} (h : Calls P f args (G (pq p g) w) (Ret v (G (pq p g) w))) :
    Calls P f args (G (pq p g) w) fun e w'' => e = .returned v ∧ ∃ q, w'' = G (pq q g) w :=
  h.mono fun _ _ hr => by
    obtain ⟨he, q, hq⟩ := hr.out
    exact ⟨he, pq q p, by rw [hq, ← G_G p g, G_G q p, G_G]⟩
theorem errOf_nz {l : List UInt8} (h : ∀ ns, readT l ≠ .ok ns) : (errOf (readT l) != 0) = true ∧ (errOf (readT l) == 0) = false := by
  rcases hr : readT l with x | ns
  · have := readE_nz hr
    refine ⟨this, ?_⟩
    rw [bne, Bool.not_eq_true'] at this
    exact this
  · exact absurd hr (h ns)
def parB (s : ByteArray) : ByteArray := (⟨#[40]⟩ ++ s) ++ ⟨#[41]⟩
def andB (s t : ByteArray) : ByteArray := (((⟨#[40]⟩ ++ s) ++ ⟨#[41, 32, 97, 110, 100, 32, 40]⟩) ++ t) ++ ⟨#[41]⟩
def orB (s t : ByteArray) : ByteArray := (((⟨#[40]⟩ ++ s) ++ ⟨#[41, 32, 111, 114, 32, 40]⟩) ++ t) ++ ⟨#[41]⟩
theorem par_l (s : ByteArray) : (parB s).data.toList = 40 :: (s.data.toList ++ [41]) := by simp [parB]
theorem and_l (s t : ByteArray) : (andB s t).data.toList = 40 :: (s.data.toList ++ 41 :: (32 :: ([97, 110, 100] ++ 32 :: (40 :: (t.data.toList ++ [41]))))) := by simp [andB]
theorem or_l (s t : ByteArray) : (orB s t).data.toList = 40 :: (s.data.toList ++ 41 :: (32 :: ([111, 114] ++ 32 :: (40 :: (t.data.toList ++ [41]))))) := by simp [orB]
theorem par_z (s : ByteArray) : (parB s).size ≤ s.size + 2 := by
  unfold parB
  rw [ByteArray.size_append, ByteArray.size_append]
  show 1 + s.size + 1 ≤ _
  omega
theorem and_z (s t : ByteArray) : (andB s t).size ≤ s.size + t.size + 9 := by
  unfold andB
  rw [ByteArray.size_append, ByteArray.size_append, ByteArray.size_append, ByteArray.size_append]
  show 1 + s.size + 7 + t.size + 1 ≤ _
  omega
theorem or_z (s t : ByteArray) : (orB s t).size ≤ s.size + t.size + 8 := by
  unfold orB
  rw [ByteArray.size_append, ByteArray.size_append, ByteArray.size_append, ByteArray.size_append]
  show 1 + s.size + 6 + t.size + 1 ≤ _
  omega
section
variable (s t : ByteArray) (va : Option Addr) (vc : Nat) (cs : List Cl) (ia : Option Addr) (n ic : Nat)
set_option maxRecDepth 100000 in
set_option maxHeartbeats 2000000 in
/-- What isn't fit, or too long, or no expression alone. -/
theorem eshort_pre (hsm : s.size ≤ maxLen) (htm : t.size ≤ maxLen) (hvm : cs.length ≤ maxLen) (hvz : cs.length * 48 ≤ 140737488355328) (hn : n ≤ maxLen)
    (hno : ¬ FitE cs n ∨ 150 < s.size ∨ 150 < t.size ∨ (∀ ns, readT s.data.toList ≠ .ok ns) ∨ ∀ ns, readT t.data.toList ≠ .ok ns) (w : World)
    (hv : CellsAt w va cs) (hl : Lb w) (he : Eg w) : Calls Tryz.prog 6 #[.string s, .string t, envV va cs.length vc ia n ic] w (Ret (.bool true) w) := by
  have hgl := eg_lt he
  have A := Lib.hid (fun wx (hb : Below w.heap.size w wx) => anchor5_any wx (lb_below hl hb) (eg_keep he hgl hb))
  have V := Lib.hid (fun wx (hb : Below w.heap.size w wx) => cells_any va vc cs ia n ic hvm hvz hn wx (cls_below hv hb))
  have R := fun (h : s.size ≤ 150) wx (hb : Below w.heap.size w wx) => (read3_any s (by omega) wx (lb_below hl hb) (eg_keep he hgl hb)).mono fun _ _ h => rd_any h
  have R2 := fun (h : t.size ≤ 150) wx (hb : Below w.heap.size w wx) => (read3_any t (by omega) wx (lb_below hl hb) (eg_keep he hgl hb)).mono fun _ _ h => rd_any h
  replace R := Lib.hid R
  replace R2 := Lib.hid R2
  unfold maxLen at hsm htm
  unfold FitE at hno
  unfold envV at *
  clear hv hl he hgl hvm hvz hn
  by_cases hk : goodsC cs = true ∧ cs.length ≤ 100 ∧ n ≤ 100
  · replace hno := hno.resolve_left (fun h => h hk)
    go_enter Tryz.func6, Tryz.ntmps6
    go_wp2_with ((with_reducible refine (A.out _ (by repeat' (first | (with_reducible exact Below.refl _ _) | (with_reducible assumption) | (with_reducible refine Below.alloc ?_ ?_ _) | (with_reducible refine Below.drew ?_) | (with_reducible refine belowN ?_ _) | (with_reducible refine Below.setCell ?_ ?_ _) | (with_reducible refine belowG ?_ ?_) | (with_reducible exact Nat.le_refl _) | (with_reducible refine le_sizeG ?_) | (with_reducible refine le_sizeA ?_) | (with_reducible refine le_sizeC ?_) | (with_reducible refine le_sizeD ?_) | (with_reducible refine le_sizeN ?_) | go_size | (simp [go_sem]; done)))).mono ?_); intro e w1 hr; obtain ⟨rfl, p, rfl⟩ := hr.out; clear hr)
    refine (V.out _ (by repeat' (first | (with_reducible exact Below.refl _ _) | (with_reducible assumption) | (with_reducible refine Below.alloc ?_ ?_ _) | (with_reducible refine Below.drew ?_) | (with_reducible refine belowN ?_ _) | (with_reducible refine Below.setCell ?_ ?_ _) | (with_reducible refine belowG ?_ ?_) | (with_reducible exact Nat.le_refl _) | (with_reducible refine le_sizeG ?_) | (with_reducible refine le_sizeA ?_) | (with_reducible refine le_sizeC ?_) | (with_reducible refine le_sizeD ?_) | (with_reducible refine le_sizeN ?_) | go_size | (simp [go_sem]; done)))).mono ?_
    intro e w1 hr
    unfold CellsIs at hr
    rw [if_pos hk] at hr
    obtain ⟨oa, oc, rfl, _, hb⟩ := hr
    obtain ⟨p2, rfl⟩ := toG hb
    clear V A hb hk
    by_cases h6 : 150 < s.size
    · have hd : (150 : Int) < (s.size : Int) := by omega
      go_wp2
      go_returns
      exact ⟨rfl, by repeat' (first | (with_reducible exact Below.refl _ _) | (with_reducible assumption) | (with_reducible refine Below.alloc ?_ ?_ _) | (with_reducible refine Below.drew ?_) | (with_reducible refine belowN ?_ _) | (with_reducible refine Below.setCell ?_ ?_ _) | (with_reducible refine belowG ?_ ?_) | (with_reducible exact Nat.le_refl _) | (with_reducible refine le_sizeG ?_) | (with_reducible refine le_sizeA ?_) | (with_reducible refine le_sizeC ?_) | (with_reducible refine le_sizeD ?_) | (with_reducible refine le_sizeN ?_) | go_size | (simp [go_sem]; done))⟩
    · have hd : ¬ (150 : Int) < (s.size : Int) := by omega
      replace hno := hno.resolve_left h6
      by_cases h7 : 150 < t.size
      · have hd2 : (150 : Int) < (t.size : Int) := by omega
        go_wp2
        go_returns
        exact ⟨rfl, by repeat' (first | (with_reducible exact Below.refl _ _) | (with_reducible assumption) | (with_reducible refine Below.alloc ?_ ?_ _) | (with_reducible refine Below.drew ?_) | (with_reducible refine belowN ?_ _) | (with_reducible refine Below.setCell ?_ ?_ _) | (with_reducible refine belowG ?_ ?_) | (with_reducible exact Nat.le_refl _) | (with_reducible refine le_sizeG ?_) | (with_reducible refine le_sizeA ?_) | (with_reducible refine le_sizeC ?_) | (with_reducible refine le_sizeD ?_) | (with_reducible refine le_sizeN ?_) | go_size | (simp [go_sem]; done))⟩
      · have hd2 : ¬ (150 : Int) < (t.size : Int) := by omega
        replace hno := hno.resolve_left h7
        have R1 := fun wx hb => R.out (by omega) wx hb
        by_cases h8 : ∀ ns, readT s.data.toList ≠ .ok ns
        · obtain ⟨hx1, hx2⟩ := errOf_nz h8
          unfold RdAny at R1
          generalize errOf (readT s.data.toList) = x at *
          replace R1 := Lib.hid R1
          clear h8 R R2 hno
          go_wp2_with fail
          refine (R1.out _ (by repeat' (first | (with_reducible exact Below.refl _ _) | (with_reducible assumption) | (with_reducible refine Below.alloc ?_ ?_ _) | (with_reducible refine Below.drew ?_) | (with_reducible refine belowN ?_ _) | (with_reducible refine Below.setCell ?_ ?_ _) | (with_reducible refine belowG ?_ ?_) | (with_reducible exact Nat.le_refl _) | (with_reducible refine le_sizeG ?_) | (with_reducible refine le_sizeA ?_) | (with_reducible refine le_sizeC ?_) | (with_reducible refine le_sizeD ?_) | (with_reducible refine le_sizeN ?_) | go_size | (simp [go_sem]; done)))).mono ?_
          intro e w2 hr
          obtain ⟨na, nn, nc, rfl, -, hb2⟩ := hr
          obtain ⟨p3, rfl⟩ := toG hb2
          clear R1 hb2
          go_wp2
          go_returns
          exact ⟨rfl, by repeat' (first | (with_reducible exact Below.refl _ _) | (with_reducible assumption) | (with_reducible refine Below.alloc ?_ ?_ _) | (with_reducible refine Below.drew ?_) | (with_reducible refine belowN ?_ _) | (with_reducible refine Below.setCell ?_ ?_ _) | (with_reducible refine belowG ?_ ?_) | (with_reducible exact Nat.le_refl _) | (with_reducible refine le_sizeG ?_) | (with_reducible refine le_sizeA ?_) | (with_reducible refine le_sizeC ?_) | (with_reducible refine le_sizeD ?_) | (with_reducible refine le_sizeN ?_) | go_size | (simp [go_sem]; done))⟩
        · obtain ⟨hy1, hy2⟩ := errOf_nz (hno.resolve_left h8)
          have hx : errOf (readT s.data.toList) = 0 := by
            rcases hr : readT s.data.toList with x | ns
            · exact absurd (fun ns => by rw [hr]; exact fun h => by cases h) h8
            · rfl
          have R3 := fun wx hb => R2.out (by omega) wx hb
          unfold RdAny at R1 R3
          rw [hx] at R1
          generalize errOf (readT t.data.toList) = y at *
          replace R1 := Lib.hid R1
          replace R3 := Lib.hid R3
          clear h8 R R2 hno hx
          go_wp2_with fail
          refine (R1.out _ (by repeat' (first | (with_reducible exact Below.refl _ _) | (with_reducible assumption) | (with_reducible refine Below.alloc ?_ ?_ _) | (with_reducible refine Below.drew ?_) | (with_reducible refine belowN ?_ _) | (with_reducible refine Below.setCell ?_ ?_ _) | (with_reducible refine belowG ?_ ?_) | (with_reducible exact Nat.le_refl _) | (with_reducible refine le_sizeG ?_) | (with_reducible refine le_sizeA ?_) | (with_reducible refine le_sizeC ?_) | (with_reducible refine le_sizeD ?_) | (with_reducible refine le_sizeN ?_) | go_size | (simp [go_sem]; done)))).mono ?_
          intro e w2 hr
          obtain ⟨na, nn, nc, rfl, -, hb2⟩ := hr
          obtain ⟨p3, rfl⟩ := toG hb2
          clear R1 hb2
          go_wp2_with fail
          refine (R3.out _ (by repeat' (first | (with_reducible exact Below.refl _ _) | (with_reducible assumption) | (with_reducible refine Below.alloc ?_ ?_ _) | (with_reducible refine Below.drew ?_) | (with_reducible refine belowN ?_ _) | (with_reducible refine Below.setCell ?_ ?_ _) | (with_reducible refine belowG ?_ ?_) | (with_reducible exact Nat.le_refl _) | (with_reducible refine le_sizeG ?_) | (with_reducible refine le_sizeA ?_) | (with_reducible refine le_sizeC ?_) | (with_reducible refine le_sizeD ?_) | (with_reducible refine le_sizeN ?_) | go_size | (simp [go_sem]; done)))).mono ?_
          intro e w2 hr
          obtain ⟨na2, nn2, nc2, rfl, -, hb2⟩ := hr
          obtain ⟨p4, rfl⟩ := toG hb2
          clear R3 hb2
          go_wp2
          go_returns
          exact ⟨rfl, by repeat' (first | (with_reducible exact Below.refl _ _) | (with_reducible assumption) | (with_reducible refine Below.alloc ?_ ?_ _) | (with_reducible refine Below.drew ?_) | (with_reducible refine belowN ?_ _) | (with_reducible refine Below.setCell ?_ ?_ _) | (with_reducible refine belowG ?_ ?_) | (with_reducible exact Nat.le_refl _) | (with_reducible refine le_sizeG ?_) | (with_reducible refine le_sizeA ?_) | (with_reducible refine le_sizeC ?_) | (with_reducible refine le_sizeD ?_) | (with_reducible refine le_sizeN ?_) | go_size | (simp [go_sem]; done))⟩
  · clear hno R R2
    go_enter Tryz.func6, Tryz.ntmps6
    go_wp2_with ((with_reducible refine (A.out _ (by repeat' (first | (with_reducible exact Below.refl _ _) | (with_reducible assumption) | (with_reducible refine Below.alloc ?_ ?_ _) | (with_reducible refine Below.drew ?_) | (with_reducible refine belowN ?_ _) | (with_reducible refine Below.setCell ?_ ?_ _) | (with_reducible refine belowG ?_ ?_) | (with_reducible exact Nat.le_refl _) | (with_reducible refine le_sizeG ?_) | (with_reducible refine le_sizeA ?_) | (with_reducible refine le_sizeC ?_) | (with_reducible refine le_sizeD ?_) | (with_reducible refine le_sizeN ?_) | go_size | (simp [go_sem]; done)))).mono ?_); intro e w1 hr; obtain ⟨rfl, p, rfl⟩ := hr.out; clear hr)
    refine (V.out _ (by repeat' (first | (with_reducible exact Below.refl _ _) | (with_reducible assumption) | (with_reducible refine Below.alloc ?_ ?_ _) | (with_reducible refine Below.drew ?_) | (with_reducible refine belowN ?_ _) | (with_reducible refine Below.setCell ?_ ?_ _) | (with_reducible refine belowG ?_ ?_) | (with_reducible exact Nat.le_refl _) | (with_reducible refine le_sizeG ?_) | (with_reducible refine le_sizeA ?_) | (with_reducible refine le_sizeC ?_) | (with_reducible refine le_sizeD ?_) | (with_reducible refine le_sizeN ?_) | go_size | (simp [go_sem]; done)))).mono ?_
    intro e w1 hr
    unfold CellsIs at hr
    rw [if_neg hk] at hr
    obtain ⟨v, rfl, hb⟩ := hr
    obtain ⟨p2, rfl⟩ := toG hb
    clear V A hb hk
    go_wp2
    go_returns
    exact ⟨rfl, by repeat' (first | (with_reducible exact Below.refl _ _) | (with_reducible assumption) | (with_reducible refine Below.alloc ?_ ?_ _) | (with_reducible refine Below.drew ?_) | (with_reducible refine belowN ?_ _) | (with_reducible refine Below.setCell ?_ ?_ _) | (with_reducible refine belowG ?_ ?_) | (with_reducible exact Nat.le_refl _) | (with_reducible refine le_sizeG ?_) | (with_reducible refine le_sizeA ?_) | (with_reducible refine le_sizeC ?_) | (with_reducible refine le_sizeD ?_) | (with_reducible refine le_sizeN ?_) | go_size | (simp [go_sem]; done))⟩
end
theorem nz_pair {x : Int} (h : x ≠ 0) : (x == 0) = false ∧ (x != 0) = true := by
  have : (x == 0) = false := beq_eq_false_iff_ne.mpr h
  exact ⟨this, by rw [bne, this]; rfl⟩
section
variable (s t : ByteArray) (va : Option Addr) (vc : Nat) (cs : List Cl) (ia : Option Addr) (ic : Nat) (ins : List ByteArray)
set_option maxRecDepth 100000 in
set_option maxHeartbeats 4000000 in
/-- One of the three isn't read. -/
theorem eshort_three (hs : s.size ≤ 150) (ht : t.size ≤ 150) (hfit : FitE cs ins.length) (ns ms : List Nd) (h1 : readT s.data.toList = .ok ns) (h2 : readT t.data.toList = .ok ms)
    (hno : errOf (readT (parB s).data.toList) ≠ 0 ∨ errOf (readT (andB s t).data.toList) ≠ 0 ∨ errOf (readT (orB s t).data.toList) ≠ 0) (w : World)
    (hv : CellsAt w va cs) (hl : Lb w) (he : Eg w) : Calls Tryz.prog 6 #[.string s, .string t, envV va cs.length vc ia ins.length ic] w (Ret (.bool true) w) := by
  have hgl := eg_lt he
  have h100 : cs.length ≤ 100 := hfit.2.1
  have hi100 : ins.length ≤ 100 := hfit.2.2
  have A := Lib.hid (fun wx (hb : Below w.heap.size w wx) => anchor5_any wx (lb_below hl hb) (eg_keep he hgl hb))
  have V := Lib.hid (fun wx (hb : Below w.heap.size w wx) => cells_any va vc cs ia ins.length ic (by unfold maxLen; omega) (by omega) (by unfold maxLen; omega) wx (cls_below hv hb))
  have R1 := fun wx (hb : Below w.heap.size w wx) => (read3_any s (by omega) wx (lb_below hl hb) (eg_keep he hgl hb)).mono fun _ _ h => rd_any h
  have R2 := fun wx (hb : Below w.heap.size w wx) => (read3_any t (by omega) wx (lb_below hl hb) (eg_keep he hgl hb)).mono fun _ _ h => rd_any h
  have RX := fun wx (hb : Below w.heap.size w wx) => (read3_any (parB s) (by have := par_z s; omega) wx (lb_below hl hb) (eg_keep he hgl hb)).mono fun _ _ h => rd_any h
  have RY := fun wx (hb : Below w.heap.size w wx) => (read3_any (andB s t) (by have := and_z s t; omega) wx (lb_below hl hb) (eg_keep he hgl hb)).mono fun _ _ h => rd_any h
  have RZ := fun wx (hb : Below w.heap.size w wx) => (read3_any (orB s t) (by have := or_z s t; omega) wx (lb_below hl hb) (eg_keep he hgl hb)).mono fun _ _ h => rd_any h
  unfold RdAny at R1 R2 RX RY RZ
  rw [show errOf (readT s.data.toList) = 0 by rw [h1]; rfl] at R1
  rw [show errOf (readT t.data.toList) = 0 by rw [h2]; rfl] at R2
  replace R1 := Lib.hid R1
  replace R2 := Lib.hid R2
  generalize errOf (readT (parB s).data.toList) = x at *
  generalize errOf (readT (andB s t).data.toList) = y at *
  generalize errOf (readT (orB s t).data.toList) = z at *
  unfold parB at RX
  unfold andB at RY
  unfold orB at RZ
  have hd1 : ¬ (150 : Int) < (s.size : Int) := by omega
  have hd2 : ¬ (150 : Int) < (t.size : Int) := by omega
  unfold envV at *
  unfold FitE at hfit
  clear hv hl he hgl h1 h2
  have hx : x ≠ 0 ∨ x = 0 ∧ (y ≠ 0 ∨ y = 0 ∧ z ≠ 0) := by omega
  clear hno
  rcases hx with hx | ⟨rfl, hx | ⟨rfl, hx⟩⟩
  all_goals
    obtain ⟨f1, f2⟩ := nz_pair hx
    replace RX := Lib.hid RX
    replace RY := Lib.hid RY
    replace RZ := Lib.hid RZ
    clear hx
    go_enter Tryz.func6, Tryz.ntmps6
    go_wp2_with ((with_reducible refine (A.out _ (by repeat' (first | (with_reducible exact Below.refl _ _) | (with_reducible assumption) | (with_reducible refine Below.alloc ?_ ?_ _) | (with_reducible refine Below.drew ?_) | (with_reducible refine belowN ?_ _) | (with_reducible refine Below.setCell ?_ ?_ _) | (with_reducible refine belowG ?_ ?_) | (with_reducible exact Nat.le_refl _) | (with_reducible refine le_sizeG ?_) | (with_reducible refine le_sizeA ?_) | (with_reducible refine le_sizeC ?_) | (with_reducible refine le_sizeD ?_) | (with_reducible refine le_sizeN ?_) | go_size | (simp [go_sem]; done)))).mono ?_); intro e w1 hr; obtain ⟨rfl, p, rfl⟩ := hr.out; clear hr)
    refine (V.out _ (by repeat' (first | (with_reducible exact Below.refl _ _) | (with_reducible assumption) | (with_reducible refine Below.alloc ?_ ?_ _) | (with_reducible refine Below.drew ?_) | (with_reducible refine belowN ?_ _) | (with_reducible refine Below.setCell ?_ ?_ _) | (with_reducible refine belowG ?_ ?_) | (with_reducible exact Nat.le_refl _) | (with_reducible refine le_sizeG ?_) | (with_reducible refine le_sizeA ?_) | (with_reducible refine le_sizeC ?_) | (with_reducible refine le_sizeD ?_) | (with_reducible refine le_sizeN ?_) | go_size | (simp [go_sem]; done)))).mono ?_
    intro e w1 hr
    unfold CellsIs at hr
    rw [if_pos hfit] at hr
    obtain ⟨oa, oc, rfl, _, hb⟩ := hr
    obtain ⟨p2, rfl⟩ := toG hb
    clear V A hb
    go_wp2_with fail
    refine (R1.out _ (by repeat' (first | (with_reducible exact Below.refl _ _) | (with_reducible assumption) | (with_reducible refine Below.alloc ?_ ?_ _) | (with_reducible refine Below.drew ?_) | (with_reducible refine belowN ?_ _) | (with_reducible refine Below.setCell ?_ ?_ _) | (with_reducible refine belowG ?_ ?_) | (with_reducible exact Nat.le_refl _) | (with_reducible refine le_sizeG ?_) | (with_reducible refine le_sizeA ?_) | (with_reducible refine le_sizeC ?_) | (with_reducible refine le_sizeD ?_) | (with_reducible refine le_sizeN ?_) | go_size | (simp [go_sem]; done)))).mono ?_
    intro e w2 hr
    obtain ⟨na, nn, nc, rfl, -, hb2⟩ := hr
    obtain ⟨p3, rfl⟩ := toG hb2
    clear R1 hb2
    go_wp2_with fail
    refine (R2.out _ (by repeat' (first | (with_reducible exact Below.refl _ _) | (with_reducible assumption) | (with_reducible refine Below.alloc ?_ ?_ _) | (with_reducible refine Below.drew ?_) | (with_reducible refine belowN ?_ _) | (with_reducible refine Below.setCell ?_ ?_ _) | (with_reducible refine belowG ?_ ?_) | (with_reducible exact Nat.le_refl _) | (with_reducible refine le_sizeG ?_) | (with_reducible refine le_sizeA ?_) | (with_reducible refine le_sizeC ?_) | (with_reducible refine le_sizeD ?_) | (with_reducible refine le_sizeN ?_) | go_size | (simp [go_sem]; done)))).mono ?_
    intro e w2 hr
    obtain ⟨na2, nn2, nc2, rfl, -, hb2⟩ := hr
    obtain ⟨p4, rfl⟩ := toG hb2
    clear R2 hb2
    go_wp2_with fail
    refine (RX.out _ (by repeat' (first | (with_reducible exact Below.refl _ _) | (with_reducible assumption) | (with_reducible refine Below.alloc ?_ ?_ _) | (with_reducible refine Below.drew ?_) | (with_reducible refine belowN ?_ _) | (with_reducible refine Below.setCell ?_ ?_ _) | (with_reducible refine belowG ?_ ?_) | (with_reducible exact Nat.le_refl _) | (with_reducible refine le_sizeG ?_) | (with_reducible refine le_sizeA ?_) | (with_reducible refine le_sizeC ?_) | (with_reducible refine le_sizeD ?_) | (with_reducible refine le_sizeN ?_) | go_size | (simp [go_sem]; done)))).mono ?_
    intro e w2 hr
    obtain ⟨na3, nn3, nc3, rfl, -, hb2⟩ := hr
    obtain ⟨p5, rfl⟩ := toG hb2
    clear RX hb2
    go_wp2_with fail
    refine (RY.out _ (by repeat' (first | (with_reducible exact Below.refl _ _) | (with_reducible assumption) | (with_reducible refine Below.alloc ?_ ?_ _) | (with_reducible refine Below.drew ?_) | (with_reducible refine belowN ?_ _) | (with_reducible refine Below.setCell ?_ ?_ _) | (with_reducible refine belowG ?_ ?_) | (with_reducible exact Nat.le_refl _) | (with_reducible refine le_sizeG ?_) | (with_reducible refine le_sizeA ?_) | (with_reducible refine le_sizeC ?_) | (with_reducible refine le_sizeD ?_) | (with_reducible refine le_sizeN ?_) | go_size | (simp [go_sem]; done)))).mono ?_
    intro e w2 hr
    obtain ⟨na4, nn4, nc4, rfl, -, hb2⟩ := hr
    obtain ⟨p6, rfl⟩ := toG hb2
    clear RY hb2
    go_wp2_with fail
    refine (RZ.out _ (by repeat' (first | (with_reducible exact Below.refl _ _) | (with_reducible assumption) | (with_reducible refine Below.alloc ?_ ?_ _) | (with_reducible refine Below.drew ?_) | (with_reducible refine belowN ?_ _) | (with_reducible refine Below.setCell ?_ ?_ _) | (with_reducible refine belowG ?_ ?_) | (with_reducible exact Nat.le_refl _) | (with_reducible refine le_sizeG ?_) | (with_reducible refine le_sizeA ?_) | (with_reducible refine le_sizeC ?_) | (with_reducible refine le_sizeD ?_) | (with_reducible refine le_sizeN ?_) | go_size | (simp [go_sem]; done)))).mono ?_
    intro e w2 hr
    obtain ⟨na5, nn5, nc5, rfl, -, hb2⟩ := hr
    obtain ⟨p7, rfl⟩ := toG hb2
    clear RZ hb2
    go_wp2
    go_returns
    exact ⟨rfl, by repeat' (first | (with_reducible exact Below.refl _ _) | (with_reducible assumption) | (with_reducible refine Below.alloc ?_ ?_ _) | (with_reducible refine Below.drew ?_) | (with_reducible refine belowN ?_ _) | (with_reducible refine Below.setCell ?_ ?_ _) | (with_reducible refine belowG ?_ ?_) | (with_reducible exact Nat.le_refl _) | (with_reducible refine le_sizeG ?_) | (with_reducible refine le_sizeA ?_) | (with_reducible refine le_sizeC ?_) | (with_reducible refine le_sizeD ?_) | (with_reducible refine le_sizeN ?_) | go_size | (simp [go_sem]; done))⟩
end
theorem two_err {op e : Int} (h : e ≠ 0) (b : Rk) : twoR op (errR e) b = errR e := by
  unfold twoR
  rw [if_pos (show (errR e).e ≠ 0 from h)]
  rfl
theorem read_par {s : ByteArray} {ns x : List Nd} (h : readT s.data.toList = .ok ns) (hx : readT (parB s).data.toList = .ok x) : x = ns := by
  rw [par_l] at hx
  exact read_paren h hx
theorem ev_and {cs : List Cl} {ins : List ByteArray} {s t : ByteArray} {ns ms y : List Nd} (h : readT s.data.toList = .ok ns) (hm : readT t.data.toList = .ok ms) (hy : readT (andB s t).data.toList = .ok y) : evT cs ins y = twoR 14 (evT cs ins ns) (evT cs ins ms) := by
  rw [and_l] at hy
  rw [read_two (.inl ⟨rfl, rfl⟩) h hm hy]
  exact ev_pair (read_right h).1 (read_right hm).1 (by decide)
theorem ev_or {cs : List Cl} {ins : List ByteArray} {s t : ByteArray} {ns ms y : List Nd} (h : readT s.data.toList = .ok ns) (hm : readT t.data.toList = .ok ms) (hy : readT (orB s t).data.toList = .ok y) : evT cs ins y = twoR 15 (evT cs ins ns) (evT cs ins ms) := by
  rw [or_l] at hy
  rw [read_two (.inr ⟨rfl, rfl⟩) h hm hy]
  exact ev_pair (read_right h).1 (read_right hm).1 (by decide)
/-- What the three come to, and what the law asks of them. -/
inductive Ways (a b c : Rk) : Prop
  | err (x : Int) (hx : x ≠ 0) (ha : a = errR x) (hb : b = errR x) (hc : c = errR x)
  | no (ha : a = ⟨2, 0, ⟨#[]⟩, 0⟩) (hb : b = ⟨2, 0, ⟨#[]⟩, 0⟩)
  | yes (ha : a = ⟨2, 1, ⟨#[]⟩, 0⟩) (hc : c = ⟨2, 1, ⟨#[]⟩, 0⟩)
  | other (he : a.e = 0) (hk : a.k ≠ 2) (hb : b.e ≠ 0) (hc : c.e ≠ 0)
theorem ways_of {A B : Rk} (hA : SoundV A ∨ ErrA A) : Ways A (twoR 14 A B) (twoR 15 A B) := by
  rcases hA with h | ⟨h, e⟩
  · obtain ⟨he, hr, hi⟩ := h
    obtain ⟨k, n, s, e⟩ := A
    simp only at he hr hi
    subst he
    by_cases hk : k = 2
    · subst hk
      rcases right_cases 2 n s hr with ⟨h, _⟩ | ⟨_, rfl, rfl | rfl⟩ | ⟨h, _⟩
      · omega
      · exact .no rfl (short_stop rfl (by simp [stopB, Lib.toList_data]))
      · exact .yes rfl (short_stop rfl (by simp [stopB, Lib.toList_data]))
      · omega
    · exact .other rfl hk (short_kind rfl (.inl rfl) hk) (short_kind rfl (.inr rfl) hk)
  · rw [e]
    exact .err _ h rfl (two_err h B) (two_err h B)
section
variable (s t : ByteArray) (va : Option Addr) (vc : Nat) (cs : List Cl) (ia : Option Addr) (ic : Nat) (ins : List ByteArray)
set_option maxRecDepth 100000 in
set_option maxHeartbeats 8000000 in
theorem eshort_ok (hs : s.size ≤ 150) (ht : t.size ≤ 150) (hfit : FitE cs ins.length) (h64 : ∀ c ∈ cs, I64 c.n) (ns ms x y z : List Nd) (h1 : readT s.data.toList = .ok ns) (h2 : readT t.data.toList = .ok ms)
    (hx : readT (parB s).data.toList = .ok x) (hy : readT (andB s t).data.toList = .ok y) (hz : readT (orB s t).data.toList = .ok z) (w : World)
    (hv : CellsAt w va cs) (hss : StrsAt w ia ins) (hl : Lb w) (he : Eg w) : Calls Tryz.prog 6 #[.string s, .string t, envV va cs.length vc ia ins.length ic] w (Ret (.bool true) w) := by
  have hgl := eg_lt he
  have h100 : cs.length ≤ 100 := hfit.2.1
  have hi100 : ins.length ≤ 100 := hfit.2.2
  have hcs := fit_good hfit.1 h64
  have hw : Ways (evT cs ins x) (evT cs ins y) (evT cs ins z) := by
    rw [ev_and h1 h2 hy, ev_or h1 h2 hz, read_par h1 hx]
    exact ways_of (evT_sound hcs h1)
  have A := Lib.hid (fun wx (hb : Below w.heap.size w wx) => anchor5_any wx (lb_below hl hb) (eg_keep he hgl hb))
  have V := Lib.hid (fun wx (hb : Below w.heap.size w wx) => cells_any va vc cs ia ins.length ic (by unfold maxLen; omega) (by omega) (by unfold maxLen; omega) wx (cls_below hv hb))
  have R1 := fun wx (hb : Below w.heap.size w wx) => (read3_any s (by omega) wx (lb_below hl hb) (eg_keep he hgl hb)).mono fun _ _ h => rd_any h
  have R2 := fun wx (hb : Below w.heap.size w wx) => (read3_any t (by omega) wx (lb_below hl hb) (eg_keep he hgl hb)).mono fun _ _ h => rd_any h
  have RX := fun wx (hb : Below w.heap.size w wx) => read3_any (parB s) (by have := par_z s; omega) wx (lb_below hl hb) (eg_keep he hgl hb)
  have RY := fun wx (hb : Below w.heap.size w wx) => read3_any (andB s t) (by have := and_z s t; omega) wx (lb_below hl hb) (eg_keep he hgl hb)
  have RZ := fun wx (hb : Below w.heap.size w wx) => read3_any (orB s t) (by have := or_z s t; omega) wx (lb_below hl hb) (eg_keep he hgl hb)
  have EX := fun na nc wx hN (hb : Below w.heap.size w wx) => eread_any hx va vc cs ia ic ins na nc hcs (by omega) (by omega) wx hN (cls_below hv hb) (strs_below hss hb) (lb_below hl hb)
  have EY := fun na nc wx hN (hb : Below w.heap.size w wx) => eread_any hy va vc cs ia ic ins na nc hcs (by omega) (by omega) wx hN (cls_below hv hb) (strs_below hss hb) (lb_below hl hb)
  have EZ := fun na nc wx hN (hb : Below w.heap.size w wx) => eread_any hz va vc cs ia ic ins na nc hcs (by omega) (by omega) wx hN (cls_below hv hb) (strs_below hss hb) (lb_below hl hb)
  unfold RdAny at R1 R2
  rw [show errOf (readT s.data.toList) = 0 by rw [h1]; rfl] at R1
  rw [show errOf (readT t.data.toList) = 0 by rw [h2]; rfl] at R2
  rw [hx] at RX
  rw [hy] at RY
  rw [hz] at RZ
  replace R1 := Lib.hid R1
  replace R2 := Lib.hid R2
  unfold parB at RX
  unfold andB at RY
  unfold orB at RZ
  replace RX := Lib.hid RX
  replace RY := Lib.hid RY
  replace RZ := Lib.hid RZ
  have hd1 : ¬ (150 : Int) < (s.size : Int) := by omega
  have hd2 : ¬ (150 : Int) < (t.size : Int) := by omega
  generalize evT cs ins x = ea at *
  generalize evT cs ins y = eb at *
  generalize evT cs ins z = ec at *
  rw [rkV_def] at EX EY EZ
  unfold envV at *
  unfold FitE at hfit
  replace EX := Lib.hid EX
  replace EY := Lib.hid EY
  replace EZ := Lib.hid EZ
  have hwK := Lib.hid hw
  clear hv hss hl he hgl h1 h2 hx hy hz hcs h64 hw hs ht h100 hi100
  go_enter Tryz.func6, Tryz.ntmps6
  go_wp2_with ((with_reducible refine (A.out _ (by repeat' (first | (with_reducible exact Below.refl _ _) | (with_reducible assumption) | (with_reducible refine Below.alloc ?_ ?_ _) | (with_reducible refine Below.drew ?_) | (with_reducible refine belowN ?_ _) | (with_reducible refine Below.setCell ?_ ?_ _) | (with_reducible refine belowG ?_ ?_) | (with_reducible exact Nat.le_refl _) | (with_reducible refine le_sizeG ?_) | (with_reducible refine le_sizeA ?_) | (with_reducible refine le_sizeC ?_) | (with_reducible refine le_sizeD ?_) | (with_reducible refine le_sizeN ?_) | go_size | (simp [go_sem]; done)))).mono ?_); intro e w1 hr; obtain ⟨rfl, p, rfl⟩ := hr.out; clear hr)
  refine (V.out _ (by repeat' (first | (with_reducible exact Below.refl _ _) | (with_reducible assumption) | (with_reducible refine Below.alloc ?_ ?_ _) | (with_reducible refine Below.drew ?_) | (with_reducible refine belowN ?_ _) | (with_reducible refine Below.setCell ?_ ?_ _) | (with_reducible refine belowG ?_ ?_) | (with_reducible exact Nat.le_refl _) | (with_reducible refine le_sizeG ?_) | (with_reducible refine le_sizeA ?_) | (with_reducible refine le_sizeC ?_) | (with_reducible refine le_sizeD ?_) | (with_reducible refine le_sizeN ?_) | go_size | (simp [go_sem]; done)))).mono ?_
  intro e w1 hr
  unfold CellsIs at hr
  rw [if_pos hfit] at hr
  obtain ⟨oa, oc, rfl, _, hb⟩ := hr
  have hbs := hb.size
  have b1 := (hb.cell (p := ⟨w.heap.size, 1, none⟩) (by simp [go_sem])).trans (show _ = some (Value.slice ia ins.length ic) by simp [go_sem])
  have b0 := (hb.cell (p := ⟨w.heap.size, 0, none⟩) (by simp [go_sem])).trans (show _ = some (Value.slice va cs.length vc) by simp [go_sem])
  have hw1 : Below w.heap.size w w1 := Below.trans (by repeat' (first | (with_reducible exact Below.refl _ _) | (with_reducible assumption) | (with_reducible refine Below.alloc ?_ ?_ _) | (with_reducible refine Below.drew ?_) | (with_reducible refine belowN ?_ _) | (with_reducible refine Below.setCell ?_ ?_ _) | (with_reducible refine belowG ?_ ?_) | (with_reducible exact Nat.le_refl _) | (with_reducible refine le_sizeG ?_) | (with_reducible refine le_sizeA ?_) | (with_reducible refine le_sizeC ?_) | (with_reducible refine le_sizeD ?_) | (with_reducible refine le_sizeN ?_) | go_size | (simp [go_sem]; done))) (hb.mono (by first | exact Nat.le_refl _ | repeat' (first | (with_reducible exact Below.refl _ _) | (with_reducible assumption) | (with_reducible refine Below.alloc ?_ ?_ _) | (with_reducible refine Below.drew ?_) | (with_reducible refine belowN ?_ _) | (with_reducible refine Below.setCell ?_ ?_ _) | (with_reducible refine belowG ?_ ?_) | (with_reducible exact Nat.le_refl _) | (with_reducible refine le_sizeG ?_) | (with_reducible refine le_sizeA ?_) | (with_reducible refine le_sizeC ?_) | (with_reducible refine le_sizeD ?_) | (with_reducible refine le_sizeN ?_) | go_size | (simp [go_sem]; done))))
  have i0 : InW w.heap.size w1 := ⟨World.block_lt_of_cell? _ _ b0⟩
  clear V A hb hfit hbs
  have hwz := hw1.size
  go_wp2_with fail
  refine (R1.out _ (by repeat' (first | (with_reducible exact Below.refl _ _) | (with_reducible assumption) | (with_reducible refine Below.alloc ?_ ?_ _) | (with_reducible refine Below.drew ?_) | (with_reducible refine belowN ?_ _) | (with_reducible refine Below.setCell ?_ ?_ _) | (with_reducible refine belowG ?_ ?_) | (with_reducible exact Nat.le_refl _) | (with_reducible refine le_sizeG ?_) | (with_reducible refine le_sizeA ?_) | (with_reducible refine le_sizeC ?_) | (with_reducible refine le_sizeD ?_) | (with_reducible refine le_sizeN ?_) | go_size | (simp [go_sem]; done)))).mono ?_
  intro e w2 hr
  obtain ⟨na, nn, nc, rfl, -, hb2⟩ := hr
  obtain ⟨p3, rfl⟩ := toG hb2
  clear R1 hb2
  go_wp2_with fail
  refine (R2.out _ (by repeat' (first | (with_reducible exact Below.refl _ _) | (with_reducible assumption) | (with_reducible refine Below.alloc ?_ ?_ _) | (with_reducible refine Below.drew ?_) | (with_reducible refine belowN ?_ _) | (with_reducible refine Below.setCell ?_ ?_ _) | (with_reducible refine belowG ?_ ?_) | (with_reducible exact Nat.le_refl _) | (with_reducible refine le_sizeG ?_) | (with_reducible refine le_sizeA ?_) | (with_reducible refine le_sizeC ?_) | (with_reducible refine le_sizeD ?_) | (with_reducible refine le_sizeN ?_) | go_size | (simp [go_sem]; done)))).mono ?_
  intro e w2 hr
  obtain ⟨na2, nn2, nc2, rfl, -, hb2⟩ := hr
  obtain ⟨p4, rfl⟩ := toG hb2
  clear R2 hb2
  go_wp2_with fail
  refine (RX.out _ (by repeat' (first | (with_reducible exact Below.refl _ _) | (with_reducible assumption) | (with_reducible refine Below.alloc ?_ ?_ _) | (with_reducible refine Below.drew ?_) | (with_reducible refine belowN ?_ _) | (with_reducible refine Below.setCell ?_ ?_ _) | (with_reducible refine belowG ?_ ?_) | (with_reducible exact Nat.le_refl _) | (with_reducible refine le_sizeG ?_) | (with_reducible refine le_sizeA ?_) | (with_reducible refine le_sizeC ?_) | (with_reducible refine le_sizeD ?_) | (with_reducible refine le_sizeN ?_) | go_size | (simp [go_sem]; done)))).mono ?_
  intro e w2 hr
  obtain ⟨v, rfl, hown, hb2⟩ := hr
  obtain ⟨xa, xc, hvx⟩ := own_form hown
  subst hvx
  have NX := Lib.hid (fun wx hx => nds_below (w' := wx) (nds_own hown) hx)
  have hq2 : Below w1.heap.size w1 w2 := Below.trans (by repeat' (first | (with_reducible exact Below.refl _ _) | (with_reducible assumption) | (with_reducible refine Below.alloc ?_ ?_ _) | (with_reducible refine Below.drew ?_) | (with_reducible refine belowN ?_ _) | (with_reducible refine Below.setCell ?_ ?_ _) | (with_reducible refine belowG ?_ ?_) | (with_reducible exact Nat.le_refl _) | (with_reducible refine le_sizeG ?_) | (with_reducible refine le_sizeA ?_) | (with_reducible refine le_sizeC ?_) | (with_reducible refine le_sizeD ?_) | (with_reducible refine le_sizeN ?_) | go_size | (simp [go_sem]; done))) (hb2.mono (by repeat' (first | (with_reducible exact Below.refl _ _) | (with_reducible assumption) | (with_reducible refine Below.alloc ?_ ?_ _) | (with_reducible refine Below.drew ?_) | (with_reducible refine belowN ?_ _) | (with_reducible refine Below.setCell ?_ ?_ _) | (with_reducible refine belowG ?_ ?_) | (with_reducible exact Nat.le_refl _) | (with_reducible refine le_sizeG ?_) | (with_reducible refine le_sizeA ?_) | (with_reducible refine le_sizeC ?_) | (with_reducible refine le_sizeD ?_) | (with_reducible refine le_sizeN ?_) | go_size | (simp [go_sem]; done))))
  clear RX hb2 hown
  have c0 := (hq2.cell (p := ⟨w.heap.size, 0, none⟩) i0.lt).trans b0
  have c1 := (hq2.cell (p := ⟨w.heap.size, 1, none⟩) i0.lt).trans b1
  have i2 : InW w.heap.size w2 := ⟨World.block_lt_of_cell? _ _ c0⟩
  have hw2 := hw1.trans (hq2.mono hwz)
  have hwz2 := hw2.size
  clear b0 b1 i0 hq2
  go_wp2_with fail
  refine (RY.out _ (by repeat' (first | (with_reducible exact Below.refl _ _) | (with_reducible assumption) | (with_reducible refine Below.alloc ?_ ?_ _) | (with_reducible refine Below.drew ?_) | (with_reducible refine belowN ?_ _) | (with_reducible refine Below.setCell ?_ ?_ _) | (with_reducible refine belowG ?_ ?_) | (with_reducible exact Nat.le_refl _) | (with_reducible refine le_sizeG ?_) | (with_reducible refine le_sizeA ?_) | (with_reducible refine le_sizeC ?_) | (with_reducible refine le_sizeD ?_) | (with_reducible refine le_sizeN ?_) | go_size | (simp [go_sem]; done)))).mono ?_
  intro e w3 hr
  obtain ⟨v, rfl, hown, hb2⟩ := hr
  obtain ⟨ya, yc, hvx⟩ := own_form hown
  subst hvx
  have NY := Lib.hid (fun wx hx => nds_below (w' := wx) (nds_own hown) hx)
  have hq3 : Below w2.heap.size w2 w3 := Below.trans (by repeat' (first | (with_reducible exact Below.refl _ _) | (with_reducible assumption) | (with_reducible refine Below.alloc ?_ ?_ _) | (with_reducible refine Below.drew ?_) | (with_reducible refine belowN ?_ _) | (with_reducible refine Below.setCell ?_ ?_ _) | (with_reducible refine belowG ?_ ?_) | (with_reducible exact Nat.le_refl _) | (with_reducible refine le_sizeG ?_) | (with_reducible refine le_sizeA ?_) | (with_reducible refine le_sizeC ?_) | (with_reducible refine le_sizeD ?_) | (with_reducible refine le_sizeN ?_) | go_size | (simp [go_sem]; done))) (hb2.mono (by repeat' (first | (with_reducible exact Below.refl _ _) | (with_reducible assumption) | (with_reducible refine Below.alloc ?_ ?_ _) | (with_reducible refine Below.drew ?_) | (with_reducible refine belowN ?_ _) | (with_reducible refine Below.setCell ?_ ?_ _) | (with_reducible refine belowG ?_ ?_) | (with_reducible exact Nat.le_refl _) | (with_reducible refine le_sizeG ?_) | (with_reducible refine le_sizeA ?_) | (with_reducible refine le_sizeC ?_) | (with_reducible refine le_sizeD ?_) | (with_reducible refine le_sizeN ?_) | go_size | (simp [go_sem]; done))))
  clear RY hb2 hown
  have d0 := (hq3.cell (p := ⟨w.heap.size, 0, none⟩) i2.lt).trans c0
  have d1 := (hq3.cell (p := ⟨w.heap.size, 1, none⟩) i2.lt).trans c1
  have i3 : InW w.heap.size w3 := ⟨World.block_lt_of_cell? _ _ d0⟩
  have hw3 := hw2.trans (hq3.mono hwz2)
  have hwz3 := hw3.size
  clear c0 c1 i2
  go_wp2_with fail
  refine (RZ.out _ (by repeat' (first | (with_reducible exact Below.refl _ _) | (with_reducible assumption) | (with_reducible refine Below.alloc ?_ ?_ _) | (with_reducible refine Below.drew ?_) | (with_reducible refine belowN ?_ _) | (with_reducible refine Below.setCell ?_ ?_ _) | (with_reducible refine belowG ?_ ?_) | (with_reducible exact Nat.le_refl _) | (with_reducible refine le_sizeG ?_) | (with_reducible refine le_sizeA ?_) | (with_reducible refine le_sizeC ?_) | (with_reducible refine le_sizeD ?_) | (with_reducible refine le_sizeN ?_) | go_size | (simp [go_sem]; done)))).mono ?_
  intro e w4 hr
  obtain ⟨v, rfl, hown, hb2⟩ := hr
  obtain ⟨za, zc, hvx⟩ := own_form hown
  subst hvx
  have NZ := Lib.hid (fun wx hx => nds_below (w' := wx) (nds_own hown) hx)
  have hq4 : Below w3.heap.size w3 w4 := Below.trans (by repeat' (first | (with_reducible exact Below.refl _ _) | (with_reducible assumption) | (with_reducible refine Below.alloc ?_ ?_ _) | (with_reducible refine Below.drew ?_) | (with_reducible refine belowN ?_ _) | (with_reducible refine Below.setCell ?_ ?_ _) | (with_reducible refine belowG ?_ ?_) | (with_reducible exact Nat.le_refl _) | (with_reducible refine le_sizeG ?_) | (with_reducible refine le_sizeA ?_) | (with_reducible refine le_sizeC ?_) | (with_reducible refine le_sizeD ?_) | (with_reducible refine le_sizeN ?_) | go_size | (simp [go_sem]; done))) (hb2.mono (by repeat' (first | (with_reducible exact Below.refl _ _) | (with_reducible assumption) | (with_reducible refine Below.alloc ?_ ?_ _) | (with_reducible refine Below.drew ?_) | (with_reducible refine belowN ?_ _) | (with_reducible refine Below.setCell ?_ ?_ _) | (with_reducible refine belowG ?_ ?_) | (with_reducible exact Nat.le_refl _) | (with_reducible refine le_sizeG ?_) | (with_reducible refine le_sizeA ?_) | (with_reducible refine le_sizeC ?_) | (with_reducible refine le_sizeD ?_) | (with_reducible refine le_sizeN ?_) | go_size | (simp [go_sem]; done))))
  clear RZ hb2 hown
  have e0 := (hq4.cell (p := ⟨w.heap.size, 0, none⟩) i3.lt).trans d0
  have e1 := (hq4.cell (p := ⟨w.heap.size, 1, none⟩) i3.lt).trans d1
  have i4 : InW w.heap.size w4 := ⟨World.block_lt_of_cell? _ _ e0⟩
  have hw4 := hw3.trans (hq4.mono hwz3)
  have hwz4 := hw4.size
  clear d0 d1 i3
  have X4 := fun wx (hx : Below w4.heap.size w4 wx) => EX.out xa xc wx (NX.out wx (hq3.trans ((hq4.trans (hx.mono hq4.size)).mono hq3.size))) (hw4.trans (hx.mono hwz4))
  have Y4 := fun wx (hx : Below w4.heap.size w4 wx) => EY.out ya yc wx (NY.out wx (hq4.trans (hx.mono hq4.size))) (hw4.trans (hx.mono hwz4))
  have Z4 := fun wx (hx : Below w4.heap.size w4 wx) => EZ.out za zc wx (NZ.out wx hx) (hw4.trans (hx.mono hwz4))
  clear EX EY EZ NX NY NZ hq3 hq4 hw1 hw2 hw3 hwz hwz2 hwz3
  obtain ⟨ak, an, as_, ae⟩ := ea
  obtain ⟨bk, bn, bs, be⟩ := eb
  obtain ⟨ck, cn, cs_, ce⟩ := ec
  simp only at X4 Y4 Z4
  rcases hwK.out with ⟨x0, hx0, ha, hb, hc⟩ | ⟨ha, hb⟩ | ⟨ha, hc⟩ | ⟨he, hk, hb, hc⟩
  · cases ha; cases hb; cases hc
    obtain ⟨f1, f2⟩ := nz_pair hx0
    replace X4 := Lib.hid X4
    replace Y4 := Lib.hid Y4
    replace Z4 := Lib.hid Z4
    clear hx0 hwK
    go_wp2_with (first | ((with_reducible refine (X4.out _ (by repeat' (first | (with_reducible exact Below.refl _ _) | (with_reducible assumption) | (with_reducible refine Below.alloc ?_ ?_ _) | (with_reducible refine Below.drew ?_) | (with_reducible refine belowN ?_ _) | (with_reducible refine Below.setCell ?_ ?_ _) | (with_reducible refine belowG ?_ ?_) | (with_reducible exact Nat.le_refl _) | (with_reducible refine le_sizeG ?_) | (with_reducible refine le_sizeA ?_) | (with_reducible refine le_sizeC ?_) | (with_reducible refine le_sizeD ?_) | (with_reducible refine le_sizeN ?_) | go_size | (simp [go_sem]; done)))).mono ?_); intro e w1 hr; obtain ⟨rfl, p, rfl⟩ := hr.out; clear hr) | ((with_reducible refine (Y4.out _ (by repeat' (first | (with_reducible exact Below.refl _ _) | (with_reducible assumption) | (with_reducible refine Below.alloc ?_ ?_ _) | (with_reducible refine Below.drew ?_) | (with_reducible refine belowN ?_ _) | (with_reducible refine Below.setCell ?_ ?_ _) | (with_reducible refine belowG ?_ ?_) | (with_reducible exact Nat.le_refl _) | (with_reducible refine le_sizeG ?_) | (with_reducible refine le_sizeA ?_) | (with_reducible refine le_sizeC ?_) | (with_reducible refine le_sizeD ?_) | (with_reducible refine le_sizeN ?_) | go_size | (simp [go_sem]; done)))).mono ?_); intro e w1 hr; obtain ⟨rfl, p, rfl⟩ := hr.out; clear hr) | ((with_reducible refine (Z4.out _ (by repeat' (first | (with_reducible exact Below.refl _ _) | (with_reducible assumption) | (with_reducible refine Below.alloc ?_ ?_ _) | (with_reducible refine Below.drew ?_) | (with_reducible refine belowN ?_ _) | (with_reducible refine Below.setCell ?_ ?_ _) | (with_reducible refine belowG ?_ ?_) | (with_reducible exact Nat.le_refl _) | (with_reducible refine le_sizeG ?_) | (with_reducible refine le_sizeA ?_) | (with_reducible refine le_sizeC ?_) | (with_reducible refine le_sizeD ?_) | (with_reducible refine le_sizeN ?_) | go_size | (simp [go_sem]; done)))).mono ?_); intro e w1 hr; obtain ⟨rfl, p, rfl⟩ := hr.out; clear hr))
    go_returns
    exact ⟨rfl, by repeat' (first | (with_reducible exact Below.refl _ _) | (with_reducible assumption) | (with_reducible refine Below.alloc ?_ ?_ _) | (with_reducible refine Below.drew ?_) | (with_reducible refine belowN ?_ _) | (with_reducible refine Below.setCell ?_ ?_ _) | (with_reducible refine belowG ?_ ?_) | (with_reducible exact Nat.le_refl _) | (with_reducible refine le_sizeG ?_) | (with_reducible refine le_sizeA ?_) | (with_reducible refine le_sizeC ?_) | (with_reducible refine le_sizeD ?_) | (with_reducible refine le_sizeN ?_) | go_size | (simp [go_sem]; done))⟩
  · cases ha; cases hb
    replace X4 := Lib.hid X4
    replace Y4 := Lib.hid Y4
    replace Z4 := Lib.hid Z4
    clear hwK
    go_wp2_with (first | ((with_reducible refine (X4.out _ (by repeat' (first | (with_reducible exact Below.refl _ _) | (with_reducible assumption) | (with_reducible refine Below.alloc ?_ ?_ _) | (with_reducible refine Below.drew ?_) | (with_reducible refine belowN ?_ _) | (with_reducible refine Below.setCell ?_ ?_ _) | (with_reducible refine belowG ?_ ?_) | (with_reducible exact Nat.le_refl _) | (with_reducible refine le_sizeG ?_) | (with_reducible refine le_sizeA ?_) | (with_reducible refine le_sizeC ?_) | (with_reducible refine le_sizeD ?_) | (with_reducible refine le_sizeN ?_) | go_size | (simp [go_sem]; done)))).mono ?_); intro e w1 hr; obtain ⟨rfl, p, rfl⟩ := hr.out; clear hr) | ((with_reducible refine (Y4.out _ (by repeat' (first | (with_reducible exact Below.refl _ _) | (with_reducible assumption) | (with_reducible refine Below.alloc ?_ ?_ _) | (with_reducible refine Below.drew ?_) | (with_reducible refine belowN ?_ _) | (with_reducible refine Below.setCell ?_ ?_ _) | (with_reducible refine belowG ?_ ?_) | (with_reducible exact Nat.le_refl _) | (with_reducible refine le_sizeG ?_) | (with_reducible refine le_sizeA ?_) | (with_reducible refine le_sizeC ?_) | (with_reducible refine le_sizeD ?_) | (with_reducible refine le_sizeN ?_) | go_size | (simp [go_sem]; done)))).mono ?_); intro e w1 hr; obtain ⟨rfl, p, rfl⟩ := hr.out; clear hr) | ((with_reducible refine (Z4.out _ (by repeat' (first | (with_reducible exact Below.refl _ _) | (with_reducible assumption) | (with_reducible refine Below.alloc ?_ ?_ _) | (with_reducible refine Below.drew ?_) | (with_reducible refine belowN ?_ _) | (with_reducible refine Below.setCell ?_ ?_ _) | (with_reducible refine belowG ?_ ?_) | (with_reducible exact Nat.le_refl _) | (with_reducible refine le_sizeG ?_) | (with_reducible refine le_sizeA ?_) | (with_reducible refine le_sizeC ?_) | (with_reducible refine le_sizeD ?_) | (with_reducible refine le_sizeN ?_) | go_size | (simp [go_sem]; done)))).mono ?_); intro e w1 hr; obtain ⟨rfl, p, rfl⟩ := hr.out; clear hr))
    (refine wp_region_G (by kernel_rfl) (by kernel_rfl) ?_; (repeat (go_big_quiet_step (exact quietG (truth_f _)))); refine wpQuiet_nil ?_; intro _ hw'; obtain ⟨pg, hw''⟩ := hw'; subst hw'')
    go_wp2
    go_returns
    exact ⟨rfl, by repeat' (first | (with_reducible exact Below.refl _ _) | (with_reducible assumption) | (with_reducible refine Below.alloc ?_ ?_ _) | (with_reducible refine Below.drew ?_) | (with_reducible refine belowN ?_ _) | (with_reducible refine Below.setCell ?_ ?_ _) | (with_reducible refine belowG ?_ ?_) | (with_reducible exact Nat.le_refl _) | (with_reducible refine le_sizeG ?_) | (with_reducible refine le_sizeA ?_) | (with_reducible refine le_sizeC ?_) | (with_reducible refine le_sizeD ?_) | (with_reducible refine le_sizeN ?_) | go_size | (simp [go_sem]; done))⟩
  · cases ha; cases hc
    replace X4 := Lib.hid X4
    replace Y4 := Lib.hid Y4
    replace Z4 := Lib.hid Z4
    clear hwK
    go_wp2_with (first | ((with_reducible refine (X4.out _ (by repeat' (first | (with_reducible exact Below.refl _ _) | (with_reducible assumption) | (with_reducible refine Below.alloc ?_ ?_ _) | (with_reducible refine Below.drew ?_) | (with_reducible refine belowN ?_ _) | (with_reducible refine Below.setCell ?_ ?_ _) | (with_reducible refine belowG ?_ ?_) | (with_reducible exact Nat.le_refl _) | (with_reducible refine le_sizeG ?_) | (with_reducible refine le_sizeA ?_) | (with_reducible refine le_sizeC ?_) | (with_reducible refine le_sizeD ?_) | (with_reducible refine le_sizeN ?_) | go_size | (simp [go_sem]; done)))).mono ?_); intro e w1 hr; obtain ⟨rfl, p, rfl⟩ := hr.out; clear hr) | ((with_reducible refine (Y4.out _ (by repeat' (first | (with_reducible exact Below.refl _ _) | (with_reducible assumption) | (with_reducible refine Below.alloc ?_ ?_ _) | (with_reducible refine Below.drew ?_) | (with_reducible refine belowN ?_ _) | (with_reducible refine Below.setCell ?_ ?_ _) | (with_reducible refine belowG ?_ ?_) | (with_reducible exact Nat.le_refl _) | (with_reducible refine le_sizeG ?_) | (with_reducible refine le_sizeA ?_) | (with_reducible refine le_sizeC ?_) | (with_reducible refine le_sizeD ?_) | (with_reducible refine le_sizeN ?_) | go_size | (simp [go_sem]; done)))).mono ?_); intro e w1 hr; obtain ⟨rfl, p, rfl⟩ := hr.out; clear hr) | ((with_reducible refine (Z4.out _ (by repeat' (first | (with_reducible exact Below.refl _ _) | (with_reducible assumption) | (with_reducible refine Below.alloc ?_ ?_ _) | (with_reducible refine Below.drew ?_) | (with_reducible refine belowN ?_ _) | (with_reducible refine Below.setCell ?_ ?_ _) | (with_reducible refine belowG ?_ ?_) | (with_reducible exact Nat.le_refl _) | (with_reducible refine le_sizeG ?_) | (with_reducible refine le_sizeA ?_) | (with_reducible refine le_sizeC ?_) | (with_reducible refine le_sizeD ?_) | (with_reducible refine le_sizeN ?_) | go_size | (simp [go_sem]; done)))).mono ?_); intro e w1 hr; obtain ⟨rfl, p, rfl⟩ := hr.out; clear hr))
    (refine wp_region_G (by kernel_rfl) (by kernel_rfl) ?_; (repeat (go_big_quiet_step (exact quietG (truth_f _)))); refine wpQuiet_nil ?_; intro _ hw'; obtain ⟨pg, hw''⟩ := hw'; subst hw'')
    go_wp2_with fail
    (refine wp_region_G (by kernel_rfl) (by kernel_rfl) ?_; (repeat (go_big_quiet_step ((first | exact quietG (truth_t _) | exact quietG2 (truth_t _) | exact quietG3 (truth_t _))))); refine wpQuiet_nil ?_; intro _ hw'; obtain ⟨pg, hw''⟩ := hw'; subst hw'')
    go_wp2
    go_returns
    exact ⟨rfl, by repeat' (first | (with_reducible exact Below.refl _ _) | (with_reducible assumption) | (with_reducible refine Below.alloc ?_ ?_ _) | (with_reducible refine Below.drew ?_) | (with_reducible refine belowN ?_ _) | (with_reducible refine Below.setCell ?_ ?_ _) | (with_reducible refine belowG ?_ ?_) | (with_reducible exact Nat.le_refl _) | (with_reducible refine le_sizeG ?_) | (with_reducible refine le_sizeA ?_) | (with_reducible refine le_sizeC ?_) | (with_reducible refine le_sizeD ?_) | (with_reducible refine le_sizeN ?_) | go_size | (simp [go_sem]; done))⟩
  · simp only at he hk hb hc
    subst he
    obtain ⟨f1, f2⟩ := nz_pair hb
    obtain ⟨f3, f4⟩ := nz_pair hc
    have k0 : (ak == 2) = false := beq_eq_false_iff_ne.mpr hk
    replace X4 := Lib.hid X4
    replace Y4 := Lib.hid Y4
    replace Z4 := Lib.hid Z4
    clear hwK hk hb hc
    go_wp2_with (first | ((with_reducible refine (X4.out _ (by repeat' (first | (with_reducible exact Below.refl _ _) | (with_reducible assumption) | (with_reducible refine Below.alloc ?_ ?_ _) | (with_reducible refine Below.drew ?_) | (with_reducible refine belowN ?_ _) | (with_reducible refine Below.setCell ?_ ?_ _) | (with_reducible refine belowG ?_ ?_) | (with_reducible exact Nat.le_refl _) | (with_reducible refine le_sizeG ?_) | (with_reducible refine le_sizeA ?_) | (with_reducible refine le_sizeC ?_) | (with_reducible refine le_sizeD ?_) | (with_reducible refine le_sizeN ?_) | go_size | (simp [go_sem]; done)))).mono ?_); intro e w1 hr; obtain ⟨rfl, p, rfl⟩ := hr.out; clear hr) | ((with_reducible refine (Y4.out _ (by repeat' (first | (with_reducible exact Below.refl _ _) | (with_reducible assumption) | (with_reducible refine Below.alloc ?_ ?_ _) | (with_reducible refine Below.drew ?_) | (with_reducible refine belowN ?_ _) | (with_reducible refine Below.setCell ?_ ?_ _) | (with_reducible refine belowG ?_ ?_) | (with_reducible exact Nat.le_refl _) | (with_reducible refine le_sizeG ?_) | (with_reducible refine le_sizeA ?_) | (with_reducible refine le_sizeC ?_) | (with_reducible refine le_sizeD ?_) | (with_reducible refine le_sizeN ?_) | go_size | (simp [go_sem]; done)))).mono ?_); intro e w1 hr; obtain ⟨rfl, p, rfl⟩ := hr.out; clear hr) | ((with_reducible refine (Z4.out _ (by repeat' (first | (with_reducible exact Below.refl _ _) | (with_reducible assumption) | (with_reducible refine Below.alloc ?_ ?_ _) | (with_reducible refine Below.drew ?_) | (with_reducible refine belowN ?_ _) | (with_reducible refine Below.setCell ?_ ?_ _) | (with_reducible refine belowG ?_ ?_) | (with_reducible exact Nat.le_refl _) | (with_reducible refine le_sizeG ?_) | (with_reducible refine le_sizeA ?_) | (with_reducible refine le_sizeC ?_) | (with_reducible refine le_sizeD ?_) | (with_reducible refine le_sizeN ?_) | go_size | (simp [go_sem]; done)))).mono ?_); intro e w1 hr; obtain ⟨rfl, p, rfl⟩ := hr.out; clear hr))
    (refine wp_region_G (by kernel_rfl) (by kernel_rfl) ?_; (repeat (go_big_quiet_step (exact quietG (truth_f _)))); refine wpQuiet_nil ?_; intro _ hw'; obtain ⟨pg, hw''⟩ := hw'; subst hw'')
    go_wp2_with fail
    (refine wp_region_G (by kernel_rfl) (by kernel_rfl) ?_; (repeat (go_big_quiet_step ((first | exact quietG (truth_t _) | exact quietG2 (truth_t _) | exact quietG3 (truth_t _))))); refine wpQuiet_nil ?_; intro _ hw'; obtain ⟨pg, hw''⟩ := hw'; subst hw'')
    go_wp2
    go_returns
    exact ⟨rfl, by repeat' (first | (with_reducible exact Below.refl _ _) | (with_reducible assumption) | (with_reducible refine Below.alloc ?_ ?_ _) | (with_reducible refine Below.drew ?_) | (with_reducible refine belowN ?_ _) | (with_reducible refine Below.setCell ?_ ?_ _) | (with_reducible refine belowG ?_ ?_) | (with_reducible exact Nat.le_refl _) | (with_reducible refine le_sizeG ?_) | (with_reducible refine le_sizeA ?_) | (with_reducible refine le_sizeC ?_) | (with_reducible refine le_sizeD ?_) | (with_reducible refine le_sizeN ?_) | go_size | (simp [go_sem]; done))⟩
end
theorem eshort_row {H : Type} (s t : ByteArray) {v1 : Value} {d1 : DataW H} {cs : List Cl} {ins : List ByteArray} {W : World} (E : EnvV W v1 d1 cs ins)
    (hz : (d1.weights Tryz.prog 25).all (· ≤ reachBytes) = true) (hs : s.size ≤ maxLen) (ht : t.size ≤ maxLen) (hl : Lb W) (he : Eg W) : Calls Tryz.prog 6 #[.string s, .string t, v1] W (Ret (.bool true) W) := by
  have hr := env_reach E hz
  obtain ⟨va, vc, ia, ic, rfl, hv, hss, hvm, him, _, hin⟩ := E
  by_cases hno : ¬ FitE cs ins.length ∨ 150 < s.size ∨ 150 < t.size ∨ (∀ ns, readT s.data.toList ≠ .ok ns) ∨ ∀ ns, readT t.data.toList ≠ .ok ns
  · exact eshort_pre s t va vc cs ia ins.length ic hs ht hvm hr him hno W hv hl he
  · have hfit : FitE cs ins.length := Classical.not_not.1 (fun h => hno (.inl h))
    rcases h1 : readT s.data.toList with x | ns
    · exact absurd (.inr (.inr (.inr (.inl (fun ns h => by rw [h1] at h; cases h))))) hno
    rcases h2 : readT t.data.toList with x | ms
    · exact absurd (.inr (.inr (.inr (.inr (fun ns h => by rw [h2] at h; cases h))))) hno
    by_cases h3 : errOf (readT (parB s).data.toList) ≠ 0 ∨ errOf (readT (andB s t).data.toList) ≠ 0 ∨ errOf (readT (orB s t).data.toList) ≠ 0
    · exact eshort_three s t va vc cs ia ic ins (by omega) (by omega) hfit ns ms h1 h2 h3 W hv hl he
    · have ok : ∀ l, errOf (readT l) = 0 → ∃ x, readT l = .ok x := fun l h => by
        rcases hx : readT l with x | x
        · have := readE_nz hx
          rw [hx] at h
          change x = 0 at h
          rw [h] at this
          cases this
        · exact ⟨x, rfl⟩
      obtain ⟨x, hx⟩ := ok _ (Classical.not_not.1 (fun h => h3 (.inl h)))
      obtain ⟨y, hy⟩ := ok _ (Classical.not_not.1 (fun h => h3 (.inr (.inl h))))
      obtain ⟨z, hz⟩ := ok _ (Classical.not_not.1 (fun h => h3 (.inr (.inr h))))
      exact eshort_ok s t va vc cs ia ic ins (by omega) (by omega) hfit (fun c hc => (hin c hc).n64) ns ms x y z h1 h2 hx hy hz W hv hss hl he
end Go.Proofs.YtlekmpjmcbnjdaaGreatDoor

