/- The acts' forms, as the program lays them; what a form asks of a name, an expression, a number. -/
import Derived.Test.YtmdjlngdpjjfiaaGreatDoorAP
import Derived.Test.YtmdjlngdpjjfiaaGreatDoorN1
import Derived.Test.YtmdjlngdpjjfiaaGreatDoorY3
import Derived.WalkKit
import Derived.ProofKit
import Derived.OpenShut
import Derived.Handy
import Derived.BigQuiet
import Derived.Lib.Hide
import Derived.WalkSmall
import Derived.WalkLawsBesides
namespace Go.Proofs.YtmdjlngdpjjfiaaGreatDoor
open Go.RowKit
theorem blk_keep {b : Nat} {w w' : World} {cs : Array Value} {t : TypeId} {fr : Nat × Nat} (h : w.heap[b]? = some (.cells cs t fr)) (hb : Below w.heap.size w w') : w'.heap[b]? = some (.cells cs t fr) := (hb.block b (lt_of_block h)).trans h
/-- A form: its word, whether it has a name, an event, an expression, a number. -/
def formL : List (List UInt8 × Bool × Bool × Bool × Bool) :=
  [([], false, false, false, false), ([115, 101, 116], true, false, true, false), ([114, 97, 105, 115, 101], false, true, false, false), ([115, 101, 110, 100], false, true, false, true), ([99, 97, 110, 99, 101, 108], false, true, false, false), ([108, 111, 103], false, false, true, false)]
def formC (f : List UInt8 × Bool × Bool × Bool × Bool) : List Value := [.string ⟨f.1.toArray⟩, .bool f.2.1, .bool f.2.2.1, .bool f.2.2.2.1, .bool f.2.2.2.2]
def formsV : Array Value := (formL.flatMap formC).toArray
/-- The program's list of forms is as its text lays it. -/
def Fg (w : World) : Prop := w.var? Tryz.prog "whirligig/act.forms" = some formsV
theorem fg_global : Tryz.prog.globalNamed "whirligig/act.forms" = some 0 := by kernel_rfl
theorem fg_lt {w : World} (h : Fg w) : 0 < w.heap.size := global_lt fg_global h
theorem fg_keep {B : Nat} {w w' : World} (h : Fg w) (hB : 0 < B) (hb : Below B w w') : Fg w' := var?_below hb fg_global hB h
theorem fg_cell {w : World} (h : Fg w) (i : Nat) : w.cell? ⟨0, i, none⟩ = formsV[i]? := World.var?_cell fg_global h i
def fwordL (k : Nat) : List UInt8 := (formL.getD k ([], false, false, false, false)).1
theorem fg_word {w : World} (h : Fg w) (k : Nat) (hk : k ≤ 5) : w.cell? ⟨0, k * 5, none⟩ = some (.string ⟨(fwordL k).toArray⟩) := by
  rw [fg_cell h]
  rcases (by omega : k = 0 ∨ k = 1 ∨ k = 2 ∨ k = 3 ∨ k = 4 ∨ k = 5) with rfl | rfl | rfl | rfl | rfl | rfl <;> rfl
/-- What takes acts asks of the program's variables. -/
structure Ax (w : World) : Prop where
  lb : Lb w
  eg : Eg w
  fg : Fg w
theorem ax_below {w w' : World} (h : Ax w) (hb : Below w.heap.size w w') : Ax w' := ⟨lb_below h.lb hb, eg_keep h.eg (eg_lt h.eg) hb, fg_keep h.fg (fg_lt h.fg) hb⟩
def formV (k : Nat) : Value := .agg (formC (formL.getD k ([], false, false, false, false))).toArray
set_option maxRecDepth 100000 in
theorem form_any (k : Nat) (h1 : 1 ≤ k) (h5 : k ≤ 5) (a b c d : Value) (w : World) (h : Fg w) : Calls Tryz.prog 20 #[.agg #[.int .i64 (k : Int), a, b, c, d]] w (Ret (formV k) w) := by
  have hl := fg_lt h
  rcases (by omega : k = 1 ∨ k = 2 ∨ k = 3 ∨ k = 4 ∨ k = 5) with rfl | rfl | rfl | rfl | rfl
  · have c0 := fg_cell h 5
    have c1 := fg_cell h 6
    have c2 := fg_cell h 7
    have c3 := fg_cell h 8
    have c4 := fg_cell h 9
    simp only [show formsV[5]? = some (.string ⟨#[115, 101, 116]⟩) from rfl, show formsV[6]? = some (.bool true) from rfl, show formsV[7]? = some (.bool false) from rfl, show formsV[8]? = some (.bool true) from rfl, show formsV[9]? = some (.bool false) from rfl] at c0 c1 c2 c3 c4
    clear h
    go_enter Tryz.func20, Tryz.ntmps20
    go_wp2
    go_returns
    exact ⟨rfl, by repeat' (first | (with_reducible exact Below.refl _ _) | (with_reducible assumption) | (with_reducible refine Below.alloc ?_ ?_ _) | (with_reducible refine Below.drew ?_) | (with_reducible refine belowN ?_ _) | (with_reducible refine Below.setCell ?_ ?_ _) | (with_reducible refine belowG ?_ ?_) | (with_reducible exact Nat.le_refl _) | (with_reducible refine le_sizeG ?_) | (with_reducible refine le_sizeA ?_) | (with_reducible refine le_sizeC ?_) | (with_reducible refine le_sizeD ?_) | (with_reducible refine le_sizeN ?_) | go_size | (simp [go_sem]; done))⟩
  · have c0 := fg_cell h 10
    have c1 := fg_cell h 11
    have c2 := fg_cell h 12
    have c3 := fg_cell h 13
    have c4 := fg_cell h 14
    simp only [show formsV[10]? = some (.string ⟨#[114, 97, 105, 115, 101]⟩) from rfl, show formsV[11]? = some (.bool false) from rfl, show formsV[12]? = some (.bool true) from rfl, show formsV[13]? = some (.bool false) from rfl, show formsV[14]? = some (.bool false) from rfl] at c0 c1 c2 c3 c4
    clear h
    go_enter Tryz.func20, Tryz.ntmps20
    go_wp2
    go_returns
    exact ⟨rfl, by repeat' (first | (with_reducible exact Below.refl _ _) | (with_reducible assumption) | (with_reducible refine Below.alloc ?_ ?_ _) | (with_reducible refine Below.drew ?_) | (with_reducible refine belowN ?_ _) | (with_reducible refine Below.setCell ?_ ?_ _) | (with_reducible refine belowG ?_ ?_) | (with_reducible exact Nat.le_refl _) | (with_reducible refine le_sizeG ?_) | (with_reducible refine le_sizeA ?_) | (with_reducible refine le_sizeC ?_) | (with_reducible refine le_sizeD ?_) | (with_reducible refine le_sizeN ?_) | go_size | (simp [go_sem]; done))⟩
  · have c0 := fg_cell h 15
    have c1 := fg_cell h 16
    have c2 := fg_cell h 17
    have c3 := fg_cell h 18
    have c4 := fg_cell h 19
    simp only [show formsV[15]? = some (.string ⟨#[115, 101, 110, 100]⟩) from rfl, show formsV[16]? = some (.bool false) from rfl, show formsV[17]? = some (.bool true) from rfl, show formsV[18]? = some (.bool false) from rfl, show formsV[19]? = some (.bool true) from rfl] at c0 c1 c2 c3 c4
    clear h
    go_enter Tryz.func20, Tryz.ntmps20
    go_wp2
    go_returns
    exact ⟨rfl, by repeat' (first | (with_reducible exact Below.refl _ _) | (with_reducible assumption) | (with_reducible refine Below.alloc ?_ ?_ _) | (with_reducible refine Below.drew ?_) | (with_reducible refine belowN ?_ _) | (with_reducible refine Below.setCell ?_ ?_ _) | (with_reducible refine belowG ?_ ?_) | (with_reducible exact Nat.le_refl _) | (with_reducible refine le_sizeG ?_) | (with_reducible refine le_sizeA ?_) | (with_reducible refine le_sizeC ?_) | (with_reducible refine le_sizeD ?_) | (with_reducible refine le_sizeN ?_) | go_size | (simp [go_sem]; done))⟩
  · have c0 := fg_cell h 20
    have c1 := fg_cell h 21
    have c2 := fg_cell h 22
    have c3 := fg_cell h 23
    have c4 := fg_cell h 24
    simp only [show formsV[20]? = some (.string ⟨#[99, 97, 110, 99, 101, 108]⟩) from rfl, show formsV[21]? = some (.bool false) from rfl, show formsV[22]? = some (.bool true) from rfl, show formsV[23]? = some (.bool false) from rfl, show formsV[24]? = some (.bool false) from rfl] at c0 c1 c2 c3 c4
    clear h
    go_enter Tryz.func20, Tryz.ntmps20
    go_wp2
    go_returns
    exact ⟨rfl, by repeat' (first | (with_reducible exact Below.refl _ _) | (with_reducible assumption) | (with_reducible refine Below.alloc ?_ ?_ _) | (with_reducible refine Below.drew ?_) | (with_reducible refine belowN ?_ _) | (with_reducible refine Below.setCell ?_ ?_ _) | (with_reducible refine belowG ?_ ?_) | (with_reducible exact Nat.le_refl _) | (with_reducible refine le_sizeG ?_) | (with_reducible refine le_sizeA ?_) | (with_reducible refine le_sizeC ?_) | (with_reducible refine le_sizeD ?_) | (with_reducible refine le_sizeN ?_) | go_size | (simp [go_sem]; done))⟩
  · have c0 := fg_cell h 25
    have c1 := fg_cell h 26
    have c2 := fg_cell h 27
    have c3 := fg_cell h 28
    have c4 := fg_cell h 29
    simp only [show formsV[25]? = some (.string ⟨#[108, 111, 103]⟩) from rfl, show formsV[26]? = some (.bool false) from rfl, show formsV[27]? = some (.bool false) from rfl, show formsV[28]? = some (.bool true) from rfl, show formsV[29]? = some (.bool false) from rfl] at c0 c1 c2 c3 c4
    clear h
    go_enter Tryz.func20, Tryz.ntmps20
    go_wp2
    go_returns
    exact ⟨rfl, by repeat' (first | (with_reducible exact Below.refl _ _) | (with_reducible assumption) | (with_reducible refine Below.alloc ?_ ?_ _) | (with_reducible refine Below.drew ?_) | (with_reducible refine belowN ?_ _) | (with_reducible refine Below.setCell ?_ ?_ _) | (with_reducible refine belowG ?_ ?_) | (with_reducible exact Nat.le_refl _) | (with_reducible refine le_sizeG ?_) | (with_reducible refine le_sizeA ?_) | (with_reducible refine le_sizeC ?_) | (with_reducible refine le_sizeD ?_) | (with_reducible refine le_sizeN ?_) | go_size | (simp [go_sem]; done))⟩
set_option maxRecDepth 100000 in
theorem aevent_any (s : ByteArray) (hs : s.size ≤ 140737488351232) (w : World) (hw : Lb w) : Calls Tryz.prog 47 #[.string s] w (Ret (.bool (namedB true s.data.toList)) w) := by
  have E := Lib.hid (tevent_any s hs w hw)
  have M := fun wx => Lib.hid (tmeans_any s wx)
  have hn : namedB true s.data.toList = (evB s.data.toList && !meansB s.data.toList) := rfl
  rw [hn]
  clear hn hw
  generalize evB s.data.toList = e at *
  generalize meansB s.data.toList = m at *
  replace M := Lib.hid M
  cases e
  all_goals
    go_enter Tryz.func47, Tryz.ntmps47
    go_wp2_with (first | ((with_reducible refine (E.out).mono ?_); intro e w1 hr; obtain ⟨rfl, p, rfl⟩ := hr.out; clear hr) | ((with_reducible refine ((M.out _).out).mono ?_); rintro e w1 ⟨rfl, rfl⟩))
    go_returns
    exact ⟨rfl, by repeat' (first | (with_reducible exact Below.refl _ _) | (with_reducible assumption) | (with_reducible refine Below.alloc ?_ ?_ _) | (with_reducible refine Below.drew ?_) | (with_reducible refine belowN ?_ _) | (with_reducible refine Below.setCell ?_ ?_ _) | (with_reducible refine belowG ?_ ?_) | (with_reducible exact Nat.le_refl _) | (with_reducible refine le_sizeG ?_) | (with_reducible refine le_sizeA ?_) | (with_reducible refine le_sizeC ?_) | (with_reducible refine le_sizeD ?_) | (with_reducible refine le_sizeN ?_) | go_size | (simp [go_sem]; done))⟩
set_option maxRecDepth 100000 in
/-- What a form with a name, or an event, asks of a text. -/
theorem anamed_any (ev : Bool) (f0 f3 f4 : Value) (s : ByteArray) (hs : s.size ≤ 140737488351232) (w : World) (hw : Lb w) :
    Calls Tryz.prog 22 #[.agg #[f0, .bool (!ev), .bool ev, f3, f4], .string s] w (Ret (.bool (namedB ev s.data.toList)) w) := by
  cases ev
  · have N := Lib.hid (fun wx (hb : Below w.heap.size w wx) => tname_any s hs wx (lb_below hw hb))
    have hn : namedB false s.data.toList = nmB s.data.toList := rfl
    rw [hn]
    clear hn hw
    generalize nmB s.data.toList = e at *
    go_enter Tryz.func22, Tryz.ntmps22
    go_wp2_with ((with_reducible refine (N.out _ (by repeat' (first | (with_reducible exact Below.refl _ _) | (with_reducible assumption) | (with_reducible refine Below.alloc ?_ ?_ _) | (with_reducible refine Below.drew ?_) | (with_reducible refine belowN ?_ _) | (with_reducible refine Below.setCell ?_ ?_ _) | (with_reducible refine belowG ?_ ?_) | (with_reducible exact Nat.le_refl _) | (with_reducible refine le_sizeG ?_) | (with_reducible refine le_sizeA ?_) | (with_reducible refine le_sizeC ?_) | (with_reducible refine le_sizeD ?_) | (with_reducible refine le_sizeN ?_) | go_size | (simp [go_sem]; done)))).mono ?_); intro e w1 hr; obtain ⟨rfl, p, rfl⟩ := hr.out; clear hr)
    go_returns
    exact ⟨rfl, by repeat' (first | (with_reducible exact Below.refl _ _) | (with_reducible assumption) | (with_reducible refine Below.alloc ?_ ?_ _) | (with_reducible refine Below.drew ?_) | (with_reducible refine belowN ?_ _) | (with_reducible refine Below.setCell ?_ ?_ _) | (with_reducible refine belowG ?_ ?_) | (with_reducible exact Nat.le_refl _) | (with_reducible refine le_sizeG ?_) | (with_reducible refine le_sizeA ?_) | (with_reducible refine le_sizeC ?_) | (with_reducible refine le_sizeD ?_) | (with_reducible refine le_sizeN ?_) | go_size | (simp [go_sem]; done))⟩
  · have E := Lib.hid (fun wx (hb : Below w.heap.size w wx) => aevent_any s hs wx (lb_below hw hb))
    clear hw
    generalize namedB true s.data.toList = e at *
    go_enter Tryz.func22, Tryz.ntmps22
    go_wp2_with ((with_reducible refine (E.out _ (by repeat' (first | (with_reducible exact Below.refl _ _) | (with_reducible assumption) | (with_reducible refine Below.alloc ?_ ?_ _) | (with_reducible refine Below.drew ?_) | (with_reducible refine belowN ?_ _) | (with_reducible refine Below.setCell ?_ ?_ _) | (with_reducible refine belowG ?_ ?_) | (with_reducible exact Nat.le_refl _) | (with_reducible refine le_sizeG ?_) | (with_reducible refine le_sizeA ?_) | (with_reducible refine le_sizeC ?_) | (with_reducible refine le_sizeD ?_) | (with_reducible refine le_sizeN ?_) | go_size | (simp [go_sem]; done)))).mono ?_); intro e w1 hr; obtain ⟨rfl, p, rfl⟩ := hr.out; clear hr)
    go_returns
    exact ⟨rfl, by repeat' (first | (with_reducible exact Below.refl _ _) | (with_reducible assumption) | (with_reducible refine Below.alloc ?_ ?_ _) | (with_reducible refine Below.drew ?_) | (with_reducible refine belowN ?_ _) | (with_reducible refine Below.setCell ?_ ?_ _) | (with_reducible refine belowG ?_ ?_) | (with_reducible exact Nat.le_refl _) | (with_reducible refine le_sizeG ?_) | (with_reducible refine le_sizeA ?_) | (with_reducible refine le_sizeC ?_) | (with_reducible refine le_sizeD ?_) | (with_reducible refine le_sizeN ?_) | go_size | (simp [go_sem]; done))⟩
end Go.Proofs.YtmdjlngdpjjfiaaGreatDoor
