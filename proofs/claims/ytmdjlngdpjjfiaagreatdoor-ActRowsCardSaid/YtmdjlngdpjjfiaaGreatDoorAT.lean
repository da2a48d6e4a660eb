/- What takes acts from tokens: its block; a word, an expression, a number. -/
import Derived.Test.YtmdjlngdpjjfiaaGreatDoorAQ
import Derived.Test.YtmdjlngdpjjfiaaGreatDoorY2
import Derived.Test.YtmdjlngdpjjfiaaGreatDoorY5
import Derived.WalkKit
import Derived.ProofKit
import Derived.OpenShut
import Derived.Handy
import Derived.BigQuiet
import Derived.Deep.RegionHeld3
import Derived.Lib.Hide
import Derived.WalkSmall
import Derived.WalkLawsBesides
namespace Go.Proofs.YtmdjlngdpjjfiaaGreatDoor
open Go.RowKit
/-- What is read from outside while acts are taken. -/
structure Base (w0 : World) (ao : Option Addr) (ts : List Tk) : Prop where
  ax : Ax w0
  sl : Sl w0 ao ts
  few : ts.length ≤ 120
  short : ∀ t ∈ ts, t.s.length ≤ 140737488351232
/-- The taker's block: it stands at token a. -/
structure TkrAt (w0 : World) (tb : Nat) (ao : Option Addr) (cap : Nat) (ts : List Tk) (a : Nat) (w : World) : Prop where
  blk : w.heap[tb]? = some (.cells #[.slice ao ts.length cap, .int .i64 (a : Int)] 46 (0, 0))
  own : w0.heap.size ≤ tb
  le : a ≤ ts.length
  env : Below w0.heap.size w0 w
theorem lexT_texts {m a : Nat} {l : List UInt8} {ts : List Tk} (h : lexT m a l = .ok ts) : ∀ t ∈ ts, t.s.length ≤ l.length := by
  induction m generalizing a l ts with
  | zero =>
    rw [lexT] at h
    split at h
    · cases h; intro t ht; cases ht
    · cases h
  | succ m ih =>
    rw [lexT] at h
    split at h
    · cases h; intro t ht; cases ht
    · rename_i c r hl
      have hd : (c :: r).length ≤ l.length := by rw [← hl, List.length_drop]; omega
      split at h
      · cases h
      · rename_i k t n z htk
        obtain ⟨z1, z2, z3⟩ := tokT_len htk
        split at h
        · cases h
        · rename_i us h2
          cases h
          intro u hu
          rcases List.mem_cons.1 hu with rfl | hu
          · exact Nat.le_trans z3 (Nat.le_trans z2 hd)
          · have := ih h2 u hu
            rw [List.length_drop] at this
            omega
theorem tkr_cells {w0 : World} {tb : Nat} {ao : Option Addr} {cap : Nat} {ts : List Tk} {a : Nat} {w : World} (h : TkrAt w0 tb ao cap ts a w) :
    w.cell? ⟨tb, 0, none⟩ = some (.slice ao ts.length cap) ∧ w.cell? ⟨tb, 1, none⟩ = some (.int .i64 (a : Int)) ∧ tb < w.heap.size ∧ w.frozen? ⟨tb, 1, none⟩ = false := by
  refine ⟨?_, ?_, lt_of_block h.blk, frozen_of_row w tb 1 _ _ h.blk⟩
  all_goals
    rw [cell_of_row w tb _ _ _ _ h.blk]
    rfl
theorem tkr_keep {w0 : World} {tb : Nat} {ao : Option Addr} {cap : Nat} {ts : List Tk} {a : Nat} {w w' : World} (h : TkrAt w0 tb ao cap ts a w) (hb : Below w.heap.size w w') : TkrAt w0 tb ao cap ts a w' :=
  ⟨(hb.block tb (lt_of_block h.blk)).trans h.blk, h.own, h.le, h.env.trans (hb.mono h.env.size)⟩
theorem size_set (w : World) (b i : Nat) (v : Value) : (w.setCell ⟨b, i, none⟩ v).heap.size = w.heap.size := by simp [World.setCell]
theorem set_below {w w1 : World} (h : Below w.heap.size w w1) {b i : Nat} {v : Value} (hb : b < w.heap.size) : Below w.heap.size (w.setCell ⟨b, i, none⟩ v) (w1.setCell ⟨b, i, none⟩ v) := by
  obtain ⟨p, rfl⟩ := toG h
  rw [setCell_G _ _ _ _ _ hb]
  have := belowG0 p (w.setCell ⟨b, i, none⟩ v)
  rwa [size_set] at this
theorem tkr_move {w0 : World} {tb : Nat} {ao : Option Addr} {cap : Nat} {ts : List Tk} {a b : Nat} {w w' : World} (h : TkrAt w0 tb ao cap ts a w) (hle : b ≤ ts.length) (hb : Below w.heap.size (w.setCell ⟨tb, 1, none⟩ (.int .i64 (b : Int))) w') : TkrAt w0 tb ao cap ts b w' := by
  refine ⟨(hb.block tb (lt_of_block h.blk)).trans (blk_set h.blk), h.own, hle, (h.env.setCell (p := ⟨tb, 1, none⟩) h.own _).trans (hb.mono ?_)⟩
  exact h.env.size
/-- It tells whether it took; where it did, it goes on by one. -/
def TookIs (tb : Nat) (b : Bool) (a : Nat) (w : World) (e : Ending) (w' : World) : Prop :=
  e = .returned (.bool b) ∧ Below w.heap.size (if b then w.setCell ⟨tb, 1, none⟩ (.int .i64 ((a + 1 : Nat) : Int)) else w) w'
set_option maxRecDepth 100000 in
set_option maxHeartbeats 2000000 in
theorem ttakes_any {w0 : World} {tb : Nat} {ao : Option Addr} {cap : Nat} {ts : List Tk} {a : Nat} (x : ByteArray) (hB : Base w0 ao ts) (w : World) (h : TkrAt w0 tb ao cap ts a w) :
    Calls Tryz.prog 15 #[.pointer (some ⟨tb, 0, none⟩), .string x] w (TookIs tb (tkAt ts a x.data.toList) a w) := by
  obtain ⟨c0, c1, htb, f1⟩ := tkr_cells h
  have hle := h.le
  have hfew := hB.few
  have hl : Sl w ao ts := sl_below hB.sl h.env
  have i1 : InW tb w := ⟨htb⟩
  clear h hB
  by_cases he : a = ts.length
  · have hn : tkAt ts a x.data.toList = false := by unfold tkAt; rw [List.getElem?_eq_none (by omega)]
    rw [hn]
    have hd : ((a : Int) == (ts.length : Int)) = true := by rw [beq_iff_eq]; omega
    clear hn hl he
    go_enter Tryz.func15, Tryz.ntmps15
    go_wp2_with fail
    (refine wp_region_G (by kernel_rfl) (by kernel_rfl) ?_; (repeat (go_big_quiet_step (fail))); refine wpQuiet_nil ?_; intro _ hw'; obtain ⟨pg, hw''⟩ := hw'; subst hw'')
    go_wp2
    go_returns
    exact ⟨rfl, show Below w.heap.size w _ by repeat' (first | (with_reducible exact Below.refl _ _) | (with_reducible assumption) | (with_reducible refine Below.alloc ?_ ?_ _) | (with_reducible refine Below.drew ?_) | (with_reducible refine belowN ?_ _) | (with_reducible refine Below.setCell ?_ ?_ _) | (with_reducible refine belowG ?_ ?_) | (with_reducible exact Nat.le_refl _) | (with_reducible refine le_sizeG ?_) | (with_reducible refine le_sizeA ?_) | (with_reducible refine le_sizeC ?_) | (with_reducible refine le_sizeD ?_) | (with_reducible refine le_sizeN ?_) | go_size | (simp [go_sem]; done))⟩
  · have hlt : a < ts.length := by omega
    obtain ⟨g, rfl, hg, ht⟩ := hl (by omega)
    obtain ⟨a0, a1, a2, a3⟩ := ht a hlt
    have i2 : InW g w := ⟨hg⟩
    have hd : ((a : Int) == (ts.length : Int)) = false := by rw [beq_eq_false_iff_ne]; omega
    obtain ⟨b, hb⟩ : ∃ b, tkAt ts a x.data.toList = b := ⟨_, rfl⟩
    have hb' : ((ts[a].k == 1 || ts[a].k == 5) && (⟨ts[a].s.toArray⟩ : ByteArray).data.toList == x.data.toList) = b := by
      rw [← hb]; unfold tkAt; rw [List.getElem?_eq_getElem hlt]; rfl
    have I := fun g wx hc => Lib.hid (is1_any ts[a].k ⟨ts[a].s.toArray⟩ ts[a].n (ts[a].a : Int) x b hb' g wx hc)
    replace I := Lib.hid I
    rw [hb]
    clear hb hb' hl ht he
    generalize ts[a].k = tk at *
    generalize (⟨ts[a].s.toArray⟩ : ByteArray) = tx at *
    generalize ts[a].n = tn at *
    generalize (ts[a].a : Int) = ta at *
    cases b
    all_goals
      go_enter Tryz.func15, Tryz.ntmps15
      go_wp2_with fail
      go_region_held3 (fun w' => w'.cell? ⟨tb, 0, none⟩ = some (.slice (some ⟨g, 0, none⟩) ts.length cap) ∧ w'.cell? ⟨tb, 1, none⟩ = some (.int .i64 (a : Int)) ∧ w'.cell? ⟨g, a * 4, none⟩ = some (.int .i64 tk) ∧ w'.cell? ⟨g, a * 4 + 1, none⟩ = some (.string tx) ∧ w'.cell? ⟨g, a * 4 + 2, none⟩ = some (.int .i64 tn) ∧ w'.cell? ⟨g, a * 4 + 3, none⟩ = some (.int .i64 ta)) ((refine ⟨?_, ?_, ?_, ?_, ?_, ?_⟩ <;> first | assumption | (simp [go_sem, *]; done))) (first | ((with_reducible refine ((I.out _ _ (by simp [go_sem])).out).mono ?_); intro e w1 hr; obtain ⟨rfl, p, rfl⟩ := hr.out; clear hr))
    · go_wp2
      go_returns
      exact ⟨rfl, show Below w.heap.size w _ by repeat' (first | (with_reducible exact Below.refl _ _) | (with_reducible assumption) | (with_reducible refine Below.alloc ?_ ?_ _) | (with_reducible refine Below.drew ?_) | (with_reducible refine belowN ?_ _) | (with_reducible refine Below.setCell ?_ ?_ _) | (with_reducible refine belowG ?_ ?_) | (with_reducible exact Nat.le_refl _) | (with_reducible refine le_sizeG ?_) | (with_reducible refine le_sizeA ?_) | (with_reducible refine le_sizeC ?_) | (with_reducible refine le_sizeD ?_) | (with_reducible refine le_sizeN ?_) | go_size | (simp [go_sem]; done))⟩
    · go_wp2
      go_returns
      exact ⟨rfl, show Below w.heap.size (w.setCell ⟨tb, 1, none⟩ (.int .i64 ((a : Int) + 1))) _ by repeat' (first | (with_reducible exact Below.refl _ _) | (with_reducible assumption) | (with_reducible refine Below.alloc ?_ ?_ _) | (with_reducible refine Below.drew ?_) | (with_reducible refine belowN ?_ _) | (with_reducible refine Below.setCell ?_ ?_ _) | (with_reducible refine belowG ?_ ?_) | (with_reducible exact Nat.le_refl _) | (with_reducible refine le_sizeG ?_) | (with_reducible refine le_sizeA ?_) | (with_reducible refine le_sizeC ?_) | (with_reducible refine le_sizeD ?_) | (with_reducible refine le_sizeN ?_) | go_size | (simp [go_sem]; done))⟩
end Go.Proofs.YtmdjlngdpjjfiaaGreatDoor
