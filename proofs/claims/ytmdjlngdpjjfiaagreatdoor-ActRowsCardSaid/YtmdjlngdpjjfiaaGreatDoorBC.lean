/- act.Show; the document's example of acts. -/
import Derived.Test.YtmdjlngdpjjfiaaGreatDoorAX
import Derived.Test.YtmdjlngdpjjfiaaGreatDoorBB
import Derived.Test.YtmdjlngdpjjfiaaGreatDoorSJ
import Derived.Test.YtmdjlngdpjjfiaaGreatDoorXT
import Derived.Test.YtmdjlngdpjjfiaaGreatDoorZ7
import Derived.WalkKit
import Derived.ProofKit
import Derived.OpenShut
import Derived.Handy
import Derived.BigQuiet
import Derived.OwnWalk
import Derived.Lib.Hide
import Derived.WalkSmall
import Derived.WalkLawsBesides
namespace Go.Proofs.YtmdjlngdpjjfiaaGreatDoor
open Go.RowKit
def spB : ByteArray := ⟨#[32]⟩
def semiB : ByteArray := ⟨#[32, 59, 32]⟩
/-- What the words of act i, and all of them, come to. -/
structure ShowsBy (cs : List Ac) (ws : Nat → List ByteArray) (ts : List ByteArray) : Prop where
  len : ts.length = cs.length
  few : cs.length ≤ 1000
  text : ∀ i (h : i < ts.length), ts[i] = ⟨(joinB (ws i) spB).toArray⟩
  pos : ∀ i, i < cs.length → 0 < (ws i).length ∧ (ws i).length ≤ 1000 ∧ (joinB (ws i) spB).length ≤ 900000
  all : (joinB ts semiB).length ≤ 900000
set_option maxRecDepth 100000 in
set_option maxHeartbeats 4000000 in
theorem ashow_any (ao : Option Addr) (cap : Nat) (cs : List Ac) (ws : Nat → List ByteArray) (ts : List ByteArray) (hs : ShowsBy cs ws ts) (w : World) (hA : ActsAt w ao cs)
    (W : ∀ i (hi : i < cs.length) io ic xo xc wx, Below w.heap.size w wx → NdsAt wx io cs[i].cond → NdsAt wx xo cs[i].x → Calls Tryz.prog 19 #[.agg #[.int .i64 cs[i].kind, .slice io cs[i].cond.length ic, .string ⟨cs[i].name.toArray⟩, .slice xo cs[i].x.length xc, .int .i64 cs[i].n]] wx (WordsIs (ws i) wx)) :
    Calls Tryz.prog 9 #[.slice ao cs.length cap] w (Ret (.string ⟨(joinB ts semiB).toArray⟩) w) := by
  have H := Lib.hid (fun wx hb => acts_below (w' := wx) hA hb)
  have hfew := hs.few
  have hlen := Lib.hid hs.len
  obtain ⟨i0, hi0, hz1, hz2, hz3⟩ := info_parts Tryz.infoStr
  replace hs := Lib.hid hs
  replace W := Lib.hid W
  clear hA
  have hnI : (0 : Int) ≤ (cs.length : Int) := by omega
  obtain ⟨res, hres⟩ : ∃ x : ByteArray, (⟨(joinB ts semiB).toArray⟩ : ByteArray) = x := ⟨_, rfl⟩
  rw [hres]
  replace hres := Lib.hid hres
  go_enter Tryz.func9, Tryz.ntmps9
  go_wp2_with (at_make; refine wpList_make_full _ rfl _ _ 55 rfl w.heap.size 9 i0 _ 1 Tryz.underlying55 hi0 hz1 hz2 _ _ (cs.length : Int) (cs.length : Int) cs.length rfl rfl rfl rfl (by rw [hz3]; omega) (by unfold maxLen; omega) (Below.size (B := w.heap.size) (w := w) (by repeat' (first | (with_reducible exact Below.refl _ _) | (with_reducible assumption) | (with_reducible refine Below.alloc ?_ ?_ _) | (with_reducible refine Below.drew ?_) | (with_reducible refine belowN ?_ _) | (with_reducible refine Below.setCell ?_ ?_ _) | (with_reducible refine belowG ?_ ?_) | (with_reducible exact Nat.le_refl _) | (with_reducible refine le_sizeG ?_) | (with_reducible refine le_sizeA ?_) | (with_reducible refine le_sizeC ?_) | (with_reducible refine le_sizeD ?_) | (with_reducible refine le_sizeN ?_) | go_size | (simp [go_sem]; done)))) ?_)
  intro w1 hown hgrow
  have hbw1 : Below w.heap.size w w1 := Below.grown (by repeat' (first | (with_reducible exact Below.refl _ _) | (with_reducible assumption) | (with_reducible refine Below.alloc ?_ ?_ _) | (with_reducible refine Below.drew ?_) | (with_reducible refine belowN ?_ _) | (with_reducible refine Below.setCell ?_ ?_ _) | (with_reducible refine belowG ?_ ?_) | (with_reducible exact Nat.le_refl _) | (with_reducible refine le_sizeG ?_) | (with_reducible refine le_sizeA ?_) | (with_reducible refine le_sizeC ?_) | (with_reducible refine le_sizeD ?_) | (with_reducible refine le_sizeN ?_) | go_size | (simp [go_sem]; done))) hgrow (Below.size (B := w.heap.size) (w := w) (by repeat' (first | (with_reducible exact Below.refl _ _) | (with_reducible assumption) | (with_reducible refine Below.alloc ?_ ?_ _) | (with_reducible refine Below.drew ?_) | (with_reducible refine belowN ?_ _) | (with_reducible refine Below.setCell ?_ ?_ _) | (with_reducible refine belowG ?_ ?_) | (with_reducible exact Nat.le_refl _) | (with_reducible refine le_sizeG ?_) | (with_reducible refine le_sizeA ?_) | (with_reducible refine le_sizeC ?_) | (with_reducible refine le_sizeD ?_) | (with_reducible refine le_sizeN ?_) | go_size | (simp [go_sem]; done)))) (fun k hk => (by cases hk))
  have hX1 := Lib.hid (txt_made hown)
  clear hown hgrow
  go_wp2
  go_loopw [11] (fun x wr => ∃ i : Nat, x = .int .i64 i ∧ i ≤ cs.length ∧ TxtBlk wr w.heap.size cs.length (ts.take i) ∧ Below w.heap.size w wr) (fun x _ => cs.length - (intOf x).toNat)
  case atStart => exact ⟨0, rfl, Nat.zero_le _, hX1.out, by repeat' (first | (with_reducible exact Below.refl _ _) | (with_reducible assumption) | (with_reducible refine Below.alloc ?_ ?_ _) | (with_reducible refine Below.drew ?_) | (with_reducible refine belowN ?_ _) | (with_reducible refine Below.setCell ?_ ?_ _) | (with_reducible refine belowG ?_ ?_) | (with_reducible exact Nat.le_refl _) | (with_reducible refine le_sizeG ?_) | (with_reducible refine le_sizeA ?_) | (with_reducible refine le_sizeC ?_) | (with_reducible refine le_sizeD ?_) | (with_reducible refine le_sizeN ?_) | go_size | (simp [go_sem]; done))⟩
  case round =>
    obtain ⟨i, rfl, hi, hX, hb⟩ := hrel
    rename World => wr
    have hwz := hb.size
    clear hX1 hbw1
    by_cases hlt : i < cs.length
    · obtain ⟨g, rfl, hg, hcs⟩ := H.out wr hb (by omega)
      obtain ⟨io, ic, xo, xc, n1, n2, n3, n4, n5, hN1, hN2⟩ := hcs i hlt
      have Wi := Lib.hid (fun wx (hk : Below wr.heap.size wr wx) => W.out i hlt io ic xo xc wx (hb.trans (hk.mono hwz)) (nds_below hN1 hk) (nds_below hN2 hk))
      obtain ⟨hp1, hp2, hp3⟩ := hs.out.pos i hlt
      have hti : i < ts.length := by rw [hlen.out]; exact hlt
      have htx := hs.out.text i hti
      have htk : ts.take (i + 1) = ts.take i ++ [ts[i]] := by rw [List.take_add_one, List.getElem?_eq_getElem hti]; rfl
      have hll : (ts.take i).length = i := by rw [List.length_take]; omega
      rw [htx] at htk
      generalize cs[i] = c at *
      replace htk := Lib.hid htk
      have i1 : InW g wr := ⟨hg⟩
      have hI : (i : Int) < (cs.length : Int) := by omega
      clear hcs hN1 hN2 htx
      go_wp2_with fail
      refine (Wi.out _ (by repeat' (first | (with_reducible exact Below.refl _ _) | (with_reducible assumption) | (with_reducible refine Below.alloc ?_ ?_ _) | (with_reducible refine Below.drew ?_) | (with_reducible refine belowN ?_ _) | (with_reducible refine Below.setCell ?_ ?_ _) | (with_reducible refine belowG ?_ ?_) | (with_reducible exact Nat.le_refl _) | (with_reducible refine le_sizeG ?_) | (with_reducible refine le_sizeA ?_) | (with_reducible refine le_sizeC ?_) | (with_reducible refine le_sizeD ?_) | (with_reducible refine le_sizeN ?_) | go_size | (simp [go_sem]; done)))).mono ?_
      intro e w3 hr
      obtain ⟨v, rfl, hown, hb3⟩ := hr
      obtain ⟨gg, wc, rfl, hgg, hwc, _, hcell⟩ := own_head hown hp1
      have hb4 : Below wr.heap.size wr w3 := Below.trans (by repeat' (first | (with_reducible exact Below.refl _ _) | (with_reducible assumption) | (with_reducible refine Below.alloc ?_ ?_ _) | (with_reducible refine Below.drew ?_) | (with_reducible refine belowN ?_ _) | (with_reducible refine Below.setCell ?_ ?_ _) | (with_reducible refine belowG ?_ ?_) | (with_reducible exact Nat.le_refl _) | (with_reducible refine le_sizeG ?_) | (with_reducible refine le_sizeA ?_) | (with_reducible refine le_sizeC ?_) | (with_reducible refine le_sizeD ?_) | (with_reducible refine le_sizeN ?_) | go_size | (simp [go_sem]; done))) (hb3.mono (by simp))
      have J := Lib.hid (fun wx (hk : Below w3.heap.size w3 wx) => sjoin_any gg wc (ws i) spB (by omega) hwc (by decide) (by decide) hp3 wx (Nat.lt_of_lt_of_le hgg hk.size) (fun j hj => (hk.cell (p := ⟨gg, j, none⟩) hgg).trans (hcell j _ (by rw [List.getElem?_map, List.getElem?_eq_getElem hj]; rfl))))
      have hX3 := txt_keep hX hb4
      obtain ⟨z0, z1, z2, z3⟩ := txt_cell hX3 i hlt
      have i2 : InW w.heap.size w3 := ⟨z3⟩
      have hX2 := Lib.hid (fun wx (hk : Below w3.heap.size w3 wx) (t : ByteArray) => txt_set (txt_keep hX3 hk) (by omega) t)
      rw [hll] at hX2
      unfold spB at J
      have hb5 : Below w.heap.size w w3 := hb.trans (hb4.mono hwz)
      obtain ⟨sb, hsb⟩ : ∃ x : ByteArray, (⟨(joinB (ws i) spB).toArray⟩ : ByteArray) = x := ⟨_, rfl⟩
      rw [hsb] at htk
      unfold spB at hsb
      rw [hsb] at J
      clear hcell hown hX hX3 hb3 hb4 Wi hsb n1 n2 n3 n4 n5 i1
      dsimp only
      go_wp2_with ((with_reducible refine ((J.out _ (by repeat' (first | (with_reducible exact Below.refl _ _) | (with_reducible assumption) | (with_reducible refine Below.alloc ?_ ?_ _) | (with_reducible refine Below.drew ?_) | (with_reducible refine belowN ?_ _) | (with_reducible refine Below.setCell ?_ ?_ _) | (with_reducible refine belowG ?_ ?_) | (with_reducible exact Nat.le_refl _) | (with_reducible refine le_sizeG ?_) | (with_reducible refine le_sizeA ?_) | (with_reducible refine le_sizeC ?_) | (with_reducible refine le_sizeD ?_) | (with_reducible refine le_sizeN ?_) | go_size | (simp [go_sem]; done))))).mono ?_); intro e w1 hr; obtain ⟨rfl, p, rfl⟩ := hr.out; clear hr)
      go_roundw
      case rel => exact ⟨i + 1, by go_num, by omega, by rw [htk.out]; exact txt_keep (hX2.out _ (by repeat' (first | (with_reducible exact Below.refl _ _) | (with_reducible assumption) | (with_reducible refine Below.alloc ?_ ?_ _) | (with_reducible refine Below.drew ?_) | (with_reducible refine belowN ?_ _) | (with_reducible refine Below.setCell ?_ ?_ _) | (with_reducible refine belowG ?_ ?_) | (with_reducible exact Nat.le_refl _) | (with_reducible refine le_sizeG ?_) | (with_reducible refine le_sizeA ?_) | (with_reducible refine le_sizeC ?_) | (with_reducible refine le_sizeD ?_) | (with_reducible refine le_sizeN ?_) | go_size | (simp [go_sem]; done))) sb) (by repeat' (first | (with_reducible exact Below.refl _ _) | (with_reducible assumption) | (with_reducible refine Below.alloc ?_ ?_ _) | (with_reducible refine Below.drew ?_) | (with_reducible refine belowN ?_ _) | (with_reducible refine Below.setCell ?_ ?_ _) | (with_reducible refine belowG ?_ ?_) | (with_reducible exact Nat.le_refl _) | (with_reducible refine le_sizeG ?_) | (with_reducible refine le_sizeA ?_) | (with_reducible refine le_sizeC ?_) | (with_reducible refine le_sizeD ?_) | (with_reducible refine le_sizeN ?_) | go_size | (simp [go_sem]; done))), by repeat' (first | (with_reducible exact Below.refl _ _) | (with_reducible assumption) | (with_reducible refine Below.alloc ?_ ?_ _) | (with_reducible refine Below.drew ?_) | (with_reducible refine belowN ?_ _) | (with_reducible refine Below.setCell ?_ ?_ _) | (with_reducible refine belowG ?_ ?_) | (with_reducible exact Nat.le_refl _) | (with_reducible refine le_sizeG ?_) | (with_reducible refine le_sizeA ?_) | (with_reducible refine le_sizeC ?_) | (with_reducible refine le_sizeD ?_) | (with_reducible refine le_sizeN ?_) | go_size | (simp [go_sem]; done))⟩
      case measure => simp [intOf]; omega
    · obtain rfl : i = cs.length := by omega
      have hall : ts.take cs.length = ts := by rw [← hlen.out, List.take_length]
      rw [hall] at hX
      have hI : ¬ (cs.length : Int) < (cs.length : Int) := by omega
      have htgl : w.heap.size < wr.heap.size := by
        obtain ⟨_, h1, _⟩ := hX
        exact lt_of_block h1
      have J : ∀ wx, Below wr.heap.size wr wx → Calls Tryz.prog 18 #[.slice (some ⟨w.heap.size, 0, none⟩) cs.length cs.length, .string ⟨#[32, 59, 32]⟩] wx (Ret (.string res) wx) := fun wx hk => by
        have := sjoin_any w.heap.size ts.length ts semiB (by have := hlen.out; omega) (Nat.le_refl _) (by decide) (by decide) hs.out.all wx (Nat.lt_of_lt_of_le htgl hk.size) (fun j hj => (hk.cell (p := ⟨w.heap.size, j, none⟩) htgl).trans (txt_of hX j hj))
        rw [hres.out, hlen.out] at this
        exact this
      replace J := Lib.hid J
      clear hX H W
      go_wp2_with ((with_reducible refine ((J.out _ (by repeat' (first | (with_reducible exact Below.refl _ _) | (with_reducible assumption) | (with_reducible refine Below.alloc ?_ ?_ _) | (with_reducible refine Below.drew ?_) | (with_reducible refine belowN ?_ _) | (with_reducible refine Below.setCell ?_ ?_ _) | (with_reducible refine belowG ?_ ?_) | (with_reducible exact Nat.le_refl _) | (with_reducible refine le_sizeG ?_) | (with_reducible refine le_sizeA ?_) | (with_reducible refine le_sizeC ?_) | (with_reducible refine le_sizeD ?_) | (with_reducible refine le_sizeN ?_) | go_size | (simp [go_sem]; done))))).mono ?_); intro e w1 hr; obtain ⟨rfl, p, rfl⟩ := hr.out; clear hr)
      go_returns
      exact ⟨rfl, by repeat' (first | (with_reducible exact Below.refl _ _) | (with_reducible assumption) | (with_reducible refine Below.alloc ?_ ?_ _) | (with_reducible refine Below.drew ?_) | (with_reducible refine belowN ?_ _) | (with_reducible refine Below.setCell ?_ ?_ _) | (with_reducible refine belowG ?_ ?_) | (with_reducible exact Nat.le_refl _) | (with_reducible refine le_sizeG ?_) | (with_reducible refine le_sizeA ?_) | (with_reducible refine le_sizeC ?_) | (with_reducible refine le_sizeD ?_) | (with_reducible refine le_sizeN ?_) | go_size | (simp [go_sem]; done))⟩
def line6A : ByteArray := ⟨#[115, 101, 116, 32, 120, 32, 120, 43, 49, 59, 105, 102, 32, 120, 62, 51, 58, 114, 97, 105, 115, 101, 32, 98, 105, 103]⟩
def toksA : List Tk := match lexT 120 0 line6A.data.toList with | .ok ts => ts | _ => []
def nodesS : List Nd := [⟨16, 0, 0, [], [120], 0, 0⟩, ⟨0, 1, 1, [], [], 0, 0⟩, ⟨6, 0, 0, [], [], 0, 1⟩]
def nodesR : List Nd := [⟨16, 0, 0, [], [120], 0, 0⟩, ⟨0, 1, 3, [], [], 0, 0⟩, ⟨10, 0, 0, [], [], 0, 1⟩]
def actsA : List Ac := [⟨1, [], [120], nodesS, 0⟩, ⟨2, nodesR, [98, 105, 103], [], 0⟩]
theorem lex_A : lexT 120 0 line6A.data.toList = .ok toksA := by kernel_rfl
theorem take_A : takeT toksA 0 = .ok (actsA, 13) := by kernel_rfl
theorem len_A : toksA.length = 13 := by kernel_rfl
def wordsA : Nat → List ByteArray
  | 0 => [⟨#[115, 101, 116]⟩, ⟨#[120]⟩, ⟨#[120, 32, 43, 32, 49]⟩]
  | _ => [⟨#[105, 102]⟩, ⟨#[120, 32, 62, 32, 51]⟩, ⟨#[58]⟩, ⟨#[114, 97, 105, 115, 101]⟩, ⟨#[98, 105, 103]⟩]
def textsA : List ByteArray := [⟨(joinB (wordsA 0) spB).toArray⟩, ⟨(joinB (wordsA 1) spB).toArray⟩]
theorem right_S : rightT nodesS = true := by kernel_rfl
theorem right_R : rightT nodesR = true := by kernel_rfl
theorem shown_S : (showsB nodesS nodesS.length).getD (nodesS.length - 1) ⟨#[]⟩ = ⟨#[120, 32, 43, 32, 49]⟩ := by kernel_rfl
theorem shown_R : (showsB nodesR nodesR.length).getD (nodesR.length - 1) ⟨#[]⟩ = ⟨#[120, 32, 62, 32, 51]⟩ := by kernel_rfl
theorem sizes_S : ((showsB nodesS nodesS.length).all fun t => decide (t.size ≤ 2000000)) = true := by kernel_rfl
theorem sizes_R : ((showsB nodesR nodesR.length).all fun t => decide (t.size ≤ 2000000)) = true := by kernel_rfl
theorem ok_S : ∀ i, i < nodesS.length → ShowOk nodesS (showsB nodesS i) (nodesS.getD i nd0) := by
  intro i hi
  have h : ∀ k, k < 3 → k = 0 ∨ k = 1 ∨ k = 2 := by omega
  have hl := showsB_length nodesS i
  rcases h i hi with rfl | rfl | rfl
  all_goals
    refine ⟨by decide, fun h => ?_, fun h1 h2 => ?_, fun h1 h2 => ?_, by decide⟩
    · first | exact absurd h (by decide) | exact ⟨by kernel_rfl, by unfold I64; decide⟩
    · rw [hl]
      first | exact absurd h1 (by decide) | exact absurd h2 (by decide) | exact ⟨0, by decide, by decide⟩
    · rw [hl]
      first | exact absurd h1 (by decide) | exact absurd h2 (by decide) | exact ⟨1, by decide, by decide⟩
theorem ok_R : ∀ i, i < nodesR.length → ShowOk nodesR (showsB nodesR i) (nodesR.getD i nd0) := by
  intro i hi
  have h : ∀ k, k < 3 → k = 0 ∨ k = 1 ∨ k = 2 := by omega
  have hl := showsB_length nodesR i
  rcases h i hi with rfl | rfl | rfl
  all_goals
    refine ⟨by decide, fun h => ?_, fun h1 h2 => ?_, fun h1 h2 => ?_, by decide⟩
    · first | exact absurd h (by decide) | exact ⟨by kernel_rfl, by unfold I64; decide⟩
    · rw [hl]
      first | exact absurd h1 (by decide) | exact absurd h2 (by decide) | exact ⟨0, by decide, by decide⟩
    · rw [hl]
      first | exact absurd h1 (by decide) | exact absurd h2 (by decide) | exact ⟨1, by decide, by decide⟩
theorem shows_A : ShowsBy actsA wordsA textsA := by
  refine ⟨rfl, by decide, fun i h => ?_, fun i h => ?_, by decide⟩
  · have h2 : i < 2 := h
    rcases (by omega : i = 0 ∨ i = 1) with rfl | rfl <;> rfl
  · have h2 : i < 2 := h
    rcases (by omega : i = 0 ∨ i = 1) with rfl | rfl <;> decide
theorem text_A : (⟨(joinB textsA semiB).toArray⟩ : ByteArray) = ⟨#[115, 101, 116, 32, 120, 32, 120, 32, 43, 32, 49, 32, 59, 32, 105, 102, 32, 120, 32, 62, 32, 51, 32, 58, 32, 114, 97, 105, 115, 101, 32, 98, 105, 103]⟩ := by kernel_rfl
/-- What the walks of acts ask of variables. -/
structure Ay (w : World) : Prop where
  ax : Ax w
  tab : Tab w
theorem ay_below {w w' : World} (h : Ay w) (hb : Below w.heap.size w w') : Ay w' := ⟨ax_below h.ax hb, tab_below h.tab hb⟩
theorem acts_words (w : World) (hw : Ay w) : ∀ i (hi : i < actsA.length) io ic xo xc wx, Below w.heap.size w wx → NdsAt wx io actsA[i].cond → NdsAt wx xo actsA[i].x → Calls Tryz.prog 19 #[.agg #[.int .i64 actsA[i].kind, .slice io actsA[i].cond.length ic, .string ⟨actsA[i].name.toArray⟩, .slice xo actsA[i].x.length xc, .int .i64 actsA[i].n]] wx (WordsIs (wordsA i) wx) := by
  intro i hi io ic xo xc wx hb hN1 hN2
  have hy := ay_below hw hb
  have h2 : i < 2 := hi
  rcases (by omega : i = 0 ∨ i = 1) with rfl | rfl
  · refine words_set ⟨#[120]⟩ io ic xo nodesS.length xc ⟨#[120, 32, 43, 32, 49]⟩ wx hy.ax fun wy hk => ?_
    have hz := ay_below hy hk
    have := xshow_any xo xc nodesS (by decide) (by decide) (by decide) wy (nds_below hN2 hk) hz.ax.lb hz.tab hz.ax.eg right_S ok_S (fun t ht => of_decide_eq_true (List.all_eq_true.1 sizes_S t ht))
    rw [shown_S] at this
    exact this
  · refine words_raise ⟨#[98, 105, 103]⟩ io nodesR.length ic (by decide) xo xc ⟨#[120, 32, 62, 32, 51]⟩ wx hy.ax fun wy hk => ?_
    have hz := ay_below hy hk
    have := xshow_any io ic nodesR (by decide) (by decide) (by decide) wy (nds_below hN1 hk) hz.ax.lb hz.tab hz.ax.eg right_R ok_R (fun t ht => of_decide_eq_true (List.all_eq_true.1 sizes_R t ht))
    rw [shown_R] at this
    exact this
set_option maxRecDepth 100000 in
set_option maxHeartbeats 4000000 in
theorem anchor6_any (w : World) (hw : Ay w) : Calls Tryz.prog 4 #[] w (Ret (.bool true) w) := by
  have L := tlex_any line6A (by decide) w hw.ax.lb
  unfold line6A at L
  have hL := Lib.hid L
  have hY := Lib.hid (fun wx (hb : Below w.heap.size w wx) => ay_below hw hb)
  have hshort := lexT_texts lex_A
  have P := Lib.hid (fun ao cap wx (hs : Sl wx ao toksA) (hb : Below w.heap.size w wx) => atake_any ao cap toksA 0 wx ⟨(ay_below hw hb).ax, hs, by rw [len_A]; decide, fun t ht => Nat.le_trans (hshort t ht) (by decide)⟩)
  rw [take_A] at P
  have S := Lib.hid (fun oa oc wx (hA : ActsAt wx oa actsA) (hb : Below w.heap.size w wx) => ashow_any oa oc actsA wordsA textsA shows_A wx hA (acts_words wx (ay_below hw hb)))
  rw [text_A] at S
  have R := Lib.hid (fun io ic xo xc wx (hN : NdsAt wx io nodesR) (hb : Below w.heap.size w wx) => aright_raise io ic nodesR (by decide) (by decide) (by decide) right_R ⟨#[98, 105, 103]⟩ (by decide) (by kernel_rfl) xo xc wx (ay_below hw hb).ax hN)
  clear L hw hshort
  go_enter Tryz.func4, Tryz.ntmps4
  go_wp2_with fail
  refine (hL.out).mono ?_
  intro e w1 hr
  obtain ⟨ao, cap, rfl, hs1, hb1⟩ := lex_sl lex_A hr
  have P1 := Lib.hid (P.out ao cap w1 hs1 hb1)
  clear hL hs1 hr P
  dsimp only
  go_wp2_with fail
  refine (P1.out).mono ?_
  intro e w2 hr
  obtain ⟨v, rfl, hrow, hb2⟩ := hr
  obtain ⟨oa, oc, hv⟩ := acRow_form hrow
  subst hv
  have hA := acRow_at hrow
  have hb3 := hb1.trans (hb2.mono hb1.size)
  have hz3 := hb3.size
  obtain ⟨g, hgo, hg, hcs⟩ := hA (by decide)
  subst hgo
  obtain ⟨io, ic, xo, xc, n1, n2, n3, n4, n5, hN1, hN2⟩ := hcs 1 (by decide)
  have S1 := Lib.hid (fun wx (hk : Below w2.heap.size w2 wx) => S.out (some ⟨g, 0, none⟩) oc wx (acts_below hA hk) (hb3.trans (hk.mono hz3)))
  have R1 := Lib.hid (fun wx (hk : Below w2.heap.size w2 wx) => R.out io ic xo xc wx (nds_below hN1 hk) (hb3.trans (hk.mono hz3)))
  clear P1 S R hY hrow hA hcs hN1 hN2 hb1 hb2
  have m1 : w2.cell? ⟨g, 5, none⟩ = some (.int .i64 2) := n1
  have m2 : w2.cell? ⟨g, 6, none⟩ = some (.slice io nodesR.length ic) := n2
  have m3 : w2.cell? ⟨g, 7, none⟩ = some (.string ⟨#[98, 105, 103]⟩) := n3
  have m4 : w2.cell? ⟨g, 8, none⟩ = some (.slice xo 0 xc) := n4
  have m5 : w2.cell? ⟨g, 9, none⟩ = some (.int .i64 0) := n5
  have hq3 : ((actsA.length : Int) == 2) = true := by decide
  have hq4 : (1 : Int) < (actsA.length : Int) := by decide
  have hq5 : ((13 : Int) == (toksA.length : Int)) = true := by rw [len_A]; rfl
  have i1 : InW g w2 := ⟨hg⟩
  clear n1 n2 n3 n4 n5
  generalize nodesR.length = nr at *
  generalize actsA.length = na at *
  generalize toksA.length = nt at *
  dsimp only
  go_wp2_with (first | ((with_reducible refine ((S1.out _ (by repeat' (first | (with_reducible exact Below.refl _ _) | (with_reducible assumption) | (with_reducible refine Below.alloc ?_ ?_ _) | (with_reducible refine Below.drew ?_) | (with_reducible refine belowN ?_ _) | (with_reducible refine Below.setCell ?_ ?_ _) | (with_reducible refine belowG ?_ ?_) | (with_reducible exact Nat.le_refl _) | (with_reducible refine le_sizeG ?_) | (with_reducible refine le_sizeA ?_) | (with_reducible refine le_sizeC ?_) | (with_reducible refine le_sizeD ?_) | (with_reducible refine le_sizeN ?_) | go_size | (simp [go_sem]; done))))).mono ?_); intro e w1 hr; obtain ⟨rfl, p, rfl⟩ := hr.out; clear hr) | ((with_reducible refine ((R1.out _ (by repeat' (first | (with_reducible exact Below.refl _ _) | (with_reducible assumption) | (with_reducible refine Below.alloc ?_ ?_ _) | (with_reducible refine Below.drew ?_) | (with_reducible refine belowN ?_ _) | (with_reducible refine Below.setCell ?_ ?_ _) | (with_reducible refine belowG ?_ ?_) | (with_reducible exact Nat.le_refl _) | (with_reducible refine le_sizeG ?_) | (with_reducible refine le_sizeA ?_) | (with_reducible refine le_sizeC ?_) | (with_reducible refine le_sizeD ?_) | (with_reducible refine le_sizeN ?_) | go_size | (simp [go_sem]; done))))).mono ?_); intro e w1 hr; obtain ⟨rfl, p, rfl⟩ := hr.out; clear hr))
  go_returns
  exact ⟨rfl, by repeat' (first | (with_reducible exact Below.refl _ _) | (with_reducible assumption) | (with_reducible refine Below.alloc ?_ ?_ _) | (with_reducible refine Below.drew ?_) | (with_reducible refine belowN ?_ _) | (with_reducible refine Below.setCell ?_ ?_ _) | (with_reducible refine belowG ?_ ?_) | (with_reducible exact Nat.le_refl _) | (with_reducible refine le_sizeG ?_) | (with_reducible refine le_sizeA ?_) | (with_reducible refine le_sizeC ?_) | (with_reducible refine le_sizeD ?_) | (with_reducible refine le_sizeN ?_) | go_size | (simp [go_sem]; done))⟩
end Go.Proofs.YtmdjlngdpjjfiaaGreatDoor
