/- Several texts of this proof, joined: BI, BJ. -/
import Derived.Test.YtmalnjmginmjkaaGreatDoorP5
import Derived.Test.YtmalnjmginmjkaaGreatDoorP4
import Derived.Test.YtmalnjmginmjkaaGreatDoorP1
import Derived.WalkKit
import Derived.ProofKit
import Derived.OpenShut
import Derived.Handy
import Derived.BigQuiet
import Derived.OwnWalk
import Derived.Lib.Hide
import Derived.WalkSmall
import Derived.WalkLawsBesides
/- The document's example of a line: shown; the anchor. -/
namespace Go.Proofs.YtmalnjmginmjkaaGreatDoor
open Go.RowKit
/-- What the walks of lines ask of variables. -/
structure Az (w : World) : Prop where
  al : Al w
  tab : Tab w
theorem az_below {w w' : World} (h : Az w) (hb : Below w.heap.size w w') : Az w' := ⟨al_below h.al hb, tab_below h.tab hb⟩
/-! ### The example's expressions and act -/
theorem right_7 : rightT nodes7 = true := by kernel_rfl
theorem right_X : rightT nodesX = true := by kernel_rfl
theorem shown_7 : (showsB nodes7 nodes7.length).getD (nodes7.length - 1) ⟨#[]⟩ = ⟨#[120, 32, 62, 32, 49]⟩ := by kernel_rfl
theorem shown_X : (showsB nodesX nodesX.length).getD (nodesX.length - 1) ⟨#[]⟩ = ⟨#[120]⟩ := by kernel_rfl
theorem sizes_7 : ((showsB nodes7 nodes7.length).all fun t => decide (t.size ≤ 2000000)) = true := by kernel_rfl
theorem sizes_X : ((showsB nodesX nodesX.length).all fun t => decide (t.size ≤ 2000000)) = true := by kernel_rfl
theorem ok_7 : ∀ i, i < nodes7.length → ShowOk nodes7 (showsB nodes7 i) (nodes7.getD i nd0) := by
  intro i hi
  have h : ∀ k, k < 3 → k = 0 ∨ k = 1 ∨ k = 2 := by omega
  have hl := showsB_length nodes7 i
  rcases h i hi with rfl | rfl | rfl
  all_goals
    refine ⟨by decide, fun h => ?_, fun h1 h2 => ?_, fun h1 h2 => ?_, by decide⟩
    · first | exact absurd h (by decide) | exact ⟨by kernel_rfl, by unfold I64; decide⟩
    · rw [hl]
      first | exact absurd h1 (by decide) | exact absurd h2 (by decide) | exact ⟨0, by decide, by decide⟩
    · rw [hl]
      first | exact absurd h1 (by decide) | exact absurd h2 (by decide) | exact ⟨1, by decide, by decide⟩
theorem ok_X : ∀ i, i < nodesX.length → ShowOk nodesX (showsB nodesX i) (nodesX.getD i nd0) := by
  intro i hi
  have h : ∀ k, k < 1 → k = 0 := by omega
  have hl := showsB_length nodesX i
  obtain rfl := h i hi
  refine ⟨by decide, fun h => ?_, fun h1 h2 => ?_, fun h1 h2 => ?_, by decide⟩
  · first | exact absurd h (by decide) | exact ⟨by kernel_rfl, by unfold I64; decide⟩
  · rw [hl]
    first | exact absurd h1 (by decide) | exact absurd h2 (by decide) | exact ⟨0, by decide, by decide⟩
  · rw [hl]
    first | exact absurd h1 (by decide) | exact absurd h2 (by decide) | exact ⟨1, by decide, by decide⟩
theorem show_7 (io : Option Addr) (ic : Nat) (w : World) (hw : Az w) (h : NdsAt w io nodes7) : Calls Tryz.prog 27 #[.slice io 3 ic] w (Ret (.string ⟨#[120, 32, 62, 32, 49]⟩) w) := by
  have := xshow_any io ic nodes7 (by decide) (by decide) (by decide) w h hw.al.ax.lb hw.tab hw.al.ax.eg right_7 ok_7 (fun t ht => of_decide_eq_true (List.all_eq_true.1 sizes_7 t ht))
  rw [shown_7] at this
  exact this
theorem show_X (io : Option Addr) (ic : Nat) (w : World) (hw : Az w) (h : NdsAt w io nodesX) : Calls Tryz.prog 27 #[.slice io 1 ic] w (Ret (.string ⟨#[120]⟩) w) := by
  have := xshow_any io ic nodesX (by decide) (by decide) (by decide) w h hw.al.ax.lb hw.tab hw.al.ax.eg right_X ok_X (fun t ht => of_decide_eq_true (List.all_eq_true.1 sizes_X t ht))
  rw [shown_X] at this
  exact this
def words7 : Nat → List ByteArray
  | _ => [⟨#[108, 111, 103]⟩, ⟨#[120]⟩]
def texts7 : List ByteArray := [⟨(joinB (words7 0) spB).toArray⟩]
theorem shows_7 : ShowsBy acts7 words7 texts7 := by
  refine ⟨rfl, by decide, fun i h => ?_, fun i h => ?_, by decide⟩
  · have h2 : i < 1 := h
    obtain rfl : i = 0 := by omega
    rfl
  · have h2 : i < 1 := h
    obtain rfl : i = 0 := by omega
    decide
theorem text_7 : (⟨(joinB texts7 semiB).toArray⟩ : ByteArray) = ⟨#[108, 111, 103, 32, 120]⟩ := by kernel_rfl
theorem acts_words7 (w : World) (hw : Az w) : ∀ i (hi : i < acts7.length) io ic xo xc wx, Below w.heap.size w wx → NdsAt wx io acts7[i].cond → NdsAt wx xo acts7[i].x → Calls Tryz.prog 29 #[.agg #[.int .i64 acts7[i].kind, .slice io acts7[i].cond.length ic, .string ⟨acts7[i].name.toArray⟩, .slice xo acts7[i].x.length xc, .int .i64 acts7[i].n]] wx (WordsIs (words7 i) wx) := by
  intro i hi io ic xo xc wx hb hN1 hN2
  have hy := az_below hw hb
  have h2 : i < 1 := hi
  obtain rfl : i = 0 := by omega
  exact words_F 5 ⟨#[]⟩ io 0 ic xo 1 xc 0 ⟨#[108, 111, 103]⟩ false true false ⟨#[]⟩ ⟨#[120]⟩ ⟨#[]⟩ wx
    (fun wy hk => form_any 5 (by omega) (by omega) (.slice io 0 ic) (.string ⟨#[]⟩) (.slice xo 1 xc) (.int .i64 0) wy (ax_below hy.al.ax hk).fg)
    (fun h0 => absurd h0 (by decide)) (fun _ wy hk => show_X xo xc wy (az_below hy hk) (nds_below hN2 hk)) (fun h => by cases h)
theorem ashow_7 (oa : Option Addr) (oc : Nat) (w : World) (hw : Az w) (h : ActsAt w oa acts7) : Calls Tryz.prog 15 #[.slice oa 1 oc] w (Ret (.string ⟨#[108, 111, 103, 32, 120]⟩) w) := by
  have := ashow_any oa oc acts7 words7 texts7 shows_7 w h (acts_words7 w hw)
  rw [text_7] at this
  exact this
def shown7 : ByteArray := ⟨#[111, 110, 32, 101, 46, 97, 32, 105, 102, 32, 120, 32, 62, 32, 49, 32, 103, 111, 32, 115, 32, 116, 32, 105, 110, 110, 101, 114, 32, 100, 111, 32, 108, 111, 103, 32, 120]⟩
def trans7 : List ByteArray := transW ⟨#[101, 46, 97]⟩ 3 ⟨#[120, 32, 62, 32, 49]⟩ [⟨#[115]⟩, ⟨#[116]⟩] true 1 ⟨#[108, 111, 103, 32, 120]⟩
theorem joined_7 : (⟨(joinB trans7 spB).toArray⟩ : ByteArray) = shown7 := by kernel_rfl
theorem joined_len : (joinB trans7 spB).length ≤ 900000 := by decide
theorem tshow_7 (io : Option Addr) (ic : Nat) (go : Option Addr) (gc : Nat) (to' : Option Addr) (tc : Nat) (w : World) (hw : Az w) (h1 : NdsAt w io nodes7) (h2 : w.ownsRow 0 9 1 (.slice go 2 gc) 2 [.string ⟨#[115]⟩, .string ⟨#[116]⟩]) (h3 : ActsAt w to' acts7) :
    Calls Tryz.prog 14 #[.agg #[.string ⟨#[101, 46, 97]⟩, .slice io 3 ic, .slice go 2 gc, .bool true, .slice to' 1 tc]] w (Ret (.string shown7) w) := by
  obtain ⟨g, cap, hv, hg, _, _, hc⟩ := own_head h2 (by decide)
  have := ltshow_any ⟨#[101, 46, 97]⟩ io 3 ic g gc go [⟨#[115]⟩, ⟨#[116]⟩] true to' 1 tc ⟨#[120, 32, 62, 32, 49]⟩ ⟨#[108, 111, 103, 32, 120]⟩ w hw.al (by decide)
    (fun _ => ⟨by cases hv; rfl, hg, fun j hj => by
      have h2 : j < 2 := hj
      rcases (by omega : j = 0 ∨ j = 1) with rfl | rfl
      · exact hc 0 _ rfl
      · exact hc 1 _ rfl⟩)
    (fun _ wx hb => show_7 io ic wx (az_below hw hb) (nds_below h1 hb))
    (fun _ wx hb => ashow_7 to' tc wx (az_below hw hb) (acts_below h3 hb)) joined_len
  rw [show (⟨(joinB (transW ⟨#[101, 46, 97]⟩ 3 ⟨#[120, 32, 62, 32, 49]⟩ [⟨#[115]⟩, ⟨#[116]⟩] true 1 ⟨#[108, 111, 103, 32, 120]⟩) spB).toArray⟩ : ByteArray) = shown7 from joined_7] at this
  exact this
set_option maxRecDepth 100000 in
set_option maxHeartbeats 4000000 in
/-- A line of an event is shown as its transition is. -/
theorem ltext_on (nm st ev : ByteArray) (vk vn : Value) (vs av iv gv iw tv : Value) (t : ByteArray) (w : World) (hw : Lw w)
    (hT : ∀ wx, Below w.heap.size w wx → Calls Tryz.prog 14 #[.agg #[.string ev, iv, gv, iw, tv]] wx (Ret (.string t) wx)) :
    Calls Tryz.prog 8 #[.agg #[.int .i64 10, .string nm, .string st, vk, vn, vs, av, .string ev, iv, gv, iw, tv]] w (Ret (.string t) w) := by
  have l10 := lw_word hw 10 (by decide)
  have hgl := lw_lt hw
  have ig : InW 0 w := ⟨hgl⟩
  generalize (⟨(lwL 10).toArray⟩ : ByteArray) = wd at *
  replace hT := Lib.hid hT
  clear hw
  go_enter Tryz.func8, Tryz.ntmps8
  go_wp2_with ((with_reducible refine ((hT.out _ (by repeat' (first | (with_reducible exact Below.refl _ _) | (with_reducible assumption) | (with_reducible refine Below.alloc ?_ ?_ _) | (with_reducible refine Below.drew ?_) | (with_reducible refine belowN ?_ _) | (with_reducible refine Below.setCell ?_ ?_ _) | (with_reducible refine belowG ?_ ?_) | (with_reducible exact Nat.le_refl _) | (with_reducible refine le_sizeG ?_) | (with_reducible refine le_sizeA ?_) | (with_reducible refine le_sizeC ?_) | (with_reducible refine le_sizeD ?_) | (with_reducible refine le_sizeN ?_) | go_size | (simp [go_sem]; done))))).mono ?_); intro e w1 hr; obtain ⟨rfl, p, rfl⟩ := hr.out; clear hr)
  go_returns
  exact ⟨rfl, by repeat' (first | (with_reducible exact Below.refl _ _) | (with_reducible assumption) | (with_reducible refine Below.alloc ?_ ?_ _) | (with_reducible refine Below.drew ?_) | (with_reducible refine belowN ?_ _) | (with_reducible refine Below.setCell ?_ ?_ _) | (with_reducible refine belowG ?_ ?_) | (with_reducible exact Nat.le_refl _) | (with_reducible refine le_sizeG ?_) | (with_reducible refine le_sizeA ?_) | (with_reducible refine le_sizeC ?_) | (with_reducible refine le_sizeD ?_) | (with_reducible refine le_sizeN ?_) | go_size | (simp [go_sem]; done))⟩
end Go.Proofs.YtmalnjmginmjkaaGreatDoor
/- LineStates: the anchor. -/
namespace Go.Proofs.YtmalnjmginmjkaaGreatDoor
open Go.RowKit
/-- The example, as it is parsed. -/
def P7Is (w : World) (e : Ending) (w' : World) : Prop := ∃ ao ac io ic go gc to' tc, e = .returned (.tuple #[.agg #[.int .i64 10, .string ⟨#[]⟩, .string ⟨#[]⟩, .int .i64 0, .int .i64 0, .string ⟨#[]⟩, .slice ao 0 ac, .string ⟨#[101, 46, 97]⟩, .slice io 3 ic, .slice go 2 gc, .bool true, .slice to' 1 tc], .int .i64 0]) ∧
  NdsAt w' io nodes7 ∧ w'.ownsRow 0 9 1 (.slice go 2 gc) 2 [.string ⟨#[115]⟩, .string ⟨#[116]⟩] ∧ ActsAt w' to' acts7 ∧ Below w.heap.size w w'
theorem lparse_7 (w : World) (hw : Al w) : Calls Tryz.prog 6 #[.string line7A] w (P7Is w) := by
  refine (lparse_any line7A (by decide) w hw).mono fun e w' hr => ?_
  rw [parse_7] at hr
  obtain ⟨av, iv, gv, tv, rfl, hV, hb⟩ := hr
  obtain ⟨ao, ac, rfl⟩ := own_form hV.acts.choose_spec.2
  obtain ⟨io, ic, rfl⟩ := own_form hV.cond
  obtain ⟨go, gc, rfl⟩ := own_form hV.goes
  obtain ⟨to', tc, rfl⟩ := own_form hV.thn.choose_spec.2
  exact ⟨ao, ac, io, ic, go, gc, to', tc, rfl, ndsL_own hV.cond, owns_base hV.goes (Nat.zero_le _), acRow_at hV.thn, hb⟩
set_option maxRecDepth 100000 in
set_option maxHeartbeats 4000000 in
theorem anchor7_any (w : World) (hw : Az w) : Calls Tryz.prog 4 #[] w (Ret (.bool true) w) := by
  have P := Lib.hid (lparse_7 w hw.al)
  unfold line7A at P
  have Z := Lib.hid (fun wx (hb : Below w.heap.size w wx) => az_below hw hb)
  clear hw
  go_enter Tryz.func4, Tryz.ntmps4
  go_wp2_with fail
  refine P.out.mono ?_
  intro e w1 hr
  obtain ⟨ao, ac, io, ic, go, gc, to', tc, rfl, h1, h2, h3, hb⟩ := hr
  have T := Lib.hid (fun wx (hk : Below w1.heap.size w1 wx) => ltext_on ⟨#[]⟩ ⟨#[]⟩ ⟨#[101, 46, 97]⟩ (.int .i64 0) (.int .i64 0) (.string ⟨#[]⟩) (.slice ao 0 ac) (.slice io 3 ic) (.slice go 2 gc) (.bool true) (.slice to' 1 tc) shown7 wx (Z.out wx (hb.trans (hk.mono hb.size))).al.lw
    (fun wy hj => tshow_7 io ic go gc to' tc wy (Z.out wy (hb.trans ((hk.trans (hj.mono hk.size)).mono hb.size))) (nds_below h1 (hk.trans (hj.mono hk.size))) (owns_below h2 (hk.trans (hj.mono hk.size))) (acts_below h3 (hk.trans (hj.mono hk.size)))))
  unfold shown7 at T
  have hz := hb.size
  clear P Z h1 h2 h3
  dsimp only
  go_wp2_with ((with_reducible refine ((T.out _ (by repeat' (first | (with_reducible exact Below.refl _ _) | (with_reducible assumption) | (with_reducible refine Below.alloc ?_ ?_ _) | (with_reducible refine Below.drew ?_) | (with_reducible refine belowN ?_ _) | (with_reducible refine Below.setCell ?_ ?_ _) | (with_reducible refine belowG ?_ ?_) | (with_reducible exact Nat.le_refl _) | (with_reducible refine le_sizeG ?_) | (with_reducible refine le_sizeA ?_) | (with_reducible refine le_sizeC ?_) | (with_reducible refine le_sizeD ?_) | (with_reducible refine le_sizeN ?_) | go_size | (simp [go_sem]; done))))).mono ?_); intro e w1 hr; obtain ⟨rfl, p, rfl⟩ := hr.out; clear hr)
  go_returns
  exact ⟨rfl, by repeat' (first | (with_reducible exact Below.refl _ _) | (with_reducible assumption) | (with_reducible refine Below.alloc ?_ ?_ _) | (with_reducible refine Below.drew ?_) | (with_reducible refine belowN ?_ _) | (with_reducible refine Below.setCell ?_ ?_ _) | (with_reducible refine belowG ?_ ?_) | (with_reducible exact Nat.le_refl _) | (with_reducible refine le_sizeG ?_) | (with_reducible refine le_sizeA ?_) | (with_reducible refine le_sizeC ?_) | (with_reducible refine le_sizeD ?_) | (with_reducible refine le_sizeN ?_) | go_size | (simp [go_sem]; done))⟩
end Go.Proofs.YtmalnjmginmjkaaGreatDoor
