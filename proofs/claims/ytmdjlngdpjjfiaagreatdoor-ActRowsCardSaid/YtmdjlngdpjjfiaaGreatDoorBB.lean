/- Whether an act may be; the words that it is shown by. -/
import Derived.Test.YtmdjlngdpjjfiaaGreatDoorAQ
import Derived.Test.YtmdjlngdpjjfiaaGreatDoorAV
import Derived.Test.YtmdjlngdpjjfiaaGreatDoorXT
import Derived.WalkKit
import Derived.ProofKit
import Derived.OpenShut
import Derived.Handy
import Derived.BigQuiet
import Derived.OwnWalk
import Derived.Deep.AppendLies
import Derived.Lib.Hide
import Derived.WalkSmall
import Derived.WalkLawsBesides
namespace Go.Proofs.YtmdjlngdpjjfiaaGreatDoor
open Go.RowKit
set_option maxRecDepth 100000 in
theorem valued_no (f0 f1 f2 f4 : Value) (xo : Option Addr) (xc : Nat) (w : World) : Calls Tryz.prog 23 #[.agg #[f0, f1, f2, .bool false, f4], .slice xo 0 xc] w (Ret (.bool true) w) := by
  go_enter Tryz.func23, Tryz.ntmps23
  go_wp2
  go_returns
  exact ⟨rfl, by repeat' (first | (with_reducible exact Below.refl _ _) | (with_reducible assumption) | (with_reducible refine Below.alloc ?_ ?_ _) | (with_reducible refine Below.drew ?_) | (with_reducible refine belowN ?_ _) | (with_reducible refine Below.setCell ?_ ?_ _) | (with_reducible refine belowG ?_ ?_) | (with_reducible exact Nat.le_refl _) | (with_reducible refine le_sizeG ?_) | (with_reducible refine le_sizeA ?_) | (with_reducible refine le_sizeC ?_) | (with_reducible refine le_sizeD ?_) | (with_reducible refine le_sizeN ?_) | go_size | (simp [go_sem]; done))⟩
set_option maxRecDepth 100000 in
theorem numbered_no (f0 f1 f2 f3 : Value) (w : World) : Calls Tryz.prog 24 #[.agg #[f0, f1, f2, f3, .bool false], .int .i64 0] w (Ret (.bool true) w) := by
  go_enter Tryz.func24, Tryz.ntmps24
  go_wp2
  go_returns
  exact ⟨rfl, by repeat' (first | (with_reducible exact Below.refl _ _) | (with_reducible assumption) | (with_reducible refine Below.alloc ?_ ?_ _) | (with_reducible refine Below.drew ?_) | (with_reducible refine belowN ?_ _) | (with_reducible refine Below.setCell ?_ ?_ _) | (with_reducible refine belowG ?_ ?_) | (with_reducible exact Nat.le_refl _) | (with_reducible refine le_sizeG ?_) | (with_reducible refine le_sizeA ?_) | (with_reducible refine le_sizeC ?_) | (with_reducible refine le_sizeD ?_) | (with_reducible refine le_sizeN ?_) | go_size | (simp [go_sem]; done))⟩
set_option maxRecDepth 100000 in
set_option maxHeartbeats 2000000 in
/-- An event that is raised where something holds. -/
theorem aright_raise (io : Option Addr) (ic : Nat) (cond : List Nd) (h0 : 0 < cond.length) (hl : cond.length ≤ 2000000) (hs : ∀ n ∈ cond, n.s.length ≤ 140737488351232 ∧ n.name.length ≤ 140737488351232) (hR : rightT cond = true) (name : ByteArray) (hn : name.size ≤ 140737488351232) (hN : namedB true name.data.toList = true) (xo : Option Addr) (xc : Nat) (w : World) (hw : Ax w) (h : NdsAt w io cond) :
    Calls Tryz.prog 10 #[.agg #[.int .i64 2, .slice io cond.length ic, .string name, .slice xo 0 xc, .int .i64 0]] w (Ret (.bool true) w) := by
  have F : ∀ wx, Below w.heap.size w wx → Calls Tryz.prog 20 #[.agg #[.int .i64 2, .slice io cond.length ic, .string name, .slice xo 0 xc, .int .i64 0]] wx (Ret (.agg #[.string ⟨#[114, 97, 105, 115, 101]⟩, .bool false, .bool true, .bool false, .bool false]) wx) := fun wx hb => form_any 2 (by omega) (by omega) (.slice io cond.length ic) (.string name) (.slice xo 0 xc) (.int .i64 0) wx (ax_below hw hb).fg
  replace F := Lib.hid F
  have R := Lib.hid (fun wx (hb : Below w.heap.size w wx) => xright_any io ic cond hl hs wx (nds_below h hb) (ax_below hw hb).lb)
  rw [hR] at R
  have N : ∀ wx, Below w.heap.size w wx → Calls Tryz.prog 22 #[.agg #[.string ⟨#[114, 97, 105, 115, 101]⟩, .bool false, .bool true, .bool false, .bool false], .string name] wx (Ret (.bool true) wx) := fun wx hb => by
    have := anamed_any true (.string ⟨#[114, 97, 105, 115, 101]⟩) (.bool false) (.bool false) name hn wx (ax_below hw hb).lb
    rw [hN] at this
    exact this
  replace N := Lib.hid N
  have hc : ((cond.length : Int) == 0) = false := beq_eq_false_iff_ne.2 (by omega)
  have V := fun (o c : Value) wx => Lib.hid (valued_no (.string ⟨#[114, 97, 105, 115, 101]⟩) (.bool false) (.bool true) (.bool false) xo xc wx)
  have U := fun wx => Lib.hid (numbered_no (.string ⟨#[114, 97, 105, 115, 101]⟩) (.bool false) (.bool true) (.bool false) wx)
  replace V := Lib.hid V
  replace U := Lib.hid U
  clear hw h hs hN hR
  go_enter Tryz.func10, Tryz.ntmps10
  go_wp2_with (first | ((with_reducible refine ((F.out _ (by repeat' (first | (with_reducible exact Below.refl _ _) | (with_reducible assumption) | (with_reducible refine Below.alloc ?_ ?_ _) | (with_reducible refine Below.drew ?_) | (with_reducible refine belowN ?_ _) | (with_reducible refine Below.setCell ?_ ?_ _) | (with_reducible refine belowG ?_ ?_) | (with_reducible exact Nat.le_refl _) | (with_reducible refine le_sizeG ?_) | (with_reducible refine le_sizeA ?_) | (with_reducible refine le_sizeC ?_) | (with_reducible refine le_sizeD ?_) | (with_reducible refine le_sizeN ?_) | go_size | (simp [go_sem]; done))))).mono ?_); intro e w1 hr; obtain ⟨rfl, p, rfl⟩ := hr.out; clear hr) | ((with_reducible refine ((R.out _ (by repeat' (first | (with_reducible exact Below.refl _ _) | (with_reducible assumption) | (with_reducible refine Below.alloc ?_ ?_ _) | (with_reducible refine Below.drew ?_) | (with_reducible refine belowN ?_ _) | (with_reducible refine Below.setCell ?_ ?_ _) | (with_reducible refine belowG ?_ ?_) | (with_reducible exact Nat.le_refl _) | (with_reducible refine le_sizeG ?_) | (with_reducible refine le_sizeA ?_) | (with_reducible refine le_sizeC ?_) | (with_reducible refine le_sizeD ?_) | (with_reducible refine le_sizeN ?_) | go_size | (simp [go_sem]; done))))).mono ?_); intro e w1 hr; obtain ⟨rfl, p, rfl⟩ := hr.out; clear hr) | ((with_reducible refine ((N.out _ (by repeat' (first | (with_reducible exact Below.refl _ _) | (with_reducible assumption) | (with_reducible refine Below.alloc ?_ ?_ _) | (with_reducible refine Below.drew ?_) | (with_reducible refine belowN ?_ _) | (with_reducible refine Below.setCell ?_ ?_ _) | (with_reducible refine belowG ?_ ?_) | (with_reducible exact Nat.le_refl _) | (with_reducible refine le_sizeG ?_) | (with_reducible refine le_sizeA ?_) | (with_reducible refine le_sizeC ?_) | (with_reducible refine le_sizeD ?_) | (with_reducible refine le_sizeN ?_) | go_size | (simp [go_sem]; done))))).mono ?_); intro e w1 hr; obtain ⟨rfl, p, rfl⟩ := hr.out; clear hr) | ((with_reducible refine ((V.out (.int .i64 0) (.int .i64 0) _).out).mono ?_); intro e w1 hr; obtain ⟨rfl, p, rfl⟩ := hr.out; clear hr) | ((with_reducible refine ((U.out _).out).mono ?_); intro e w1 hr; obtain ⟨rfl, p, rfl⟩ := hr.out; clear hr))
  go_returns
  exact ⟨rfl, by repeat' (first | (with_reducible exact Below.refl _ _) | (with_reducible assumption) | (with_reducible refine Below.alloc ?_ ?_ _) | (with_reducible refine Below.drew ?_) | (with_reducible refine belowN ?_ _) | (with_reducible refine Below.setCell ?_ ?_ _) | (with_reducible refine belowG ?_ ?_) | (with_reducible exact Nat.le_refl _) | (with_reducible refine le_sizeG ?_) | (with_reducible refine le_sizeA ?_) | (with_reducible refine le_sizeC ?_) | (with_reducible refine le_sizeD ?_) | (with_reducible refine le_sizeN ?_) | go_size | (simp [go_sem]; done))⟩
/-- Texts in a row of the call's own. -/
def WordsIs (ts : List ByteArray) (w : World) (e : Ending) (w' : World) : Prop := ∃ v, e = .returned v ∧ w'.ownsRow w.heap.size 9 1 v ts.length (ts.map Value.string) ∧ Below w.heap.size w w'
/-- While words are gathered: those that there are, the form, the act. -/
structure WordsAt (w : World) (fb : Nat) (f0 f1 f2 f3 f4 a0 a1 a2 a3 a4 : Value) (v : Value) (n : Nat) (ts : List Value) (wx : World) : Prop where
  own : wx.ownsRow w.heap.size 9 1 v n ts
  form : wx.heap[fb]? = some (.cells #[f0, f1, f2, f3, f4] 59 (0, 0))
  act : wx.heap[w.heap.size]? = some (.cells #[a0, a1, a2, a3, a4] 38 (0, 0))
  env : Below w.heap.size w wx
section
variable {w wx wy : World} {fb : Nat} {f0 f1 f2 f3 f4 a0 a1 a2 a3 a4 : Value} {v v' : Value} {n n' : Nat} {ts us : List Value}
theorem words_keep (h : WordsAt w fb f0 f1 f2 f3 f4 a0 a1 a2 a3 a4 v n ts wx) (hb : Below wx.heap.size wx wy) : WordsAt w fb f0 f1 f2 f3 f4 a0 a1 a2 a3 a4 v n ts wy :=
  ⟨owns_below h.own hb, blk_keep h.form hb, blk_keep h.act hb, h.env.trans (hb.mono h.env.size)⟩
theorem words_grown (h : WordsAt w fb f0 f1 f2 f3 f4 a0 a1 a2 a3 a4 v n ts wx) (hg : wx.grownBy wy v.ownBlock) (ho : wy.ownsRow w.heap.size 9 1 v' n' (ts ++ us)) : WordsAt w fb f0 f1 f2 f3 f4 a0 a1 a2 a3 a4 v' n' (ts ++ us) wy :=
  ⟨ho, grown_blk h.own h.form (by decide) hg, grown_blk h.own h.act (by decide) hg, Below.grown h.env hg h.env.size (fun k hk => (h.own.lt k hk).1)⟩
theorem wcells {w : World} {b : Nat} {t : TypeId} {v0 v1 v2 v3 v4 : Value} (h : w.heap[b]? = some (.cells #[v0, v1, v2, v3, v4] t (0, 0))) :
    w.cell? ⟨b, 0, none⟩ = some v0 ∧ w.cell? ⟨b, 1, none⟩ = some v1 ∧ w.cell? ⟨b, 2, none⟩ = some v2 ∧ w.cell? ⟨b, 3, none⟩ = some v3 ∧ w.cell? ⟨b, 4, none⟩ = some v4 ∧ b < w.heap.size := by
  refine ⟨?_, ?_, ?_, ?_, ?_, lt_of_block h⟩
  all_goals
    rw [cell_of_row w b _ _ _ _ h]
    rfl
end
set_option maxRecDepth 100000 in
set_option maxHeartbeats 4000000 in
/-- What 'set' is shown by. -/
theorem words_set (name : ByteArray) (io : Option Addr) (ic : Nat) (xo : Option Addr) (xl xc : Nat) (t : ByteArray) (w : World) (hw : Ax w)
    (hS : ∀ wx, Below w.heap.size w wx → Calls Tryz.prog 41 #[.slice xo xl xc] wx (Ret (.string t) wx)) :
    Calls Tryz.prog 19 #[.agg #[.int .i64 1, .slice io 0 ic, .string name, .slice xo xl xc, .int .i64 0]] w (WordsIs [⟨#[115, 101, 116]⟩, name, t] w) := by
  have F : ∀ wx, Below w.heap.size w wx → Calls Tryz.prog 20 #[.agg #[.int .i64 1, .slice io 0 ic, .string name, .slice xo xl xc, .int .i64 0]] wx (Ret (.agg #[.string ⟨#[115, 101, 116]⟩, .bool true, .bool false, .bool true, .bool false]) wx) := fun wx hb => form_any 1 (by omega) (by omega) (.slice io 0 ic) (.string name) (.slice xo xl xc) (.int .i64 0) wx (ax_below hw hb).fg
  replace F := Lib.hid F
  obtain ⟨i0, hi0, hz1, hz2, hz3⟩ := info_parts Tryz.infoStr
  replace hS := Lib.hid hS
  clear hw
  go_enter Tryz.func19, Tryz.ntmps19
  go_upto_region 4 with (fail)
  go_cut [3, 4] (fun v3 v4 wx => ∃ (oa : Option Addr) (oc fb : Nat), v3 = .slice oa 0 oc ∧ v4 = .pointer (some ⟨fb, 0, none⟩) ∧ WordsAt w fb (.string ⟨#[115, 101, 116]⟩) (.bool true) (.bool false) (.bool true) (.bool false) (.int .i64 1) (.slice io 0 ic) (.string name) (.slice xo xl xc) (.int .i64 0) (.slice oa 0 oc) 0 [] wx)
  case first =>
    go_wp2_with ((with_reducible refine ((F.out _ (by repeat' (first | (with_reducible exact Below.refl _ _) | (with_reducible assumption) | (with_reducible refine Below.alloc ?_ ?_ _) | (with_reducible refine Below.drew ?_) | (with_reducible refine belowN ?_ _) | (with_reducible refine Below.setCell ?_ ?_ _) | (with_reducible refine belowG ?_ ?_) | (with_reducible exact Nat.le_refl _) | (with_reducible refine le_sizeG ?_) | (with_reducible refine le_sizeA ?_) | (with_reducible refine le_sizeC ?_) | (with_reducible refine le_sizeD ?_) | (with_reducible refine le_sizeN ?_) | go_size | (simp [go_sem]; done))))).mono ?_); intro e w1 hr; obtain ⟨rfl, p, rfl⟩ := hr.out; clear hr)
    go_meet
    exact ⟨none, 0, _, rfl, rfl, World.ownsRow_nil _ _ _ _, heap_alloc_new _ _, blk_keep (heap_alloc_new w _) (by repeat' (first | (with_reducible exact Below.refl _ _) | (with_reducible assumption) | (with_reducible refine Below.alloc ?_ ?_ _) | (with_reducible refine Below.drew ?_) | (with_reducible refine belowN ?_ _) | (with_reducible refine Below.setCell ?_ ?_ _) | (with_reducible refine belowG ?_ ?_) | (with_reducible exact Nat.le_refl _) | (with_reducible refine le_sizeG ?_) | (with_reducible refine le_sizeA ?_) | (with_reducible refine le_sizeC ?_) | (with_reducible refine le_sizeD ?_) | (with_reducible refine le_sizeN ?_) | go_size | (simp [go_sem]; done))), by repeat' (first | (with_reducible exact Below.refl _ _) | (with_reducible assumption) | (with_reducible refine Below.alloc ?_ ?_ _) | (with_reducible refine Below.drew ?_) | (with_reducible refine belowN ?_ _) | (with_reducible refine Below.setCell ?_ ?_ _) | (with_reducible refine belowG ?_ ?_) | (with_reducible exact Nat.le_refl _) | (with_reducible refine le_sizeG ?_) | (with_reducible refine le_sizeA ?_) | (with_reducible refine le_sizeC ?_) | (with_reducible refine le_sizeD ?_) | (with_reducible refine le_sizeN ?_) | go_size | (simp [go_sem]; done))⟩
  case rest =>
    obtain ⟨oa, oc, fb, rfl, rfl, S0⟩ := hcut
    rename World => wx0
    clear F
    obtain ⟨c0, c1, c2, c3, c4, cb⟩ := wcells S0.form
    obtain ⟨d0, d1, d2, d3, d4, db⟩ := wcells S0.act
    have i1 := InW.mk cb
    have i2 := InW.mk db
    replace S0 := Lib.hid S0
    go_wp2_with (at_builtin; refine wpList_append_lies _ rfl _ _ 55 rfl w.heap.size 9 i0 _ 1 16 Tryz.underlying55 hi0 hz1 hz2 hz3 rfl (by decide) (.slice oa 0 oc) 0 [] rfl (owns_below S0.out.own (by repeat' (first | (with_reducible exact Below.refl _ _) | (with_reducible assumption) | (with_reducible refine Below.alloc ?_ ?_ _) | (with_reducible refine Below.drew ?_) | (with_reducible refine belowN ?_ _) | (with_reducible refine Below.setCell ?_ ?_ _) | (with_reducible refine belowG ?_ ?_) | (with_reducible exact Nat.le_refl _) | (with_reducible refine le_sizeG ?_) | (with_reducible refine le_sizeA ?_) | (with_reducible refine le_sizeC ?_) | (with_reducible refine le_sizeD ?_) | (with_reducible refine le_sizeN ?_) | go_size | (simp [go_sem]; done)))) ⟨_, 0, none⟩ 1 1 [.string ⟨#[115, 101, 116]⟩] rfl rfl (World.news_of_block (new_at (by simp))) (by intro u hu; simp at hu; subst hu; rfl) (by decide) (by unfold maxLen; omega) (by omega) (Nat.le_trans S0.out.env.size (Below.size (B := wx0.heap.size) (w := wx0) (by repeat' (first | (with_reducible exact Below.refl _ _) | (with_reducible assumption) | (with_reducible refine Below.alloc ?_ ?_ _) | (with_reducible refine Below.drew ?_) | (with_reducible refine belowN ?_ _) | (with_reducible refine Below.setCell ?_ ?_ _) | (with_reducible refine belowG ?_ ?_) | (with_reducible exact Nat.le_refl _) | (with_reducible refine le_sizeG ?_) | (with_reducible refine le_sizeA ?_) | (with_reducible refine le_sizeC ?_) | (with_reducible refine le_sizeD ?_) | (with_reducible refine le_sizeN ?_) | go_size | (simp [go_sem]; done))))) _ rfl ?_)
    intro g0 cap0 wx1 hown0 hgrow0 hat0 hg0
    have S1 := words_grown (words_keep S0.out (by repeat' (first | (with_reducible exact Below.refl _ _) | (with_reducible assumption) | (with_reducible refine Below.alloc ?_ ?_ _) | (with_reducible refine Below.drew ?_) | (with_reducible refine belowN ?_ _) | (with_reducible refine Below.setCell ?_ ?_ _) | (with_reducible refine belowG ?_ ?_) | (with_reducible exact Nat.le_refl _) | (with_reducible refine le_sizeG ?_) | (with_reducible refine le_sizeA ?_) | (with_reducible refine le_sizeC ?_) | (with_reducible refine le_sizeD ?_) | (with_reducible refine le_sizeN ?_) | go_size | (simp [go_sem]; done)))) hgrow0 hown0
    clear S0 c0 c1 c2 c3 c4 cb d0 d1 d2 d3 d4 db i1 i2 hown0 hgrow0 hat0 hg0
    simp only [List.nil_append] at S1
    obtain ⟨c0, c1, c2, c3, c4, cb⟩ := wcells S1.form
    obtain ⟨d0, d1, d2, d3, d4, db⟩ := wcells S1.act
    have i1 := InW.mk cb
    have i2 := InW.mk db
    replace S1 := Lib.hid S1
    go_wp2_with (at_builtin; refine wpList_append_lies _ rfl _ _ 55 rfl w.heap.size 9 i0 _ 1 16 Tryz.underlying55 hi0 hz1 hz2 hz3 rfl (by decide) (.slice (some ⟨g0, 0, none⟩) 1 cap0) 1 [.string ⟨#[115, 101, 116]⟩] rfl (owns_below S1.out.own (by repeat' (first | (with_reducible exact Below.refl _ _) | (with_reducible assumption) | (with_reducible refine Below.alloc ?_ ?_ _) | (with_reducible refine Below.drew ?_) | (with_reducible refine belowN ?_ _) | (with_reducible refine Below.setCell ?_ ?_ _) | (with_reducible refine belowG ?_ ?_) | (with_reducible exact Nat.le_refl _) | (with_reducible refine le_sizeG ?_) | (with_reducible refine le_sizeA ?_) | (with_reducible refine le_sizeC ?_) | (with_reducible refine le_sizeD ?_) | (with_reducible refine le_sizeN ?_) | go_size | (simp [go_sem]; done)))) ⟨_, 0, none⟩ 1 1 [.string name] rfl rfl (World.news_of_block (new_at (by simp))) (by intro u hu; simp at hu; subst hu; rfl) (by decide) (by unfold maxLen; omega) (by omega) (Nat.le_trans S1.out.env.size (Below.size (B := wx1.heap.size) (w := wx1) (by repeat' (first | (with_reducible exact Below.refl _ _) | (with_reducible assumption) | (with_reducible refine Below.alloc ?_ ?_ _) | (with_reducible refine Below.drew ?_) | (with_reducible refine belowN ?_ _) | (with_reducible refine Below.setCell ?_ ?_ _) | (with_reducible refine belowG ?_ ?_) | (with_reducible exact Nat.le_refl _) | (with_reducible refine le_sizeG ?_) | (with_reducible refine le_sizeA ?_) | (with_reducible refine le_sizeC ?_) | (with_reducible refine le_sizeD ?_) | (with_reducible refine le_sizeN ?_) | go_size | (simp [go_sem]; done))))) _ rfl ?_)
    intro g1 cap1 wx2 hown1 hgrow1 hat1 hg1
    have S2 := words_grown (words_keep S1.out (by repeat' (first | (with_reducible exact Below.refl _ _) | (with_reducible assumption) | (with_reducible refine Below.alloc ?_ ?_ _) | (with_reducible refine Below.drew ?_) | (with_reducible refine belowN ?_ _) | (with_reducible refine Below.setCell ?_ ?_ _) | (with_reducible refine belowG ?_ ?_) | (with_reducible exact Nat.le_refl _) | (with_reducible refine le_sizeG ?_) | (with_reducible refine le_sizeA ?_) | (with_reducible refine le_sizeC ?_) | (with_reducible refine le_sizeD ?_) | (with_reducible refine le_sizeN ?_) | go_size | (simp [go_sem]; done)))) hgrow1 hown1
    clear S1 c0 c1 c2 c3 c4 cb d0 d1 d2 d3 d4 db i1 i2 hown1 hgrow1 hat1 hg1
    have hS2 := Lib.hid (fun wx (hb : Below wx2.heap.size wx2 wx) => hS.out wx (S2.env.trans (hb.mono S2.env.size)))
    obtain ⟨c0, c1, c2, c3, c4, cb⟩ := wcells S2.form
    obtain ⟨d0, d1, d2, d3, d4, db⟩ := wcells S2.act
    have i1 := InW.mk cb
    have i2 := InW.mk db
    replace S2 := Lib.hid S2
    go_wp2_with (first | ((with_reducible refine ((hS2.out _ (by repeat' (first | (with_reducible exact Below.refl _ _) | (with_reducible assumption) | (with_reducible refine Below.alloc ?_ ?_ _) | (with_reducible refine Below.drew ?_) | (with_reducible refine belowN ?_ _) | (with_reducible refine Below.setCell ?_ ?_ _) | (with_reducible refine belowG ?_ ?_) | (with_reducible exact Nat.le_refl _) | (with_reducible refine le_sizeG ?_) | (with_reducible refine le_sizeA ?_) | (with_reducible refine le_sizeC ?_) | (with_reducible refine le_sizeD ?_) | (with_reducible refine le_sizeN ?_) | go_size | (simp [go_sem]; done))))).mono ?_); intro e w1 hr; obtain ⟨rfl, p, rfl⟩ := hr.out; clear hr) | (at_builtin; refine wpList_append_lies _ rfl _ _ 55 rfl w.heap.size 9 i0 _ 1 16 Tryz.underlying55 hi0 hz1 hz2 hz3 rfl (by decide) (.slice (some ⟨g1, 0, none⟩) 2 cap1) 2 [.string ⟨#[115, 101, 116]⟩, .string name] rfl (owns_below S2.out.own (by repeat' (first | (with_reducible exact Below.refl _ _) | (with_reducible assumption) | (with_reducible refine Below.alloc ?_ ?_ _) | (with_reducible refine Below.drew ?_) | (with_reducible refine belowN ?_ _) | (with_reducible refine Below.setCell ?_ ?_ _) | (with_reducible refine belowG ?_ ?_) | (with_reducible exact Nat.le_refl _) | (with_reducible refine le_sizeG ?_) | (with_reducible refine le_sizeA ?_) | (with_reducible refine le_sizeC ?_) | (with_reducible refine le_sizeD ?_) | (with_reducible refine le_sizeN ?_) | go_size | (simp [go_sem]; done)))) ⟨_, 0, none⟩ 1 1 [.string t] rfl rfl (World.news_of_block (new_at (by simp))) (by intro u hu; simp at hu; subst hu; rfl) (by decide) (by unfold maxLen; omega) (by omega) (Nat.le_trans S2.out.env.size (Below.size (B := wx2.heap.size) (w := wx2) (by repeat' (first | (with_reducible exact Below.refl _ _) | (with_reducible assumption) | (with_reducible refine Below.alloc ?_ ?_ _) | (with_reducible refine Below.drew ?_) | (with_reducible refine belowN ?_ _) | (with_reducible refine Below.setCell ?_ ?_ _) | (with_reducible refine belowG ?_ ?_) | (with_reducible exact Nat.le_refl _) | (with_reducible refine le_sizeG ?_) | (with_reducible refine le_sizeA ?_) | (with_reducible refine le_sizeC ?_) | (with_reducible refine le_sizeD ?_) | (with_reducible refine le_sizeN ?_) | go_size | (simp [go_sem]; done))))) _ rfl ?_))
    intro g2 cap2 wx3 hown2 hgrow2 hat2 hg2
    have S3 := words_grown (words_keep S2.out (by repeat' (first | (with_reducible exact Below.refl _ _) | (with_reducible assumption) | (with_reducible refine Below.alloc ?_ ?_ _) | (with_reducible refine Below.drew ?_) | (with_reducible refine belowN ?_ _) | (with_reducible refine Below.setCell ?_ ?_ _) | (with_reducible refine belowG ?_ ?_) | (with_reducible exact Nat.le_refl _) | (with_reducible refine le_sizeG ?_) | (with_reducible refine le_sizeA ?_) | (with_reducible refine le_sizeC ?_) | (with_reducible refine le_sizeD ?_) | (with_reducible refine le_sizeN ?_) | go_size | (simp [go_sem]; done)))) hgrow2 hown2
    clear S2 c0 c1 c2 c3 c4 cb d0 d1 d2 d3 d4 db i1 i2 hown2 hgrow2 hat2 hg2
    obtain ⟨c0, c1, c2, c3, c4, cb⟩ := wcells S3.form
    obtain ⟨d0, d1, d2, d3, d4, db⟩ := wcells S3.act
    have i1 := InW.mk cb
    have i2 := InW.mk db
    have hfin := Lib.hid S3.own
    have hb := S3.env
    clear S3 hS hS2
    go_wp2
    go_returns
    exact ⟨_, rfl, hfin.out, by repeat' (first | (with_reducible exact Below.refl _ _) | (with_reducible assumption) | (with_reducible refine Below.alloc ?_ ?_ _) | (with_reducible refine Below.drew ?_) | (with_reducible refine belowN ?_ _) | (with_reducible refine Below.setCell ?_ ?_ _) | (with_reducible refine belowG ?_ ?_) | (with_reducible exact Nat.le_refl _) | (with_reducible refine le_sizeG ?_) | (with_reducible refine le_sizeA ?_) | (with_reducible refine le_sizeC ?_) | (with_reducible refine le_sizeD ?_) | (with_reducible refine le_sizeN ?_) | go_size | (simp [go_sem]; done))⟩
set_option maxRecDepth 100000 in
set_option maxHeartbeats 4000000 in
/-- What 'raise' is shown by, where something holds. -/
theorem words_raise (name : ByteArray) (io : Option Addr) (il ic : Nat) (hil : 0 < il) (xo : Option Addr) (xc : Nat) (t : ByteArray) (w : World) (hw : Ax w)
    (hS : ∀ wx, Below w.heap.size w wx → Calls Tryz.prog 41 #[.slice io il ic] wx (Ret (.string t) wx)) :
    Calls Tryz.prog 19 #[.agg #[.int .i64 2, .slice io il ic, .string name, .slice xo 0 xc, .int .i64 0]] w (WordsIs [⟨#[105, 102]⟩, t, ⟨#[58]⟩, ⟨#[114, 97, 105, 115, 101]⟩, name] w) := by
  have F : ∀ wx, Below w.heap.size w wx → Calls Tryz.prog 20 #[.agg #[.int .i64 2, .slice io il ic, .string name, .slice xo 0 xc, .int .i64 0]] wx (Ret (.agg #[.string ⟨#[114, 97, 105, 115, 101]⟩, .bool false, .bool true, .bool false, .bool false]) wx) := fun wx hb => form_any 2 (by omega) (by omega) (.slice io il ic) (.string name) (.slice xo 0 xc) (.int .i64 0) wx (ax_below hw hb).fg
  replace F := Lib.hid F
  obtain ⟨i0, hi0, hz1, hz2, hz3⟩ := info_parts Tryz.infoStr
  replace hS := Lib.hid hS
  have hilI : (0 : Int) < (il : Int) := by omega
  clear hw
  go_enter Tryz.func19, Tryz.ntmps19
  go_upto_region 1 with (fail)
  go_cut [3] (fun v3 wx => ∃ (oa : Option Addr) (oc : Nat), v3 = .slice oa 0 oc ∧ wx.ownsRow w.heap.size 9 1 (.slice oa 0 oc) 0 [] ∧ wx.heap[w.heap.size]? = some (.cells #[.int .i64 2, .slice io il ic, .string name, .slice xo 0 xc, .int .i64 0] 38 (0, 0)) ∧ Below w.heap.size w wx)
  case first =>
    go_wp2
    go_meet
    exact ⟨none, 0, rfl, World.ownsRow_nil _ _ _ _, heap_alloc_new w _, by repeat' (first | (with_reducible exact Below.refl _ _) | (with_reducible assumption) | (with_reducible refine Below.alloc ?_ ?_ _) | (with_reducible refine Below.drew ?_) | (with_reducible refine belowN ?_ _) | (with_reducible refine Below.setCell ?_ ?_ _) | (with_reducible refine belowG ?_ ?_) | (with_reducible exact Nat.le_refl _) | (with_reducible refine le_sizeG ?_) | (with_reducible refine le_sizeA ?_) | (with_reducible refine le_sizeC ?_) | (with_reducible refine le_sizeD ?_) | (with_reducible refine le_sizeN ?_) | go_size | (simp [go_sem]; done))⟩
  case rest =>
    obtain ⟨oa, oc, rfl, hown0, hact0, hb0⟩ := hcut
    rename World => wx0
    obtain ⟨d0, d1, d2, d3, d4, db⟩ := wcells hact0
    have i2 := InW.mk db
    have hS0 := Lib.hid (fun wx (hb : Below wx0.heap.size wx0 wx) => hS.out wx (hb0.trans (hb.mono hb0.size)))
    replace hown0 := Lib.hid hown0
    replace hact0 := Lib.hid hact0
    go_wp2_with (first | ((with_reducible refine ((hS0.out _ (by repeat' (first | (with_reducible exact Below.refl _ _) | (with_reducible assumption) | (with_reducible refine Below.alloc ?_ ?_ _) | (with_reducible refine Below.drew ?_) | (with_reducible refine belowN ?_ _) | (with_reducible refine Below.setCell ?_ ?_ _) | (with_reducible refine belowG ?_ ?_) | (with_reducible exact Nat.le_refl _) | (with_reducible refine le_sizeG ?_) | (with_reducible refine le_sizeA ?_) | (with_reducible refine le_sizeC ?_) | (with_reducible refine le_sizeD ?_) | (with_reducible refine le_sizeN ?_) | go_size | (simp [go_sem]; done))))).mono ?_); intro e w1 hr; obtain ⟨rfl, p, rfl⟩ := hr.out; clear hr) | (at_builtin; refine wpList_append_lies _ rfl _ _ 55 rfl w.heap.size 9 i0 _ 1 16 Tryz.underlying55 hi0 hz1 hz2 hz3 rfl (by decide) (.slice oa 0 oc) 0 [] rfl (owns_below hown0.out (by repeat' (first | (with_reducible exact Below.refl _ _) | (with_reducible assumption) | (with_reducible refine Below.alloc ?_ ?_ _) | (with_reducible refine Below.drew ?_) | (with_reducible refine belowN ?_ _) | (with_reducible refine Below.setCell ?_ ?_ _) | (with_reducible refine belowG ?_ ?_) | (with_reducible exact Nat.le_refl _) | (with_reducible refine le_sizeG ?_) | (with_reducible refine le_sizeA ?_) | (with_reducible refine le_sizeC ?_) | (with_reducible refine le_sizeD ?_) | (with_reducible refine le_sizeN ?_) | go_size | (simp [go_sem]; done)))) ⟨_, 0, none⟩ 3 3 [.string ⟨#[105, 102]⟩, .string t, .string ⟨#[58]⟩] rfl rfl (World.news_of_block (new_at (by simp))) (by intro u hu; simp at hu; rcases hu with rfl | rfl | rfl <;> rfl) (by decide) (by unfold maxLen; omega) (by omega) (Nat.le_trans hb0.size (Below.size (B := wx0.heap.size) (w := wx0) (by repeat' (first | (with_reducible exact Below.refl _ _) | (with_reducible assumption) | (with_reducible refine Below.alloc ?_ ?_ _) | (with_reducible refine Below.drew ?_) | (with_reducible refine belowN ?_ _) | (with_reducible refine Below.setCell ?_ ?_ _) | (with_reducible refine belowG ?_ ?_) | (with_reducible exact Nat.le_refl _) | (with_reducible refine le_sizeG ?_) | (with_reducible refine le_sizeA ?_) | (with_reducible refine le_sizeC ?_) | (with_reducible refine le_sizeD ?_) | (with_reducible refine le_sizeN ?_) | go_size | (simp [go_sem]; done))))) _ rfl ?_))
    intro g0 cap0 wx1 hown1 hgrow1 hat1 hg1
    have hact1 := grown_blk (owns_below hown0.out (by repeat' (first | (with_reducible exact Below.refl _ _) | (with_reducible assumption) | (with_reducible refine Below.alloc ?_ ?_ _) | (with_reducible refine Below.drew ?_) | (with_reducible refine belowN ?_ _) | (with_reducible refine Below.setCell ?_ ?_ _) | (with_reducible refine belowG ?_ ?_) | (with_reducible exact Nat.le_refl _) | (with_reducible refine le_sizeG ?_) | (with_reducible refine le_sizeA ?_) | (with_reducible refine le_sizeC ?_) | (with_reducible refine le_sizeD ?_) | (with_reducible refine le_sizeN ?_) | go_size | (simp [go_sem]; done)))) (blk_keep hact0.out (by repeat' (first | (with_reducible exact Below.refl _ _) | (with_reducible assumption) | (with_reducible refine Below.alloc ?_ ?_ _) | (with_reducible refine Below.drew ?_) | (with_reducible refine belowN ?_ _) | (with_reducible refine Below.setCell ?_ ?_ _) | (with_reducible refine belowG ?_ ?_) | (with_reducible exact Nat.le_refl _) | (with_reducible refine le_sizeG ?_) | (with_reducible refine le_sizeA ?_) | (with_reducible refine le_sizeC ?_) | (with_reducible refine le_sizeD ?_) | (with_reducible refine le_sizeN ?_) | go_size | (simp [go_sem]; done)))) (by decide) hgrow1
    have hb1 : Below w.heap.size w wx1 := Below.grown (hb0.trans (Below.mono (by repeat' (first | (with_reducible exact Below.refl _ _) | (with_reducible assumption) | (with_reducible refine Below.alloc ?_ ?_ _) | (with_reducible refine Below.drew ?_) | (with_reducible refine belowN ?_ _) | (with_reducible refine Below.setCell ?_ ?_ _) | (with_reducible refine belowG ?_ ?_) | (with_reducible exact Nat.le_refl _) | (with_reducible refine le_sizeG ?_) | (with_reducible refine le_sizeA ?_) | (with_reducible refine le_sizeC ?_) | (with_reducible refine le_sizeD ?_) | (with_reducible refine le_sizeN ?_) | go_size | (simp [go_sem]; done))) hb0.size)) hgrow1 (Nat.le_trans hb0.size (Below.size (B := wx0.heap.size) (w := wx0) (by repeat' (first | (with_reducible exact Below.refl _ _) | (with_reducible assumption) | (with_reducible refine Below.alloc ?_ ?_ _) | (with_reducible refine Below.drew ?_) | (with_reducible refine belowN ?_ _) | (with_reducible refine Below.setCell ?_ ?_ _) | (with_reducible refine belowG ?_ ?_) | (with_reducible exact Nat.le_refl _) | (with_reducible refine le_sizeG ?_) | (with_reducible refine le_sizeA ?_) | (with_reducible refine le_sizeC ?_) | (with_reducible refine le_sizeD ?_) | (with_reducible refine le_sizeN ?_) | go_size | (simp [go_sem]; done))))) (fun k hk => (hown0.out.lt k hk).1)
    have F1 := Lib.hid (fun wx (hb : Below wx1.heap.size wx1 wx) => F.out wx (hb1.trans (hb.mono hb1.size)))
    clear hown0 hact0 hgrow1 hat1 hg1 d0 d1 d2 d3 d4 db i2 hS hS0 F
    obtain ⟨d0, d1, d2, d3, d4, db⟩ := wcells hact1
    have i2 := InW.mk db
    replace hown1 := Lib.hid hown1
    replace hact1 := Lib.hid hact1
    go_upto_region 4 with (fail)
    go_cut [4] (fun v4 wx => ∃ fb : Nat, v4 = .pointer (some ⟨fb, 0, none⟩) ∧ WordsAt w fb (.string ⟨#[114, 97, 105, 115, 101]⟩) (.bool false) (.bool true) (.bool false) (.bool false) (.int .i64 2) (.slice io il ic) (.string name) (.slice xo 0 xc) (.int .i64 0) (.slice (some ⟨g0, 0, none⟩) 3 cap0) 3 [.string ⟨#[105, 102]⟩, .string t, .string ⟨#[58]⟩] wx)
    case first =>
      go_wp2_with ((with_reducible refine ((F1.out _ (by repeat' (first | (with_reducible exact Below.refl _ _) | (with_reducible assumption) | (with_reducible refine Below.alloc ?_ ?_ _) | (with_reducible refine Below.drew ?_) | (with_reducible refine belowN ?_ _) | (with_reducible refine Below.setCell ?_ ?_ _) | (with_reducible refine belowG ?_ ?_) | (with_reducible exact Nat.le_refl _) | (with_reducible refine le_sizeG ?_) | (with_reducible refine le_sizeA ?_) | (with_reducible refine le_sizeC ?_) | (with_reducible refine le_sizeD ?_) | (with_reducible refine le_sizeN ?_) | go_size | (simp [go_sem]; done))))).mono ?_); intro e w1 hr; obtain ⟨rfl, p, rfl⟩ := hr.out; clear hr)
      go_meet
      exact ⟨_, rfl, owns_below hown1.out (by repeat' (first | (with_reducible exact Below.refl _ _) | (with_reducible assumption) | (with_reducible refine Below.alloc ?_ ?_ _) | (with_reducible refine Below.drew ?_) | (with_reducible refine belowN ?_ _) | (with_reducible refine Below.setCell ?_ ?_ _) | (with_reducible refine belowG ?_ ?_) | (with_reducible exact Nat.le_refl _) | (with_reducible refine le_sizeG ?_) | (with_reducible refine le_sizeA ?_) | (with_reducible refine le_sizeC ?_) | (with_reducible refine le_sizeD ?_) | (with_reducible refine le_sizeN ?_) | go_size | (simp [go_sem]; done))), heap_alloc_new _ _, blk_keep hact1.out (by repeat' (first | (with_reducible exact Below.refl _ _) | (with_reducible assumption) | (with_reducible refine Below.alloc ?_ ?_ _) | (with_reducible refine Below.drew ?_) | (with_reducible refine belowN ?_ _) | (with_reducible refine Below.setCell ?_ ?_ _) | (with_reducible refine belowG ?_ ?_) | (with_reducible exact Nat.le_refl _) | (with_reducible refine le_sizeG ?_) | (with_reducible refine le_sizeA ?_) | (with_reducible refine le_sizeC ?_) | (with_reducible refine le_sizeD ?_) | (with_reducible refine le_sizeN ?_) | go_size | (simp [go_sem]; done))), hb1.trans (Below.mono (by repeat' (first | (with_reducible exact Below.refl _ _) | (with_reducible assumption) | (with_reducible refine Below.alloc ?_ ?_ _) | (with_reducible refine Below.drew ?_) | (with_reducible refine belowN ?_ _) | (with_reducible refine Below.setCell ?_ ?_ _) | (with_reducible refine belowG ?_ ?_) | (with_reducible exact Nat.le_refl _) | (with_reducible refine le_sizeG ?_) | (with_reducible refine le_sizeA ?_) | (with_reducible refine le_sizeC ?_) | (with_reducible refine le_sizeD ?_) | (with_reducible refine le_sizeN ?_) | go_size | (simp [go_sem]; done))) hb1.size)⟩
    case rest =>
      obtain ⟨fb, rfl, S1⟩ := hcut
      clear hown1 hact1 F1 d0 d1 d2 d3 d4 db i2 hb1 hb0
      rename World => wx1
      obtain ⟨c0, c1, c2, c3, c4, cb⟩ := wcells S1.form
      obtain ⟨d0, d1, d2, d3, d4, db⟩ := wcells S1.act
      have i1 := InW.mk cb
      have i2 := InW.mk db
      replace S1 := Lib.hid S1
      go_wp2_with (at_builtin; refine wpList_append_lies _ rfl _ _ 55 rfl w.heap.size 9 i0 _ 1 16 Tryz.underlying55 hi0 hz1 hz2 hz3 rfl (by decide) (.slice (some ⟨g0, 0, none⟩) 3 cap0) 3 [.string ⟨#[105, 102]⟩, .string t, .string ⟨#[58]⟩] rfl (owns_below S1.out.own (by repeat' (first | (with_reducible exact Below.refl _ _) | (with_reducible assumption) | (with_reducible refine Below.alloc ?_ ?_ _) | (with_reducible refine Below.drew ?_) | (with_reducible refine belowN ?_ _) | (with_reducible refine Below.setCell ?_ ?_ _) | (with_reducible refine belowG ?_ ?_) | (with_reducible exact Nat.le_refl _) | (with_reducible refine le_sizeG ?_) | (with_reducible refine le_sizeA ?_) | (with_reducible refine le_sizeC ?_) | (with_reducible refine le_sizeD ?_) | (with_reducible refine le_sizeN ?_) | go_size | (simp [go_sem]; done)))) ⟨_, 0, none⟩ 1 1 [.string ⟨#[114, 97, 105, 115, 101]⟩] rfl rfl (World.news_of_block (new_at (by simp))) (by intro u hu; simp at hu; subst hu; rfl) (by decide) (by unfold maxLen; omega) (by omega) (Nat.le_trans S1.out.env.size (Below.size (B := wx1.heap.size) (w := wx1) (by repeat' (first | (with_reducible exact Below.refl _ _) | (with_reducible assumption) | (with_reducible refine Below.alloc ?_ ?_ _) | (with_reducible refine Below.drew ?_) | (with_reducible refine belowN ?_ _) | (with_reducible refine Below.setCell ?_ ?_ _) | (with_reducible refine belowG ?_ ?_) | (with_reducible exact Nat.le_refl _) | (with_reducible refine le_sizeG ?_) | (with_reducible refine le_sizeA ?_) | (with_reducible refine le_sizeC ?_) | (with_reducible refine le_sizeD ?_) | (with_reducible refine le_sizeN ?_) | go_size | (simp [go_sem]; done))))) _ rfl ?_)
      intro g1 cap1 wx2 hown1 hgrow1 hat1 hg1
      have S2 := words_grown (words_keep S1.out (by repeat' (first | (with_reducible exact Below.refl _ _) | (with_reducible assumption) | (with_reducible refine Below.alloc ?_ ?_ _) | (with_reducible refine Below.drew ?_) | (with_reducible refine belowN ?_ _) | (with_reducible refine Below.setCell ?_ ?_ _) | (with_reducible refine belowG ?_ ?_) | (with_reducible exact Nat.le_refl _) | (with_reducible refine le_sizeG ?_) | (with_reducible refine le_sizeA ?_) | (with_reducible refine le_sizeC ?_) | (with_reducible refine le_sizeD ?_) | (with_reducible refine le_sizeN ?_) | go_size | (simp [go_sem]; done)))) hgrow1 hown1
      clear S1 c0 c1 c2 c3 c4 cb d0 d1 d2 d3 d4 db i1 i2 hown1 hgrow1 hat1 hg1
      obtain ⟨c0, c1, c2, c3, c4, cb⟩ := wcells S2.form
      obtain ⟨d0, d1, d2, d3, d4, db⟩ := wcells S2.act
      have i1 := InW.mk cb
      have i2 := InW.mk db
      replace S2 := Lib.hid S2
      go_wp2_with (at_builtin; refine wpList_append_lies _ rfl _ _ 55 rfl w.heap.size 9 i0 _ 1 16 Tryz.underlying55 hi0 hz1 hz2 hz3 rfl (by decide) (.slice (some ⟨g1, 0, none⟩) 4 cap1) 4 [.string ⟨#[105, 102]⟩, .string t, .string ⟨#[58]⟩, .string ⟨#[114, 97, 105, 115, 101]⟩] rfl (owns_below S2.out.own (by repeat' (first | (with_reducible exact Below.refl _ _) | (with_reducible assumption) | (with_reducible refine Below.alloc ?_ ?_ _) | (with_reducible refine Below.drew ?_) | (with_reducible refine belowN ?_ _) | (with_reducible refine Below.setCell ?_ ?_ _) | (with_reducible refine belowG ?_ ?_) | (with_reducible exact Nat.le_refl _) | (with_reducible refine le_sizeG ?_) | (with_reducible refine le_sizeA ?_) | (with_reducible refine le_sizeC ?_) | (with_reducible refine le_sizeD ?_) | (with_reducible refine le_sizeN ?_) | go_size | (simp [go_sem]; done)))) ⟨_, 0, none⟩ 1 1 [.string name] rfl rfl (World.news_of_block (new_at (by simp))) (by intro u hu; simp at hu; subst hu; rfl) (by decide) (by unfold maxLen; omega) (by omega) (Nat.le_trans S2.out.env.size (Below.size (B := wx2.heap.size) (w := wx2) (by repeat' (first | (with_reducible exact Below.refl _ _) | (with_reducible assumption) | (with_reducible refine Below.alloc ?_ ?_ _) | (with_reducible refine Below.drew ?_) | (with_reducible refine belowN ?_ _) | (with_reducible refine Below.setCell ?_ ?_ _) | (with_reducible refine belowG ?_ ?_) | (with_reducible exact Nat.le_refl _) | (with_reducible refine le_sizeG ?_) | (with_reducible refine le_sizeA ?_) | (with_reducible refine le_sizeC ?_) | (with_reducible refine le_sizeD ?_) | (with_reducible refine le_sizeN ?_) | go_size | (simp [go_sem]; done))))) _ rfl ?_)
      intro g2 cap2 wx3 hown2 hgrow2 hat2 hg2
      have S3 := words_grown (words_keep S2.out (by repeat' (first | (with_reducible exact Below.refl _ _) | (with_reducible assumption) | (with_reducible refine Below.alloc ?_ ?_ _) | (with_reducible refine Below.drew ?_) | (with_reducible refine belowN ?_ _) | (with_reducible refine Below.setCell ?_ ?_ _) | (with_reducible refine belowG ?_ ?_) | (with_reducible exact Nat.le_refl _) | (with_reducible refine le_sizeG ?_) | (with_reducible refine le_sizeA ?_) | (with_reducible refine le_sizeC ?_) | (with_reducible refine le_sizeD ?_) | (with_reducible refine le_sizeN ?_) | go_size | (simp [go_sem]; done)))) hgrow2 hown2
      clear S2 c0 c1 c2 c3 c4 cb d0 d1 d2 d3 d4 db i1 i2 hown2 hgrow2 hat2 hg2
      obtain ⟨c0, c1, c2, c3, c4, cb⟩ := wcells S3.form
      obtain ⟨d0, d1, d2, d3, d4, db⟩ := wcells S3.act
      have i1 := InW.mk cb
      have i2 := InW.mk db
      have hfin := Lib.hid S3.own
      have hb := S3.env
      clear S3
      go_wp2
      go_returns
      exact ⟨_, rfl, hfin.out, by repeat' (first | (with_reducible exact Below.refl _ _) | (with_reducible assumption) | (with_reducible refine Below.alloc ?_ ?_ _) | (with_reducible refine Below.drew ?_) | (with_reducible refine belowN ?_ _) | (with_reducible refine Below.setCell ?_ ?_ _) | (with_reducible refine belowG ?_ ?_) | (with_reducible exact Nat.le_refl _) | (with_reducible refine le_sizeG ?_) | (with_reducible refine le_sizeA ?_) | (with_reducible refine le_sizeC ?_) | (with_reducible refine le_sizeD ?_) | (with_reducible refine le_sizeN ?_) | go_size | (simp [go_sem]; done))⟩
end Go.Proofs.YtmdjlngdpjjfiaaGreatDoor
