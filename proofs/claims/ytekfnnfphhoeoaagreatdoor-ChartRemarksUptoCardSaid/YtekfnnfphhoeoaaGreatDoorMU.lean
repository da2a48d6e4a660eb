/- ChartFinds: the walk. -/
import Derived.Test.YtekfnnfphhoeoaaGreatDoorQ8
import Derived.Test.YtekfnnfphhoeoaaGreatDoorQ7
import Derived.Test.YtekfnnfphhoeoaaGreatDoorQ1
import Derived.WalkKit
import Derived.ProofKit
import Derived.OpenShut
import Derived.Handy
import Derived.BigQuiet
import Derived.OwnWalk
import Derived.Lib.Hide
import Derived.WalkSmall
import Derived.WalkLawsBesides
namespace Go.Proofs.YtekfnnfphhoeoaaGreatDoor
open Go.RowKit
section
variable {B : Nat} {c : Ch} {rv : Nat → Value} {vv : Value}
theorem cwithin_any {τ : CT} (so : Option Addr) (sc : Nat) (i outer : Int) (hn : c.states.length ≤ 1000) (hp : Par c.states) (w : World) (h : ChV τ B w c rv vv (.slice so c.states.length sc)) :
    Calls Tryz.prog 16 #[.agg #[str c.name, vv, .slice so c.states.length sc], .int .i64 i, .int .i64 outer] w (Ret (.bool (wthC c.states i outer)) w) := by
  unfold wthC
  by_cases hi : i < 0 ∨ (c.states.length : Int) ≤ i
  · rw [if_pos hi]
    exact cwithin_out so sc i outer hi w
  · rw [if_neg hi]
    obtain ⟨a, rfl⟩ : ∃ a : Nat, i = (a : Int) := ⟨i.toNat, by omega⟩
    exact cwithin_in so sc a outer hn hp (by omega) w h
theorem rwithin_any {τ : CT} (so : Option Addr) (sc : Nat) (i outer : Int) (hp : Par c.states) (w : World) (h : ChV τ B w c rv vv (.slice so c.states.length sc)) :
    Calls Tryz.prog 17 #[.agg #[str c.name, vv, .slice so c.states.length sc], .int .i64 i, .int .i64 outer] w (Ret (.bool (wthC c.states i outer)) w) := by
  unfold wthC
  by_cases hi : i < 0 ∨ (c.states.length : Int) ≤ i
  · rw [if_pos hi]
    exact rwithin_out so sc i outer (by omega) w
  · rw [if_neg hi]
    obtain ⟨a, rfl⟩ : ∃ a : Nat, i = (a : Int) := ⟨i.toNat, by omega⟩
    have := rwithin_in so sc outer hp (c.states.length - 1) a w (by omega) (by omega) h
    rw [show c.states.length - 1 + 1 = c.states.length by omega] at this
    exact this
end
theorem chV_base {τ : CT} {B B' : Nat} {w : World} {c : Ch} {rv : Nat → Value} {vv sv : Value} (h : ChV τ B w c rv vv sv) (hB : B' ≤ B) : ChV τ B' w c rv vv sv :=
  ⟨owns_base h.vars hB, owns_base h.sts hB, fun i => blkRow_tp (fx_base hB) (h.ent i) fun _ _ k => owns_base k hB, fun i => blkRow_tp (fx_base hB) (h.exi i) fun _ _ k => owns_base k hB, fun i => trRow_tp (fx_base hB) (h.trs i) fun _ _ k => owns_base k hB⟩
theorem par_of {c : Ch} {o : Int} (h : GoodC c o) : Par c.states := ⟨h.root, h.par⟩
theorem lens_of {c : Ch} {o : Int} (h : GoodC c o) : ∀ i, i < c.states.length → (c.states.getD i st0).enter.length ≤ 8 ∧ (c.states.getD i st0).exit.length ≤ 8 ∧ (c.states.getD i st0).trans.length ≤ 96 := fun i hi =>
  ⟨(h.lists i hi).1, (h.lists i hi).2, Nat.le_trans (manyT_at _ _) h.trans⟩
theorem nat_at {w : World} {B : Nat} {ao : Option Addr} {n cap : Nat} {ks : List Nat} (h : w.ownsRow B 3 1 (.slice ao n cap) ks.length (natsC ks)) (i : Nat) (hi : i < ks.length) : ∃ g, ao = some ⟨g, 0, none⟩ ∧ g < w.heap.size ∧ w.cell? ⟨g, i, none⟩ = some (.int .i64 (ks[i] : Int)) := by
  obtain ⟨g, cap', e, hg, _, _, hc⟩ := own_head h (by omega)
  cases e
  exact ⟨g, rfl, hg, hc _ _ (by unfold natsC; rw [List.getElem?_map, List.getElem?_eq_getElem hi]; rfl)⟩
set_option maxRecDepth 100000 in
set_option maxHeartbeats 4000000 in
theorem finds_walk (s q : ByteArray) (i outer : Int) (W : World) (hw : Al W) : Calls Tryz.prog 4 #[.string s, .string q, .int .i64 i, .int .i64 outer] W (Ret (.bool true) W) := by
  have Z := Lib.hid (fun wx (hb : Below W.heap.size W wx) => al_below hw hb)
  have A := Lib.hid (anchor8_any W hw)
  clear hw
  by_cases hs : s.size ≤ 20000
  · have hI : ¬ (20000 : Int) < (s.size : Int) := by omega
    have P := Lib.hid (fun wx (hb : Below W.heap.size W wx) => cparse_any s (by omega) wx (Z.out wx hb))
    cases hx : chartT s.data.toList with
    | error y =>
      obtain ⟨y, n⟩ := y
      rw [hx] at P
      go_enter Tryz.func4, Tryz.ntmps4
      go_wp2_with (((with_reducible refine (A.out).mono ?_); intro e w1 hr; obtain ⟨rfl, p, rfl⟩ := hr.out; clear hr))
      go_wp2_with fail
      refine (P.out _ (by repeat' (first | (with_reducible exact Below.refl _ _) | (with_reducible assumption) | (with_reducible refine Below.alloc ?_ ?_ _) | (with_reducible refine Below.drew ?_) | (with_reducible refine belowN ?_ _) | (with_reducible refine Below.setCell ?_ ?_ _) | (with_reducible refine belowG ?_ ?_) | (with_reducible exact Nat.le_refl _) | (with_reducible refine le_sizeG ?_) | (with_reducible refine le_sizeA ?_) | (with_reducible refine le_sizeC ?_) | (with_reducible refine le_sizeD ?_) | (with_reducible refine le_sizeN ?_) | go_size | (simp [go_sem]; done)))).mono ?_
      intro e w1 hr
      obtain ⟨rfl, hy, hb⟩ := hr
      have hy2 : (y != 0) = true := by rw [bne, hy]; rfl
      obtain ⟨p1, rfl⟩ := toG hb
      clear hb
      go_wp2
      go_returns
      exact ⟨rfl, by repeat' (first | (with_reducible exact Below.refl _ _) | (with_reducible assumption) | (with_reducible refine Below.alloc ?_ ?_ _) | (with_reducible refine Below.drew ?_) | (with_reducible refine belowN ?_ _) | (with_reducible refine Below.setCell ?_ ?_ _) | (with_reducible refine belowG ?_ ?_) | (with_reducible exact Nat.le_refl _) | (with_reducible refine le_sizeG ?_) | (with_reducible refine le_sizeA ?_) | (with_reducible refine le_sizeC ?_) | (with_reducible refine le_sizeD ?_) | (with_reducible refine le_sizeN ?_) | go_size | (simp [go_sem]; done))⟩
    | ok c =>
      rw [hx] at P
      have hG := good_chart hx
      have hS := small_chart hx
      have hp := par_of hG
      have hl := Lib.hid (lens_of hG)
      have hf1 := hG.few
      have hv1 := hG.vars
      replace hG := Lib.hid hG
      replace hS := Lib.hid hS
      replace hp := Lib.hid hp
      replace hx := Lib.hid hx
      go_enter Tryz.func4, Tryz.ntmps4
      go_wp2_with (((with_reducible refine (A.out).mono ?_); intro e w1 hr; obtain ⟨rfl, p, rfl⟩ := hr.out; clear hr))
      go_wp2_with fail
      refine (P.out _ (by repeat' (first | (with_reducible exact Below.refl _ _) | (with_reducible assumption) | (with_reducible refine Below.alloc ?_ ?_ _) | (with_reducible refine Below.drew ?_) | (with_reducible refine belowN ?_ _) | (with_reducible refine Below.setCell ?_ ?_ _) | (with_reducible refine belowG ?_ ?_) | (with_reducible exact Nat.le_refl _) | (with_reducible refine le_sizeG ?_) | (with_reducible refine le_sizeA ?_) | (with_reducible refine le_sizeC ?_) | (with_reducible refine le_sizeD ?_) | (with_reducible refine le_sizeN ?_) | go_size | (simp [go_sem]; done)))).mono ?_
      intro e w1 hr
      obtain ⟨rv, vv, sv, rfl, hV, hb⟩ := hr
      obtain ⟨va, vc, sa, sc, rfl, rfl⟩ := chV_form hV
      have hV0 := chV_base hV (Nat.zero_le _)
      have hb1 : Below W.heap.size W w1 := by
        refine Below.trans ?_ (hb.mono ?_)
        · repeat' (first | (with_reducible exact Below.refl _ _) | (with_reducible assumption) | (with_reducible refine Below.alloc ?_ ?_ _) | (with_reducible refine Below.drew ?_) | (with_reducible refine belowN ?_ _) | (with_reducible refine Below.setCell ?_ ?_ _) | (with_reducible refine belowG ?_ ?_) | (with_reducible exact Nat.le_refl _) | (with_reducible refine le_sizeG ?_) | (with_reducible refine le_sizeA ?_) | (with_reducible refine le_sizeC ?_) | (with_reducible refine le_sizeD ?_) | (with_reducible refine le_sizeN ?_) | go_size | (simp [go_sem]; done))
        · repeat' (first | (with_reducible exact Below.refl _ _) | (with_reducible assumption) | (with_reducible refine Below.alloc ?_ ?_ _) | (with_reducible refine Below.drew ?_) | (with_reducible refine belowN ?_ _) | (with_reducible refine Below.setCell ?_ ?_ _) | (with_reducible refine belowG ?_ ?_) | (with_reducible exact Nat.le_refl _) | (with_reducible refine le_sizeG ?_) | (with_reducible refine le_sizeA ?_) | (with_reducible refine le_sizeC ?_) | (with_reducible refine le_sizeD ?_) | (with_reducible refine le_sizeN ?_) | go_size | (simp [go_sem]; done))
      have hz1 := hb1.size
      have M := Lib.hid (fun wx (hk : Below w1.heap.size w1 wx) => mchart_any c rv _ _ hv1 hf1 hl.out hS.out wx (Nat.zero_le _) (chV_keep hV0 hk))
      have H1 := Lib.hid (fun wx (hk : Below w1.heap.size w1 wx) => chV_keep hV0 hk)
      replace hb1 := Lib.hid hb1
      clear P A hb hV hV0
      dsimp only
      go_wp2_with fail
      refine (M.out _ (by repeat' (first | (with_reducible exact Below.refl _ _) | (with_reducible assumption) | (with_reducible refine Below.alloc ?_ ?_ _) | (with_reducible refine Below.drew ?_) | (with_reducible refine belowN ?_ _) | (with_reducible refine Below.setCell ?_ ?_ _) | (with_reducible refine belowG ?_ ?_) | (with_reducible exact Nat.le_refl _) | (with_reducible refine le_sizeG ?_) | (with_reducible refine le_sizeA ?_) | (with_reducible refine le_sizeC ?_) | (with_reducible refine le_sizeD ?_) | (with_reducible refine le_sizeN ?_) | go_size | (simp [go_sem]; done)))).mono ?_
      intro e w2 hr
      obtain ⟨rv2, vv2, sv2, rfl, hV2, hb2⟩ := hr
      obtain ⟨va2, vc2, sa2, sc2, rfl, rfl⟩ := chV_form hV2
      have hbW : Below W.heap.size W w2 := by
        refine Below.trans ?_ (hb2.mono ?_)
        · exact Below.trans hb1.out (Below.mono (B := w1.heap.size) (by repeat' (first | (with_reducible exact Below.refl _ _) | (with_reducible assumption) | (with_reducible refine Below.alloc ?_ ?_ _) | (with_reducible refine Below.drew ?_) | (with_reducible refine belowN ?_ _) | (with_reducible refine Below.setCell ?_ ?_ _) | (with_reducible refine belowG ?_ ?_) | (with_reducible exact Nat.le_refl _) | (with_reducible refine le_sizeG ?_) | (with_reducible refine le_sizeA ?_) | (with_reducible refine le_sizeC ?_) | (with_reducible refine le_sizeD ?_) | (with_reducible refine le_sizeN ?_) | go_size | (simp [go_sem]; done))) hz1)
        · simp [go_sem]; omega
      have hk2 : Below w1.heap.size w1 w2 := by
        refine Below.trans ?_ (hb2.mono ?_)
        · repeat' (first | (with_reducible exact Below.refl _ _) | (with_reducible assumption) | (with_reducible refine Below.alloc ?_ ?_ _) | (with_reducible refine Below.drew ?_) | (with_reducible refine belowN ?_ _) | (with_reducible refine Below.setCell ?_ ?_ _) | (with_reducible refine belowG ?_ ?_) | (with_reducible exact Nat.le_refl _) | (with_reducible refine le_sizeG ?_) | (with_reducible refine le_sizeA ?_) | (with_reducible refine le_sizeC ?_) | (with_reducible refine le_sizeD ?_) | (with_reducible refine le_sizeN ?_) | go_size | (simp [go_sem]; done))
        · simp [go_sem]
      have hz2 := hbW.size
      have hlt1 : w1.heap.size < w2.heap.size := by
        have := hb2.size
        simp [go_sem] at this
        omega
      have a0 : w2.cell? ⟨w1.heap.size, 0, none⟩ = some (str c.name) := (hb2.cell (p := ⟨w1.heap.size, 0, none⟩) (by simp [go_sem])).trans (by simp [go_sem])
      have a1 : w2.cell? ⟨w1.heap.size, 1, none⟩ = some (.slice va c.vars.length vc) := (hb2.cell (p := ⟨w1.heap.size, 1, none⟩) (by simp [go_sem])).trans (by simp [go_sem])
      have a2 : w2.cell? ⟨w1.heap.size, 2, none⟩ = some (.slice sa c.states.length sc) := (hb2.cell (p := ⟨w1.heap.size, 2, none⟩) (by simp [go_sem])).trans (by simp [go_sem])
      have i1 : InW w1.heap.size w2 := ⟨hlt1⟩
      have H2 := Lib.hid (fun wx (hk : Below w2.heap.size w2 wx) => H1.out wx (hk2.trans (hk.mono (Nat.le_of_lt hlt1))))
      have K2 := Lib.hid (fun wx (hk : Below w2.heap.size w2 wx) => chV_keep hV2 hk)
      generalize w1.heap.size = b1 at *
      clear M H1 hb2 hV2 hk2 hb1
      have Kd := Lib.hid (fun wx (hk : Below w2.heap.size w2 wx) => ckids_any sa sc i (by omega) wx (H2.out wx hk))
      obtain ⟨ks, hks⟩ : ∃ ks, kidsA i c.states 0 = ks := ⟨_, rfl⟩
      rw [hks] at Kd
      have hkn : ks.length ≤ 49 := by
        rw [← hks]
        exact Nat.le_trans (kidsA_len _ _ _) hf1
      rcases hF : findA q.data.toList c.states 0 with _ | fk
      all_goals
        have Fd := Lib.hid (fun wx (hk : Below w2.heap.size w2 wx) => cfind_any sa sc q (by omega) wx (H2.out wx hk))
        have Rf := Lib.hid (fun wx (hk : Below w2.heap.size w2 wx) => rfind_any sa2 sc2 q (by omega) wx (K2.out wx hk))
        simp only [hF] at Fd Rf
        clear hF
        dsimp only
        go_wp2_with (first | ((with_reducible refine (Fd.out _ (by repeat' (first | (with_reducible exact Below.refl _ _) | (with_reducible assumption) | (with_reducible refine Below.alloc ?_ ?_ _) | (with_reducible refine Below.drew ?_) | (with_reducible refine belowN ?_ _) | (with_reducible refine Below.setCell ?_ ?_ _) | (with_reducible refine belowG ?_ ?_) | (with_reducible exact Nat.le_refl _) | (with_reducible refine le_sizeG ?_) | (with_reducible refine le_sizeA ?_) | (with_reducible refine le_sizeC ?_) | (with_reducible refine le_sizeD ?_) | (with_reducible refine le_sizeN ?_) | go_size | (simp [go_sem]; done)))).mono ?_); intro e w1 hr; obtain ⟨rfl, p, rfl⟩ := hr.out; clear hr) | ((with_reducible refine (Rf.out _ (by repeat' (first | (with_reducible exact Below.refl _ _) | (with_reducible assumption) | (with_reducible refine Below.alloc ?_ ?_ _) | (with_reducible refine Below.drew ?_) | (with_reducible refine belowN ?_ _) | (with_reducible refine Below.setCell ?_ ?_ _) | (with_reducible refine belowG ?_ ?_) | (with_reducible exact Nat.le_refl _) | (with_reducible refine le_sizeG ?_) | (with_reducible refine le_sizeA ?_) | (with_reducible refine le_sizeC ?_) | (with_reducible refine le_sizeD ?_) | (with_reducible refine le_sizeN ?_) | go_size | (simp [go_sem]; done)))).mono ?_); intro e w1 hr; obtain ⟨rfl, p, rfl⟩ := hr.out; clear hr))
        refine (Kd.out _ (by repeat' (first | (with_reducible exact Below.refl _ _) | (with_reducible assumption) | (with_reducible refine Below.alloc ?_ ?_ _) | (with_reducible refine Below.drew ?_) | (with_reducible refine belowN ?_ _) | (with_reducible refine Below.setCell ?_ ?_ _) | (with_reducible refine belowG ?_ ?_) | (with_reducible exact Nat.le_refl _) | (with_reducible refine le_sizeG ?_) | (with_reducible refine le_sizeA ?_) | (with_reducible refine le_sizeC ?_) | (with_reducible refine le_sizeD ?_) | (with_reducible refine le_sizeN ?_) | go_size | (simp [go_sem]; done)))).mono ?_
        intro e w3 hr
        obtain ⟨v3, rfl, ho, hb3⟩ := hr
        obtain ⟨ka, kc, rfl⟩ := own_form ho
        have hk3 : Below w2.heap.size w2 w3 := by
          refine Below.trans ?_ (hb3.mono ?_)
          · repeat' (first | (with_reducible exact Below.refl _ _) | (with_reducible assumption) | (with_reducible refine Below.alloc ?_ ?_ _) | (with_reducible refine Below.drew ?_) | (with_reducible refine belowN ?_ _) | (with_reducible refine Below.setCell ?_ ?_ _) | (with_reducible refine belowG ?_ ?_) | (with_reducible exact Nat.le_refl _) | (with_reducible refine le_sizeG ?_) | (with_reducible refine le_sizeA ?_) | (with_reducible refine le_sizeC ?_) | (with_reducible refine le_sizeD ?_) | (with_reducible refine le_sizeN ?_) | go_size | (simp [go_sem]; done))
          · repeat' (first | (with_reducible exact Below.refl _ _) | (with_reducible assumption) | (with_reducible refine Below.alloc ?_ ?_ _) | (with_reducible refine Below.drew ?_) | (with_reducible refine belowN ?_ _) | (with_reducible refine Below.setCell ?_ ?_ _) | (with_reducible refine belowG ?_ ?_) | (with_reducible exact Nat.le_refl _) | (with_reducible refine le_sizeG ?_) | (with_reducible refine le_sizeA ?_) | (with_reducible refine le_sizeC ?_) | (with_reducible refine le_sizeD ?_) | (with_reducible refine le_sizeN ?_) | go_size | (simp [go_sem]; done))
        have hz3 := hk3.size
        have hlt2 : w2.heap.size < w3.heap.size := by
          refine Nat.lt_of_lt_of_le ?_ hb3.size
          exact InW.lt
        have x0 : w3.cell? ⟨w2.heap.size, 0, none⟩ = some (str c.name) := (hb3.cell (p := ⟨w2.heap.size, 0, none⟩) (by simp [go_sem])).trans (by simp [go_sem])
        have x1 : w3.cell? ⟨w2.heap.size, 1, none⟩ = some (.slice va2 c.vars.length vc2) := (hb3.cell (p := ⟨w2.heap.size, 1, none⟩) (by simp [go_sem])).trans (by simp [go_sem])
        have x2 : w3.cell? ⟨w2.heap.size, 2, none⟩ = some (.slice sa2 c.states.length sc2) := (hb3.cell (p := ⟨w2.heap.size, 2, none⟩) (by simp [go_sem])).trans (by simp [go_sem])
        have y0 := (hk3.cell (p := ⟨b1, 0, none⟩) hlt1).trans a0
        have y1 := (hk3.cell (p := ⟨b1, 1, none⟩) hlt1).trans a1
        have y2 := (hk3.cell (p := ⟨b1, 2, none⟩) hlt1).trans a2
        have j1 : InW b1 w3 := ⟨Nat.lt_of_lt_of_le hlt1 hz3⟩
        have j2 : InW w2.heap.size w3 := ⟨hlt2⟩
        have hbW3 : Below W.heap.size W w3 := hbW.trans (hk3.mono hz2)
        have H3 := Lib.hid (fun wx (hk : Below w3.heap.size w3 wx) => H2.out wx (hk3.trans (hk.mono hz3)))
        have K3 := Lib.hid (fun wx (hk : Below w3.heap.size w3 wx) => K2.out wx (hk3.trans (hk.mono hz3)))
        have O3 := Lib.hid (fun wx (hk : Below w3.heap.size w3 wx) => owns_below ho hk)
        have hz3W := hbW3.size
        replace hks := Lib.hid hks
        generalize w2.heap.size = b2 at *
        clear Kd Fd Rf H2 K2 ho hb3 hk3 a0 a1 a2 i1 hbW
        dsimp only
        go_wp2
        go_loopw [17, 72] (fun n x wr => ∃ (k m : Nat), x = .int .i64 (k : Int) ∧ n = .int .i64 (m : Int) ∧ k ≤ c.states.length ∧ m ≤ ks.length ∧ Hid (ks.drop m = kidsA i (c.states.drop k) k) ∧ Below w3.heap.size w3 wr) (fun _ x _ => c.states.length - (intOf x).toNat)
        case atStart => exact ⟨0, 0, rfl, rfl, Nat.zero_le _, Nat.zero_le _, Lib.hid (by rw [List.drop_zero, List.drop_zero]; exact hks.out.symm), by repeat' (first | (with_reducible exact Below.refl _ _) | (with_reducible assumption) | (with_reducible refine Below.alloc ?_ ?_ _) | (with_reducible refine Below.drew ?_) | (with_reducible refine belowN ?_ _) | (with_reducible refine Below.setCell ?_ ?_ _) | (with_reducible refine belowG ?_ ?_) | (with_reducible exact Nat.le_refl _) | (with_reducible refine le_sizeG ?_) | (with_reducible refine le_sizeA ?_) | (with_reducible refine le_sizeC ?_) | (with_reducible refine le_sizeD ?_) | (with_reducible refine le_sizeN ?_) | go_size | (simp [go_sem]; done))⟩
        case round =>
          obtain ⟨k, m, rfl, rfl, hk, hm, hD, hb⟩ := hrel
          rename World => wr
          have hwz := hb.size
          by_cases hlt : k < c.states.length
          · obtain ⟨g, eo, ec, xo, xc, to', tc, rfl, hg, n1, n2, n3, n4, n5, n6, n7, _, _, _⟩ := st_at (H3.out wr hb) k hlt
            have hmo := kidsA_more (p := i) hlt
            generalize c.states[k] = st at *
            have g1 : InW g wr := ⟨hg⟩
            have hI : (k : Int) < (c.states.length : Int) := by omega
            by_cases hh : st.parent = i
            · have e1 : (st.parent == i) = true := by simpa using hh
              rw [if_pos hh] at hmo
              have hd := hD.out.trans hmo
              have hml : m < ks.length := by
                have := congrArg List.length hd
                rw [List.length_drop, List.length_cons] at this
                omega
              rw [List.drop_eq_getElem_cons hml] at hd
              obtain ⟨d1, d2⟩ := List.cons.inj hd
              obtain ⟨kg, rfl, hkg, hkc⟩ := nat_at (O3.out wr hb) m hml
              rw [d1] at hkc
              have g2 : InW kg wr := ⟨hkg⟩
              have hM : (m : Int) < (ks.length : Int) := by omega
              replace d2 := Lib.hid d2
              replace hh := Lib.hid hh
              clear hd hmo hD d1
              go_wp2
              go_roundw
              case rel => exact ⟨k + 1, m + 1, by go_num, by go_num, by omega, by omega, d2, by repeat' (first | (with_reducible exact Below.refl _ _) | (with_reducible assumption) | (with_reducible refine Below.alloc ?_ ?_ _) | (with_reducible refine Below.drew ?_) | (with_reducible refine belowN ?_ _) | (with_reducible refine Below.setCell ?_ ?_ _) | (with_reducible refine belowG ?_ ?_) | (with_reducible exact Nat.le_refl _) | (with_reducible refine le_sizeG ?_) | (with_reducible refine le_sizeA ?_) | (with_reducible refine le_sizeC ?_) | (with_reducible refine le_sizeD ?_) | (with_reducible refine le_sizeN ?_) | go_size | (simp [go_sem]; done))⟩
              case measure => simp [intOf]; omega
            · have e1 : (st.parent == i) = false := by simpa using hh
              rw [if_neg hh] at hmo
              have hd := Lib.hid (hD.out.trans hmo)
              replace hh := Lib.hid hh
              clear hmo hD
              go_wp2
              go_roundw
              case rel => exact ⟨k + 1, m, by go_num, rfl, by omega, hm, hd, by repeat' (first | (with_reducible exact Below.refl _ _) | (with_reducible assumption) | (with_reducible refine Below.alloc ?_ ?_ _) | (with_reducible refine Below.drew ?_) | (with_reducible refine belowN ?_ _) | (with_reducible refine Below.setCell ?_ ?_ _) | (with_reducible refine belowG ?_ ?_) | (with_reducible exact Nat.le_refl _) | (with_reducible refine le_sizeG ?_) | (with_reducible refine le_sizeA ?_) | (with_reducible refine le_sizeC ?_) | (with_reducible refine le_sizeD ?_) | (with_reducible refine le_sizeN ?_) | go_size | (simp [go_sem]; done))⟩
              case measure => simp [intOf]; omega
          · have hI : ¬ (k : Int) < (c.states.length : Int) := by omega
            have hmo := kidsA_end (p := i) (show c.states.length ≤ k by omega)
            rw [← hD.out] at hmo
            have hml : m = ks.length := by
              have := List.drop_eq_nil_iff.1 hmo
              omega
            subst hml
            clear hmo hD
            have C1 := Lib.hid (fun wx (hk : Below w3.heap.size w3 wx) => cwithin_any sa sc i outer (by omega) hp.out wx (H3.out wx hk))
            have C2 := Lib.hid (fun wx (hk : Below w3.heap.size w3 wx) => rwithin_any sa2 sc2 i outer hp.out wx (K3.out wx hk))
            have u0 := (hb.cell (p := ⟨b1, 0, none⟩) j1.lt).trans y0
            have u1 := (hb.cell (p := ⟨b1, 1, none⟩) j1.lt).trans y1
            have u2 := (hb.cell (p := ⟨b1, 2, none⟩) j1.lt).trans y2
            have v0 := (hb.cell (p := ⟨b2, 0, none⟩) j2.lt).trans x0
            have v1 := (hb.cell (p := ⟨b2, 1, none⟩) j2.lt).trans x1
            have v2 := (hb.cell (p := ⟨b2, 2, none⟩) j2.lt).trans x2
            have k1 : InW b1 wr := ⟨Nat.lt_of_lt_of_le j1.lt hwz⟩
            have k2 : InW b2 wr := ⟨Nat.lt_of_lt_of_le j2.lt hwz⟩
            rcases hT : wthC c.states i outer with _ | _
            all_goals
              simp only [hT] at C1 C2
              clear hT
              by_cases h0 : 0 ≤ outer
              all_goals
                first
                | (have hd0 : decide (0 ≤ outer) = false := by simpa using h0)
                | skip
                go_wp2_with fail
                (refine wp_region_G (by kernel_rfl) (by kernel_rfl) ?_; (repeat (go_big_quiet_step ((first | (with_reducible exact quietG (C1.out _ (by repeat' (first | (with_reducible exact Below.refl _ _) | (with_reducible assumption) | (with_reducible refine Below.alloc ?_ ?_ _) | (with_reducible refine Below.drew ?_) | (with_reducible refine belowN ?_ _) | (with_reducible refine Below.setCell ?_ ?_ _) | (with_reducible refine belowG ?_ ?_) | (with_reducible exact Nat.le_refl _) | (with_reducible refine le_sizeG ?_) | (with_reducible refine le_sizeA ?_) | (with_reducible refine le_sizeC ?_) | (with_reducible refine le_sizeD ?_) | (with_reducible refine le_sizeN ?_) | go_size | (simp [go_sem]; done))))) | (with_reducible exact quietG (C2.out _ (by repeat' (first | (with_reducible exact Below.refl _ _) | (with_reducible assumption) | (with_reducible refine Below.alloc ?_ ?_ _) | (with_reducible refine Below.drew ?_) | (with_reducible refine belowN ?_ _) | (with_reducible refine Below.setCell ?_ ?_ _) | (with_reducible refine belowG ?_ ?_) | (with_reducible exact Nat.le_refl _) | (with_reducible refine le_sizeG ?_) | (with_reducible refine le_sizeA ?_) | (with_reducible refine le_sizeC ?_) | (with_reducible refine le_sizeD ?_) | (with_reducible refine le_sizeN ?_) | go_size | (simp [go_sem]; done))))))))); refine wpQuiet_nil ?_; intro _ hw'; obtain ⟨pg, hw''⟩ := hw'; subst hw'')
                clear C1 C2
                go_wp2
                go_loopw [112] (fun x wx => ∃ (k : Nat), x = .int .i64 (k : Int) ∧ k ≤ c.states.length ∧ Below w3.heap.size w3 wx) (fun x _ => c.states.length - (intOf x).toNat)
                case atStart => exact ⟨0, rfl, Nat.zero_le _, by repeat' (first | (with_reducible exact Below.refl _ _) | (with_reducible assumption) | (with_reducible refine Below.alloc ?_ ?_ _) | (with_reducible refine Below.drew ?_) | (with_reducible refine belowN ?_ _) | (with_reducible refine Below.setCell ?_ ?_ _) | (with_reducible refine belowG ?_ ?_) | (with_reducible exact Nat.le_refl _) | (with_reducible refine le_sizeG ?_) | (with_reducible refine le_sizeA ?_) | (with_reducible refine le_sizeC ?_) | (with_reducible refine le_sizeD ?_) | (with_reducible refine le_sizeN ?_) | go_size | (simp [go_sem]; done))⟩
                case round =>
                  obtain ⟨k, rfl, hk, hb⟩ := hrel
                  rename World => wx
                  have hwz := hb.size
                  by_cases hlt : k < c.states.length
                  · obtain ⟨g, eo, ec, xo, xc, to', tc, rfl, hg, n1, n2, n3, n4, n5, n6, n7, _, _, _⟩ := st_at (H3.out wx hb) k hlt
                    generalize c.states[k] = st at *
                    have g1 : InW g wx := ⟨hg⟩
                    have hI : (k : Int) < (c.states.length : Int) := by omega
                    have P6 := fun wy => spast_any (str st.name) (.int .i64 st.kind) (.int .i64 st.parent) (str st.start) (.slice eo st.enter.length ec) (.slice xo st.exit.length xc) (.slice to' st.trans.length tc) st.kind rfl wy
                    rcases e6 : (st.kind == 6) with _ | _
                    · rcases e7 : (st.kind == 7) with _ | _
                      all_goals
                        simp only [e6, e7, Bool.false_or] at P6
                        replace P6 := Lib.hid P6
                        go_wp2_with fail
                        (refine wp_region_G (by kernel_rfl) (by kernel_rfl) ?_; (repeat (go_big_quiet_step ((with_reducible exact quietG (P6.out _))))); refine wpQuiet_nil ?_; intro _ hw'; obtain ⟨pg, hw''⟩ := hw'; subst hw'')
                        go_wp2
                        go_roundw
                        case rel => exact ⟨k + 1, by go_num, by omega, by repeat' (first | (with_reducible exact Below.refl _ _) | (with_reducible assumption) | (with_reducible refine Below.alloc ?_ ?_ _) | (with_reducible refine Below.drew ?_) | (with_reducible refine belowN ?_ _) | (with_reducible refine Below.setCell ?_ ?_ _) | (with_reducible refine belowG ?_ ?_) | (with_reducible exact Nat.le_refl _) | (with_reducible refine le_sizeG ?_) | (with_reducible refine le_sizeA ?_) | (with_reducible refine le_sizeC ?_) | (with_reducible refine le_sizeD ?_) | (with_reducible refine le_sizeN ?_) | go_size | (simp [go_sem]; done))⟩
                        case measure => simp [intOf]; omega
                    · simp only [e6, Bool.true_or] at P6
                      replace P6 := Lib.hid P6
                      go_wp2_with fail
                      (refine wp_region_G (by kernel_rfl) (by kernel_rfl) ?_; (repeat (go_big_quiet_step ((with_reducible exact quietG (P6.out _))))); refine wpQuiet_nil ?_; intro _ hw'; obtain ⟨pg, hw''⟩ := hw'; subst hw'')
                      go_wp2
                      go_roundw
                      case rel => exact ⟨k + 1, by go_num, by omega, by repeat' (first | (with_reducible exact Below.refl _ _) | (with_reducible assumption) | (with_reducible refine Below.alloc ?_ ?_ _) | (with_reducible refine Below.drew ?_) | (with_reducible refine belowN ?_ _) | (with_reducible refine Below.setCell ?_ ?_ _) | (with_reducible refine belowG ?_ ?_) | (with_reducible exact Nat.le_refl _) | (with_reducible refine le_sizeG ?_) | (with_reducible refine le_sizeA ?_) | (with_reducible refine le_sizeC ?_) | (with_reducible refine le_sizeD ?_) | (with_reducible refine le_sizeN ?_) | go_size | (simp [go_sem]; done))⟩
                      case measure => simp [intOf]; omega
                  · have hI : ¬ (k : Int) < (c.states.length : Int) := by omega
                    go_wp2
                    go_returns
                    exact ⟨rfl, hbW3.trans (hb.mono hz3W)⟩
  · have hI : (20000 : Int) < (s.size : Int) := by omega
    go_enter Tryz.func4, Tryz.ntmps4
    go_wp2_with (((with_reducible refine (A.out).mono ?_); intro e w1 hr; obtain ⟨rfl, p, rfl⟩ := hr.out; clear hr))
    go_returns
    exact ⟨rfl, by repeat' (first | (with_reducible exact Below.refl _ _) | (with_reducible assumption) | (with_reducible refine Below.alloc ?_ ?_ _) | (with_reducible refine Below.drew ?_) | (with_reducible refine belowN ?_ _) | (with_reducible refine Below.setCell ?_ ?_ _) | (with_reducible refine belowG ?_ ?_) | (with_reducible exact Nat.le_refl _) | (with_reducible refine le_sizeG ?_) | (with_reducible refine le_sizeA ?_) | (with_reducible refine le_sizeC ?_) | (with_reducible refine le_sizeD ?_) | (with_reducible refine le_sizeN ?_) | go_size | (simp [go_sem]; done))⟩
end Go.Proofs.YtekfnnfphhoeoaaGreatDoor

