/- The law's own helpers (layer 5): an environment, and an expression, as the document has them. -/
import Derived.Test.YtlekmpjmcbnjdaaGreatDoorOE
import Derived.Test.YtlekmpjmcbnjdaaGreatDoorXR
import Derived.Test.YtlekmpjmcbnjdaaGreatDoorZ2
import Derived.WalkKit
import Derived.ProofKit
import Derived.OpenShut
import Derived.Handy
import Derived.BigQuiet
import Derived.OwnWalk
import Derived.Deep.AppendLies
import Derived.Lib.Hide
import Derived.WalkSmall
import Derived.WalkLawsBesides
namespace Go.Proofs.YtlekmpjmcbnjdaaGreatDoor
open Go.RowKit
theorem Tryz.infoC5 : (Tryz.prog.info? 63).map (fun i => (i.zero, i.size, i.bytes)) = some (some (.agg #[.string ⟨#[]⟩, .int .i64 0, .int .i64 0, .string ⟨#[]⟩]), 4, 48) := by kernel_rfl
def clsC (cs : List Cl) : List Value := cs.flatMap clC
theorem clsC_take (cs : List Cl) (i : Nat) (h : i < cs.length) : clsC (cs.take (i + 1)) = clsC (cs.take i) ++ clC cs[i] := by
  unfold clsC
  rw [List.take_succ_eq_append_getElem h, List.flatMap_append, List.flatMap_cons, List.flatMap_nil, List.append_nil]
theorem clsC_at : ∀ (cs : List Cl) (i : Nat) (h : i < cs.length) (j : Nat), j < 4 → (clsC cs)[i * 4 + j]? = (clC cs[i])[j]?
  | [], i, h, _, _ => absurd h (Nat.not_lt_zero _)
  | t :: r, 0, _, j, hj => by
    unfold clsC
    rw [List.flatMap_cons, Nat.zero_mul, Nat.zero_add, List.getElem?_append_left (by simpa [clC] using hj)]
    rfl
  | t :: r, i + 1, h, j, hj => by
    have ih := clsC_at r i (by simpa using h) j hj
    unfold clsC at *
    rw [List.flatMap_cons, List.getElem?_append_right (by simp [clC]; omega), show (i + 1) * 4 + j - (clC t).length = i * 4 + j by simp [clC]; omega, ih]
    rfl
theorem cls_own {w : World} {B cap : Nat} {e : TypeId} {na : Option Addr} {cs : List Cl} (h : w.ownsRow B e 4 (.slice na cs.length cap) cs.length (clsC cs)) : CellsAt w na cs := by
  intro h0
  rcases h.2 with ⟨_, hn⟩ | ⟨g, cap', cur, hv, hb, hg, _⟩
  · omega
  · cases hv
    have hc := h.cells (g := g) rfl
    have hadd : ∀ j, (⟨g, 0, none⟩ : Addr).add j = ⟨g, j, none⟩ := fun j => by unfold Addr.add; split <;> simp_all
    refine ⟨g, 0, rfl, (Array.getElem?_eq_some_iff.1 hg).1, fun i hi => ?_⟩
    rw [Nat.zero_add]
    refine ⟨?_, ?_, ?_, ?_⟩
    · rw [← hadd]; exact hc _ _ ((clsC_at cs i hi 0 (by decide)).trans rfl)
    · rw [← hadd]; exact hc _ _ ((clsC_at cs i hi 1 (by decide)).trans rfl)
    · rw [← hadd]; exact hc _ _ ((clsC_at cs i hi 2 (by decide)).trans rfl)
    · rw [← hadd]; exact hc _ _ ((clsC_at cs i hi 3 (by decide)).trans rfl)
def goodC (c : Cl) : Bool := decide (c.s.size ≤ 100) && rightB c.k c.n c.s
def goodsC (cs : List Cl) : Bool := cs.all goodC
theorem goodsC_take (cs : List Cl) (i : Nat) (h : i < cs.length) : goodsC (cs.take (i + 1)) = (goodsC (cs.take i) && goodC cs[i]) := by
  unfold goodsC
  rw [List.take_succ_eq_append_getElem h, List.all_append]
  simp
theorem goodsC_not (cs : List Cl) (i : Nat) (h : i < cs.length) (hk : goodC cs[i] = false) : goodsC cs = false := by
  unfold goodsC
  rw [List.all_eq_false]
  exact ⟨cs[i], List.getElem_mem h, by rw [hk]; exact Bool.false_ne_true⟩
/-- What is fit. -/
def FitE (cs : List Cl) (n : Nat) : Prop := goodsC cs = true ∧ cs.length ≤ 100 ∧ n ≤ 100
theorem fit_good {cs : List Cl} (h : goodsC cs = true) (h64 : ∀ c ∈ cs, I64 c.n) : CsGood cs := by
  refine ⟨fun c hc => ?_, h64⟩
  unfold goodsC at h
  have := List.all_eq_true.1 h c hc
  unfold goodC at this
  rw [Bool.and_eq_true] at this
  exact this.2
/-- What cells tells: values of which one isn't right, or too many; or they lie where the slice says. -/
def CellsIs (cs : List Cl) (n : Nat) (w : World) (e : Ending) (w' : World) : Prop :=
  if goodsC cs = true ∧ cs.length ≤ 100 ∧ n ≤ 100 then (∃ ao cap, e = .returned (.tuple #[.slice ao cs.length cap, .bool true]) ∧ CellsAt w' ao cs ∧ Below w.heap.size w w')
  else ∃ v, e = .returned (.tuple #[v, .bool false]) ∧ Below w.heap.size w w'
set_option maxRecDepth 100000 in
set_option maxHeartbeats 4000000 in
theorem cells_any (ao : Option Addr) (cap : Nat) (cs : List Cl) (ia : Option Addr) (n ic : Nat) (hm : cs.length ≤ maxLen) (hz : cs.length * 48 ≤ 140737488355328) (hn : n ≤ maxLen) (w : World) (h : CellsAt w ao cs) : Calls Tryz.prog 8 #[envV ao cs.length cap ia n ic] w (CellsIs cs n w) := by
  unfold maxLen at hm hn
  have H := Lib.hid (fun wx hb => cls_below (w' := wx) h hb)
  obtain ⟨j0, hj, hy1, hy2, hy3⟩ := info_parts Tryz.infoC5
  have htake := Lib.hid (fun i h => goodsC_take cs i h)
  have hnot := Lib.hid (fun i h => goodsC_not cs i h)
  unfold envV
  clear h
  go_enter Tryz.func8, Tryz.ntmps8
  go_wp2
  generalize hW : w.alloc (.cells #[.slice ao cs.length cap, .slice ia n ic] 25) = W1
  have hbW : Below w.heap.size w W1 := by rw [← hW]; repeat' (first | (with_reducible exact Below.refl _ _) | (with_reducible assumption) | (with_reducible refine Below.alloc ?_ ?_ _) | (with_reducible refine Below.drew ?_) | (with_reducible refine belowN ?_ _) | (with_reducible refine Below.setCell ?_ ?_ _) | (with_reducible refine belowG ?_ ?_) | (with_reducible exact Nat.le_refl _) | (with_reducible refine le_sizeG ?_) | (with_reducible refine le_sizeA ?_) | (with_reducible refine le_sizeC ?_) | (with_reducible refine le_sizeD ?_) | (with_reducible refine le_sizeN ?_) | go_size | (simp [go_sem]; done))
  have hlW : w.heap.size < W1.heap.size := by rw [← hW]; simp
  have v0 : W1.cell? ⟨w.heap.size, 0, none⟩ = some (.slice ao cs.length cap) := by rw [← hW]; simp [go_sem]
  have v1 : W1.cell? ⟨w.heap.size, 1, none⟩ = some (.slice ia n ic) := by rw [← hW]; simp [go_sem]
  have H1 := Lib.hid (fun wx (hx : Below W1.heap.size W1 wx) => H.out wx (hbW.trans (hx.mono hbW.size)))
  clear hW H
  go_loopw [4, 10] (fun v x wr => ∃ (i : Nat) (oa : Option Addr) (oc : Nat), x = .int .i64 (i : Int) ∧ i ≤ cs.length ∧ v = .slice oa i oc ∧ wr.ownsRow W1.heap.size 63 4 (.slice oa i oc) i (clsC (cs.take i)) ∧ goodsC (cs.take i) = true ∧ Below W1.heap.size W1 wr) (fun _ x _ => cs.length - (intOf x).toNat)
  case atStart => exact ⟨0, none, 0, rfl, Nat.zero_le _, rfl, World.ownsRow_nil _ _ _ _, rfl, by repeat' (first | (with_reducible exact Below.refl _ _) | (with_reducible assumption) | (with_reducible refine Below.alloc ?_ ?_ _) | (with_reducible refine Below.drew ?_) | (with_reducible refine belowN ?_ _) | (with_reducible refine Below.setCell ?_ ?_ _) | (with_reducible refine belowG ?_ ?_) | (with_reducible exact Nat.le_refl _) | (with_reducible refine le_sizeG ?_) | (with_reducible refine le_sizeA ?_) | (with_reducible refine le_sizeC ?_) | (with_reducible refine le_sizeD ?_) | (with_reducible refine le_sizeN ?_) | go_size | (simp [go_sem]; done))⟩
  case round =>
    obtain ⟨i, oa, oc, rfl, hi, rfl, hown, hks, hb⟩ := hrel
    rename World => wr
    have hwz := hb.size
    have hbw : Below w.heap.size w wr := hbW.trans (hb.mono hbW.size)
    have u0 := (hb.cell (p := ⟨w.heap.size, 0, none⟩) hlW).trans v0
    have u1 := (hb.cell (p := ⟨w.heap.size, 1, none⟩) hlW).trans v1
    have i0 : InW w.heap.size wr := ⟨Nat.lt_of_lt_of_le hlW hwz⟩
    have hksK := Lib.hid hks
    clear hks v0 v1
    by_cases hlt : i < cs.length
    · obtain ⟨g, o, rfl, hg, hc⟩ := H1.out wr hb (by omega)
      obtain ⟨n1, n2, n3, n4⟩ := hc i hlt
      have htk := Lib.hid (clsC_take cs i hlt)
      have ht := Lib.hid (htake.out i hlt)
      have hn := Lib.hid (hnot.out i hlt)
      unfold goodC at ht hn
      obtain ⟨c, hnn⟩ : ∃ c, cs[i] = c := ⟨_, rfl⟩
      rw [hnn] at n1 n2 n3 n4 htk ht hn
      obtain ⟨nm, k, nu, s⟩ := c
      simp only at n1 n2 n3 n4 ht hn
      have i1 : InW g wr := ⟨hg⟩
      clear hc hnn
      have hI : (i : Int) < (cs.length : Int) := by omega
      have hownK := Lib.hid hown
      clear hown
      by_cases h1 : 100 < s.size
      · have hbad := Lib.hid (hn.out (by rw [decide_eq_false (by omega)]; rfl))
        have hd : (100 : Int) < (s.size : Int) := by omega
        go_wp2
        go_returns
        unfold CellsIs
        rw [if_neg (fun h => by rw [hbad.out] at h; cases h.1)]
        exact ⟨_, rfl, by repeat' (first | (with_reducible exact Below.refl _ _) | (with_reducible assumption) | (with_reducible refine Below.alloc ?_ ?_ _) | (with_reducible refine Below.drew ?_) | (with_reducible refine belowN ?_ _) | (with_reducible refine Below.setCell ?_ ?_ _) | (with_reducible refine belowG ?_ ?_) | (with_reducible exact Nat.le_refl _) | (with_reducible refine le_sizeG ?_) | (with_reducible refine le_sizeA ?_) | (with_reducible refine le_sizeC ?_) | (with_reducible refine le_sizeD ?_) | (with_reducible refine le_sizeN ?_) | go_size | (simp [go_sem]; done))⟩
      · have hd : ¬ (100 : Int) < (s.size : Int) := by omega
        have RR := Lib.hid (fun wx => rright_any k nu s wx (by unfold maxLen; omega))
        rcases hrb : rightB k nu s
        · rw [hrb] at RR
          have hbad := Lib.hid (hn.out (by rw [hrb, Bool.and_false]))
          clear hrb
          go_wp2_with ((with_reducible refine (RR.out _).mono ?_); intro e w1 hr; obtain ⟨rfl, p, rfl⟩ := hr.out; clear hr)
          go_returns
          unfold CellsIs
          rw [if_neg (fun h => by rw [hbad.out] at h; cases h.1)]
          exact ⟨_, rfl, by repeat' (first | (with_reducible exact Below.refl _ _) | (with_reducible assumption) | (with_reducible refine Below.alloc ?_ ?_ _) | (with_reducible refine Below.drew ?_) | (with_reducible refine belowN ?_ _) | (with_reducible refine Below.setCell ?_ ?_ _) | (with_reducible refine belowG ?_ ?_) | (with_reducible exact Nat.le_refl _) | (with_reducible refine le_sizeG ?_) | (with_reducible refine le_sizeA ?_) | (with_reducible refine le_sizeC ?_) | (with_reducible refine le_sizeD ?_) | (with_reducible refine le_sizeN ?_) | go_size | (simp [go_sem]; done))⟩
        · rw [hrb] at RR
          have hok := Lib.hid (show goodsC (cs.take (i + 1)) = true by rw [ht.out, hksK.out, decide_eq_true (by omega), hrb]; rfl)
          clear hrb
          go_wp2_with (first | ((with_reducible refine (RR.out _).mono ?_); intro e w1 hr; obtain ⟨rfl, p, rfl⟩ := hr.out; clear hr; have hsz := (belowG0 p (wr.alloc (.cells #[.string nm, .int .i64 k, .int .i64 nu, .string s] 51))).size; simp only [World.size_alloc] at hsz) | (at_builtin; refine wpList_append_lies _ rfl _ _ 27 rfl W1.heap.size 63 j0 _ 4 48 Tryz.underlying27 hj hy1 hy2 hy3 rfl (by decide) (.slice oa i oc) i (clsC (cs.take i)) rfl (owns_below hownK.out (by repeat' (first | (with_reducible exact Below.refl _ _) | (with_reducible assumption) | (with_reducible refine Below.alloc ?_ ?_ _) | (with_reducible refine Below.drew ?_) | (with_reducible refine belowN ?_ _) | (with_reducible refine Below.setCell ?_ ?_ _) | (with_reducible refine belowG ?_ ?_) | (with_reducible exact Nat.le_refl _) | (with_reducible refine le_sizeG ?_) | (with_reducible refine le_sizeA ?_) | (with_reducible refine le_sizeC ?_) | (with_reducible refine le_sizeD ?_) | (with_reducible refine le_sizeN ?_) | go_size | (simp [go_sem]; done)))) ⟨_, 0, none⟩ 1 1 [.string nm, .int .i64 k, .int .i64 nu, .string s] rfl rfl (World.news_of_block (new_at (by simp))) (by intro u hu; simp at hu; rcases hu with rfl | rfl | rfl | rfl <;> rfl) (by decide) (by unfold maxLen; omega) (by omega) (by simp [go_sem]; omega) _ rfl ?_))
          intro g' cap' w1 hown1 hgrow hat1 hg1
          have hb1 : Below W1.heap.size W1 w1 := Below.grown (by repeat' (first | (with_reducible exact Below.refl _ _) | (with_reducible assumption) | (with_reducible refine Below.alloc ?_ ?_ _) | (with_reducible refine Below.drew ?_) | (with_reducible refine belowN ?_ _) | (with_reducible refine Below.setCell ?_ ?_ _) | (with_reducible refine belowG ?_ ?_) | (with_reducible exact Nat.le_refl _) | (with_reducible refine le_sizeG ?_) | (with_reducible refine le_sizeA ?_) | (with_reducible refine le_sizeC ?_) | (with_reducible refine le_sizeD ?_) | (with_reducible refine le_sizeN ?_) | go_size | (simp [go_sem]; done))) hgrow (by simp [go_sem]; omega) (fun k hk => (hownK.out.lt k hk).1)
          have hown2 := Lib.hid hown1
          clear hown1 hgrow hat1 hg1 hownK hb
          go_wp2
          go_roundw
          case rel => exact ⟨i + 1, _, cap', by go_num, by omega, rfl, by rw [htk.out]; exact hown2.out, hok.out, hb1⟩
          case measure => simp [intOf]; omega
    · obtain rfl : i = cs.length := by omega
      rw [List.take_length] at hown hksK
      have hN := Lib.hid (cls_own hown)
      clear hown
      by_cases h100 : cs.length ≤ 100
      · have hd : (cs.length : Int) ≤ 100 := by omega
        by_cases hi100 : n ≤ 100
        · have hd2 : (n : Int) ≤ 100 := by omega
          go_wp2_with fail
          (refine wp_region_G (by kernel_rfl) (by kernel_rfl) ?_; (repeat (go_big_quiet_step (fail))); refine wpQuiet_nil ?_; intro _ hw'; obtain ⟨pg, hw''⟩ := hw'; subst hw'')
          go_wp2
          go_returns
          unfold CellsIs
          rw [if_pos ⟨hksK.out, h100, hi100⟩]
          exact ⟨_, _, rfl, cls_below hN.out (by repeat' (first | (with_reducible exact Below.refl _ _) | (with_reducible assumption) | (with_reducible refine Below.alloc ?_ ?_ _) | (with_reducible refine Below.drew ?_) | (with_reducible refine belowN ?_ _) | (with_reducible refine Below.setCell ?_ ?_ _) | (with_reducible refine belowG ?_ ?_) | (with_reducible exact Nat.le_refl _) | (with_reducible refine le_sizeG ?_) | (with_reducible refine le_sizeA ?_) | (with_reducible refine le_sizeC ?_) | (with_reducible refine le_sizeD ?_) | (with_reducible refine le_sizeN ?_) | go_size | (simp [go_sem]; done))), by repeat' (first | (with_reducible exact Below.refl _ _) | (with_reducible assumption) | (with_reducible refine Below.alloc ?_ ?_ _) | (with_reducible refine Below.drew ?_) | (with_reducible refine belowN ?_ _) | (with_reducible refine Below.setCell ?_ ?_ _) | (with_reducible refine belowG ?_ ?_) | (with_reducible exact Nat.le_refl _) | (with_reducible refine le_sizeG ?_) | (with_reducible refine le_sizeA ?_) | (with_reducible refine le_sizeC ?_) | (with_reducible refine le_sizeD ?_) | (with_reducible refine le_sizeN ?_) | go_size | (simp [go_sem]; done))⟩
        · have hd2 : ¬ (n : Int) ≤ 100 := by omega
          go_wp2_with fail
          (refine wp_region_G (by kernel_rfl) (by kernel_rfl) ?_; (repeat (go_big_quiet_step (fail))); refine wpQuiet_nil ?_; intro _ hw'; obtain ⟨pg, hw''⟩ := hw'; subst hw'')
          go_wp2
          go_returns
          unfold CellsIs
          rw [if_neg (fun h => hi100 h.2.2)]
          exact ⟨.slice oa cs.length oc, (by show Ending.returned (.tuple #[.slice oa cs.length oc, .bool (decide ((n : Int) ≤ 100))]) = _; rw [decide_eq_false (by omega)]), by repeat' (first | (with_reducible exact Below.refl _ _) | (with_reducible assumption) | (with_reducible refine Below.alloc ?_ ?_ _) | (with_reducible refine Below.drew ?_) | (with_reducible refine belowN ?_ _) | (with_reducible refine Below.setCell ?_ ?_ _) | (with_reducible refine belowG ?_ ?_) | (with_reducible exact Nat.le_refl _) | (with_reducible refine le_sizeG ?_) | (with_reducible refine le_sizeA ?_) | (with_reducible refine le_sizeC ?_) | (with_reducible refine le_sizeD ?_) | (with_reducible refine le_sizeN ?_) | go_size | (simp [go_sem]; done))⟩
      · have hd : ¬ (cs.length : Int) ≤ 100 := by omega
        have hdd : decide ((cs.length : Int) ≤ 100) = false := decide_eq_false hd
        go_wp2_with fail
        (refine wp_region_G (by kernel_rfl) (by kernel_rfl) ?_; (repeat (go_big_quiet_step (fail))); refine wpQuiet_nil ?_; intro _ hw'; obtain ⟨pg, hw''⟩ := hw'; subst hw'')
        go_wp2
        go_returns
        unfold CellsIs
        rw [if_neg (fun h => h100 h.2.1)]
        exact ⟨_, rfl, by repeat' (first | (with_reducible exact Below.refl _ _) | (with_reducible assumption) | (with_reducible refine Below.alloc ?_ ?_ _) | (with_reducible refine Below.drew ?_) | (with_reducible refine belowN ?_ _) | (with_reducible refine Below.setCell ?_ ?_ _) | (with_reducible refine belowG ?_ ?_) | (with_reducible exact Nat.le_refl _) | (with_reducible refine le_sizeG ?_) | (with_reducible refine le_sizeA ?_) | (with_reducible refine le_sizeC ?_) | (with_reducible refine le_sizeD ?_) | (with_reducible refine le_sizeN ?_) | go_size | (simp [go_sem]; done))⟩
set_option maxRecDepth 100000 in
set_option maxHeartbeats 4000000 in
theorem refs5_any (ao : Option Addr) (cap : Nat) (ns : List Nd) (hn : ns.length ≤ 2000000) (w : World) (h : NdsAt w ao ns) : Calls Tryz.prog 12 #[.slice ao ns.length cap] w (RefsIs ns w) := by
  have H := fun wx hb => nds_below (w' := wx) h hb
  replace H := Lib.hid H
  obtain ⟨j0, hj, hy1, hy2, hy3⟩ := info_parts Tryz.infoN
  clear h
  go_enter Tryz.func12, Tryz.ntmps12
  go_wp2
  go_loopw [3, 8] (fun v x wr => ∃ (i : Nat) (oa : Option Addr) (oc : Nat), x = .int .i64 (i : Int) ∧ i ≤ ns.length ∧ v = .slice oa i oc ∧ wr.ownsRow w.heap.size 73 7 (.slice oa i oc) i (ndsC (ns.take i)) ∧ Below w.heap.size w wr) (fun _ x _ => ns.length - (intOf x).toNat)
  case atStart => exact ⟨0, none, 0, rfl, Nat.zero_le _, rfl, World.ownsRow_nil _ _ _ _, by repeat' (first | (with_reducible exact Below.refl _ _) | (with_reducible assumption) | (with_reducible refine Below.alloc ?_ ?_ _) | (with_reducible refine Below.drew ?_) | (with_reducible refine belowN ?_ _) | (with_reducible refine Below.setCell ?_ ?_ _) | (with_reducible refine belowG ?_ ?_) | (with_reducible exact Nat.le_refl _) | (with_reducible refine le_sizeG ?_) | (with_reducible refine le_sizeA ?_) | (with_reducible refine le_sizeC ?_) | (with_reducible refine le_sizeD ?_) | (with_reducible refine le_sizeN ?_) | go_size | (simp [go_sem]; done))⟩
  case round =>
    obtain ⟨i, oa, oc, rfl, hi, rfl, hown, hb⟩ := hrel
    rename World => wr
    have hwz := hb.size
    by_cases hlt : i < ns.length
    · obtain ⟨g, o, rfl, hg, hc⟩ := H.out wr hb (by omega)
      obtain ⟨n1, n2, n3, n4, n5, n6, n7⟩ := hc i hlt
      have htk := Lib.hid (ndsC_take ns i hlt)
      have hndc := Lib.hid (rfl : ndC ns[i] = ndC ns[i])
      obtain ⟨n, hnn⟩ : ∃ n, ns[i] = n := ⟨_, rfl⟩
      rw [hnn] at n1 n2 n3 n4 n5 n6 n7 htk
      have i1 : InW g wr := ⟨hg⟩
      clear hc hndc hnn
      have hI : (i : Int) < (ns.length : Int) := by omega
      have hownK := Lib.hid hown
      clear hown
      go_wp2_with (at_builtin; refine wpList_append_lies _ rfl _ _ 42 rfl w.heap.size 73 j0 _ 7 72 Tryz.underlying42 hj hy1 hy2 hy3 rfl (by decide) (.slice oa i oc) i (ndsC (ns.take i)) rfl (owns_below hownK.out (by repeat' (first | (with_reducible exact Below.refl _ _) | (with_reducible assumption) | (with_reducible refine Below.alloc ?_ ?_ _) | (with_reducible refine Below.drew ?_) | (with_reducible refine belowN ?_ _) | (with_reducible refine Below.setCell ?_ ?_ _) | (with_reducible refine belowG ?_ ?_) | (with_reducible exact Nat.le_refl _) | (with_reducible refine le_sizeG ?_) | (with_reducible refine le_sizeA ?_) | (with_reducible refine le_sizeC ?_) | (with_reducible refine le_sizeD ?_) | (with_reducible refine le_sizeN ?_) | go_size | (simp [go_sem]; done)))) ⟨_, 0, none⟩ 1 1 (ndC n) rfl rfl (World.news_of_block (new_at (by simp))) (by intro u hu; simp [ndC] at hu; rcases hu with rfl | rfl | rfl | rfl | rfl | rfl | rfl <;> rfl) (by decide) (by unfold maxLen; omega) (by omega) (by simp [go_sem]; omega) _ rfl ?_)
      intro g' cap' w1 hown1 hgrow hat1 hg1
      have hb1 : Below w.heap.size w w1 := Below.grown (by repeat' (first | (with_reducible exact Below.refl _ _) | (with_reducible assumption) | (with_reducible refine Below.alloc ?_ ?_ _) | (with_reducible refine Below.drew ?_) | (with_reducible refine belowN ?_ _) | (with_reducible refine Below.setCell ?_ ?_ _) | (with_reducible refine belowG ?_ ?_) | (with_reducible exact Nat.le_refl _) | (with_reducible refine le_sizeG ?_) | (with_reducible refine le_sizeA ?_) | (with_reducible refine le_sizeC ?_) | (with_reducible refine le_sizeD ?_) | (with_reducible refine le_sizeN ?_) | go_size | (simp [go_sem]; done))) hgrow (by simp [go_sem]; omega) (fun k hk => (hownK.out.lt k hk).1)
      have hown2 := Lib.hid hown1
      clear hown1 hgrow hat1 hg1 hownK hb
      go_wp2
      go_roundw
      case rel => exact ⟨i + 1, _, cap', by go_num, by omega, rfl, by rw [htk.out]; exact hown2.out, hb1⟩
      case measure => simp [intOf]; omega
    · obtain rfl : i = ns.length := by omega
      rw [List.take_length] at hown
      have hN := Lib.hid (ndsL_own hown)
      clear hown
      go_wp2
      go_returns
      exact ⟨_, _, rfl, hN.out, hb⟩
end Go.Proofs.YtlekmpjmcbnjdaaGreatDoor

