/- Any expression comes, in any environment, to the document's value, or error. -/
import Derived.Test.YtlekmpjmcbnjdaaGreatDoorEH
import Derived.Test.YtlekmpjmcbnjdaaGreatDoorEV
import Derived.WalkKit
import Derived.ProofKit
import Derived.OpenShut
import Derived.Handy
import Derived.BigQuiet
import Derived.Deep.RegionHeld3
import Derived.Lib.Hide
import Derived.WalkSmall
import Derived.WalkLawsBesides
namespace Go.Proofs.YtlekmpjmcbnjdaaGreatDoor
open Go.RowKit
set_option maxRecDepth 100000 in
set_option maxHeartbeats 2000000 in
theorem ecomes_short (s : ByteArray) (va : Option Addr) (vc : Nat) (cs : List Cl) (ia : Option Addr) (n ic : Nat) (hsm : s.size ≤ maxLen) (hvm : cs.length ≤ maxLen) (hvz : cs.length * 48 ≤ 140737488355328) (hn : n ≤ maxLen)
    (hno : ¬ FitE cs n ∨ 600 < s.size ∨ ∃ x, readT s.data.toList = .error x) (w : World)
    (hv : CellsAt w va cs) (hl : Lb w) (he : Eg w) : Calls Tryz.prog 3 #[.string s, envV va cs.length vc ia n ic] w (Ret (.bool true) w) := by
  have hgl := eg_lt he
  have A := Lib.hid (fun wx (hb : Below w.heap.size w wx) => anchor5_any wx (lb_below hl hb) (eg_keep he hgl hb))
  have V := Lib.hid (fun wx (hb : Below w.heap.size w wx) => cells_any va vc cs ia n ic hvm hvz hn wx (cls_below hv hb))
  have R := Lib.hid (fun (h : s.size ≤ 600) wx (hb : Below w.heap.size w wx) => read3_any s (by omega) wx (lb_below hl hb) (eg_keep he hgl hb))
  unfold maxLen at hsm
  unfold FitE at hno
  unfold envV at *
  clear hv hl he hgl hvm hvz hn
  by_cases hk : goodsC cs = true ∧ cs.length ≤ 100 ∧ n ≤ 100
  · replace hno := hno.resolve_left (fun h => h hk)
    go_enter Tryz.func3, Tryz.ntmps3
    go_wp2_with ((with_reducible refine (A.out _ (by repeat' (first | (with_reducible exact Below.refl _ _) | (with_reducible assumption) | (with_reducible refine Below.alloc ?_ ?_ _) | (with_reducible refine Below.drew ?_) | (with_reducible refine belowN ?_ _) | (with_reducible refine Below.setCell ?_ ?_ _) | (with_reducible refine belowG ?_ ?_) | (with_reducible exact Nat.le_refl _) | (with_reducible refine le_sizeG ?_) | (with_reducible refine le_sizeA ?_) | (with_reducible refine le_sizeC ?_) | (with_reducible refine le_sizeD ?_) | (with_reducible refine le_sizeN ?_) | go_size | (simp [go_sem]; done)))).mono ?_); intro e w1 hr; obtain ⟨rfl, p, rfl⟩ := hr.out; clear hr)
    refine (V.out _ (by repeat' (first | (with_reducible exact Below.refl _ _) | (with_reducible assumption) | (with_reducible refine Below.alloc ?_ ?_ _) | (with_reducible refine Below.drew ?_) | (with_reducible refine belowN ?_ _) | (with_reducible refine Below.setCell ?_ ?_ _) | (with_reducible refine belowG ?_ ?_) | (with_reducible exact Nat.le_refl _) | (with_reducible refine le_sizeG ?_) | (with_reducible refine le_sizeA ?_) | (with_reducible refine le_sizeC ?_) | (with_reducible refine le_sizeD ?_) | (with_reducible refine le_sizeN ?_) | go_size | (simp [go_sem]; done)))).mono ?_
    intro e w1 hr
    unfold CellsIs at hr
    rw [if_pos hk] at hr
    obtain ⟨oa, oc, rfl, _, hb⟩ := hr
    obtain ⟨p2, rfl⟩ := toG hb
    clear V A hb hk
    by_cases h6 : 600 < s.size
    · have hd : (600 : Int) < (s.size : Int) := by omega
      go_wp2
      go_returns
      exact ⟨rfl, by repeat' (first | (with_reducible exact Below.refl _ _) | (with_reducible assumption) | (with_reducible refine Below.alloc ?_ ?_ _) | (with_reducible refine Below.drew ?_) | (with_reducible refine belowN ?_ _) | (with_reducible refine Below.setCell ?_ ?_ _) | (with_reducible refine belowG ?_ ?_) | (with_reducible exact Nat.le_refl _) | (with_reducible refine le_sizeG ?_) | (with_reducible refine le_sizeA ?_) | (with_reducible refine le_sizeC ?_) | (with_reducible refine le_sizeD ?_) | (with_reducible refine le_sizeN ?_) | go_size | (simp [go_sem]; done))⟩
    · have hd : ¬ (600 : Int) < (s.size : Int) := by omega
      obtain ⟨x, hx⟩ := hno.resolve_left h6
      have R1 := fun wx hb => R.out (by omega) wx hb
      rw [hx] at R1
      have hx1 := readE_nz hx
      replace R1 := Lib.hid R1
      clear hx R hno
      go_wp2_with fail
      refine (R1.out _ (by repeat' (first | (with_reducible exact Below.refl _ _) | (with_reducible assumption) | (with_reducible refine Below.alloc ?_ ?_ _) | (with_reducible refine Below.drew ?_) | (with_reducible refine belowN ?_ _) | (with_reducible refine Below.setCell ?_ ?_ _) | (with_reducible refine belowG ?_ ?_) | (with_reducible exact Nat.le_refl _) | (with_reducible refine le_sizeG ?_) | (with_reducible refine le_sizeA ?_) | (with_reducible refine le_sizeC ?_) | (with_reducible refine le_sizeD ?_) | (with_reducible refine le_sizeN ?_) | go_size | (simp [go_sem]; done)))).mono ?_
      intro e w2 hr
      obtain ⟨rfl, hb2⟩ := hr
      obtain ⟨p3, rfl⟩ := toG hb2
      clear R1 hb2
      go_wp2
      go_returns
      exact ⟨rfl, by repeat' (first | (with_reducible exact Below.refl _ _) | (with_reducible assumption) | (with_reducible refine Below.alloc ?_ ?_ _) | (with_reducible refine Below.drew ?_) | (with_reducible refine belowN ?_ _) | (with_reducible refine Below.setCell ?_ ?_ _) | (with_reducible refine belowG ?_ ?_) | (with_reducible exact Nat.le_refl _) | (with_reducible refine le_sizeG ?_) | (with_reducible refine le_sizeA ?_) | (with_reducible refine le_sizeC ?_) | (with_reducible refine le_sizeD ?_) | (with_reducible refine le_sizeN ?_) | go_size | (simp [go_sem]; done))⟩
  · clear hno R
    go_enter Tryz.func3, Tryz.ntmps3
    go_wp2_with ((with_reducible refine (A.out _ (by repeat' (first | (with_reducible exact Below.refl _ _) | (with_reducible assumption) | (with_reducible refine Below.alloc ?_ ?_ _) | (with_reducible refine Below.drew ?_) | (with_reducible refine belowN ?_ _) | (with_reducible refine Below.setCell ?_ ?_ _) | (with_reducible refine belowG ?_ ?_) | (with_reducible exact Nat.le_refl _) | (with_reducible refine le_sizeG ?_) | (with_reducible refine le_sizeA ?_) | (with_reducible refine le_sizeC ?_) | (with_reducible refine le_sizeD ?_) | (with_reducible refine le_sizeN ?_) | go_size | (simp [go_sem]; done)))).mono ?_); intro e w1 hr; obtain ⟨rfl, p, rfl⟩ := hr.out; clear hr)
    refine (V.out _ (by repeat' (first | (with_reducible exact Below.refl _ _) | (with_reducible assumption) | (with_reducible refine Below.alloc ?_ ?_ _) | (with_reducible refine Below.drew ?_) | (with_reducible refine belowN ?_ _) | (with_reducible refine Below.setCell ?_ ?_ _) | (with_reducible refine belowG ?_ ?_) | (with_reducible exact Nat.le_refl _) | (with_reducible refine le_sizeG ?_) | (with_reducible refine le_sizeA ?_) | (with_reducible refine le_sizeC ?_) | (with_reducible refine le_sizeD ?_) | (with_reducible refine le_sizeN ?_) | go_size | (simp [go_sem]; done)))).mono ?_
    intro e w1 hr
    unfold CellsIs at hr
    rw [if_neg hk] at hr
    obtain ⟨v, rfl, hb⟩ := hr
    obtain ⟨p2, rfl⟩ := toG hb
    clear V A hb hk
    go_wp2
    go_returns
    exact ⟨rfl, by repeat' (first | (with_reducible exact Below.refl _ _) | (with_reducible assumption) | (with_reducible refine Below.alloc ?_ ?_ _) | (with_reducible refine Below.drew ?_) | (with_reducible refine belowN ?_ _) | (with_reducible refine Below.setCell ?_ ?_ _) | (with_reducible refine belowG ?_ ?_) | (with_reducible exact Nat.le_refl _) | (with_reducible refine le_sizeG ?_) | (with_reducible refine le_sizeA ?_) | (with_reducible refine le_sizeC ?_) | (with_reducible refine le_sizeD ?_) | (with_reducible refine le_sizeN ?_) | go_size | (simp [go_sem]; done))⟩
set_option maxRecDepth 100000 in
set_option maxHeartbeats 4000000 in
theorem ecomes_ok (s : ByteArray) (va : Option Addr) (vc : Nat) (cs : List Cl) (ia : Option Addr) (ic : Nat) (ins : List ByteArray) (ns : List Nd) (hr : readT s.data.toList = .ok ns) (h600 : s.size ≤ 600) (hfit : FitE cs ins.length) (h64 : ∀ c ∈ cs, I64 c.n) (w : World)
    (hv : CellsAt w va cs) (hss : StrsAt w ia ins) (hl : Lb w) (he : Eg w) : Calls Tryz.prog 3 #[.string s, envV va cs.length vc ia ins.length ic] w (Ret (.bool true) w) := by
  obtain ⟨hright, hok, h32⟩ := read_right hr
  have hcs := fit_good hfit.1 h64
  have hsd := evT_sound (ins := ins) hcs hr
  have hgl := eg_lt he
  have h100 : cs.length ≤ 100 := hfit.2.1
  have hi100 : ins.length ≤ 100 := hfit.2.2
  have A := Lib.hid (fun wx (hb : Below w.heap.size w wx) => anchor5_any wx (lb_below hl hb) (eg_keep he hgl hb))
  have V := Lib.hid (fun wx (hb : Below w.heap.size w wx) => cells_any va vc cs ia ins.length ic (by unfold maxLen; omega) (by omega) (by unfold maxLen; omega) wx (cls_below hv hb))
  have R := fun wx (hb : Below w.heap.size w wx) => read3_any s (by omega) wx (lb_below hl hb) (eg_keep he hgl hb)
  rw [hr] at R
  replace R := Lib.hid R
  have h0 := (right_few hright).1
  have O := fun ao cap wx (hN : NdsAt wx ao ns) (hb : Below w.heap.size w wx) => eread_any hr va vc cs ia ic ins ao cap hcs (by omega) (by omega) wx hN (cls_below hv hb) (strs_below hss hb) (lb_below hl hb)
  have I := fun ao cap wx (hN : NdsAt wx ao ns) (hb : Below w.heap.size w wx) => hread_any hr va vc cs ia ic ins ao cap hcs (by omega) (by omega) wx hN (cls_below hv hb) (strs_below hss hb) (lb_below hl hb)
  have D := fun ao cap oa oc wx (hN : NdsAt wx ao ns) (hva : CellsAt wx oa cs) (hb : Below w.heap.size w wx) => rev_any ao cap ns oa oc cs ia ic ins hcs (read_good hr) (right_ahead hright) (by omega) (by omega) ns.length (ns.length - 1) (by omega) (by omega) wx hN hva (strs_below hss hb)
  have F := Lib.hid (fun ao cap wx hN => refs5_any ao cap ns (by omega) wx hN)
  have hsI : ¬ (600 : Int) < (s.size : Int) := by omega
  have hwr : IntKind.i64.wrap ((ns.length : Int) - 1) = (ns.length : Int) - 1 := by rw [IntKind.wrap_i64]; omega
  have hwr2 : wrap64 ((ns.length : Int) - 1) = (ns.length : Int) - 1 := by unfold wrap64; omega
  have hlast : ((ns.length - 1 : Nat) : Int) = (ns.length : Int) - 1 := by omega
  rw [hlast] at D
  change ∀ ao cap oa oc wx, NdsAt wx ao ns → CellsAt wx oa cs → Below w.heap.size w wx → Calls _ _ _ wx (Ret (rkV (evT cs ins ns)) wx) at D
  generalize evT cs ins ns = q at *
  replace D := Lib.hid D
  unfold envV at *
  unfold FitE at hfit
  clear hv hss hl he hgl hright hok hr hlast hcs h64
  go_enter Tryz.func3, Tryz.ntmps3
  go_wp2_with ((with_reducible refine (A.out _ (by repeat' (first | (with_reducible exact Below.refl _ _) | (with_reducible assumption) | (with_reducible refine Below.alloc ?_ ?_ _) | (with_reducible refine Below.drew ?_) | (with_reducible refine belowN ?_ _) | (with_reducible refine Below.setCell ?_ ?_ _) | (with_reducible refine belowG ?_ ?_) | (with_reducible exact Nat.le_refl _) | (with_reducible refine le_sizeG ?_) | (with_reducible refine le_sizeA ?_) | (with_reducible refine le_sizeC ?_) | (with_reducible refine le_sizeD ?_) | (with_reducible refine le_sizeN ?_) | go_size | (simp [go_sem]; done)))).mono ?_); intro e w1 hr; obtain ⟨rfl, p, rfl⟩ := hr.out; clear hr)
  refine (V.out _ (by repeat' (first | (with_reducible exact Below.refl _ _) | (with_reducible assumption) | (with_reducible refine Below.alloc ?_ ?_ _) | (with_reducible refine Below.drew ?_) | (with_reducible refine belowN ?_ _) | (with_reducible refine Below.setCell ?_ ?_ _) | (with_reducible refine belowG ?_ ?_) | (with_reducible exact Nat.le_refl _) | (with_reducible refine le_sizeG ?_) | (with_reducible refine le_sizeA ?_) | (with_reducible refine le_sizeC ?_) | (with_reducible refine le_sizeD ?_) | (with_reducible refine le_sizeN ?_) | go_size | (simp [go_sem]; done)))).mono ?_
  intro e w1 hr
  unfold CellsIs at hr
  rw [if_pos hfit] at hr
  obtain ⟨oa, oc, rfl, hva, hb⟩ := hr
  have hbs := hb.size
  have b1 := (hb.cell (p := ⟨w.heap.size, 1, none⟩) (by simp [go_sem])).trans (show _ = some (Value.slice ia ins.length ic) by simp [go_sem])
  have b0 := (hb.cell (p := ⟨w.heap.size, 0, none⟩) (by simp [go_sem])).trans (show _ = some (Value.slice va cs.length vc) by simp [go_sem])
  have hw1 : Below w.heap.size w w1 := Below.trans (by repeat' (first | (with_reducible exact Below.refl _ _) | (with_reducible assumption) | (with_reducible refine Below.alloc ?_ ?_ _) | (with_reducible refine Below.drew ?_) | (with_reducible refine belowN ?_ _) | (with_reducible refine Below.setCell ?_ ?_ _) | (with_reducible refine belowG ?_ ?_) | (with_reducible exact Nat.le_refl _) | (with_reducible refine le_sizeG ?_) | (with_reducible refine le_sizeA ?_) | (with_reducible refine le_sizeC ?_) | (with_reducible refine le_sizeD ?_) | (with_reducible refine le_sizeN ?_) | go_size | (simp [go_sem]; done))) (hb.mono (by first | exact Nat.le_refl _ | repeat' (first | (with_reducible exact Below.refl _ _) | (with_reducible assumption) | (with_reducible refine Below.alloc ?_ ?_ _) | (with_reducible refine Below.drew ?_) | (with_reducible refine belowN ?_ _) | (with_reducible refine Below.setCell ?_ ?_ _) | (with_reducible refine belowG ?_ ?_) | (with_reducible exact Nat.le_refl _) | (with_reducible refine le_sizeG ?_) | (with_reducible refine le_sizeA ?_) | (with_reducible refine le_sizeC ?_) | (with_reducible refine le_sizeD ?_) | (with_reducible refine le_sizeN ?_) | go_size | (simp [go_sem]; done))))
  have i0 : InW w.heap.size w1 := ⟨Nat.lt_of_lt_of_le (by first | exact (inferInstance : InW w.heap.size _).lt | simp [go_sem]) hbs⟩
  have VA := Lib.hid (fun wx hx => cls_below (w' := wx) hva hx)
  clear V A hb hva hfit
  go_wp2_with fail
  refine (R.out _ (by repeat' (first | (with_reducible exact Below.refl _ _) | (with_reducible assumption) | (with_reducible refine Below.alloc ?_ ?_ _) | (with_reducible refine Below.drew ?_) | (with_reducible refine belowN ?_ _) | (with_reducible refine Below.setCell ?_ ?_ _) | (with_reducible refine belowG ?_ ?_) | (with_reducible exact Nat.le_refl _) | (with_reducible refine le_sizeG ?_) | (with_reducible refine le_sizeA ?_) | (with_reducible refine le_sizeC ?_) | (with_reducible refine le_sizeD ?_) | (with_reducible refine le_sizeN ?_) | go_size | (simp [go_sem]; done)))).mono ?_
  intro e w2 hr
  obtain ⟨v, rfl, hown, hb2⟩ := hr
  obtain ⟨na, nc, hvn⟩ := own_form hown
  subst hvn
  have N := Lib.hid (fun wx hx => nds_below (w' := wx) (nds_own hown) hx)
  have d0 := (hb2.cell (p := ⟨w.heap.size, 0, none⟩) i0.lt).trans b0
  have d1 := (hb2.cell (p := ⟨w.heap.size, 1, none⟩) i0.lt).trans b1
  have hw2 := hw1.trans (hb2.mono hw1.size)
  have j0 : InW w.heap.size w2 := ⟨Nat.lt_of_lt_of_le i0.lt hb2.size⟩
  have hwz2 := hw2.size
  have O2 := fun wx (hx : Below w2.heap.size w2 wx) => O na nc wx (N.out wx hx) (hw2.trans (hx.mono hw2.size))
  have I2 := fun wx (hx : Below w2.heap.size w2 wx) => I na nc wx (N.out wx hx) (hw2.trans (hx.mono hw2.size))
  have F2 := Lib.hid (fun wx (hx : Below w2.heap.size w2 wx) => F.out na nc wx (N.out wx hx))
  have D2 := fun ao cap wx (hx : Below w2.heap.size w2 wx) hN => D.out ao cap oa oc wx hN (VA.out wx (hb2.trans (hx.mono hb2.size))) (hw2.trans (hx.mono hw2.size))
  clear R N O I F D VA hown b0 b1 i0
  rcases hsd with hq | hq
  · rw [sound_v hq] at O2 D2
    obtain ⟨k, n, t, e⟩ := q
    obtain ⟨rfl, hrt, -⟩ := hq
    simp only at O2 D2 hrt
    replace O2 := Lib.hid O2
    replace D2 := Lib.hid D2
    by_cases hk : k = 2
    · subst hk
      have hy : yesB 2 n = (n == 1) := by
        rcases right_cases 2 n t hrt with ⟨h, _⟩ | ⟨_, _, rfl | rfl⟩ | ⟨h, _⟩
        · omega
        · rfl
        · rfl
        · omega
      rw [show holdsV ⟨2, n, t, 0⟩ = .tuple #[.bool (n == 1), .int .i64 0] by rw [← hy]; rfl] at I2
      replace I2 := Lib.hid I2
      clear hy hrt
      go_wp2_with ((with_reducible refine (O2.out _ (by repeat' (first | (with_reducible exact Below.refl _ _) | (with_reducible assumption) | (with_reducible refine Below.alloc ?_ ?_ _) | (with_reducible refine Below.drew ?_) | (with_reducible refine belowN ?_ _) | (with_reducible refine Below.setCell ?_ ?_ _) | (with_reducible refine belowG ?_ ?_) | (with_reducible exact Nat.le_refl _) | (with_reducible refine le_sizeG ?_) | (with_reducible refine le_sizeA ?_) | (with_reducible refine le_sizeC ?_) | (with_reducible refine le_sizeD ?_) | (with_reducible refine le_sizeN ?_) | go_size | (simp [go_sem]; done)))).mono ?_); intro e w1 hr; obtain ⟨rfl, p, rfl⟩ := hr.out; clear hr)
      go_wp2_with fail
      go_region_held3 (fun w' => w'.cell? ⟨w.heap.size, 0, none⟩ = some (.slice va cs.length vc) ∧ w'.cell? ⟨w.heap.size, 1, none⟩ = some (.slice ia ins.length ic)) ((refine ⟨?_, ?_⟩ <;> first | assumption | (rw [cell_GI]; assumption) | (simp [go_sem, *]; done))) (first | ((with_reducible refine (F2.out _ (by repeat' (first | (with_reducible exact Below.refl _ _) | (with_reducible assumption) | (with_reducible refine Below.alloc ?_ ?_ _) | (with_reducible refine Below.drew ?_) | (with_reducible refine belowN ?_ _) | (with_reducible refine Below.setCell ?_ ?_ _) | (with_reducible refine belowG ?_ ?_) | (with_reducible exact Nat.le_refl _) | (with_reducible refine le_sizeG ?_) | (with_reducible refine le_sizeA ?_) | (with_reducible refine le_sizeC ?_) | (with_reducible refine le_sizeD ?_) | (with_reducible refine le_sizeN ?_) | go_size | (simp [go_sem]; done)))).mono ?_); intro e w3 hr; obtain ⟨co, cc, rfl, hco, hb3⟩ := hr; obtain ⟨p3, rfl⟩ := toG hb3; clear hb3; simp only [G_drew] at hco) | ((with_reducible refine Calls.mono (D2.out _ _ _ (by repeat' (first | (with_reducible exact Below.refl _ _) | (with_reducible assumption) | (with_reducible refine Below.alloc ?_ ?_ _) | (with_reducible refine Below.drew ?_) | (with_reducible refine belowN ?_ _) | (with_reducible refine Below.setCell ?_ ?_ _) | (with_reducible refine belowG ?_ ?_) | (with_reducible exact Nat.le_refl _) | (with_reducible refine le_sizeG ?_) | (with_reducible refine le_sizeA ?_) | (with_reducible refine le_sizeC ?_) | (with_reducible refine le_sizeD ?_) | (with_reducible refine le_sizeN ?_) | go_size | (simp [go_sem]; done))) (nds_below hco (by repeat' (first | (with_reducible exact Below.refl _ _) | (with_reducible assumption) | (with_reducible refine Below.alloc ?_ ?_ _) | (with_reducible refine Below.drew ?_) | (with_reducible refine belowN ?_ _) | (with_reducible refine Below.setCell ?_ ?_ _) | (with_reducible refine belowG ?_ ?_) | (with_reducible exact Nat.le_refl _) | (with_reducible refine le_sizeG ?_) | (with_reducible refine le_sizeA ?_) | (with_reducible refine le_sizeC ?_) | (with_reducible refine le_sizeD ?_) | (with_reducible refine le_sizeN ?_) | go_size | (simp [go_sem]; done))))) ?_); intro e w4 hr; obtain ⟨rfl, p4, rfl⟩ := hr.out; clear hr; skip))
      all_goals
        go_wp2_with ((with_reducible refine (I2.out _ (by repeat' (first | (with_reducible exact Below.refl _ _) | (with_reducible assumption) | (with_reducible refine Below.alloc ?_ ?_ _) | (with_reducible refine Below.drew ?_) | (with_reducible refine belowN ?_ _) | (with_reducible refine Below.setCell ?_ ?_ _) | (with_reducible refine belowG ?_ ?_) | (with_reducible exact Nat.le_refl _) | (with_reducible refine le_sizeG ?_) | (with_reducible refine le_sizeA ?_) | (with_reducible refine le_sizeC ?_) | (with_reducible refine le_sizeD ?_) | (with_reducible refine le_sizeN ?_) | go_size | (simp [go_sem]; done)))).mono ?_); intro e w1 hr; obtain ⟨rfl, p, rfl⟩ := hr.out; clear hr)
        go_returns
        exact ⟨rfl, by repeat' (first | (with_reducible exact Below.refl _ _) | (with_reducible assumption) | (with_reducible refine Below.alloc ?_ ?_ _) | (with_reducible refine Below.drew ?_) | (with_reducible refine belowN ?_ _) | (with_reducible refine Below.setCell ?_ ?_ _) | (with_reducible refine belowG ?_ ?_) | (with_reducible exact Nat.le_refl _) | (with_reducible refine le_sizeG ?_) | (with_reducible refine le_sizeA ?_) | (with_reducible refine le_sizeC ?_) | (with_reducible refine le_sizeD ?_) | (with_reducible refine le_sizeN ?_) | go_size | (simp [go_sem]; done))⟩
    · rw [show holdsV ⟨k, n, t, 0⟩ = .tuple #[.bool false, .int .i64 20] by unfold holdsV; rw [if_neg (fun h => h rfl), if_pos hk]] at I2
      have k0 : (k == 2) = false := beq_eq_false_iff_ne.mpr hk
      have k1 : (k != 2) = true := by rw [bne, k0]; rfl
      replace I2 := Lib.hid I2
      clear hk hrt
      go_wp2_with ((with_reducible refine (O2.out _ (by repeat' (first | (with_reducible exact Below.refl _ _) | (with_reducible assumption) | (with_reducible refine Below.alloc ?_ ?_ _) | (with_reducible refine Below.drew ?_) | (with_reducible refine belowN ?_ _) | (with_reducible refine Below.setCell ?_ ?_ _) | (with_reducible refine belowG ?_ ?_) | (with_reducible exact Nat.le_refl _) | (with_reducible refine le_sizeG ?_) | (with_reducible refine le_sizeA ?_) | (with_reducible refine le_sizeC ?_) | (with_reducible refine le_sizeD ?_) | (with_reducible refine le_sizeN ?_) | go_size | (simp [go_sem]; done)))).mono ?_); intro e w1 hr; obtain ⟨rfl, p, rfl⟩ := hr.out; clear hr)
      go_wp2_with fail
      go_region_held3 (fun w' => w'.cell? ⟨w.heap.size, 0, none⟩ = some (.slice va cs.length vc) ∧ w'.cell? ⟨w.heap.size, 1, none⟩ = some (.slice ia ins.length ic)) ((refine ⟨?_, ?_⟩ <;> first | assumption | (rw [cell_GI]; assumption) | (simp [go_sem, *]; done))) (first | ((with_reducible refine (F2.out _ (by repeat' (first | (with_reducible exact Below.refl _ _) | (with_reducible assumption) | (with_reducible refine Below.alloc ?_ ?_ _) | (with_reducible refine Below.drew ?_) | (with_reducible refine belowN ?_ _) | (with_reducible refine Below.setCell ?_ ?_ _) | (with_reducible refine belowG ?_ ?_) | (with_reducible exact Nat.le_refl _) | (with_reducible refine le_sizeG ?_) | (with_reducible refine le_sizeA ?_) | (with_reducible refine le_sizeC ?_) | (with_reducible refine le_sizeD ?_) | (with_reducible refine le_sizeN ?_) | go_size | (simp [go_sem]; done)))).mono ?_); intro e w3 hr; obtain ⟨co, cc, rfl, hco, hb3⟩ := hr; obtain ⟨p3, rfl⟩ := toG hb3; clear hb3; simp only [G_drew] at hco) | ((with_reducible refine Calls.mono (D2.out _ _ _ (by repeat' (first | (with_reducible exact Below.refl _ _) | (with_reducible assumption) | (with_reducible refine Below.alloc ?_ ?_ _) | (with_reducible refine Below.drew ?_) | (with_reducible refine belowN ?_ _) | (with_reducible refine Below.setCell ?_ ?_ _) | (with_reducible refine belowG ?_ ?_) | (with_reducible exact Nat.le_refl _) | (with_reducible refine le_sizeG ?_) | (with_reducible refine le_sizeA ?_) | (with_reducible refine le_sizeC ?_) | (with_reducible refine le_sizeD ?_) | (with_reducible refine le_sizeN ?_) | go_size | (simp [go_sem]; done))) (nds_below hco (by repeat' (first | (with_reducible exact Below.refl _ _) | (with_reducible assumption) | (with_reducible refine Below.alloc ?_ ?_ _) | (with_reducible refine Below.drew ?_) | (with_reducible refine belowN ?_ _) | (with_reducible refine Below.setCell ?_ ?_ _) | (with_reducible refine belowG ?_ ?_) | (with_reducible exact Nat.le_refl _) | (with_reducible refine le_sizeG ?_) | (with_reducible refine le_sizeA ?_) | (with_reducible refine le_sizeC ?_) | (with_reducible refine le_sizeD ?_) | (with_reducible refine le_sizeN ?_) | go_size | (simp [go_sem]; done))))) ?_); intro e w4 hr; obtain ⟨rfl, p4, rfl⟩ := hr.out; clear hr; skip))
      all_goals
        go_wp2_with ((with_reducible refine (I2.out _ (by repeat' (first | (with_reducible exact Below.refl _ _) | (with_reducible assumption) | (with_reducible refine Below.alloc ?_ ?_ _) | (with_reducible refine Below.drew ?_) | (with_reducible refine belowN ?_ _) | (with_reducible refine Below.setCell ?_ ?_ _) | (with_reducible refine belowG ?_ ?_) | (with_reducible exact Nat.le_refl _) | (with_reducible refine le_sizeG ?_) | (with_reducible refine le_sizeA ?_) | (with_reducible refine le_sizeC ?_) | (with_reducible refine le_sizeD ?_) | (with_reducible refine le_sizeN ?_) | go_size | (simp [go_sem]; done)))).mono ?_); intro e w1 hr; obtain ⟨rfl, p, rfl⟩ := hr.out; clear hr)
        go_returns
        exact ⟨rfl, by repeat' (first | (with_reducible exact Below.refl _ _) | (with_reducible assumption) | (with_reducible refine Below.alloc ?_ ?_ _) | (with_reducible refine Below.drew ?_) | (with_reducible refine belowN ?_ _) | (with_reducible refine Below.setCell ?_ ?_ _) | (with_reducible refine belowG ?_ ?_) | (with_reducible exact Nat.le_refl _) | (with_reducible refine le_sizeG ?_) | (with_reducible refine le_sizeA ?_) | (with_reducible refine le_sizeC ?_) | (with_reducible refine le_sizeD ?_) | (with_reducible refine le_sizeN ?_) | go_size | (simp [go_sem]; done))⟩
  · obtain ⟨hne, hre⟩ := hq
    rw [hre] at O2 D2 I2
    generalize q.e = x at *
    rw [err_v] at O2 D2
    rw [show holdsV (errR x) = .tuple #[.bool false, .int .i64 x] by unfold holdsV; rw [if_pos (show (errR x).e ≠ 0 from hne)]; rfl] at I2
    have e0 : (x == 0) = false := beq_eq_false_iff_ne.mpr hne
    have e1 : (x != 0) = true := by rw [bne, e0]; rfl
    have hxx : (x != x) = false := by rw [bne, beq_self_eq_true]; rfl
    have hxe : (x == x) = true := beq_self_eq_true x
    replace O2 := Lib.hid O2
    replace D2 := Lib.hid D2
    replace I2 := Lib.hid I2
    clear hre hne
    go_wp2_with ((with_reducible refine (O2.out _ (by repeat' (first | (with_reducible exact Below.refl _ _) | (with_reducible assumption) | (with_reducible refine Below.alloc ?_ ?_ _) | (with_reducible refine Below.drew ?_) | (with_reducible refine belowN ?_ _) | (with_reducible refine Below.setCell ?_ ?_ _) | (with_reducible refine belowG ?_ ?_) | (with_reducible exact Nat.le_refl _) | (with_reducible refine le_sizeG ?_) | (with_reducible refine le_sizeA ?_) | (with_reducible refine le_sizeC ?_) | (with_reducible refine le_sizeD ?_) | (with_reducible refine le_sizeN ?_) | go_size | (simp [go_sem]; done)))).mono ?_); intro e w1 hr; obtain ⟨rfl, p, rfl⟩ := hr.out; clear hr)
    go_wp2_with fail
    go_region_held3 (fun w' => w'.cell? ⟨w.heap.size, 0, none⟩ = some (.slice va cs.length vc) ∧ w'.cell? ⟨w.heap.size, 1, none⟩ = some (.slice ia ins.length ic)) ((refine ⟨?_, ?_⟩ <;> first | assumption | (rw [cell_GI]; assumption) | (simp [go_sem, *]; done))) (first | ((with_reducible refine (F2.out _ (by repeat' (first | (with_reducible exact Below.refl _ _) | (with_reducible assumption) | (with_reducible refine Below.alloc ?_ ?_ _) | (with_reducible refine Below.drew ?_) | (with_reducible refine belowN ?_ _) | (with_reducible refine Below.setCell ?_ ?_ _) | (with_reducible refine belowG ?_ ?_) | (with_reducible exact Nat.le_refl _) | (with_reducible refine le_sizeG ?_) | (with_reducible refine le_sizeA ?_) | (with_reducible refine le_sizeC ?_) | (with_reducible refine le_sizeD ?_) | (with_reducible refine le_sizeN ?_) | go_size | (simp [go_sem]; done)))).mono ?_); intro e w3 hr; obtain ⟨co, cc, rfl, hco, hb3⟩ := hr; obtain ⟨p3, rfl⟩ := toG hb3; clear hb3; simp only [G_drew] at hco) | ((with_reducible refine Calls.mono (D2.out _ _ _ (by repeat' (first | (with_reducible exact Below.refl _ _) | (with_reducible assumption) | (with_reducible refine Below.alloc ?_ ?_ _) | (with_reducible refine Below.drew ?_) | (with_reducible refine belowN ?_ _) | (with_reducible refine Below.setCell ?_ ?_ _) | (with_reducible refine belowG ?_ ?_) | (with_reducible exact Nat.le_refl _) | (with_reducible refine le_sizeG ?_) | (with_reducible refine le_sizeA ?_) | (with_reducible refine le_sizeC ?_) | (with_reducible refine le_sizeD ?_) | (with_reducible refine le_sizeN ?_) | go_size | (simp [go_sem]; done))) (nds_below hco (by repeat' (first | (with_reducible exact Below.refl _ _) | (with_reducible assumption) | (with_reducible refine Below.alloc ?_ ?_ _) | (with_reducible refine Below.drew ?_) | (with_reducible refine belowN ?_ _) | (with_reducible refine Below.setCell ?_ ?_ _) | (with_reducible refine belowG ?_ ?_) | (with_reducible exact Nat.le_refl _) | (with_reducible refine le_sizeG ?_) | (with_reducible refine le_sizeA ?_) | (with_reducible refine le_sizeC ?_) | (with_reducible refine le_sizeD ?_) | (with_reducible refine le_sizeN ?_) | go_size | (simp [go_sem]; done))))) ?_); intro e w4 hr; obtain ⟨rfl, p4, rfl⟩ := hr.out; clear hr; skip))
    all_goals
      go_wp2_with ((with_reducible refine (I2.out _ (by repeat' (first | (with_reducible exact Below.refl _ _) | (with_reducible assumption) | (with_reducible refine Below.alloc ?_ ?_ _) | (with_reducible refine Below.drew ?_) | (with_reducible refine belowN ?_ _) | (with_reducible refine Below.setCell ?_ ?_ _) | (with_reducible refine belowG ?_ ?_) | (with_reducible exact Nat.le_refl _) | (with_reducible refine le_sizeG ?_) | (with_reducible refine le_sizeA ?_) | (with_reducible refine le_sizeC ?_) | (with_reducible refine le_sizeD ?_) | (with_reducible refine le_sizeN ?_) | go_size | (simp [go_sem]; done)))).mono ?_); intro e w1 hr; obtain ⟨rfl, p, rfl⟩ := hr.out; clear hr)
      go_returns
      exact ⟨rfl, by repeat' (first | (with_reducible exact Below.refl _ _) | (with_reducible assumption) | (with_reducible refine Below.alloc ?_ ?_ _) | (with_reducible refine Below.drew ?_) | (with_reducible refine belowN ?_ _) | (with_reducible refine Below.setCell ?_ ?_ _) | (with_reducible refine belowG ?_ ?_) | (with_reducible exact Nat.le_refl _) | (with_reducible refine le_sizeG ?_) | (with_reducible refine le_sizeA ?_) | (with_reducible refine le_sizeC ?_) | (with_reducible refine le_sizeD ?_) | (with_reducible refine le_sizeN ?_) | go_size | (simp [go_sem]; done))⟩
theorem ecomes_row {H : Type} (s : ByteArray) {v1 : Value} {d1 : DataW H} {cs : List Cl} {ins : List ByteArray} {W : World} (E : EnvV W v1 d1 cs ins)
    (hz : (d1.weights Tryz.prog 25).all (· ≤ reachBytes) = true) (hs : s.size ≤ maxLen) (hl : Lb W) (he : Eg W) : Calls Tryz.prog 3 #[.string s, v1] W (Ret (.bool true) W) := by
  have hr := env_reach E hz
  obtain ⟨va, vc, ia, ic, rfl, hv, hss, hvm, him, _, hin⟩ := E
  by_cases hno : ¬ FitE cs ins.length ∨ 600 < s.size ∨ ∃ x, readT s.data.toList = .error x
  · exact ecomes_short s va vc cs ia ins.length ic hs hvm hr him hno W hv hl he
  · rcases h : readT s.data.toList with x | ns
    · exact absurd (.inr (.inr ⟨x, h⟩)) hno
    · exact ecomes_ok s va vc cs ia ic ins ns h (by omega) (Classical.not_not.1 (fun h => hno (.inl h))) (fun c hc => (hin c hc).n64) W hv hss hl he
end Go.Proofs.YtlekmpjmcbnjdaaGreatDoor

