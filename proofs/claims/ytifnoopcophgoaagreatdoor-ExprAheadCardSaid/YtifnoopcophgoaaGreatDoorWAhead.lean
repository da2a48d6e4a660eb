/- The document's example, and what stands behind a semicolon. -/
import Derived.Test.YtifnoopcophgoaaGreatDoorXT
import Derived.Test.YtifnoopcophgoaaGreatDoorXL
import Derived.Test.YtifnoopcophgoaaGreatDoorZ7
import Derived.WalkKit
import Derived.ProofKit
import Derived.OpenShut
import Derived.Handy
import Derived.BigQuiet
import Derived.Lib.Hide
import Derived.WalkSmall
import Derived.WalkLawsBesides
namespace Go.Proofs.YtifnoopcophgoaaGreatDoor
open Go.RowKit
def lineX : ByteArray := ⟨#[40, 97, 43, 49, 41, 42, 50, 32, 60, 32, 98, 32, 97, 110, 100, 32, 110, 111, 116, 32, 105, 110, 40, 115, 41]⟩
def shownX : ByteArray := ⟨#[40, 97, 32, 43, 32, 49, 41, 32, 42, 32, 50, 32, 60, 32, 98, 32, 97, 110, 100, 32, 110, 111, 116, 32, 105, 110, 40, 115, 41]⟩
def nodesX : List Nd := [⟨16, 0, 0, [], [97], 0, 0⟩, ⟨0, 1, 1, [], [], 0, 0⟩, ⟨6, 0, 0, [], [], 0, 1⟩, ⟨0, 1, 2, [], [], 0, 0⟩, ⟨3, 0, 0, [], [], 2, 3⟩, ⟨16, 0, 0, [], [98], 0, 0⟩, ⟨8, 0, 0, [], [], 4, 5⟩, ⟨17, 0, 0, [], [115], 0, 0⟩, ⟨1, 0, 0, [], [], 7, 0⟩, ⟨14, 0, 0, [], [], 6, 8⟩]
theorem read_X : readT lineX.data.toList = .ok nodesX := by kernel_rfl
theorem size_X : sizeT nodesX = 0 := by kernel_rfl
theorem right_X : rightT nodesX = true := by kernel_rfl
theorem shown_X : (showsB nodesX nodesX.length).getD (nodesX.length - 1) ⟨#[]⟩ = shownX := by kernel_rfl
theorem sizes_X : ((showsB nodesX nodesX.length).all fun t => decide (t.size ≤ 100000)) = true := by kernel_rfl
theorem okX : ∀ i, i < nodesX.length → ShowOk nodesX (showsB nodesX i) (nodesX.getD i nd0) := by
  intro i hi
  have h : ∀ k, k < 10 → k = 0 ∨ k = 1 ∨ k = 2 ∨ k = 3 ∨ k = 4 ∨ k = 5 ∨ k = 6 ∨ k = 7 ∨ k = 8 ∨ k = 9 := by omega
  have hl := showsB_length nodesX i
  rcases h i hi with rfl | rfl | rfl | rfl | rfl | rfl | rfl | rfl | rfl | rfl
  all_goals
    refine ⟨by decide, fun h => ?_, fun h1 h2 => ?_, fun h1 h2 => ?_, by decide⟩
    · first | exact absurd h (by decide) | exact ⟨by kernel_rfl, by unfold I64; decide⟩
    · rw [hl]
      first | exact absurd h1 (by decide) | exact absurd h2 (by decide) | exact ⟨0, by decide, by decide⟩ | exact ⟨2, by decide, by decide⟩ | exact ⟨4, by decide, by decide⟩ | exact ⟨7, by decide, by decide⟩ | exact ⟨6, by decide, by decide⟩
    · rw [hl]
      first | exact absurd h1 (by decide) | exact absurd h2 (by decide) | exact ⟨1, by decide, by decide⟩ | exact ⟨3, by decide, by decide⟩ | exact ⟨5, by decide, by decide⟩ | exact ⟨8, by decide, by decide⟩
/-- What an expression's walks ask of the library's and the program's variables. -/
structure Ex (w : World) : Prop where
  lb : Lb w
  tab : Tab w
  eg : Eg w
theorem ex_below {w w' : World} (h : Ex w) (hb : Below w.heap.size w w') : Ex w' := ⟨lb_below h.lb hb, tab_below h.tab hb, eg_keep h.eg (eg_lt h.eg) hb⟩
set_option maxRecDepth 100000 in
set_option maxHeartbeats 2000000 in
theorem anchor3_any (w : World) (hw : Ex w) : Calls Tryz.prog 4 #[] w (Ret (.bool true) w) := by
  have R := read3_any lineX (by decide) w hw.lb hw.eg
  rw [read_X] at R
  unfold lineX at R
  have hR := Lib.hid R
  have hlen : ((nodesX.length : Int) == 10) = true := by decide
  have hX := Lib.hid (fun wx hb => ex_below (w' := wx) hw hb)
  have S := Lib.hid (fun na nc wx hN (hx : Ex wx) => xshow_any na nc nodesX (by decide) (by decide) (by decide) wx hN hx.lb hx.tab hx.eg right_X okX (fun t ht => of_decide_eq_true (List.all_eq_true.1 sizes_X t ht)))
  rw [shown_X] at S
  unfold shownX at S
  have T := Lib.hid (fun na nc wx hN (hx : Ex wx) => xright_any na nc nodesX (by decide) (by decide) wx hN hx.lb)
  rw [right_X] at T
  clear R hw
  go_enter Tryz.func4, Tryz.ntmps4
  go_wp2_with fail
  refine (hR.out).mono ?_
  intro e w1 hr
  obtain ⟨v, rfl, hown, hb⟩ := hr
  obtain ⟨na, nc, hv⟩ := own_form hown
  subst hv
  have hN := nds_own hown
  have hx1 := hX.out w1 hb
  have S1 := Lib.hid (fun wx hk => S.out na nc wx (nds_below hN hk) (ex_below hx1 hk))
  have T1 := Lib.hid (fun wx hk => T.out na nc wx (nds_below hN hk) (ex_below hx1 hk))
  clear hR hX S T hown hN hx1
  generalize nodesX.length = L at *
  have hz1 := hb.size
  go_wp2_with (first | ((with_reducible refine ((S1.out _ (by repeat' (first | (with_reducible exact Below.refl _ _) | (with_reducible assumption) | (with_reducible refine Below.alloc ?_ ?_ _) | (with_reducible refine Below.drew ?_) | (with_reducible refine belowN ?_ _) | (with_reducible refine Below.setCell ?_ ?_ _) | (with_reducible refine belowG ?_ ?_) | (with_reducible exact Nat.le_refl _) | (with_reducible refine le_sizeG ?_) | (with_reducible refine le_sizeA ?_) | (with_reducible refine le_sizeC ?_) | (with_reducible refine le_sizeD ?_) | (with_reducible refine le_sizeN ?_) | go_size | (simp [go_sem]; done))))).mono ?_); intro e w1 hr; obtain ⟨rfl, p, rfl⟩ := hr.out; clear hr) | ((with_reducible refine ((T1.out _ (by repeat' (first | (with_reducible exact Below.refl _ _) | (with_reducible assumption) | (with_reducible refine Below.alloc ?_ ?_ _) | (with_reducible refine Below.drew ?_) | (with_reducible refine belowN ?_ _) | (with_reducible refine Below.setCell ?_ ?_ _) | (with_reducible refine belowG ?_ ?_) | (with_reducible exact Nat.le_refl _) | (with_reducible refine le_sizeG ?_) | (with_reducible refine le_sizeA ?_) | (with_reducible refine le_sizeC ?_) | (with_reducible refine le_sizeD ?_) | (with_reducible refine le_sizeN ?_) | go_size | (simp [go_sem]; done))))).mono ?_); intro e w1 hr; obtain ⟨rfl, p, rfl⟩ := hr.out; clear hr))
  go_returns
  exact ⟨rfl, by repeat' (first | (with_reducible exact Below.refl _ _) | (with_reducible assumption) | (with_reducible refine Below.alloc ?_ ?_ _) | (with_reducible refine Below.drew ?_) | (with_reducible refine belowN ?_ _) | (with_reducible refine Below.setCell ?_ ?_ _) | (with_reducible refine belowG ?_ ?_) | (with_reducible exact Nat.le_refl _) | (with_reducible refine le_sizeG ?_) | (with_reducible refine le_sizeA ?_) | (with_reducible refine le_sizeC ?_) | (with_reducible refine le_sizeD ?_) | (with_reducible refine le_sizeN ?_) | go_size | (simp [go_sem]; done))⟩
/-- A line's tokens, where it goes on behind a semicolon. -/
theorem lex_semi {l more : List UInt8} {ts ms : List Tk} (h1 : lexT 120 0 l = .ok ts) (h2 : lexT 120 0 (l ++ 32 :: 59 :: 32 :: more) = .ok ms) : ∃ a rest, ms = ts ++ (⟨5, [59], 0, a⟩ : Tk) :: rest := by
  rw [lexT_ahead (32 :: 59 :: 32 :: more) (.inr ⟨_, rfl⟩) 120 0 l ts h1, lexT_blank _ _ _ _ (by decide)] at h2
  generalize 120 - ts.length = m at h2
  cases m with
  | zero =>
    rw [lexT_many _ _ _ (by decide)] at h2
    cases h2
  | succ m =>
    have ht : tokT (59 :: 32 :: more) = .ok (5, [59], 0, 1) := by rfl
    rw [lexT_tok m _ 59 (32 :: more) 5 [59] 0 1 (by decide) ht] at h2
    generalize lexT m (0 + l.length + 1 + 1) ((59 :: 32 :: more).drop 1) = z at h2
    cases z with
    | error z => cases h2
    | ok rest =>
      cases h2
      exact ⟨_, rest, rfl⟩
set_option maxRecDepth 100000 in
set_option maxHeartbeats 4000000 in
theorem ahead_walk (s more : ByteArray) (w : World) (z1 : s.size ≤ maxLen) (z2 : more.size ≤ maxLen) (hw : Ex w) : Calls Tryz.prog 3 #[.string s, .string more] w (Ret (.bool true) w) := by
  have A := fun wx hb => Lib.hid (anchor3_any wx (ex_below hw hb))
  replace A := Lib.hid A
  unfold maxLen at z1 z2
  by_cases h1 : 400 < s.size
  · clear hw
    go_enter Tryz.func3, Tryz.ntmps3
    go_wp2_with ((with_reducible refine ((A.out _ (Below.refl _ _)).out).mono ?_); intro e w1 hr; obtain ⟨rfl, p, rfl⟩ := hr.out; clear hr)
    go_returns
    exact ⟨rfl, by repeat' (first | (with_reducible exact Below.refl _ _) | (with_reducible assumption) | (with_reducible refine Below.alloc ?_ ?_ _) | (with_reducible refine Below.drew ?_) | (with_reducible refine belowN ?_ _) | (with_reducible refine Below.setCell ?_ ?_ _) | (with_reducible refine belowG ?_ ?_) | (with_reducible exact Nat.le_refl _) | (with_reducible refine le_sizeG ?_) | (with_reducible refine le_sizeA ?_) | (with_reducible refine le_sizeC ?_) | (with_reducible refine le_sizeD ?_) | (with_reducible refine le_sizeN ?_) | go_size | (simp [go_sem]; done))⟩
  · by_cases h2 : 200 < more.size
    · clear hw
      go_enter Tryz.func3, Tryz.ntmps3
      go_wp2_with ((with_reducible refine ((A.out _ (Below.refl _ _)).out).mono ?_); intro e w1 hr; obtain ⟨rfl, p, rfl⟩ := hr.out; clear hr)
      go_returns
      exact ⟨rfl, by repeat' (first | (with_reducible exact Below.refl _ _) | (with_reducible assumption) | (with_reducible refine Below.alloc ?_ ?_ _) | (with_reducible refine Below.drew ?_) | (with_reducible refine belowN ?_ _) | (with_reducible refine Below.setCell ?_ ?_ _) | (with_reducible refine belowG ?_ ?_) | (with_reducible exact Nat.le_refl _) | (with_reducible refine le_sizeG ?_) | (with_reducible refine le_sizeA ?_) | (with_reducible refine le_sizeC ?_) | (with_reducible refine le_sizeD ?_) | (with_reducible refine le_sizeN ?_) | go_size | (simp [go_sem]; done))⟩
    · have T1 := Lib.hid (fun wx hb => tlex_any s (by omega) wx (ex_below (w' := wx) hw hb).lb)
      have hcs : ((s ++ (⟨#[32, 59, 32]⟩ : ByteArray)) ++ more).size ≤ 100000 := by
        rw [ByteArray.size_append, ByteArray.size_append]
        show s.size + 3 + more.size ≤ _
        omega
      have hcd : ((s ++ (⟨#[32, 59, 32]⟩ : ByteArray)) ++ more).data.toList = s.data.toList ++ 32 :: 59 :: 32 :: more.data.toList := by simp
      have T2 := Lib.hid (fun wx hb => tlex_any ((s ++ (⟨#[32, 59, 32]⟩ : ByteArray)) ++ more) hcs wx (ex_below (w' := wx) hw hb).lb)
      rw [hcd] at T2
      have hE := Lib.hid (fun wx hb => (ex_below (w' := wx) hw hb).eg)
      clear hw hcs hcd
      rcases hl : lexT 120 0 s.data.toList with ⟨x, j⟩ | ts
      · have hx : (x != 0) = true := by rw [bne, lexT_err hl]; rfl
        go_enter Tryz.func3, Tryz.ntmps3
        go_wp2_with ((with_reducible refine ((A.out _ (Below.refl _ _)).out).mono ?_); intro e w1 hr; obtain ⟨rfl, p, rfl⟩ := hr.out; clear hr)
        refine (T1.out _ (by repeat' (first | (with_reducible exact Below.refl _ _) | (with_reducible assumption) | (with_reducible refine Below.alloc ?_ ?_ _) | (with_reducible refine Below.drew ?_) | (with_reducible refine belowN ?_ _) | (with_reducible refine Below.setCell ?_ ?_ _) | (with_reducible refine belowG ?_ ?_) | (with_reducible exact Nat.le_refl _) | (with_reducible refine le_sizeG ?_) | (with_reducible refine le_sizeA ?_) | (with_reducible refine le_sizeC ?_) | (with_reducible refine le_sizeD ?_) | (with_reducible refine le_sizeN ?_) | go_size | (simp [go_sem]; done)))).mono ?_
        intro e w1 hr
        rw [lexIs_err hl] at hr
        obtain ⟨rfl, hb⟩ := hr
        replace hb : Below w.heap.size w w1 := Below.trans (by repeat' (first | (with_reducible exact Below.refl _ _) | (with_reducible assumption) | (with_reducible refine Below.alloc ?_ ?_ _) | (with_reducible refine Below.drew ?_) | (with_reducible refine belowN ?_ _) | (with_reducible refine Below.setCell ?_ ?_ _) | (with_reducible refine belowG ?_ ?_) | (with_reducible exact Nat.le_refl _) | (with_reducible refine le_sizeG ?_) | (with_reducible refine le_sizeA ?_) | (with_reducible refine le_sizeC ?_) | (with_reducible refine le_sizeD ?_) | (with_reducible refine le_sizeN ?_) | go_size | (simp [go_sem]; done))) (hb.mono (belowG0 p w).size)
        clear T1 hl A
        go_wp2_with fail
        refine (T2.out _ hb).mono ?_
        intro e w2 hr
        have h3 : ∃ v x j, e = .returned (.tuple #[v, .int .i64 x, .int .i64 j]) ∧ Below w1.heap.size w1 w2 := by
          rcases hm : lexT 120 0 (s.data.toList ++ 32 :: 59 :: 32 :: more.data.toList) with ⟨y, i⟩ | ms
          · rw [lexIs_err hm] at hr
            exact ⟨_, _, _, hr.1, hr.2⟩
          · rw [lexIs_ok hm] at hr
            obtain ⟨v, he, _, hb2⟩ := hr
            exact ⟨v, _, _, he, hb2⟩
        obtain ⟨v, y, i, rfl, hb2⟩ := h3
        have hb3 := hb.trans (hb2.mono hb.size)
        clear T2 hr hb2 hE
        go_wp2
        go_returns
        exact ⟨rfl, hb3⟩
      · rcases hm : lexT 120 0 (s.data.toList ++ 32 :: 59 :: 32 :: more.data.toList) with ⟨y, i⟩ | ms
        · have hy : (y != 0) = true := by rw [bne, lexT_err hm]; rfl
          go_enter Tryz.func3, Tryz.ntmps3
          go_wp2_with ((with_reducible refine ((A.out _ (Below.refl _ _)).out).mono ?_); intro e w1 hr; obtain ⟨rfl, p, rfl⟩ := hr.out; clear hr)
          refine (T1.out _ (by repeat' (first | (with_reducible exact Below.refl _ _) | (with_reducible assumption) | (with_reducible refine Below.alloc ?_ ?_ _) | (with_reducible refine Below.drew ?_) | (with_reducible refine belowN ?_ _) | (with_reducible refine Below.setCell ?_ ?_ _) | (with_reducible refine belowG ?_ ?_) | (with_reducible exact Nat.le_refl _) | (with_reducible refine le_sizeG ?_) | (with_reducible refine le_sizeA ?_) | (with_reducible refine le_sizeC ?_) | (with_reducible refine le_sizeD ?_) | (with_reducible refine le_sizeN ?_) | go_size | (simp [go_sem]; done)))).mono ?_
          intro e w1 hr
          obtain ⟨ao, cap, rfl, _, hb⟩ := lex_sl hl hr
          replace hb : Below w.heap.size w w1 := Below.trans (by repeat' (first | (with_reducible exact Below.refl _ _) | (with_reducible assumption) | (with_reducible refine Below.alloc ?_ ?_ _) | (with_reducible refine Below.drew ?_) | (with_reducible refine belowN ?_ _) | (with_reducible refine Below.setCell ?_ ?_ _) | (with_reducible refine belowG ?_ ?_) | (with_reducible exact Nat.le_refl _) | (with_reducible refine le_sizeG ?_) | (with_reducible refine le_sizeA ?_) | (with_reducible refine le_sizeC ?_) | (with_reducible refine le_sizeD ?_) | (with_reducible refine le_sizeN ?_) | go_size | (simp [go_sem]; done))) (hb.mono (belowG0 p w).size)
          clear T1 hl A hr
          go_wp2_with fail
          refine (T2.out _ hb).mono ?_
          intro e w2 hr
          rw [lexIs_err hm] at hr
          obtain ⟨rfl, hb2⟩ := hr
          have hb3 := hb.trans (hb2.mono hb.size)
          clear T2 hb2 hE hm
          go_wp2
          go_returns
          exact ⟨rfl, hb3⟩
        · obtain ⟨a, rest, hms⟩ := lex_semi hl hm
          have hf1 := lexT_count hl
          have hf2 := lexT_count hm
          have hp : parseT ms 0 = parseT ts 0 := by rw [hms]; exact parseT_ahead rfl rfl
          have P1 := Lib.hid (fun ao cap wx h1 h2 => xparse_any ao cap ts 0 hf1 wx h1 h2)
          have P2 := Lib.hid (fun ao cap wx h1 h2 => xparse_any ao cap ms 0 hf2 wx h1 h2)
          rw [hp] at P2
          clear hp hms hf1 hf2
          rcases hpt : parseT ts 0 with x | ⟨ns, n⟩
          · rw [hpt] at P1 P2
            go_enter Tryz.func3, Tryz.ntmps3
            go_wp2_with ((with_reducible refine ((A.out _ (Below.refl _ _)).out).mono ?_); intro e w1 hr; obtain ⟨rfl, p, rfl⟩ := hr.out; clear hr)
            refine (T1.out _ (by repeat' (first | (with_reducible exact Below.refl _ _) | (with_reducible assumption) | (with_reducible refine Below.alloc ?_ ?_ _) | (with_reducible refine Below.drew ?_) | (with_reducible refine belowN ?_ _) | (with_reducible refine Below.setCell ?_ ?_ _) | (with_reducible refine belowG ?_ ?_) | (with_reducible exact Nat.le_refl _) | (with_reducible refine le_sizeG ?_) | (with_reducible refine le_sizeA ?_) | (with_reducible refine le_sizeC ?_) | (with_reducible refine le_sizeD ?_) | (with_reducible refine le_sizeN ?_) | go_size | (simp [go_sem]; done)))).mono ?_
            intro e w1 hr
            obtain ⟨ao, cap, rfl, hs1, hb⟩ := lex_sl hl hr
            replace hb : Below w.heap.size w w1 := Below.trans (by repeat' (first | (with_reducible exact Below.refl _ _) | (with_reducible assumption) | (with_reducible refine Below.alloc ?_ ?_ _) | (with_reducible refine Below.drew ?_) | (with_reducible refine belowN ?_ _) | (with_reducible refine Below.setCell ?_ ?_ _) | (with_reducible refine belowG ?_ ?_) | (with_reducible exact Nat.le_refl _) | (with_reducible refine le_sizeG ?_) | (with_reducible refine le_sizeA ?_) | (with_reducible refine le_sizeC ?_) | (with_reducible refine le_sizeD ?_) | (with_reducible refine le_sizeN ?_) | go_size | (simp [go_sem]; done))) (hb.mono (belowG0 p w).size)
            have hS1 := Lib.hid (fun wx hk => sl_below (w' := wx) (ao := ao) (ts := ts) hs1 hk)
            clear T1 hl A hr hs1
            go_wp2_with fail
            refine (T2.out _ hb).mono ?_
            intro e w2 hr
            obtain ⟨bo, bap, rfl, hs2, hb2⟩ := lex_sl hm hr
            have hS2 := Lib.hid (fun wx hk => sl_below (w' := wx) (ao := bo) (ts := ms) hs2 hk)
            have hb3 := hb.trans (hb2.mono hb.size)
            have Q1 := Lib.hid (P1.out ao cap w2 (hS1.out w2 hb2) (hE.out w2 hb3))
            clear T2 hm hr hs2 P1 hS1
            go_wp2_with fail
            refine (Q1.out).mono ?_
            intro e w3 hr
            obtain ⟨rfl, hb4⟩ := hr
            have hb5 := hb3.trans (hb4.mono hb3.size)
            have Q2 := Lib.hid (P2.out bo bap w3 (hS2.out w3 hb4) (hE.out w3 hb5))
            clear Q1 P2 hS2
            go_wp2_with fail
            refine (Q2.out).mono ?_
            intro e w4 hr
            obtain ⟨rfl, hb6⟩ := hr
            have hb7 := hb5.trans (hb6.mono hb5.size)
            have N0 : ∀ (wx : World) (co : Option Addr), NdsAt wx co [] := fun wx co h => absurd h (Nat.not_lt_zero _)
            have Rf := Lib.hid (show Calls Tryz.prog 8 #[.slice none 0 0] w4 (RefsIs [] w4) from refs_any none 0 [] (by decide) w4 (N0 _ _))
            have Sm := Lib.hid (fun (wx : World) co cc => (show Calls Tryz.prog 7 #[.slice none 0 0, .slice co 0 cc] wx (Ret (.bool true) wx) from same_any none 0 co cc [] (by decide) wx (N0 _ _) (N0 _ _)))
            clear Q2 hE
            go_wp2_with fail
            refine (Rf.out).mono ?_
            intro e w5 hr
            obtain ⟨co, cc, rfl, _, hb8⟩ := hr
            have hb9 := hb7.trans (hb8.mono hb7.size)
            have hz9 := hb9.size
            clear Rf
            simp only [List.length_nil]
            go_wp2_with ((with_reducible refine ((Sm.out _ _ _)).mono ?_); intro e w1 hr; obtain ⟨rfl, p, rfl⟩ := hr.out; clear hr)
            go_returns
            exact ⟨rfl, by repeat' (first | (with_reducible exact Below.refl _ _) | (with_reducible assumption) | (with_reducible refine Below.alloc ?_ ?_ _) | (with_reducible refine Below.drew ?_) | (with_reducible refine belowN ?_ _) | (with_reducible refine Below.setCell ?_ ?_ _) | (with_reducible refine belowG ?_ ?_) | (with_reducible exact Nat.le_refl _) | (with_reducible refine le_sizeG ?_) | (with_reducible refine le_sizeA ?_) | (with_reducible refine le_sizeC ?_) | (with_reducible refine le_sizeD ?_) | (with_reducible refine le_sizeN ?_) | go_size | (simp [go_sem]; done))⟩
          · obtain ⟨_, hn32⟩ := parseT_at hpt
            rw [hpt] at P1 P2
            go_enter Tryz.func3, Tryz.ntmps3
            go_wp2_with ((with_reducible refine ((A.out _ (Below.refl _ _)).out).mono ?_); intro e w1 hr; obtain ⟨rfl, p, rfl⟩ := hr.out; clear hr)
            refine (T1.out _ (by repeat' (first | (with_reducible exact Below.refl _ _) | (with_reducible assumption) | (with_reducible refine Below.alloc ?_ ?_ _) | (with_reducible refine Below.drew ?_) | (with_reducible refine belowN ?_ _) | (with_reducible refine Below.setCell ?_ ?_ _) | (with_reducible refine belowG ?_ ?_) | (with_reducible exact Nat.le_refl _) | (with_reducible refine le_sizeG ?_) | (with_reducible refine le_sizeA ?_) | (with_reducible refine le_sizeC ?_) | (with_reducible refine le_sizeD ?_) | (with_reducible refine le_sizeN ?_) | go_size | (simp [go_sem]; done)))).mono ?_
            intro e w1 hr
            obtain ⟨ao, cap, rfl, hs1, hb⟩ := lex_sl hl hr
            replace hb : Below w.heap.size w w1 := Below.trans (by repeat' (first | (with_reducible exact Below.refl _ _) | (with_reducible assumption) | (with_reducible refine Below.alloc ?_ ?_ _) | (with_reducible refine Below.drew ?_) | (with_reducible refine belowN ?_ _) | (with_reducible refine Below.setCell ?_ ?_ _) | (with_reducible refine belowG ?_ ?_) | (with_reducible exact Nat.le_refl _) | (with_reducible refine le_sizeG ?_) | (with_reducible refine le_sizeA ?_) | (with_reducible refine le_sizeC ?_) | (with_reducible refine le_sizeD ?_) | (with_reducible refine le_sizeN ?_) | go_size | (simp [go_sem]; done))) (hb.mono (belowG0 p w).size)
            have hS1 := Lib.hid (fun wx hk => sl_below (w' := wx) (ao := ao) (ts := ts) hs1 hk)
            clear T1 hl A hr hs1
            go_wp2_with fail
            refine (T2.out _ hb).mono ?_
            intro e w2 hr
            obtain ⟨bo, bap, rfl, hs2, hb2⟩ := lex_sl hm hr
            have hS2 := Lib.hid (fun wx hk => sl_below (w' := wx) (ao := bo) (ts := ms) hs2 hk)
            have hb3 := hb.trans (hb2.mono hb.size)
            have Q1 := Lib.hid (P1.out ao cap w2 (hS1.out w2 hb2) (hE.out w2 hb3))
            clear T2 hm hr hs2 P1 hS1
            go_wp2_with fail
            refine (Q1.out).mono ?_
            intro e w3 hr
            obtain ⟨v, rfl, hown1, hb4⟩ := hr
            obtain ⟨xo, xc, hv⟩ := own_form hown1
            subst hv
            have N1 := Lib.hid (fun wx hk => nds_below (w' := wx) (nds_own hown1) hk)
            have hb5 := hb3.trans (hb4.mono hb3.size)
            have Q2 := Lib.hid (P2.out bo bap w3 (hS2.out w3 hb4) (hE.out w3 hb5))
            clear Q1 P2 hS2 hown1
            go_wp2_with fail
            refine (Q2.out).mono ?_
            intro e w4 hr
            obtain ⟨v, rfl, hown2, hb6⟩ := hr
            obtain ⟨yo, yc, hv⟩ := own_form hown2
            subst hv
            have N2 := Lib.hid (fun wx hk => nds_below (w' := wx) (nds_own hown2) hk)
            have hb7 := hb5.trans (hb6.mono hb5.size)
            have Rf := Lib.hid (refs_any xo xc ns (by omega) w4 (N1.out w4 hb6))
            have Sm := Lib.hid (fun (wx : World) hk co cc hco => same_any yo yc co cc ns (by omega) wx (N2.out wx hk) hco)
            clear Q2 hE hown2 N1 N2
            go_wp2_with fail
            refine (Rf.out).mono ?_
            intro e w5 hr
            obtain ⟨co, cc, rfl, hco, hb8⟩ := hr
            have Sm1 := Lib.hid (fun wx hk => Sm.out wx (hb8.trans (Below.mono hk hb8.size)) co cc (nds_below (w' := wx) hco hk))
            have hb9 := hb7.trans (hb8.mono hb7.size)
            have hz9 := hb9.size
            clear Rf Sm hco
            go_wp2_with ((with_reducible refine ((Sm1.out _ (by repeat' (first | (with_reducible exact Below.refl _ _) | (with_reducible assumption) | (with_reducible refine Below.alloc ?_ ?_ _) | (with_reducible refine Below.drew ?_) | (with_reducible refine belowN ?_ _) | (with_reducible refine Below.setCell ?_ ?_ _) | (with_reducible refine belowG ?_ ?_) | (with_reducible exact Nat.le_refl _) | (with_reducible refine le_sizeG ?_) | (with_reducible refine le_sizeA ?_) | (with_reducible refine le_sizeC ?_) | (with_reducible refine le_sizeD ?_) | (with_reducible refine le_sizeN ?_) | go_size | (simp [go_sem]; done))))).mono ?_); intro e w1 hr; obtain ⟨rfl, p, rfl⟩ := hr.out; clear hr)
            go_returns
            exact ⟨rfl, by repeat' (first | (with_reducible exact Below.refl _ _) | (with_reducible assumption) | (with_reducible refine Below.alloc ?_ ?_ _) | (with_reducible refine Below.drew ?_) | (with_reducible refine belowN ?_ _) | (with_reducible refine Below.setCell ?_ ?_ _) | (with_reducible refine belowG ?_ ?_) | (with_reducible exact Nat.le_refl _) | (with_reducible refine le_sizeG ?_) | (with_reducible refine le_sizeA ?_) | (with_reducible refine le_sizeC ?_) | (with_reducible refine le_sizeD ?_) | (with_reducible refine le_sizeN ?_) | go_size | (simp [go_sem]; done))⟩
end Go.Proofs.YtifnoopcophgoaaGreatDoor

