/- ChartRemarks: the walk. -/
import Derived.Test.YtekfnnfphhoeoaaGreatDoorQ8
import Derived.Test.YtekfnnfphhoeoaaGreatDoorQ7
import Derived.Test.YtekfnnfphhoeoaaGreatDoorMU
import Derived.Test.YtekfnnfphhoeoaaGreatDoorQ1
import Derived.WalkKit
import Derived.ProofKit
import Derived.OpenShut
import Derived.Handy
import Derived.BigQuiet
import Derived.OwnWalk
import Derived.Deep.RegionHeld3
import Derived.Lib.Hide
import Derived.WalkSmall
import Derived.WalkLawsBesides
namespace Go.Proofs.YtekfnnfphhoeoaaGreatDoor
open Go.RowKit
/-- What is told of a chart's text: the chart, an error and a place. -/
structure ToldC (x : Except (Int × Nat) Ch) (c : Ch) (y n : Int) : Prop where
  ok : ∀ d, x = .ok d → c = d ∧ y = 0 ∧ n = 0
  er : ∀ k m, x = .error (k, m) → c = ch0 ∧ y = k ∧ n = (m : Int)
theorem chV_zero (τ : CT) (B : Nat) (w : World) : ChV τ B w ch0 (fun _ => .slice none 0 0) (.slice none 0 0) (.slice none 0 0) :=
  ⟨World.ownsRow_nil _ _ _ _, World.ownsRow_nil _ _ _ _, fun _ => blkRow_nil _ _ _, fun _ => blkRow_nil _ _ _, fun _ => trRow_nil _ _ _⟩
/-- A chart's text is parsed: both ways in one. -/
def CpAll (x : Except (Int × Nat) Ch) (w : World) (e : Ending) (w' : World) : Prop := ∃ c y n rv va vc sa sc, ToldC x c y n ∧ e = .returned (.tuple #[.agg #[str c.name, .slice va c.vars.length vc, .slice sa c.states.length sc], .int .i64 y, .int .i64 n]) ∧ ChV ct0 w.heap.size w' c rv (.slice va c.vars.length vc) (.slice sa c.states.length sc) ∧ Below w.heap.size w w'
theorem cparse_all (s : ByteArray) (hs : s.size ≤ 140737488351232) (w : World) (hw : Al w) : Calls Tryz.prog 7 #[.string s] w (CpAll (chartT s.data.toList) w) := by
  refine (cparse_any s hs w hw).mono fun e w' hr => ?_
  cases hx : chartT s.data.toList with
  | error y =>
    obtain ⟨y, n⟩ := y
    rw [hx] at hr
    obtain ⟨rfl, hy, hb⟩ := hr
    exact ⟨ch0, y, n, fun _ => .slice none 0 0, none, 0, none, 0, ⟨fun d hd => (by cases hd), fun k m hk => (by cases hk; exact ⟨rfl, rfl, rfl⟩)⟩, rfl, chV_zero _ _ _, hb⟩
  | ok c =>
    rw [hx] at hr
    obtain ⟨rv, vv, sv, rfl, hV, hb⟩ := hr
    obtain ⟨va, vc, sa, sc, rfl, rfl⟩ := chV_form hV
    exact ⟨c, 0, 0, rv, va, vc, sa, sc, ⟨fun d hd => (by cases hd; exact ⟨rfl, rfl, rfl⟩), fun k m hk => (by cases hk)⟩, rfl, hV, hb⟩
/-- A chart that is one, or none, is small. -/
structure SizeC (c : Ch) : Prop where
  vars : c.vars.length ≤ 16
  sts : c.states.length ≤ 49
  lens : ∀ i, i < c.states.length → (c.states.getD i st0).enter.length ≤ 8 ∧ (c.states.getD i st0).exit.length ≤ 8 ∧ (c.states.getD i st0).trans.length ≤ 96
  small : SmallC c
theorem size_told {l : List UInt8} {c : Ch} {y n : Int} (h : ToldC (chartT l) c y n) : SizeC c := by
  cases hx : chartT l with
  | error z =>
    obtain ⟨k, m⟩ := z
    obtain ⟨rfl, _, _⟩ := h.er k m hx
    exact ⟨by decide, by decide, fun i hi => absurd hi (Nat.not_lt_zero _), fun s hs => by cases hs⟩
  | ok d =>
    obtain ⟨rfl, _, _⟩ := h.ok d hx
    have g := good_chart hx
    exact ⟨g.vars, g.few, lens_of g, small_chart hx⟩
theorem run_place : ∀ (ls : List (List UInt8)) (i : Nat) (c : Ch) (o e : Int) (n : Nat), runT i ls c o = .error (e, n) → n ≤ i + ls.length
  | [], _, _, _, _, _, h => by cases h
  | l :: ls, i, c, o, e, n, h => by
    rw [List.length_cons]
    rw [runT] at h
    split at h
    · cases h; omega
    · split at h
      · cases h; omega
      · split at h
        · have := run_place ls _ _ _ _ _ h
          omega
        · split at h
          · cases h; omega
          · split at h
            · cases h; omega
            · have := run_place ls _ _ _ _ _ h
              omega
theorem chart_place {l : List UInt8} {e : Int} {n : Nat} (h : chartT l = .error (e, n)) : n ≤ (linesT l).length := by
  unfold chartT at h
  split at h
  · rename_i x hr
    cases h
    have := run_place _ _ _ _ _ _ hr
    omega
  · split at h
    · cases h
    · cases h; omega
/-- What two texts tell of which the second has a remark more, ahead of its line 'at'. -/
theorem told_remark {l said : List UInt8} {k : Nat} {c d : Ch} {y z n m : Int} (h1 : said.length ≤ 400) (h2 : emptyT said = true) (h3 : ∀ c ∈ said, c ≠ 10) (h4 : (linesT l).length < 400) (hk : k < (linesT l).length)
    (hc : ToldC (chartT l) c y n) (hd : ToldC (chartT (joinN ((linesT l).take k ++ said :: (linesT l).drop k))) d z m) : d = c ∧ z = y ∧ 0 ≤ n ∧ n ≤ 400 ∧ (m = n ∨ (k : Int) < n ∧ m = n + 1) := by
  have hr := chart_remark (k := k) h1 h2 h3 h4
  rw [hr] at hd
  have hl : ((linesT l).take k).length = k := by rw [List.length_take]; omega
  cases hx : chartT l with
  | error e =>
    obtain ⟨e, p⟩ := e
    rw [hx] at hc hd
    obtain ⟨rfl, rfl, rfl⟩ := hc.er _ _ rfl
    obtain ⟨rfl, rfl, rfl⟩ := hd.er _ _ rfl
    have hp := chart_place hx
    refine ⟨rfl, rfl, by omega, by omega, ?_⟩
    rw [hl]
    by_cases hkp : k < p
    · rw [if_pos hkp]; omega
    · rw [if_neg hkp]; omega
  | ok e =>
    rw [hx] at hc hd
    obtain ⟨rfl, rfl, rfl⟩ := hc.ok _ rfl
    obtain ⟨rfl, rfl, rfl⟩ := hd.ok _ rfl
    exact ⟨rfl, rfl, by decide, by decide, .inl rfl⟩
theorem mchart_all {B : Nat} {c : Ch} {rv : Nat → Value} {vv sv : Value} (hc : SizeC c) (w : World) (hBw : B ≤ w.heap.size) (h : ChV ct0 B w c rv vv sv) : Calls Tryz.prog 12 #[.agg #[str c.name, vv, sv]] w (MChIs B c w) :=
  mchart_any c rv vv sv hc.vars hc.sts hc.lens hc.small w hBw h
theorem cat_list (a b : ByteArray) : (a ++ b).data.toList = a.data.toList ++ b.data.toList := by simp
set_option maxRecDepth 100000 in
set_option maxHeartbeats 4000000 in
/-- Where a text, or a place, goes too far, nothing is asked. -/
theorem remarks_early (s q : ByteArray) (k : Int) (hs : s.size ≤ 2000000) (W : World) (hw : Al W) (h : ¬ (s.size ≤ 20000 ∧ (linesT s.data.toList).length < 400 ∧ 0 ≤ k ∧ k < ((linesT s.data.toList).length : Int) ∧ q.size ≤ 200)) :
    Calls Tryz.prog 5 #[.string s, .int .i64 k, .string q] W (Ret (.bool true) W) := by
  have A := Lib.hid (anchor8_any W hw)
  have L := Lib.hid (fun wx => rlines_any s hs wx)
  clear hw
  generalize linesT s.data.toList = ls at *
  by_cases h1 : s.size ≤ 20000
  · have H1 : ¬ (20000 : Int) < (s.size : Int) := by omega
    by_cases h2 : ls.length < 400
    · have H2 : ¬ (400 : Int) ≤ (ls.length : Int) := by omega
      by_cases h3 : 0 ≤ k
      · by_cases h4 : k < (ls.length : Int)
        · have h5 : ¬ q.size ≤ 200 := fun h5 => h ⟨h1, h2, h3, h4, h5⟩
          have H5 : (200 : Int) < (q.size : Int) := by omega
          clear h
          go_enter Tryz.func5, Tryz.ntmps5
          go_wp2_with (((with_reducible refine (A.out).mono ?_); intro e w1 hr; obtain ⟨rfl, p, rfl⟩ := hr.out; clear hr))
          go_wp2_with fail
          refine (L.out _).mono ?_
          intro e w1 hr
          obtain ⟨v, rfl, ho, hb⟩ := hr
          obtain ⟨oa, oc, rfl⟩ := own_form ho
          obtain ⟨p1, rfl⟩ := toG hb
          clear hb ho
          go_wp2
          go_returns
          exact ⟨rfl, by repeat' (first | (with_reducible exact Below.refl _ _) | (with_reducible assumption) | (with_reducible refine Below.alloc ?_ ?_ _) | (with_reducible refine Below.drew ?_) | (with_reducible refine belowN ?_ _) | (with_reducible refine Below.setCell ?_ ?_ _) | (with_reducible refine belowG ?_ ?_) | (with_reducible exact Nat.le_refl _) | (with_reducible refine le_sizeG ?_) | (with_reducible refine le_sizeA ?_) | (with_reducible refine le_sizeC ?_) | (with_reducible refine le_sizeD ?_) | (with_reducible refine le_sizeN ?_) | go_size | (simp [go_sem]; done))⟩
        · clear h
          go_enter Tryz.func5, Tryz.ntmps5
          go_wp2_with (((with_reducible refine (A.out).mono ?_); intro e w1 hr; obtain ⟨rfl, p, rfl⟩ := hr.out; clear hr))
          go_wp2_with fail
          refine (L.out _).mono ?_
          intro e w1 hr
          obtain ⟨v, rfl, ho, hb⟩ := hr
          obtain ⟨oa, oc, rfl⟩ := own_form ho
          obtain ⟨p1, rfl⟩ := toG hb
          clear hb ho
          go_wp2
          go_returns
          exact ⟨rfl, by repeat' (first | (with_reducible exact Below.refl _ _) | (with_reducible assumption) | (with_reducible refine Below.alloc ?_ ?_ _) | (with_reducible refine Below.drew ?_) | (with_reducible refine belowN ?_ _) | (with_reducible refine Below.setCell ?_ ?_ _) | (with_reducible refine belowG ?_ ?_) | (with_reducible exact Nat.le_refl _) | (with_reducible refine le_sizeG ?_) | (with_reducible refine le_sizeA ?_) | (with_reducible refine le_sizeC ?_) | (with_reducible refine le_sizeD ?_) | (with_reducible refine le_sizeN ?_) | go_size | (simp [go_sem]; done))⟩
      · clear h
        go_enter Tryz.func5, Tryz.ntmps5
        go_wp2_with (((with_reducible refine (A.out).mono ?_); intro e w1 hr; obtain ⟨rfl, p, rfl⟩ := hr.out; clear hr))
        go_wp2_with fail
        refine (L.out _).mono ?_
        intro e w1 hr
        obtain ⟨v, rfl, ho, hb⟩ := hr
        obtain ⟨oa, oc, rfl⟩ := own_form ho
        obtain ⟨p1, rfl⟩ := toG hb
        clear hb ho
        go_wp2
        go_returns
        exact ⟨rfl, by repeat' (first | (with_reducible exact Below.refl _ _) | (with_reducible assumption) | (with_reducible refine Below.alloc ?_ ?_ _) | (with_reducible refine Below.drew ?_) | (with_reducible refine belowN ?_ _) | (with_reducible refine Below.setCell ?_ ?_ _) | (with_reducible refine belowG ?_ ?_) | (with_reducible exact Nat.le_refl _) | (with_reducible refine le_sizeG ?_) | (with_reducible refine le_sizeA ?_) | (with_reducible refine le_sizeC ?_) | (with_reducible refine le_sizeD ?_) | (with_reducible refine le_sizeN ?_) | go_size | (simp [go_sem]; done))⟩
    · have H2 : (400 : Int) ≤ (ls.length : Int) := by omega
      clear h
      go_enter Tryz.func5, Tryz.ntmps5
      go_wp2_with (((with_reducible refine (A.out).mono ?_); intro e w1 hr; obtain ⟨rfl, p, rfl⟩ := hr.out; clear hr))
      go_wp2_with fail
      refine (L.out _).mono ?_
      intro e w1 hr
      obtain ⟨v, rfl, ho, hb⟩ := hr
      obtain ⟨oa, oc, rfl⟩ := own_form ho
      obtain ⟨p1, rfl⟩ := toG hb
      clear hb ho
      go_wp2
      go_returns
      exact ⟨rfl, by repeat' (first | (with_reducible exact Below.refl _ _) | (with_reducible assumption) | (with_reducible refine Below.alloc ?_ ?_ _) | (with_reducible refine Below.drew ?_) | (with_reducible refine belowN ?_ _) | (with_reducible refine Below.setCell ?_ ?_ _) | (with_reducible refine belowG ?_ ?_) | (with_reducible exact Nat.le_refl _) | (with_reducible refine le_sizeG ?_) | (with_reducible refine le_sizeA ?_) | (with_reducible refine le_sizeC ?_) | (with_reducible refine le_sizeD ?_) | (with_reducible refine le_sizeN ?_) | go_size | (simp [go_sem]; done))⟩
  · have H1 : (20000 : Int) < (s.size : Int) := by omega
    clear h
    go_enter Tryz.func5, Tryz.ntmps5
    go_wp2_with (((with_reducible refine (A.out).mono ?_); intro e w1 hr; obtain ⟨rfl, p, rfl⟩ := hr.out; clear hr))
    go_wp2_with fail
    refine (L.out _).mono ?_
    intro e w1 hr
    obtain ⟨v, rfl, ho, hb⟩ := hr
    obtain ⟨oa, oc, rfl⟩ := own_form ho
    obtain ⟨p1, rfl⟩ := toG hb
    clear hb ho
    go_wp2
    go_returns
    exact ⟨rfl, by repeat' (first | (with_reducible exact Below.refl _ _) | (with_reducible assumption) | (with_reducible refine Below.alloc ?_ ?_ _) | (with_reducible refine Below.drew ?_) | (with_reducible refine belowN ?_ _) | (with_reducible refine Below.setCell ?_ ?_ _) | (with_reducible refine belowG ?_ ?_) | (with_reducible exact Nat.le_refl _) | (with_reducible refine le_sizeG ?_) | (with_reducible refine le_sizeA ?_) | (with_reducible refine le_sizeC ?_) | (with_reducible refine le_sizeD ?_) | (with_reducible refine le_sizeN ?_) | go_size | (simp [go_sem]; done))⟩
set_option maxRecDepth 100000 in
set_option maxHeartbeats 4000000 in
theorem remarks_main (s q : ByteArray) (k : Nat) (W : World) (hw : Al W) (h1 : s.size ≤ 20000) (h2 : (linesT s.data.toList).length < 400) (h4 : k < (linesT s.data.toList).length) (h5 : q.size ≤ 200) :
    Calls Tryz.prog 5 #[.string s, .int .i64 (k : Int), .string q] W (Ret (.bool true) W) := by
  have A := Lib.hid (anchor8_any W hw)
  have L := Lib.hid (fun wx => rlines_any s (by omega) wx)
  have Z := Lib.hid (fun wx (hb : Below W.heap.size W wx) => al_below hw hb)
  clear hw
  have hsz := Lib.hid (Lib.size_eq s)
  have hqz := Lib.hid (Lib.size_eq q)
  have hsaid := said_ok q.data.toList (by rw [← hqz.out]; exact h5)
  have H1 : ¬ (20000 : Int) < (s.size : Int) := by omega
  obtain ⟨ls, hls⟩ : ∃ ls, linesT s.data.toList = ls := ⟨_, rfl⟩
  rw [hls] at h2 h4
  have H2 : ¬ (400 : Int) ≤ (ls.length : Int) := by omega
  have H3 : ¬ (k : Int) < 0 := by omega
  have H4 : ¬ (ls.length : Int) ≤ (k : Int) := by omega
  have H5 : ¬ (200 : Int) < (q.size : Int) := by omega
  have hil : ∀ i, (joinN (insT ls k (saidT q.data.toList) i)).length ≤ 8200000 := fun i => by
    rw [← hls]
    refine ins_len (by rw [← hsz.out]; exact h1) (by rw [hls]; omega) ?_
    have := hqz.out
    unfold saidT
    rw [List.length_cons]
    have := List.length_filter_le (fun c : UInt8 => decide (c ≠ 10)) q.data.toList
    omega
  have hT := Lib.hid (fun (c d : Ch) (y z n m : Int) (hc : ToldC (chartT s.data.toList) c y n) (hd : ToldC (chartT (joinN (ls.take k ++ saidT q.data.toList :: ls.drop k))) d z m) => by
    rw [← hls] at hd
    exact told_remark hsaid.1 hsaid.2.1 hsaid.2.2 (by rw [hls]; exact h2) (by rw [hls]; exact h4) hc hd)
  have hsl : (saidT q.data.toList).length ≤ 400 := hsaid.1
  rw [hls] at L
  replace hls := Lib.hid hls
  replace hil := Lib.hid hil
  clear hsaid
  go_enter Tryz.func5, Tryz.ntmps5
  go_wp2_with (((with_reducible refine (A.out).mono ?_); intro e w1 hr; obtain ⟨rfl, p, rfl⟩ := hr.out; clear hr))
  go_wp2_with fail
  refine (L.out _).mono ?_
  intro e w1 hr
  obtain ⟨v, rfl, ho, hb⟩ := hr
  obtain ⟨oa, oc, rfl⟩ := own_form ho
  have hbW : Below W.heap.size W w1 := by
    refine Below.trans ?_ (hb.mono ?_)
    · repeat' (first | (with_reducible exact Below.refl _ _) | (with_reducible assumption) | (with_reducible refine Below.alloc ?_ ?_ _) | (with_reducible refine Below.drew ?_) | (with_reducible refine belowN ?_ _) | (with_reducible refine Below.setCell ?_ ?_ _) | (with_reducible refine belowG ?_ ?_) | (with_reducible exact Nat.le_refl _) | (with_reducible refine le_sizeG ?_) | (with_reducible refine le_sizeA ?_) | (with_reducible refine le_sizeC ?_) | (with_reducible refine le_sizeD ?_) | (with_reducible refine le_sizeN ?_) | go_size | (simp [go_sem]; done))
    · repeat' (first | (with_reducible exact Below.refl _ _) | (with_reducible assumption) | (with_reducible refine Below.alloc ?_ ?_ _) | (with_reducible refine Below.drew ?_) | (with_reducible refine belowN ?_ _) | (with_reducible refine Below.setCell ?_ ?_ _) | (with_reducible refine belowG ?_ ?_) | (with_reducible exact Nat.le_refl _) | (with_reducible refine le_sizeG ?_) | (with_reducible refine le_sizeA ?_) | (with_reducible refine le_sizeC ?_) | (with_reducible refine le_sizeD ?_) | (with_reducible refine le_sizeN ?_) | go_size | (simp [go_sem]; done))
  have hbz := hbW.size
  replace ho := Lib.hid ho
  clear A L hb
  go_wp2
  go_loop [8, 48] (fun x y => ∃ (i : Nat) (o : ByteArray), i ≤ q.size ∧ x = .string o ∧ y = .int .i64 (i : Int) ∧ Hid (o.data.toList = saidT (q.data.toList.take i))) (fun _ y => q.size - (intOf y).toNat)
  case atStart => exact ⟨0, ⟨#[35]⟩, Nat.zero_le _, rfl, rfl, Lib.hid rfl⟩
  case round =>
    obtain ⟨i, o, hi, rfl, rfl, hO⟩ := hrel
    by_cases hlt : i < q.size
    · have hlt' : i < q.data.toList.length := by rw [← hqz.out]; exact hlt
      have hI : (i : Int) < (q.size : Int) := by omega
      have hm := said_more hlt'
      have hoz : o.size ≤ 201 := by
        rw [Lib.size_eq, hO.out]
        unfold saidT
        rw [List.length_cons]
        have := List.length_filter_le (fun c : UInt8 => decide (c ≠ 10)) (q.data.toList.take i)
        rw [List.length_take] at this
        omega
      have hsl1 : ∀ wx, (Instr.slice 9 (.string q) (some (.int .i64 (i : Int))) (some (.int .i64 ((i : Int) + 1))) none).run Tryz.prog wx = .ok (.string (q.extract i (i + 1))) wx := fun wx => slice_s q i (i + 1) (by omega) (by omega) _ rfl wx
      have hcb : Hid ((q.extract i (i + 1)).data.toList = [q[i]]) := Lib.hid (by
        rw [cut_bytes, cut_more hlt' (Nat.le_refl _), List.drop_of_length_le (by rw [List.length_take]; omega)]
        rfl)
      have ht1 : (q.extract i (i + 1)).size ≤ 1 := by rw [Lib.size_eq, hcb.out]; simp
      generalize q.extract i (i + 1) = t at *
      have key : ((((q[i]'hlt).toNat : Int) != 10) = false → Hid (o.data.toList = saidT (q.data.toList.take (i + 1)))) ∧ ((((q[i]'hlt).toNat : Int) != 10) = true → Hid ((o ++ t).data.toList = saidT (q.data.toList.take (i + 1)))) := by
        refine ⟨fun e => Lib.hid ?_, fun e => Lib.hid ?_⟩
        · rw [bne_eq_false_iff_eq] at e
          have hc : q.data.toList[i] = 10 := UInt8.toNat_inj.1 (by have : (q[i]'hlt).toNat = 10 := by omega
                                                                   exact this)
          rw [hm, if_pos hc, List.append_nil]
          exact hO.out
        · have hc : ¬ q.data.toList[i] = 10 := fun e' => by
            have : (q[i]'hlt) = 10 := e'
            rw [this] at e
            cases e
          rw [hm, if_neg hc, cat_list, hO.out, hcb.out]
          rfl
      clear hm hO hcb hlt'
      rcases e1 : (((q[i]'hlt).toNat : Int) != 10) with _ | _
      · have hO2 := key.1 e1
        clear key
        go_wp2
        go_round
        case rel => exact ⟨i + 1, o, by omega, rfl, by go_num, hO2⟩
        case measure => simp [intOf]; omega
      · have hO2 := key.2 e1
        clear key
        go_wp2
        go_round
        case rel => exact ⟨i + 1, o ++ t, by omega, rfl, by go_num, hO2⟩
        case measure => simp [intOf]; omega
    · obtain rfl : i = q.size := by omega
      have hI : ¬ (q.size : Int) < (q.size : Int) := by omega
      have hO2 : Hid (o.data.toList = saidT q.data.toList) := Lib.hid (by rw [hO.out, hqz.out, List.take_length])
      have hoz : o.size ≤ 400 := by rw [Lib.size_eq, hO2.out]; exact hsl
      have hall := ins_all ls k (saidT q.data.toList) h4
      have hI0 := ins_zero ls k (saidT q.data.toList)
      replace hall := Lib.hid hall
      clear hO
      go_wp2
      go_loop [10, 65] (fun x y => ∃ (i : Nat) (p : ByteArray), i ≤ ls.length ∧ x = .string p ∧ y = .int .i64 (i : Int) ∧ Hid (p.data.toList = joinN (insT ls k (saidT q.data.toList) i))) (fun _ y => ls.length - (intOf y).toNat)
      case atStart => exact ⟨0, ⟨#[]⟩, Nat.zero_le _, rfl, rfl, Lib.hid hI0.symm⟩
      case round =>
        obtain ⟨i, p, hi, rfl, rfl, hP⟩ := hrel
        clear hI0
        have hpz : p.size ≤ 8200000 := by rw [Lib.size_eq, hP.out]; exact hil.out i
        by_cases hlt : i < ls.length
        · obtain ⟨g, rfl, hg, n1⟩ := txt_at ho.out i hlt
          have hm := Lib.hid (ins_more (k := k) (x := saidT q.data.toList) hlt)
          have hxz : (⟨ls[i].toArray⟩ : ByteArray).size ≤ 20000 := by
            rw [Lib.size_eq]
            have := lines_short s.data.toList ls[i] (by rw [hls.out]; exact List.getElem_mem hlt)
            rw [← hsz.out] at this
            simp
            omega
          have hxt : Hid ((⟨ls[i].toArray⟩ : ByteArray).data.toList = ls[i]) := Lib.hid rfl
          have n2 : w1.cell? ⟨g, i, none⟩ = some (.string (⟨ls[i].toArray⟩ : ByteArray)) := n1
          generalize ls[i] = line at *
          generalize (⟨line.toArray⟩ : ByteArray) = t at *
          clear n1
          have hIl : (i : Int) < (ls.length : Int) := by omega
          by_cases h0 : 0 < i
          · have hi0 : (0 : Int) < (i : Int) := by omega
            by_cases hik : i = k
            · subst hik
              have hnext : Hid ((((p ++ (⟨#[10]⟩ : ByteArray)) ++ (o ++ (⟨#[10]⟩ : ByteArray))) ++ t).data.toList = joinN (insT ls i (saidT q.data.toList) (i + 1))) := Lib.hid (by
                rw [hm.out, cat_list, cat_list, cat_list, cat_list, hP.out, hO2.out, hxt.out]
                unfold addT
                rw [if_pos h0, if_pos rfl]
                simp)
              replace h0 := Lib.hid h0
              clear hm hP
              go_wp2
              go_round
              case rel => exact ⟨i + 1, _, by omega, rfl, by go_num, hnext⟩
              case measure => simp [intOf]; omega
            · have e2 : ((i : Int) == (k : Int)) = false := by
                rw [beq_eq_false_iff_ne]; omega
              have hnext : Hid (((p ++ (⟨#[10]⟩ : ByteArray)) ++ t).data.toList = joinN (insT ls k (saidT q.data.toList) (i + 1))) := Lib.hid (by
                rw [hm.out, cat_list, cat_list, hP.out, hxt.out]
                unfold addT
                rw [if_pos h0, if_neg hik]
                simp)
              replace h0 := Lib.hid h0
              replace hik := Lib.hid hik
              clear hm hP
              go_wp2
              go_round
              case rel => exact ⟨i + 1, _, by omega, rfl, by go_num, hnext⟩
              case measure => simp [intOf]; omega
          · have hi0 : ¬ (0 : Int) < (i : Int) := by omega
            by_cases hik : i = k
            · subst hik
              have hnext : Hid (((p ++ (o ++ (⟨#[10]⟩ : ByteArray))) ++ t).data.toList = joinN (insT ls i (saidT q.data.toList) (i + 1))) := Lib.hid (by
                rw [hm.out, cat_list, cat_list, cat_list, hP.out, hO2.out, hxt.out]
                unfold addT
                rw [if_neg h0, if_pos rfl]
                simp)
              replace h0 := Lib.hid h0
              clear hm hP
              go_wp2
              go_round
              case rel => exact ⟨i + 1, _, by omega, rfl, by go_num, hnext⟩
              case measure => simp [intOf]; omega
            · have e2 : ((i : Int) == (k : Int)) = false := by
                rw [beq_eq_false_iff_ne]; omega
              have hnext : Hid ((p ++ t).data.toList = joinN (insT ls k (saidT q.data.toList) (i + 1))) := Lib.hid (by
                rw [hm.out, cat_list, hP.out, hxt.out]
                unfold addT
                rw [if_neg h0, if_neg hik]
                simp)
              replace h0 := Lib.hid h0
              replace hik := Lib.hid hik
              clear hm hP
              go_wp2
              go_round
              case rel => exact ⟨i + 1, _, by omega, rfl, by go_num, hnext⟩
              case measure => simp [intOf]; omega
        · obtain rfl : i = ls.length := by omega
          have hIl : ¬ (ls.length : Int) < (ls.length : Int) := by omega
          have hP2 : Hid (p.data.toList = joinN (ls.take k ++ saidT q.data.toList :: ls.drop k)) := Lib.hid (by rw [hP.out, hall.out])
          clear hP hall
          have P1 := Lib.hid (fun wx (hb : Below W.heap.size W wx) => cparse_all s (by omega) wx (Z.out wx hb))
          have P2 := Lib.hid (fun wx (hb : Below W.heap.size W wx) => cparse_all p (by omega) wx (Z.out wx hb))
          go_wp2_with fail
          refine (P1.out _ (by repeat' (first | (with_reducible exact Below.refl _ _) | (with_reducible assumption) | (with_reducible refine Below.alloc ?_ ?_ _) | (with_reducible refine Below.drew ?_) | (with_reducible refine belowN ?_ _) | (with_reducible refine Below.setCell ?_ ?_ _) | (with_reducible refine belowG ?_ ?_) | (with_reducible exact Nat.le_refl _) | (with_reducible refine le_sizeG ?_) | (with_reducible refine le_sizeA ?_) | (with_reducible refine le_sizeC ?_) | (with_reducible refine le_sizeD ?_) | (with_reducible refine le_sizeN ?_) | go_size | (simp [go_sem]; done)))).mono ?_
          intro e w2 hr
          obtain ⟨c, y, n, rv, va, vc, sa, sc, hc, rfl, hV, hb2⟩ := hr
          have hb12 : Below W.heap.size W w2 := hbW.trans (hb2.mono hbz)
          have hV0 := chV_base hV (Nat.zero_le _)
          have hz12 := hb12.size
          replace hV0 := Lib.hid hV0
          clear P1 hb2 hV
          go_wp2_with fail
          refine (P2.out _ (by repeat' (first | (with_reducible exact Below.refl _ _) | (with_reducible assumption) | (with_reducible refine Below.alloc ?_ ?_ _) | (with_reducible refine Below.drew ?_) | (with_reducible refine belowN ?_ _) | (with_reducible refine Below.setCell ?_ ?_ _) | (with_reducible refine belowG ?_ ?_) | (with_reducible exact Nat.le_refl _) | (with_reducible refine le_sizeG ?_) | (with_reducible refine le_sizeA ?_) | (with_reducible refine le_sizeC ?_) | (with_reducible refine le_sizeD ?_) | (with_reducible refine le_sizeN ?_) | go_size | (simp [go_sem]; done)))).mono ?_
          intro e w3 hr
          obtain ⟨d, z, m, rv2, va2, vc2, sa2, sc2, hd, rfl, hV2, hb3⟩ := hr
          rw [hP2.out] at hd
          obtain ⟨hdc, hzy, hn0, hn1, hm⟩ := hT.out c d y z n m hc hd
          subst hdc hzy
          have hsz2 := Lib.hid (size_told hc)
          have hk3 : Below w2.heap.size w2 w3 := by
            refine Below.trans ?_ (hb3.mono ?_)
            · repeat' (first | (with_reducible exact Below.refl _ _) | (with_reducible assumption) | (with_reducible refine Below.alloc ?_ ?_ _) | (with_reducible refine Below.drew ?_) | (with_reducible refine belowN ?_ _) | (with_reducible refine Below.setCell ?_ ?_ _) | (with_reducible refine belowG ?_ ?_) | (with_reducible exact Nat.le_refl _) | (with_reducible refine le_sizeG ?_) | (with_reducible refine le_sizeA ?_) | (with_reducible refine le_sizeC ?_) | (with_reducible refine le_sizeD ?_) | (with_reducible refine le_sizeN ?_) | go_size | (simp [go_sem]; done))
            · simp [go_sem]
          have hb13 : Below W.heap.size W w3 := hb12.trans (hk3.mono hz12)
          have hz13 := hb13.size
          have hlt : w2.heap.size < w3.heap.size := by
            refine Nat.lt_of_lt_of_le ?_ hb3.size
            exact InW.lt
          have c0 : w3.cell? ⟨w2.heap.size, 0, none⟩ = some (str d.name) := (hb3.cell (p := ⟨w2.heap.size, 0, none⟩) (by simp [go_sem])).trans (by simp [go_sem])
          have c1 : w3.cell? ⟨w2.heap.size, 1, none⟩ = some (.slice va d.vars.length vc) := (hb3.cell (p := ⟨w2.heap.size, 1, none⟩) (by simp [go_sem])).trans (by simp [go_sem])
          have c2 : w3.cell? ⟨w2.heap.size, 2, none⟩ = some (.slice sa d.states.length sc) := (hb3.cell (p := ⟨w2.heap.size, 2, none⟩) (by simp [go_sem])).trans (by simp [go_sem])
          have i1 : InW w2.heap.size w3 := ⟨hlt⟩
          have hVa := chV_keep hV0.out hk3
          have hVb := chV_base hV2 (Nat.zero_le _)
          have M1 := Lib.hid (fun wx (hk : Below w3.heap.size w3 wx) => mchart_all hsz2.out wx (Nat.zero_le _) (chV_keep hVa hk))
          have M2 := Lib.hid (fun wx (hk : Below w3.heap.size w3 wx) => mchart_all hsz2.out wx (Nat.zero_le _) (chV_keep hVb hk))
          have hyy : (z != z) = false := by simp
          generalize w2.heap.size = b1 at *
          replace hm := Lib.hid hm
          clear P2 hb3 hV0 hV2 hVa hVb hc hd hT hk3 hb12 hP2 Z
          dsimp only
          go_wp2_with fail
          go_region_held3 (fun w' => w'.cell? ⟨b1, 0, none⟩ = some (str d.name) ∧ w'.cell? ⟨b1, 1, none⟩ = some (.slice va d.vars.length vc) ∧ w'.cell? ⟨b1, 2, none⟩ = some (.slice sa d.states.length sc) ∧ w'.cell? ⟨w3.heap.size, 0, none⟩ = some (str d.name) ∧ w'.cell? ⟨w3.heap.size, 1, none⟩ = some (.slice va2 d.vars.length vc2) ∧ w'.cell? ⟨w3.heap.size, 2, none⟩ = some (.slice sa2 d.states.length sc2)) ((refine ⟨?_, ?_, ?_, ?_, ?_, ?_⟩ <;> first | assumption | (rw [cell_GI]; assumption) | (rw [cell_allocI]; assumption) | (simp [go_sem, *]; done)))
            (first
              | ((with_reducible refine (M1.out _ (by repeat' (first | (with_reducible exact Below.refl _ _) | (with_reducible assumption) | (with_reducible refine Below.alloc ?_ ?_ _) | (with_reducible refine Below.drew ?_) | (with_reducible refine belowN ?_ _) | (with_reducible refine Below.setCell ?_ ?_ _) | (with_reducible refine belowG ?_ ?_) | (with_reducible exact Nat.le_refl _) | (with_reducible refine le_sizeG ?_) | (with_reducible refine le_sizeA ?_) | (with_reducible refine le_sizeC ?_) | (with_reducible refine le_sizeD ?_) | (with_reducible refine le_sizeN ?_) | go_size | (simp [go_sem]; done)))).mono ?_); intro e w4 hr; obtain ⟨rv4, vv4, sv4, rfl, hV4, hb4⟩ := hr; obtain ⟨va4, vc4, sa4, sc4, rfl, rfl⟩ := chV_form hV4; obtain ⟨p4, rfl⟩ := toG hb4; clear hb4; (try simp only [G_drew] at hV4))
              | ((with_reducible refine (M2.out _ (by repeat' (first | (with_reducible exact Below.refl _ _) | (with_reducible assumption) | (with_reducible refine Below.alloc ?_ ?_ _) | (with_reducible refine Below.drew ?_) | (with_reducible refine belowN ?_ _) | (with_reducible refine Below.setCell ?_ ?_ _) | (with_reducible refine belowG ?_ ?_) | (with_reducible exact Nat.le_refl _) | (with_reducible refine le_sizeG ?_) | (with_reducible refine le_sizeA ?_) | (with_reducible refine le_sizeC ?_) | (with_reducible refine le_sizeD ?_) | (with_reducible refine le_sizeN ?_) | go_size | (simp [go_sem]; done)))).mono ?_); intro e w5 hr; obtain ⟨rv5, vv5, sv5, rfl, hV5, hb5⟩ := hr; obtain ⟨va5, vc5, sa5, sc5, rfl, rfl⟩ := chV_form hV5; obtain ⟨p5, rfl⟩ := toG hb5; clear hb5; (try simp only [G_drew] at hV5))
              | ((with_reducible refine (msame_any d rv4 rv5 _ _ _ _ hsz2.out.vars hsz2.out.sts hsz2.out.lens hsz2.out.small _ (chV_keep hV4 (by first | (rw [← G_G]; exact belowG0 _ _) | (exact belowG0 _ _))) (by first | exact hV5 | (rw [← G_G]; exact hV5))).mono ?_); intro e w6 hr; obtain ⟨rfl, p6, rfl⟩ := hr.out; clear hr))
          clear M1 M2 hV4 hV5 ho hil hsz2
          rcases hm.out with hmn | ⟨hkn, hmn⟩
          · subst hmn
            clear hm
            go_wp2
            go_returns
            exact ⟨rfl, by repeat' (first | (with_reducible exact Below.refl _ _) | (with_reducible assumption) | (with_reducible refine Below.alloc ?_ ?_ _) | (with_reducible refine Below.drew ?_) | (with_reducible refine belowN ?_ _) | (with_reducible refine Below.setCell ?_ ?_ _) | (with_reducible refine belowG ?_ ?_) | (with_reducible exact Nat.le_refl _) | (with_reducible refine le_sizeG ?_) | (with_reducible refine le_sizeA ?_) | (with_reducible refine le_sizeC ?_) | (with_reducible refine le_sizeD ?_) | (with_reducible refine le_sizeN ?_) | go_size | (simp [go_sem]; done))⟩
          · subst hmn
            have e2 : ((n + 1 : Int) == n) = false := by
              rw [beq_eq_false_iff_ne]; omega
            clear hm
            go_wp2
            go_returns
            exact ⟨rfl, by repeat' (first | (with_reducible exact Below.refl _ _) | (with_reducible assumption) | (with_reducible refine Below.alloc ?_ ?_ _) | (with_reducible refine Below.drew ?_) | (with_reducible refine belowN ?_ _) | (with_reducible refine Below.setCell ?_ ?_ _) | (with_reducible refine belowG ?_ ?_) | (with_reducible exact Nat.le_refl _) | (with_reducible refine le_sizeG ?_) | (with_reducible refine le_sizeA ?_) | (with_reducible refine le_sizeC ?_) | (with_reducible refine le_sizeD ?_) | (with_reducible refine le_sizeN ?_) | go_size | (simp [go_sem]; done))⟩
theorem remarks_walk (s q : ByteArray) (k : Int) (hs : s.size ≤ 2000000) (W : World) (hw : Al W) : Calls Tryz.prog 5 #[.string s, .int .i64 k, .string q] W (Ret (.bool true) W) := by
  by_cases h : s.size ≤ 20000 ∧ (linesT s.data.toList).length < 400 ∧ 0 ≤ k ∧ k < ((linesT s.data.toList).length : Int) ∧ q.size ≤ 200
  · obtain ⟨h1, h2, h3, h4, h5⟩ := h
    obtain ⟨k, rfl⟩ : ∃ m : Nat, k = (m : Int) := ⟨k.toNat, by omega⟩
    exact remarks_main s q k W hw h1 h2 (by omega) h5
  · exact remarks_early s q k hs W hw h
end Go.Proofs.YtekfnnfphhoeoaaGreatDoor

