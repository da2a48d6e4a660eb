/- queue.Arm. -/
import Derived.Test.YthpofpndlkhciaaQC
import Derived.WalkKit
import Derived.ProofKit
import Derived.OpenShut
import Derived.Handy
import Derived.BigQuiet
import Derived.OwnWalk
import Derived.Deep.RegionHeld3
import Derived.Lib.Hide
import Derived.WalkSmall
import Derived.WalkLawsBesides
namespace Go.Proofs.Ythpofpndlkhciaa
open Go.RowKit
/-- A block of three cells. -/
theorem box3 {w : World} {b : Nat} {t : TypeId} {v0 v1 v2 : Value} (h : w.heap[b]? = some (.cells #[v0, v1, v2] t (0, 0))) : w.cell? ⟨b, 0, none⟩ = some v0 ∧ w.cell? ⟨b, 1, none⟩ = some v1 ∧ w.cell? ⟨b, 2, none⟩ = some v2 ∧ b < w.heap.size := by
  refine ⟨?_, ?_, ?_, (Array.getElem?_eq_some_iff.1 h).1⟩
  all_goals
    rw [cell_of_row w b _ _ _ _ h]
    rfl
/-- How many timers a further one stands behind. -/
def armN (t : Tm) : List Tm → Nat
  | [] => 0
  | x :: r => if ahT t x then 0 else armN t r + 1
theorem armN_le (t : Tm) : ∀ l : List Tm, armN t l ≤ l.length
  | [] => Nat.le_refl _
  | x :: r => by
    have := armN_le t r
    unfold armN
    split <;> simp <;> omega
theorem armN_low (t : Tm) : ∀ (l : List Tm) (i : Nat) (h : i < l.length), i < armN t l → ahT t l[i] = false
  | [], i, h, _ => absurd h (Nat.not_lt_zero _)
  | x :: r, i, h, hi => by
    unfold armN at hi
    split at hi
    · omega
    · rename_i hx
      cases i with
      | zero => simpa using hx
      | succ i => exact armN_low t r i (by simpa using h) (by omega)
theorem armN_at (t : Tm) : ∀ (l : List Tm) (h : armN t l < l.length), ahT t l[armN t l] = true
  | [], h => absurd h (Nat.not_lt_zero _)
  | x :: r, h => by
    by_cases hx : ahT t x = true
    · have e : armN t (x :: r) = 0 := by unfold armN; rw [if_pos hx]
      simp only [e, List.getElem_cons_zero]
      exact hx
    · have e : armN t (x :: r) = armN t r + 1 := by rw [armN, if_neg hx]
      simp only [e, List.getElem_cons_succ]
      exact armN_at t r (by rw [e] at h; simpa using h)
theorem ins_cut (t : Tm) : ∀ l : List Tm, l.take (armN t l) ++ t :: l.drop (armN t l) = insTm t l
  | [] => rfl
  | x :: r => by
    unfold armN insTm
    by_cases h : ahT t x = true
    · rw [if_pos h, if_pos h]; rfl
    · rw [if_neg h, if_neg h, List.take_succ_cons, List.drop_succ_cons, List.cons_append, ins_cut t r]
theorem insT_len (t : Tm) (l : List Tm) : (insTm t l).length = l.length + 1 := by
  rw [← ins_cut, List.length_append, List.length_cons, List.length_take, List.length_drop]
  have := armN_le t l
  omega
set_option maxRecDepth 100000 in
theorem concat3_any (g c : Nat) (o1 o2 o3 : Option Addr) (n1 n2 n3 c1 c2 c3 : Nat) (x1 x2 x3 : List Tm) (e1 : x1.length = n1) (e2 : x2.length = n2) (e3 : x3.length = n3) (hn : n1 + n2 + n3 ≤ 400) (w : World)
    (k0 : w.cell? ⟨g, 0, none⟩ = some (.slice o1 n1 c1)) (k1 : w.cell? ⟨g, 1, none⟩ = some (.slice o2 n2 c2)) (k2 : w.cell? ⟨g, 2, none⟩ = some (.slice o3 n3 c3)) (h1 : SrcAt w o1 c1 (tmsC x1)) (h2 : SrcAt w o2 c2 (tmsC x2)) (h3 : SrcAt w o3 c3 (tmsC x3)) :
    Calls Try.prog 22 #[.slice (some ⟨g, 0, none⟩) 3 c] w (RowQt (n1 + n2 + n3) (tmsC (x1 ++ x2 ++ x3)) w) := by
  subst e1 e2 e3
  have h := concatQt_any g c [⟨o1, x1.length, c1, tmsC x1⟩, ⟨o2, x2.length, c2, tmsC x2⟩, ⟨o3, x3.length, c3, tmsC x3⟩] (by simp [sumM]; omega) w (World.block_lt_of_cell? _ _ k0) (fun i hi => by
      match i, hi with
      | 0, _ => exact k0
      | 1, _ => exact k1
      | 2, _ => exact k2
      | i + 3, hi => exact absurd hi (by simp)) (fun i hi => by
      match i, hi with
      | 0, _ => exact ⟨h1, tms_len _, tms_one _⟩
      | 1, _ => exact ⟨h2, tms_len _, tms_one _⟩
      | 2, _ => exact ⟨h3, tms_len _, tms_one _⟩
      | i + 3, hi => exact absurd hi (by simp)) (by simp)
  have a1 : sumM [⟨o1, x1.length, c1, tmsC x1⟩, ⟨o2, x2.length, c2, tmsC x2⟩, ⟨o3, x3.length, c3, tmsC x3⟩] = x1.length + x2.length + x3.length := by simp [sumM]; omega
  have a2 : cellsP [⟨o1, x1.length, c1, tmsC x1⟩, ⟨o2, x2.length, c2, tmsC x2⟩, ⟨o3, x3.length, c3, tmsC x3⟩] = tmsC (x1 ++ x2 ++ x3) := by simp [cellsP, tms_append]
  rw [a1, a2] at h
  exact h
/-- What Arm answers. -/
def armL (l : List Tm) (t : Tm) : List Tm := if 8 ≤ l.length then l else insTm t l
def armE (l : List Tm) : Int := if 8 ≤ l.length then 40 else 0
def ArmIs (l : List Tm) (t : Tm) (w : World) (e : Ending) (w' : World) : Prop := ∃ ao cap, e = .returned (.tuple #[.slice ao (armL l t).length cap, .int .i64 (armE l)]) ∧ w'.ownsRow w.heap.size 33 3 (.slice ao (armL l t).length cap) (armL l t).length (tmsC (armL l t)) ∧ Below w.heap.size w w'
set_option maxRecDepth 100000 in
theorem arm_full (ao : Option Addr) (cap : Nat) (l : List Tm) (t : Tm) (h8 : 8 ≤ l.length) (h40 : l.length ≤ 40) (w : World) (h : TmsAt 33 w ao cap l) :
    Calls Try.prog 10 #[.slice ao l.length cap, tmV t] w (ArmIs l t w) := by
  have C := Lib.hid (fun wx (hb : Below w.heap.size w wx) => cloneQt_any ao l.length cap (tmsC l) (by omega) (tms_len l) (tms_one l) wx (tms_src (tms_keep h hb)))
  unfold ArmIs armL armE
  rw [if_pos h8, if_pos h8]
  have hI : (8 : Int) ≤ (l.length : Int) := by omega
  clear h
  go_enter Try.func10, Try.ntmps10
  go_wp2_with fail
  refine (C.out _ (by (first | exact gwT | exact lzT))).mono ?_
  rintro e w1 ⟨oa, oc, rfl, hown, hb⟩
  have hb' : Below w.heap.size w w1 := Below.trans (show Below w.heap.size w _ by (first | exact gwT | exact lzT)) (hb.mono (by simp))
  replace hown := Lib.hid hown
  clear C hb
  go_wp2
  go_returns
  exact ⟨oa, oc, rfl, owns_base hown.out (by simp), hb'⟩
/-- What stands ahead of a place, and behind it. -/
theorem src_take {w : World} {g n c i : Nat} {l : List Tm} (h : SrcAt w (some ⟨g, 0, none⟩) c (tmsC l)) : SrcAt w (some ⟨g, 0, none⟩) n (tmsC (l.take i)) := by
  refine ⟨fun e => (by cases e), fun hn => ?_⟩
  obtain ⟨g', o, e, hg, hc⟩ := h.2 (fun e => hn (by
    have := tms_len l
    rw [e] at this
    have : l = [] := List.eq_nil_of_length_eq_zero (by simp at this; omega)
    rw [this, List.take_nil]; rfl))
  refine ⟨g', o, e, hg, fun j u hu => hc j u ?_⟩
  have h2 : tmsC l = tmsC (l.take i) ++ tmsC (l.drop i) := by rw [← tms_append, List.take_append_drop]
  rw [h2, List.getElem?_append_left (List.getElem?_eq_some_iff.1 hu).1]
  exact hu
theorem src_drop {w : World} {g n c i : Nat} {l : List Tm} (hi : i ≤ l.length) (h : SrcAt w (some ⟨g, 0, none⟩) c (tmsC l)) : SrcAt w (some ⟨g, i * 3, none⟩) n (tmsC (l.drop i)) := by
  refine ⟨fun e => (by cases e), fun hn => ?_⟩
  obtain ⟨g', o, e, hg, hc⟩ := h.2 (fun e => hn (by
    have := tms_len l
    rw [e] at this
    have : l = [] := List.eq_nil_of_length_eq_zero (by simp at this; omega)
    rw [this, List.drop_nil]; rfl))
  cases e
  refine ⟨g, i * 3, rfl, hg, fun j u hu => ?_⟩
  have h2 : tmsC l = tmsC (l.take i) ++ tmsC (l.drop i) := by rw [← tms_append, List.take_append_drop]
  have h3 : (tmsC (l.take i)).length = i * 3 := by rw [tms_len, List.length_take, Nat.min_eq_left hi]
  have := hc (i * 3 + j) u (by rw [h2, List.getElem?_append_right (by omega), h3, show i * 3 + j - i * 3 = j by omega]; exact hu)
  rw [Nat.zero_add] at this
  exact this
theorem src_dropIf {w : World} {g n c i : Nat} {l : List Tm} (hi : i ≤ l.length) (hl : l.length ≤ c) (h : SrcAt w (some ⟨g, 0, none⟩) c (tmsC l)) : SrcAt w (if c = i then some ⟨g, 0, none⟩ else some ⟨g, i * 3, none⟩) n (tmsC (l.drop i)) := by
  by_cases e : c = i
  · rw [if_pos e, List.drop_of_length_le (by omega)]
    exact ⟨fun e => (by cases e), fun e => absurd rfl e⟩
  · rw [if_neg e]
    exact src_drop hi h
theorem src_new {w : World} {b c : Nat} {T : TypeId} {fr : Nat × Nat} {cs : Array Value} {xs : List Value} (h : w.heap[b]? = some (.cells cs T fr)) (e : cs.toList = xs) : SrcAt w (some ⟨b, 0, none⟩) c xs := by
  refine ⟨fun e => (by cases e), fun _ => ⟨b, 0, rfl, (Array.getElem?_eq_some_iff.1 h).1, fun j u hu => ?_⟩⟩
  rw [Nat.zero_add, cell_of_row w b j cs T fr h, ← hu, ← e, Array.getElem?_toList]
theorem heap_drew_old {w : World} {b : Nat} {o : Obj} (h : w.heap[b]? = some o) (o' : Obj) : (w.alloc o').drew.heap[b]? = some o := by
  have hl := (Array.getElem?_eq_some_iff.1 h).1
  show (w.heap.push o')[b]? = some o
  rw [Array.getElem?_push, if_neg (by omega), h]
theorem arm_cat (g c nb g0 cap i c2 c3 : Nat) (o3 : Option Addr) (l : List Tm) (t : Tm) (hi : i ≤ l.length) (hl : l.length ≤ cap) (h40 : l.length ≤ 40) (w : World) (h : SrcAt w (some ⟨g0, 0, none⟩) cap (tmsC l))
    (k0 : w.cell? ⟨g, 0, none⟩ = some (.slice (some ⟨g0, 0, none⟩) i cap)) (k1 : w.cell? ⟨g, 1, none⟩ = some (.slice (some ⟨nb, 0, none⟩) 1 c2)) (k2 : w.cell? ⟨g, 2, none⟩ = some (.slice o3 (l.length - i) c3)) (ho : o3 = if cap = i then some ⟨g0, 0, none⟩ else some ⟨g0, i * 3, none⟩)
    (hb : w.heap[nb]? = some (.cells #[.int .i64 t.due, .int .i64 t.seq, .string t.name] 33 (0, 0))) :
    Calls Try.prog 22 #[.slice (some ⟨g, 0, none⟩) 3 c] w (RowQt (l.length + 1) (tmsC (l.take i ++ t :: l.drop i)) w) := by
  have := concat3_any g c (some ⟨g0, 0, none⟩) (some ⟨nb, 0, none⟩) o3 i 1 (l.length - i) cap c2 c3 (l.take i) [t] (l.drop i) (by rw [List.length_take]; omega) rfl (by rw [List.length_drop]) (by omega) w k0 k1 k2 (src_take h) (src_new hb rfl) (by rw [ho]; exact src_dropIf hi hl h)
  rw [List.append_assoc, List.singleton_append, show i + 1 + (l.length - i) = l.length + 1 by omega] at this
  exact this
set_option maxRecDepth 100000 in
set_option maxHeartbeats 4000000 in
theorem arm_room (ao : Option Addr) (cap : Nat) (l : List Tm) (t : Tm) (h8 : ¬ 8 ≤ l.length) (w : World) (h : TmsAt 33 w ao cap l) :
    Calls Try.prog 10 #[.slice ao l.length cap, tmV t] w (ArmIs l t w) := by
  have O := Lib.hid (fun a wx => order_any a t wx)
  have Cc := Lib.hid (fun g c nb g0 i c2 c3 o3 hi hl wx h k0 k1 k2 ho hb => arm_cat g c nb g0 cap i c2 c3 o3 l t hi hl (by omega) wx h k0 k1 k2 ho hb)
  unfold ArmIs armL armE
  rw [if_neg h8, if_neg h8, insT_len]
  have hle := armN_le t l
  have L1 := Lib.hid (fun i h k => armN_low t l i h k)
  have L2 := Lib.hid (fun h => armN_at t l h)
  have L3 := Lib.hid (ins_cut t l)
  generalize armN t l = K at *
  have hI : ¬ (8 : Int) ≤ (l.length : Int) := by omega
  have hF := Lib.hid (tms_form h)
  have H := Lib.hid (fun wx (hb : Below w.heap.size w wx) => tms_keep h hb)
  clear h
  go_enter Try.func10, Try.ntmps10
  go_wp2
  go_loopw [6] (fun v wr => ∃ i : Nat, v = .int .i64 (i : Int) ∧ i ≤ K ∧ wr.heap[w.heap.size]? = some (.cells #[.int .i64 t.due, .int .i64 t.seq, .string t.name] 33 (0, 0)) ∧ Below w.heap.size w wr) (fun v _ => K - (intOf v).toNat)
  case atStart => exact ⟨0, rfl, Nat.zero_le _, heap_alloc_new w _, by (first | exact gwT | exact lzT)⟩
  case round =>
    obtain ⟨i, rfl, hi, hbox, hb⟩ := hrel
    rename World => wr
    have hwz := hb.size
    obtain ⟨z0, z1, z2, zl⟩ := box3 hbox
    have i2 : InW w.heap.size wr := ⟨zl⟩
    have hA := H.out wr hb
    have hS := Lib.hid (fun wx (hx : Below w.heap.size w wx) => tms_src (H.out wx hx))
    by_cases hk : i < K
    · have hlt : i < l.length := by omega
      obtain ⟨g, rfl, hg, n1, n2, n3⟩ := tm_at hA i hlt
      have hI2 : (i : Int) < (l.length : Int) := by omega
      have i1 : InW g wr := ⟨hg⟩
      have ho : ordT l[i] t ≤ 0 := (ord_ah _ _) ▸ L1.out i hlt hk
      have O1 := Lib.hid (fun wx => O.out l[i] wx)
      generalize l[i] = x at *
      generalize ordT x t = ox at *
      have hB := Lib.hid hbox
      clear L1 L2 L3 Cc H hA O hbox hS hF
      go_wp2
      (refine wp_region_G (by kernel_rfl) (by kernel_rfl) ?_; (repeat (go_big_quiet_step (exact quietG (O1.out _)))); refine wpQuiet_nil ?_; intro _ hw'; obtain ⟨pg, hw''⟩ := hw'; subst hw'')
      go_wp2
      go_roundw
      case rel => exact ⟨i + 1, by go_num, by omega, ((show Below wr.heap.size wr _ by (first | exact gwT | exact lzT)).block _ zl).trans hB.out, by (first | exact gwT | exact lzT)⟩
      case measure => simp [intOf]; omega
    · obtain rfl : i = K := by omega
      clear hk
      by_cases hlt : i < l.length
      · obtain ⟨g, rfl, hg, n1, n2, n3⟩ := tm_at hA i hlt
        have hcap : l.length ≤ cap := by
          rcases hF.out with ⟨e, _⟩ | ⟨_, _, hc, _⟩
          · cases e
          · exact hc
        have hI2 : (i : Int) < (l.length : Int) := by omega
        have i1 : InW g wr := ⟨hg⟩
        have ho : ¬ ordT l[i] t ≤ 0 := fun hx => by
          rw [ord_ah] at hx
          rw [L2.out hlt] at hx
          cases hx
        have O1 := Lib.hid (fun wx => O.out l[i] wx)
        generalize l[i] = x at *
        generalize ordT x t = ox at *
        have hB := Lib.hid hbox
        clear L1 L2 H hA O hbox hF
        go_wp2
        (refine wp_region_G (by kernel_rfl) (by kernel_rfl) ?_; (repeat (go_big_quiet_step (exact quietG (O1.out _)))); refine wpQuiet_nil ?_; intro _ hw'; obtain ⟨pg, hw''⟩ := hw'; subst hw'')
        go_wp2
        have hI3 : (i : Int) ≤ (cap : Int) := by omega
        have hi2 : i ≤ l.length := by omega
        have hI4 : (l.length : Int) ≤ (cap : Int) := by omega
        have hI5 : (i : Int) ≤ (l.length : Int) := by omega
        go_region_held3 (fun w' => w'.cell? ⟨w.heap.size, 0, none⟩ = some (.int .i64 t.due) ∧ w'.cell? ⟨w.heap.size, 1, none⟩ = some (.int .i64 t.seq) ∧ w'.cell? ⟨w.heap.size, 2, none⟩ = some (.string t.name)) ((refine ⟨?_, ?_, ?_⟩ <;> first | assumption | (simp [go_sem, *]; done)))
          (first
            | ((with_reducible refine (Cc.out _ _ (G pg wr).heap.size g i 1 (cap - i) (if cap = i then some ⟨g, 0, none⟩ else some ⟨g, i * 3, none⟩) hi2 hcap _ ?_ ?_ ?_ ?_ rfl ?_).mono ?_); (focus (exact hS.out _ (by (first | exact gwT | exact lzT)))); (focus (simp [go_sem])); (focus (simp [go_sem])); (focus (simp [go_sem])); (focus (exact (heap_drew_old (heap_alloc_new _ _) _))); rintro e w1 ⟨oa, oc, rfl, hown, hb1⟩; have hbr : Below wr.heap.size wr w1 := Below.trans (show Below wr.heap.size wr _ by (first | exact gwT | exact lzT)) (hb1.mono (by (first | exact gwT | exact lzT))); have q0 := (hbr.cell (p := ⟨w.heap.size, 0, none⟩) zl).trans z0; have q1 := (hbr.cell (p := ⟨w.heap.size, 1, none⟩) zl).trans z1; have q2 := (hbr.cell (p := ⟨w.heap.size, 2, none⟩) zl).trans z2; have hO := Lib.hid hown; clear hown hb1))
        go_wp2
        go_returns
        exact ⟨oa, oc, rfl, by rw [← L3.out]; exact owns_base hO.out (by (first | exact gwT | exact lzT)), hb.trans (hbr.mono hwz)⟩
      · have hI2 : ¬ (i : Int) < (l.length : Int) := by omega
        have hB := Lib.hid hbox
        have hF' := hF.out
        clear L1 L2 H hA O hbox hF
        rcases hF' with ⟨rfl, rfl, rfl⟩ | ⟨g, rfl, hcap, hmx⟩
        · obtain rfl : i = 0 := by simp at hle; omega
          have C0 := Lib.hid (fun g c nb c2 wx k0 k1 k2 h2 => concat3_any g c none (some ⟨nb, 0, none⟩) none 0 1 0 0 c2 0 [] [t] [] rfl rfl rfl (by decide) wx k0 k1 k2 ⟨fun _ => ⟨rfl, rfl⟩, fun h => absurd rfl h⟩ h2 ⟨fun _ => ⟨rfl, rfl⟩, fun h => absurd rfl h⟩)
          clear Cc hS
          go_wp2
          (refine wp_region_G (by kernel_rfl) (by kernel_rfl) ?_; (repeat (go_big_quiet_step (fail))); refine wpQuiet_nil ?_; intro _ hw'; obtain ⟨pg, hw''⟩ := hw'; subst hw'')
          go_wp2
          go_region_held3 (fun w' => w'.cell? ⟨w.heap.size, 0, none⟩ = some (.int .i64 t.due) ∧ w'.cell? ⟨w.heap.size, 1, none⟩ = some (.int .i64 t.seq) ∧ w'.cell? ⟨w.heap.size, 2, none⟩ = some (.string t.name)) ((refine ⟨?_, ?_, ?_⟩ <;> first | assumption | (simp [go_sem, *]; done)))
            (first
              | ((with_reducible refine (C0.out _ _ (G pg wr).heap.size 1 _ ?_ ?_ ?_ ?_).mono ?_); (focus (simp [go_sem])); (focus (simp [go_sem])); (focus (simp [go_sem])); (focus (exact src_new (heap_drew_old (heap_alloc_new _ _) _) rfl)); rintro e w1 ⟨oa, oc, rfl, hown, hb1⟩; have hbr : Below wr.heap.size wr w1 := Below.trans (show Below wr.heap.size wr _ by (first | exact gwT | exact lzT)) (hb1.mono (by (first | exact gwT | exact lzT))); have q0 := (hbr.cell (p := ⟨w.heap.size, 0, none⟩) zl).trans z0; have q1 := (hbr.cell (p := ⟨w.heap.size, 1, none⟩) zl).trans z1; have q2 := (hbr.cell (p := ⟨w.heap.size, 2, none⟩) zl).trans z2; have hO := Lib.hid hown; clear hown hb1))
          go_wp2
          go_returns
          exact ⟨oa, oc, rfl, owns_base hO.out (by (first | exact gwT | exact lzT)), hb.trans (hbr.mono hwz)⟩
        · by_cases hci : cap = i
          · obtain rfl : i = cap := hci.symm
            go_wp2
            (refine wp_region_G (by kernel_rfl) (by kernel_rfl) ?_; (repeat (go_big_quiet_step (fail))); refine wpQuiet_nil ?_; intro _ hw'; obtain ⟨pg, hw''⟩ := hw'; subst hw'')
            go_wp2
            have hI3 : (i : Int) ≤ (i : Int) := by omega
            have hi2 : i ≤ l.length := by omega
            have hI4 : (l.length : Int) ≤ (i : Int) := by omega
            have hI5 : (i : Int) ≤ (l.length : Int) := by omega
            go_region_held3 (fun w' => w'.cell? ⟨w.heap.size, 0, none⟩ = some (.int .i64 t.due) ∧ w'.cell? ⟨w.heap.size, 1, none⟩ = some (.int .i64 t.seq) ∧ w'.cell? ⟨w.heap.size, 2, none⟩ = some (.string t.name)) ((refine ⟨?_, ?_, ?_⟩ <;> first | assumption | (simp [go_sem, *]; done)))
              (first
                | ((with_reducible refine (Cc.out _ _ (G pg wr).heap.size g i 1 (i - i) (some ⟨g, 0, none⟩) hi2 hcap _ ?_ ?_ ?_ ?_ (by rw [if_pos rfl]) ?_).mono ?_); (focus (exact hS.out _ (by (first | exact gwT | exact lzT)))); (focus (simp [go_sem])); (focus (simp [go_sem])); (focus (simp [go_sem]; try omega)); (focus (exact (heap_drew_old (heap_alloc_new _ _) _))); rintro e w1 ⟨oa, oc, rfl, hown, hb1⟩; have hbr : Below wr.heap.size wr w1 := Below.trans (show Below wr.heap.size wr _ by (first | exact gwT | exact lzT)) (hb1.mono (by (first | exact gwT | exact lzT))); have q0 := (hbr.cell (p := ⟨w.heap.size, 0, none⟩) zl).trans z0; have q1 := (hbr.cell (p := ⟨w.heap.size, 1, none⟩) zl).trans z1; have q2 := (hbr.cell (p := ⟨w.heap.size, 2, none⟩) zl).trans z2; have hO := Lib.hid hown; clear hown hb1))
            go_wp2
            go_returns
            exact ⟨oa, oc, rfl, by rw [← L3.out]; exact owns_base hO.out (by (first | exact gwT | exact lzT)), hb.trans (hbr.mono hwz)⟩
          · have hcl : i < cap := by omega
            go_wp2
            (refine wp_region_G (by kernel_rfl) (by kernel_rfl) ?_; (repeat (go_big_quiet_step (fail))); refine wpQuiet_nil ?_; intro _ hw'; obtain ⟨pg, hw''⟩ := hw'; subst hw'')
            go_wp2
            have hI3 : (i : Int) ≤ (cap : Int) := by omega
            have hi2 : i ≤ l.length := by omega
            have hI4 : (l.length : Int) ≤ (cap : Int) := by omega
            have hI5 : (i : Int) ≤ (l.length : Int) := by omega
            go_region_held3 (fun w' => w'.cell? ⟨w.heap.size, 0, none⟩ = some (.int .i64 t.due) ∧ w'.cell? ⟨w.heap.size, 1, none⟩ = some (.int .i64 t.seq) ∧ w'.cell? ⟨w.heap.size, 2, none⟩ = some (.string t.name)) ((refine ⟨?_, ?_, ?_⟩ <;> first | assumption | (simp [go_sem, *]; done)))
              (first
                | ((with_reducible refine (Cc.out _ _ (G pg wr).heap.size g i 1 (cap - i) (some ⟨g, i * 3, none⟩) hi2 hcap _ ?_ ?_ ?_ ?_ (by rw [if_neg hci]) ?_).mono ?_); (focus (exact hS.out _ (by (first | exact gwT | exact lzT)))); (focus (simp [go_sem])); (focus (simp [go_sem])); (focus (simp [go_sem])); (focus (exact (heap_drew_old (heap_alloc_new _ _) _))); rintro e w1 ⟨oa, oc, rfl, hown, hb1⟩; have hbr : Below wr.heap.size wr w1 := Below.trans (show Below wr.heap.size wr _ by (first | exact gwT | exact lzT)) (hb1.mono (by (first | exact gwT | exact lzT))); have q0 := (hbr.cell (p := ⟨w.heap.size, 0, none⟩) zl).trans z0; have q1 := (hbr.cell (p := ⟨w.heap.size, 1, none⟩) zl).trans z1; have q2 := (hbr.cell (p := ⟨w.heap.size, 2, none⟩) zl).trans z2; have hO := Lib.hid hown; clear hown hb1))
            go_wp2
            go_returns
            exact ⟨oa, oc, rfl, by rw [← L3.out]; exact owns_base hO.out (by (first | exact gwT | exact lzT)), hb.trans (hbr.mono hwz)⟩
theorem arm_any (ao : Option Addr) (cap : Nat) (l : List Tm) (t : Tm) (h40 : l.length ≤ 40) (w : World) (h : TmsAt 33 w ao cap l) : Calls Try.prog 10 #[.slice ao l.length cap, tmV t] w (ArmIs l t w) := by
  by_cases h8 : 8 ≤ l.length
  · exact arm_full ao cap l t h8 h40 w h
  · exact arm_room ao cap l t h8 w h
end Go.Proofs.Ythpofpndlkhciaa

