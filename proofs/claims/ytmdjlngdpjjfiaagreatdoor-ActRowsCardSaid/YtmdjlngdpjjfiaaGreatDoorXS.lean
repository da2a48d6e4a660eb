/- How an expression is shown: a node. -/
import Derived.Test.YtmdjlngdpjjfiaaGreatDoorY3
import Derived.Test.YtmdjlngdpjjfiaaGreatDoorY5
import Derived.Test.YtmdjlngdpjjfiaaGreatDoorZ4
import Derived.WalkKit
import Derived.ProofKit
import Derived.OpenShut
import Derived.Handy
import Derived.BigQuiet
import Derived.Lib.Hide
import Derived.WalkSmall
import Derived.WalkLawsBesides
namespace Go.Proofs.YtmdjlngdpjjfiaaGreatDoor
open Go.RowKit
def nd0 : Nd := ⟨0, 0, 0, [], [], 0, 0⟩
def partB (ns : List Nd) (ts : List ByteArray) (a : Nat) (least : Int) : ByteArray := if tightI (ns.getD a nd0).op < least then ((⟨#[40]⟩ : ByteArray) ++ ts.getD a ⟨#[]⟩) ++ ⟨#[41]⟩ else ts.getD a ⟨#[]⟩
def showB (ns : List Nd) (ts : List ByteArray) (n : Nd) : ByteArray :=
  if n.op = 0 then showS n.k n.n ⟨n.s.toArray⟩ else if n.op = 16 then ⟨n.name.toArray⟩ else if n.op = 17 then ((⟨#[105, 110, 40]⟩ : ByteArray) ++ ⟨n.name.toArray⟩) ++ ⟨#[41]⟩
  else if n.op = 1 then (⟨#[110, 111, 116, 32]⟩ : ByteArray) ++ partB ns ts n.l.toNat 6 else if n.op = 2 then (⟨#[45]⟩ : ByteArray) ++ partB ns ts n.l.toNat 6
  else (((partB ns ts n.l.toNat (leftI n.op) ++ ⟨#[32]⟩) ++ ⟨(signL.getD n.op.toNat []).toArray⟩) ++ ⟨#[32]⟩) ++ partB ns ts n.r.toNat (tightI n.op + 1)
/-- Texts lie in a block. -/
def TxtAt (w : World) (tg : Nat) (ts : List ByteArray) : Prop := ∀ j (h : j < ts.length), w.cell? ⟨tg, j, none⟩ = some (.string ts[j])
theorem part_size {ns : List Nd} {ts : List ByteArray} {a : Nat} {least : Int} (ha : a < ts.length) (h : ∀ t ∈ ts, t.size ≤ 2000000) : (partB ns ts a least).size ≤ 2000002 := by
  have e : ts.getD a ⟨#[]⟩ = ts[a] := by rw [List.getD_eq_getElem?_getD, List.getElem?_eq_getElem ha, Option.getD_some]
  have := h _ (List.getElem_mem ha)
  unfold partB
  rw [e]
  split
  · rw [ByteArray.size_append, ByteArray.size_append]
    show 1 + ts[a].size + 1 ≤ _
    omega
  · omega
set_option maxRecDepth 100000 in
theorem part_any (ao : Option Addr) (cap : Nat) (ns : List Nd) (w : World) (hns : NdsAt w ao ns) (tg m tc : Nat) (ts : List ByteArray) (htg : TxtAt w tg ts) (htl : tg < w.heap.size) (b3 b5 : Nat) (h3 : b3 < w.heap.size) (h5 : b5 < w.heap.size)
    (c3 : w.cell? ⟨b3, 0, none⟩ = some (.slice ao ns.length cap)) (c5 : w.cell? ⟨b5, 0, none⟩ = some (.slice (some ⟨tg, 0, none⟩) m tc)) (a : Nat) (ha : a < ts.length) (hal : a < ns.length) (ham : a < m) (hsz : ∀ t ∈ ts, t.size ≤ 2000000) (least : Int) :
    Calls Tryz.prog 79 #[.int .i64 (a : Int), .int .i64 least, .pointer (some ⟨b3, 0, none⟩), .pointer (some ⟨b5, 0, none⟩)] w (RetW (.string (partB ns ts a least)) w) := by
  obtain ⟨g, o, rfl, hg, hc⟩ := hns (by omega)
  obtain ⟨n1, _⟩ := hc a hal
  have t1 := htg a ha
  have hts := hsz _ (List.getElem_mem ha)
  have e1 : ts.getD a ⟨#[]⟩ = ts[a] := by rw [List.getD_eq_getElem?_getD, List.getElem?_eq_getElem ha, Option.getD_some]
  have e2 : (ns.getD a nd0).op = ns[a].op := by rw [List.getD_eq_getElem?_getD, List.getElem?_eq_getElem hal, Option.getD_some]
  unfold partB
  rw [e1, e2]
  generalize ts[a] = t at *
  generalize ns[a].op = op at *
  have T := fun wx => Lib.hid (tight_any op wx)
  generalize tightI op = tt at *
  replace T := Lib.hid T
  have i1 : InW b3 w := ⟨h3⟩
  have i2 : InW b5 w := ⟨h5⟩
  have i3 : InW g w := ⟨hg⟩
  have i4 : InW tg w := ⟨htl⟩
  have hI1 : (a : Int) < (ns.length : Int) := by omega
  have hI2 : (a : Int) < (m : Int) := by omega
  clear hc htg hsz e1 e2 hns
  by_cases hlt : tt < least
  · rw [if_pos hlt]
    go_enter Tryz.func79, Tryz.ntmps79
    go_wp2_with ((with_reducible refine ((T.out _).out).mono ?_); rintro e w1 ⟨rfl, rfl⟩)
    go_returns
    exact ⟨rfl, rfl⟩
  · rw [if_neg hlt]
    go_enter Tryz.func79, Tryz.ntmps79
    go_wp2_with ((with_reducible refine ((T.out _).out).mono ?_); rintro e w1 ⟨rfl, rfl⟩)
    go_returns
    exact ⟨rfl, rfl⟩
/-- What showing a node asks of it, where texts are there. -/
structure ShowOk (ns : List Nd) (ts : List ByteArray) (n : Nd) : Prop where
  range : n.op = 0 ∨ (1 ≤ n.op ∧ n.op ≤ 15) ∨ n.op = 16 ∨ n.op = 17
  lit : n.op = 0 → rightB n.k n.n ⟨n.s.toArray⟩ = true ∧ I64 n.n
  l : 1 ≤ n.op → n.op ≤ 15 → ∃ a : Nat, n.l = a ∧ a < ts.length
  r : 3 ≤ n.op → n.op ≤ 15 → ∃ a : Nat, n.r = a ∧ a < ts.length
  name : n.name.length ≤ 2000000
theorem sign_size (i : Nat) : (⟨(signL.getD i []).toArray⟩ : ByteArray).size ≤ 3 := by
  rw [Lib.size_eq]
  have h : i < 16 ∨ 16 ≤ i := by omega
  rcases h with h | h
  · have h : ∀ k, k < 16 → k = 0 ∨ k = 1 ∨ k = 2 ∨ k = 3 ∨ k = 4 ∨ k = 5 ∨ k = 6 ∨ k = 7 ∨ k = 8 ∨ k = 9 ∨ k = 10 ∨ k = 11 ∨ k = 12 ∨ k = 13 ∨ k = 14 ∨ k = 15 := by omega
    rcases h i ‹_› with rfl | rfl | rfl | rfl | rfl | rfl | rfl | rfl | rfl | rfl | rfl | rfl | rfl | rfl | rfl | rfl <;> decide
  · have : signL.getD i [] = [] := by rw [List.getD_eq_getElem?_getD, List.getElem?_eq_none (by simpa [signL] using h)]; rfl
    rw [this]
    decide
set_option maxRecDepth 100000 in
set_option maxHeartbeats 2000000 in
theorem eshow_any (ao : Option Addr) (cap : Nat) (ns : List Nd) (n : Nd) (w : World) (hns : NdsAt w ao ns) (tg m tc : Nat) (ts : List ByteArray) (htg : TxtAt w tg ts) (htl : tg < w.heap.size) (hl1 : ts.length ≤ ns.length) (hl2 : ts.length ≤ m)
    (hsz : ∀ t ∈ ts, t.size ≤ 2000000) (ok : ShowOk ns ts n) (hT : Tab w) (hE : Eg w) :
    Calls Tryz.prog 62 #[.slice ao ns.length cap, ndV n, .slice (some ⟨tg, 0, none⟩) m tc] w (Ret (.string (showB ns ts n)) w) := by
  have PP := fun wx (hk : Below w.heap.size w wx) b3 b5 (h3 : b3 < wx.heap.size) (h5 : b5 < wx.heap.size) c3 c5 a (ha : a < ts.length) least => Lib.hid (part_any ao cap ns wx (nds_below hns hk) tg m tc ts (fun j hj => (hk.cell (p := ⟨tg, j, none⟩) htl).trans (htg j hj)) (Nat.lt_of_lt_of_le htl hk.size) b3 b5 h3 h5 c3 c5 a ha (by omega) (by omega) hsz least)
  have hps := fun a (ha : a < ts.length) least => part_size (ns := ns) (least := least) ha hsz
  have hgl := eg_lt hE
  have SG := Lib.hid (fun i (hi : i < 16) => eg_cell hE i hi)
  have hmf : ∀ (fn : Fn) (first cap : Array Value) (w : World), (Instr.makeFunc fn first cap).run Tryz.prog w = .ok (.func fn first cap) w := fun _ _ _ _ => rfl
  replace PP := Lib.hid PP
  replace hps := Lib.hid hps
  have hnn := ok.name
  unfold ndV
  rcases ok.range with h0 | ⟨h1, h15⟩ | h16 | h17
  · obtain ⟨hr, hi⟩ := ok.lit h0
    have V := fun wx (hk : Below w.heap.size w wx) => Lib.hid (show_any n.k n.n ⟨n.s.toArray⟩ hr hi wx (tab_below hT hk))
    have e : showB ns ts n = showS n.k n.n ⟨n.s.toArray⟩ := by unfold showB; rw [if_pos h0]
    rw [e, h0]
    generalize showS n.k n.n ⟨n.s.toArray⟩ = z at *
    replace V := Lib.hid V
    clear e hns htg hsz ok hT hE hps PP hr hi h0
    go_enter Tryz.func62, Tryz.ntmps62
    go_wp2_with ((with_reducible refine ((V.out _ (by repeat' (first | (with_reducible exact Below.refl _ _) | (with_reducible assumption) | (with_reducible refine Below.alloc ?_ ?_ _) | (with_reducible refine Below.drew ?_) | (with_reducible refine belowN ?_ _) | (with_reducible refine Below.setCell ?_ ?_ _) | (with_reducible refine belowG ?_ ?_) | (with_reducible exact Nat.le_refl _) | (with_reducible refine le_sizeG ?_) | (with_reducible refine le_sizeA ?_) | (with_reducible refine le_sizeC ?_) | (with_reducible refine le_sizeD ?_) | (with_reducible refine le_sizeN ?_) | go_size | (simp [go_sem]; done)))).out).mono ?_); intro e w1 hr; obtain ⟨rfl, p, rfl⟩ := hr.out; clear hr)
    go_returns
    exact ⟨rfl, by repeat' (first | (with_reducible exact Below.refl _ _) | (with_reducible assumption) | (with_reducible refine Below.alloc ?_ ?_ _) | (with_reducible refine Below.drew ?_) | (with_reducible refine belowN ?_ _) | (with_reducible refine Below.setCell ?_ ?_ _) | (with_reducible refine belowG ?_ ?_) | (with_reducible exact Nat.le_refl _) | (with_reducible refine le_sizeG ?_) | (with_reducible refine le_sizeA ?_) | (with_reducible refine le_sizeC ?_) | (with_reducible refine le_sizeD ?_) | (with_reducible refine le_sizeN ?_) | go_size | (simp [go_sem]; done))⟩
  · obtain ⟨la, hla, hlt⟩ := ok.l h1 h15
    obtain ⟨k, hk⟩ : ∃ k : Nat, n.op = (k : Int) := ⟨n.op.toNat, by omega⟩
    have hk15 : k ≤ 15 := by omega
    have hk1 : 1 ≤ k := by omega
    by_cases hk3 : 3 ≤ k
    · obtain ⟨ra, hra, hrt⟩ := ok.r (by omega) h15
      have e : showB ns ts n = (((partB ns ts la (leftI (k : Int)) ++ ⟨#[32]⟩) ++ ⟨(signL.getD k []).toArray⟩) ++ ⟨#[32]⟩) ++ partB ns ts ra (tightI (k : Int) + 1) := by
        unfold showB
        rw [if_neg (by omega), if_neg (by omega), if_neg (by omega), if_neg (by omega), if_neg (by omega), hla, hra, hk]
        rfl
      rw [e, hk, hla, hra]
      have sg := SG.out k (by omega)
      have sz := sign_size k
      generalize (⟨(signL.getD k []).toArray⟩ : ByteArray) = x at *
      have Lf := fun wx => Lib.hid (left_any (k : Int) wx)
      have Tg := fun wx => Lib.hid (tight_any (k : Int) wx)
      have hti : tightI (k : Int) ≤ 6 ∧ 0 ≤ tightI (k : Int) := by
        unfold tightI
        (repeat' split) <;> omega
      obtain ⟨lf, hlf⟩ : ∃ x, leftI (k : Int) = x := ⟨_, rfl⟩
      obtain ⟨tt, htt⟩ : ∃ x, tightI (k : Int) = x := ⟨_, rfl⟩
      rw [hlf] at Lf ⊢
      rw [htt] at Tg hti ⊢
      replace Lf := Lib.hid Lf
      replace Tg := Lib.hid Tg
      have P1 := fun wx hb b3 b5 h3 h5 c3 c5 => PP.out wx hb b3 b5 h3 h5 c3 c5 la hlt lf
      have P2 := fun wx hb b3 b5 h3 h5 c3 c5 => PP.out wx hb b3 b5 h3 h5 c3 c5 ra hrt (tt + 1)
      have s1 := hps.out la hlt lf
      have s2 := hps.out ra hrt (tt + 1)
      generalize partB ns ts la lf = y1 at *
      generalize partB ns ts ra (tt + 1) = y2 at *
      replace P1 := Lib.hid P1
      replace P2 := Lib.hid P2
      have b0 : ((k : Int) == 0) = false := by rw [beq_eq_false_iff_ne]; omega
      have b1 : ((k : Int) == 1) = false := by rw [beq_eq_false_iff_ne]; omega
      have b2 : ((k : Int) == 2) = false := by rw [beq_eq_false_iff_ne]; omega
      have b16 : ((k : Int) == 16) = false := by rw [beq_eq_false_iff_ne]; omega
      have b17 : ((k : Int) == 17) = false := by rw [beq_eq_false_iff_ne]; omega
      have hk16 : (k : Int) < 16 := by omega
      have i9 : InW 2 w := ⟨hgl⟩
      have Q1 := Lib.hid (fun p => P1.out (G p (((w.alloc (.cells #[.slice ao ns.length cap] 36)).alloc (.cells #[.int .i64 (k : Int), .int .i64 n.k, .int .i64 n.n, .string ⟨n.s.toArray⟩, .string ⟨n.name.toArray⟩, .int .i64 (la : Int), .int .i64 (ra : Int)] 80)).alloc (.cells #[.slice (some ⟨tg, 0, none⟩) m tc] 55))) (by repeat' (first | (with_reducible exact Below.refl _ _) | (with_reducible assumption) | (with_reducible refine Below.alloc ?_ ?_ _) | (with_reducible refine Below.drew ?_) | (with_reducible refine belowN ?_ _) | (with_reducible refine Below.setCell ?_ ?_ _) | (with_reducible refine belowG ?_ ?_) | (with_reducible exact Nat.le_refl _) | (with_reducible refine le_sizeG ?_) | (with_reducible refine le_sizeA ?_) | (with_reducible refine le_sizeC ?_) | (with_reducible refine le_sizeD ?_) | (with_reducible refine le_sizeN ?_) | go_size | (simp [go_sem]; done))) w.heap.size (w.heap.size + 1 + 1) (by simp [go_sem]) (by simp [go_sem]) (by simp [go_sem]) (by simp [go_sem]))
      have Q2 := Lib.hid (fun p => P2.out (G p (((w.alloc (.cells #[.slice ao ns.length cap] 36)).alloc (.cells #[.int .i64 (k : Int), .int .i64 n.k, .int .i64 n.n, .string ⟨n.s.toArray⟩, .string ⟨n.name.toArray⟩, .int .i64 (la : Int), .int .i64 (ra : Int)] 80)).alloc (.cells #[.slice (some ⟨tg, 0, none⟩) m tc] 55))) (by repeat' (first | (with_reducible exact Below.refl _ _) | (with_reducible assumption) | (with_reducible refine Below.alloc ?_ ?_ _) | (with_reducible refine Below.drew ?_) | (with_reducible refine belowN ?_ _) | (with_reducible refine Below.setCell ?_ ?_ _) | (with_reducible refine belowG ?_ ?_) | (with_reducible exact Nat.le_refl _) | (with_reducible refine le_sizeG ?_) | (with_reducible refine le_sizeA ?_) | (with_reducible refine le_sizeC ?_) | (with_reducible refine le_sizeD ?_) | (with_reducible refine le_sizeN ?_) | go_size | (simp [go_sem]; done))) w.heap.size (w.heap.size + 1 + 1) (by simp [go_sem]) (by simp [go_sem]) (by simp [go_sem]) (by simp [go_sem]))
      clear e hns htg hsz ok hT hE hps PP SG hlf htt hk P1 P2
      go_enter Tryz.func62, Tryz.ntmps62
      go_wp2_with fail
      (refine wp_region_G (by kernel_rfl) (by kernel_rfl) ?_; (repeat (go_big_quiet_step (first | (with_reducible exact quietGW ((Lf.out _).out)) | (with_reducible exact quietGW ((Tg.out _).out)) | (with_reducible exact quietGW ((Q1.out _).out)) | (with_reducible exact quietGW ((Q2.out _).out))))); refine wpQuiet_nil ?_; intro _ hw'; obtain ⟨pg, hw''⟩ := hw'; subst hw'')
      go_wp2
      go_returns
      exact ⟨rfl, by repeat' (first | (with_reducible exact Below.refl _ _) | (with_reducible assumption) | (with_reducible refine Below.alloc ?_ ?_ _) | (with_reducible refine Below.drew ?_) | (with_reducible refine belowN ?_ _) | (with_reducible refine Below.setCell ?_ ?_ _) | (with_reducible refine belowG ?_ ?_) | (with_reducible exact Nat.le_refl _) | (with_reducible refine le_sizeG ?_) | (with_reducible refine le_sizeA ?_) | (with_reducible refine le_sizeC ?_) | (with_reducible refine le_sizeD ?_) | (with_reducible refine le_sizeN ?_) | go_size | (simp [go_sem]; done))⟩
    · have s1 := hps.out la hlt 6
      have P1 := fun wx hb b3 b5 h3 h5 c3 c5 => PP.out wx hb b3 b5 h3 h5 c3 c5 la hlt 6
      rcases (by omega : k = 1 ∨ k = 2) with rfl | rfl
      · have e : showB ns ts n = (⟨#[110, 111, 116, 32]⟩ : ByteArray) ++ partB ns ts la 6 := by
          unfold showB
          rw [if_neg (by omega), if_neg (by omega), if_neg (by omega), if_pos (by omega), hla]
          rfl
        have hk' : n.op = 1 := hk
        rw [e, hk', hla]
        generalize partB ns ts la 6 = y1 at *
        replace P1 := Lib.hid P1
        have Q1 := Lib.hid (P1.out (((w.alloc (.cells #[.slice ao ns.length cap] 36)).alloc (.cells #[.int .i64 1, .int .i64 n.k, .int .i64 n.n, .string ⟨n.s.toArray⟩, .string ⟨n.name.toArray⟩, .int .i64 (la : Int), .int .i64 n.r] 80)).alloc (.cells #[.slice (some ⟨tg, 0, none⟩) m tc] 55)) (by repeat' (first | (with_reducible exact Below.refl _ _) | (with_reducible assumption) | (with_reducible refine Below.alloc ?_ ?_ _) | (with_reducible refine Below.drew ?_) | (with_reducible refine belowN ?_ _) | (with_reducible refine Below.setCell ?_ ?_ _) | (with_reducible refine belowG ?_ ?_) | (with_reducible exact Nat.le_refl _) | (with_reducible refine le_sizeG ?_) | (with_reducible refine le_sizeA ?_) | (with_reducible refine le_sizeC ?_) | (with_reducible refine le_sizeD ?_) | (with_reducible refine le_sizeN ?_) | go_size | (simp [go_sem]; done))) w.heap.size (w.heap.size + 1 + 1) (by simp [go_sem]) (by simp [go_sem]) (by simp [go_sem]) (by simp [go_sem]))
        clear e hns htg hsz ok hT hE hps PP SG hk hk' P1
        go_enter Tryz.func62, Tryz.ntmps62
        go_wp2_with ((with_reducible refine (Q1.out.out).mono ?_); rintro e w1 ⟨rfl, rfl⟩)
        go_returns
        exact ⟨rfl, by repeat' (first | (with_reducible exact Below.refl _ _) | (with_reducible assumption) | (with_reducible refine Below.alloc ?_ ?_ _) | (with_reducible refine Below.drew ?_) | (with_reducible refine belowN ?_ _) | (with_reducible refine Below.setCell ?_ ?_ _) | (with_reducible refine belowG ?_ ?_) | (with_reducible exact Nat.le_refl _) | (with_reducible refine le_sizeG ?_) | (with_reducible refine le_sizeA ?_) | (with_reducible refine le_sizeC ?_) | (with_reducible refine le_sizeD ?_) | (with_reducible refine le_sizeN ?_) | go_size | (simp [go_sem]; done))⟩
      · have e : showB ns ts n = (⟨#[45]⟩ : ByteArray) ++ partB ns ts la 6 := by
          unfold showB
          rw [if_neg (by omega), if_neg (by omega), if_neg (by omega), if_neg (by omega), if_pos (by omega), hla]
          rfl
        have hk' : n.op = 2 := hk
        rw [e, hk', hla]
        generalize partB ns ts la 6 = y1 at *
        replace P1 := Lib.hid P1
        have Q1 := Lib.hid (P1.out (((w.alloc (.cells #[.slice ao ns.length cap] 36)).alloc (.cells #[.int .i64 2, .int .i64 n.k, .int .i64 n.n, .string ⟨n.s.toArray⟩, .string ⟨n.name.toArray⟩, .int .i64 (la : Int), .int .i64 n.r] 80)).alloc (.cells #[.slice (some ⟨tg, 0, none⟩) m tc] 55)) (by repeat' (first | (with_reducible exact Below.refl _ _) | (with_reducible assumption) | (with_reducible refine Below.alloc ?_ ?_ _) | (with_reducible refine Below.drew ?_) | (with_reducible refine belowN ?_ _) | (with_reducible refine Below.setCell ?_ ?_ _) | (with_reducible refine belowG ?_ ?_) | (with_reducible exact Nat.le_refl _) | (with_reducible refine le_sizeG ?_) | (with_reducible refine le_sizeA ?_) | (with_reducible refine le_sizeC ?_) | (with_reducible refine le_sizeD ?_) | (with_reducible refine le_sizeN ?_) | go_size | (simp [go_sem]; done))) w.heap.size (w.heap.size + 1 + 1) (by simp [go_sem]) (by simp [go_sem]) (by simp [go_sem]) (by simp [go_sem]))
        clear e hns htg hsz ok hT hE hps PP SG hk hk' P1
        go_enter Tryz.func62, Tryz.ntmps62
        go_wp2_with ((with_reducible refine (Q1.out.out).mono ?_); rintro e w1 ⟨rfl, rfl⟩)
        go_returns
        exact ⟨rfl, by repeat' (first | (with_reducible exact Below.refl _ _) | (with_reducible assumption) | (with_reducible refine Below.alloc ?_ ?_ _) | (with_reducible refine Below.drew ?_) | (with_reducible refine belowN ?_ _) | (with_reducible refine Below.setCell ?_ ?_ _) | (with_reducible refine belowG ?_ ?_) | (with_reducible exact Nat.le_refl _) | (with_reducible refine le_sizeG ?_) | (with_reducible refine le_sizeA ?_) | (with_reducible refine le_sizeC ?_) | (with_reducible refine le_sizeD ?_) | (with_reducible refine le_sizeN ?_) | go_size | (simp [go_sem]; done))⟩
  · have e : showB ns ts n = ⟨n.name.toArray⟩ := by unfold showB; rw [if_neg (by omega), if_pos h16]
    rw [e, h16]
    clear e hns htg hsz ok hT hE hps PP h16
    go_enter Tryz.func62, Tryz.ntmps62
    go_wp2
    go_returns
    exact ⟨rfl, by repeat' (first | (with_reducible exact Below.refl _ _) | (with_reducible assumption) | (with_reducible refine Below.alloc ?_ ?_ _) | (with_reducible refine Below.drew ?_) | (with_reducible refine belowN ?_ _) | (with_reducible refine Below.setCell ?_ ?_ _) | (with_reducible refine belowG ?_ ?_) | (with_reducible exact Nat.le_refl _) | (with_reducible refine le_sizeG ?_) | (with_reducible refine le_sizeA ?_) | (with_reducible refine le_sizeC ?_) | (with_reducible refine le_sizeD ?_) | (with_reducible refine le_sizeN ?_) | go_size | (simp [go_sem]; done))⟩
  · have e : showB ns ts n = ((⟨#[105, 110, 40]⟩ : ByteArray) ++ ⟨n.name.toArray⟩) ++ ⟨#[41]⟩ := by unfold showB; rw [if_neg (by omega), if_neg (by omega), if_pos h17]
    rw [e, h17]
    have hz : (⟨n.name.toArray⟩ : ByteArray).size ≤ 2000000 := by rw [Lib.size_eq]; simpa using hnn
    generalize (⟨n.name.toArray⟩ : ByteArray) = z at *
    clear e hns htg hsz ok hT hE hps PP h17
    go_enter Tryz.func62, Tryz.ntmps62
    go_wp2
    go_returns
    exact ⟨rfl, by repeat' (first | (with_reducible exact Below.refl _ _) | (with_reducible assumption) | (with_reducible refine Below.alloc ?_ ?_ _) | (with_reducible refine Below.drew ?_) | (with_reducible refine belowN ?_ _) | (with_reducible refine Below.setCell ?_ ?_ _) | (with_reducible refine belowG ?_ ?_) | (with_reducible exact Nat.le_refl _) | (with_reducible refine le_sizeG ?_) | (with_reducible refine le_sizeA ?_) | (with_reducible refine le_sizeC ?_) | (with_reducible refine le_sizeD ?_) | (with_reducible refine le_sizeN ?_) | go_size | (simp [go_sem]; done))⟩
end Go.Proofs.YtmdjlngdpjjfiaaGreatDoor

