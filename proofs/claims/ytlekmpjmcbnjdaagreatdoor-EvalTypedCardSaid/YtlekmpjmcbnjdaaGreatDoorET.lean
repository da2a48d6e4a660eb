/- What has a kind comes to a right value of it, or tells one of three errors. -/
import Derived.Test.YtlekmpjmcbnjdaaGreatDoorEH
import Derived.Test.YtlekmpjmcbnjdaaGreatDoorY7
import Derived.Test.YtlekmpjmcbnjdaaGreatDoorKV
import Derived.WalkKit
import Derived.ProofKit
import Derived.OpenShut
import Derived.Handy
import Derived.BigQuiet
import Derived.OwnWalk
import Derived.Deep.AppendLies
import Derived.Lib.Hide
import Derived.WalkSmall
import Derived.WalkLawsBesides
namespace Go.Proofs.YtlekmpjmcbnjdaaGreatDoor
open Go.RowKit
theorem Tryz.infoKV : (Tryz.prog.info? 53).map (fun i => (i.zero, i.size, i.bytes)) = some (some (.agg #[.string ⟨#[]⟩, .int .i64 0]), 2, 24) := by kernel_rfl
/-- Both ways of a kind. -/
theorem kind_ways {vs : List (ByteArray × Int)} {ss : List ByteArray} {ns : List Nd} (h : rightT ns = true) :
    (∃ x : Int, x ≠ 0 ∧ ofK (linK (ownR vs ss) [] ns) ns.length = .tuple #[.int .i64 0, .int .i64 x]) ∨
    ∃ K : Int, ofK (linK (ownR vs ss) [] ns) ns.length = .tuple #[.int .i64 K, .int .i64 0] ∧ downK (ownR vs ss) ns ns.length (ns.length - 1) = .ok K := by
  have hd := down_lin (ownR_leaf vs ss) (ownR_one vs ss) h
  have h0 := (right_few h).1
  have herr := fun x j he => downK_err (vs := vs) (ss := ss) (right_ahead h) ns.length (ns.length - 1) (by omega) (by omega) x j he
  rw [hd] at herr ⊢
  rcases hl : linK (ownR vs ss) [] ns with ⟨x, j⟩ | ks
  · rw [hl] at herr
    exact .inl ⟨x, by rcases herr x j rfl with h | h <;> omega, rfl⟩
  · exact .inr ⟨_, rfl, rfl⟩
theorem right_short {k n : Int} {s : ByteArray} (h : rightB k n s = true) : s.size ≤ 48 := by
  rcases right_cases k n s h with ⟨_, rfl⟩ | ⟨_, rfl, _⟩ | ⟨_, _, _, h⟩
  · decide
  · decide
  · exact h
theorem kinds_len (cs : List Cl) : (kindsC cs).length = cs.length := by simp [kindsC]
theorem kinds_take (cs : List Cl) (i : Nat) (h : i < cs.length) : varsC ((kindsC cs).take (i + 1)) = varsC ((kindsC cs).take i) ++ [.string cs[i].name, .int .i64 cs[i].k] := by
  rw [varsC_take (kindsC cs) i (by rw [kinds_len]; exact h)]
  simp [kindsC, varC]
theorem nz_pair' {x : Int} (h : x ≠ 0) : (x == 0) = false ∧ (x != 0) = true := by
  have : (x == 0) = false := beq_eq_false_iff_ne.mpr h
  exact ⟨this, by rw [bne, this]; rfl⟩
set_option maxRecDepth 100000 in
set_option maxHeartbeats 4000000 in
theorem etyped_ok (s : ByteArray) (va : Option Addr) (vc : Nat) (cs : List Cl) (ia : Option Addr) (ic : Nat) (ins : List ByteArray) (sa : Option Addr) (sc : Nat) (ss : List ByteArray) (ns : List Nd) (hr : readT s.data.toList = .ok ns) (h600 : s.size ≤ 600) (hss100 : ss.length ≤ 100) (hfit : FitE cs ins.length) (h64 : ∀ c ∈ cs, I64 c.n) (w : World)
    (hv : CellsAt w va cs) (hi : StrsAt w ia ins) (hs : StrsAt w sa ss) (hl : Lb w) (he : Eg w) : Calls Tryz.prog 4 #[.string s, envV va cs.length vc ia ins.length ic, .slice sa ss.length sc] w (Ret (.bool true) w) := by
  have hgl := eg_lt he
  have h100 : cs.length ≤ 100 := hfit.2.1
  have hi100 : ins.length ≤ 100 := hfit.2.2
  have A := Lib.hid (fun wx (hb : Below w.heap.size w wx) => anchor5_any wx (lb_below hl hb) (eg_keep he hgl hb))
  have V := Lib.hid (fun wx (hb : Below w.heap.size w wx) => cells_any va vc cs ia ins.length ic (by unfold maxLen; omega) (by omega) (by unfold maxLen; omega) wx (cls_below hv hb))
  obtain ⟨hright, hok, h32⟩ := read_right hr
  have hcs := fit_good hfit.1 h64
  have R := fun wx (hb : Below w.heap.size w wx) => read3_any s (by omega) wx (lb_below hl hb) (eg_keep he hgl hb)
  rw [hr] at R
  replace R := Lib.hid R
  have T := fun ao cap wx (hN : NdsAt wx ao ns) (hb : Below w.heap.size w wx) => xright_any ao cap ns (by omega) (fun n hn => ⟨Nat.le_trans (hok n hn).s (by omega), Nat.le_trans (hok n hn).name (by omega)⟩) wx hN (lb_below hl hb)
  rw [hright] at T
  have O := fun ka kc ao cap wx (hN : NdsAt wx ao ns) (hK : VarsAt wx ka (kindsC cs)) (hb : Below w.heap.size w wx) => kof_any ka kc (kindsC cs) sa sc ss ao cap ns hright (by rw [kinds_len]; omega) (by omega) wx hN hK (strs_below hs hb) (fun wy hy => T ao cap wy (nds_below hN hy) (hb.trans (hy.mono hb.size)))
  rw [kinds_len] at O
  have E := fun ao cap wx (hN : NdsAt wx ao ns) (hb : Below w.heap.size w wx) => eread_any hr va vc cs ia ic ins ao cap hcs (by omega) (by omega) wx hN (cls_below hv hb) (strs_below hi hb) (lb_below hl hb)
  have hway := kind_ways (vs := kindsC cs) (ss := ss) hright
  have hty := fun K hk => ev_typed (cs := cs) (ss := ss) (ins := ins) hcs.right hright (K := K) hk
  have hmax := (fun i (h : i < cs.length) => kinds_take cs i h)
  have CV := Lib.hid (fun wx hb => cls_below (w' := wx) hv hb)
  obtain ⟨j0, hj, hy1, hy2, hy3⟩ := info_parts Tryz.infoKV
  generalize ofK (linK (ownR (kindsC cs) ss) [] ns) ns.length = kv at *
  generalize evT cs ins ns = q at *
  rw [rkV_def] at E
  replace O := Lib.hid O
  replace E := Lib.hid E
  have hwayK := Lib.hid hway
  have htyK := Lib.hid hty
  have htk := Lib.hid hmax
  have hsI : ¬ (600 : Int) < (s.size : Int) := by omega
  have hssI : ¬ (100 : Int) < (ss.length : Int) := by omega
  clear hv hi hs hl he hgl T hright hok hr hcs h64 hway hty hmax
  unfold envV at *
  unfold FitE at hfit
  go_enter Tryz.func4, Tryz.ntmps4
  go_wp2_with ((with_reducible refine (A.out _ (by repeat' (first | (with_reducible exact Below.refl _ _) | (with_reducible assumption) | (with_reducible refine Below.alloc ?_ ?_ _) | (with_reducible refine Below.drew ?_) | (with_reducible refine belowN ?_ _) | (with_reducible refine Below.setCell ?_ ?_ _) | (with_reducible refine belowG ?_ ?_) | (with_reducible exact Nat.le_refl _) | (with_reducible refine le_sizeG ?_) | (with_reducible refine le_sizeA ?_) | (with_reducible refine le_sizeC ?_) | (with_reducible refine le_sizeD ?_) | (with_reducible refine le_sizeN ?_) | go_size | (simp [go_sem]; done)))).mono ?_); intro e w1 hr; obtain ⟨rfl, p, rfl⟩ := hr.out; clear hr)
  refine (V.out _ (by repeat' (first | (with_reducible exact Below.refl _ _) | (with_reducible assumption) | (with_reducible refine Below.alloc ?_ ?_ _) | (with_reducible refine Below.drew ?_) | (with_reducible refine belowN ?_ _) | (with_reducible refine Below.setCell ?_ ?_ _) | (with_reducible refine belowG ?_ ?_) | (with_reducible exact Nat.le_refl _) | (with_reducible refine le_sizeG ?_) | (with_reducible refine le_sizeA ?_) | (with_reducible refine le_sizeC ?_) | (with_reducible refine le_sizeD ?_) | (with_reducible refine le_sizeN ?_) | go_size | (simp [go_sem]; done)))).mono ?_
  intro e w1 hr
  unfold CellsIs at hr
  rw [if_pos hfit] at hr
  obtain ⟨oa, oc, rfl, _, hb⟩ := hr
  have hbs := hb.size
  have b1 := (hb.cell (p := ⟨w.heap.size, 1, none⟩) (by simp [go_sem])).trans (show _ = some (Value.slice ia ins.length ic) by simp [go_sem])
  have b0 := (hb.cell (p := ⟨w.heap.size, 0, none⟩) (by simp [go_sem])).trans (show _ = some (Value.slice va cs.length vc) by simp [go_sem])
  have hw1 : Below w.heap.size w w1 := Below.trans (by repeat' (first | (with_reducible exact Below.refl _ _) | (with_reducible assumption) | (with_reducible refine Below.alloc ?_ ?_ _) | (with_reducible refine Below.drew ?_) | (with_reducible refine belowN ?_ _) | (with_reducible refine Below.setCell ?_ ?_ _) | (with_reducible refine belowG ?_ ?_) | (with_reducible exact Nat.le_refl _) | (with_reducible refine le_sizeG ?_) | (with_reducible refine le_sizeA ?_) | (with_reducible refine le_sizeC ?_) | (with_reducible refine le_sizeD ?_) | (with_reducible refine le_sizeN ?_) | go_size | (simp [go_sem]; done))) (hb.mono (by first | exact Nat.le_refl _ | repeat' (first | (with_reducible exact Below.refl _ _) | (with_reducible assumption) | (with_reducible refine Below.alloc ?_ ?_ _) | (with_reducible refine Below.drew ?_) | (with_reducible refine belowN ?_ _) | (with_reducible refine Below.setCell ?_ ?_ _) | (with_reducible refine belowG ?_ ?_) | (with_reducible exact Nat.le_refl _) | (with_reducible refine le_sizeG ?_) | (with_reducible refine le_sizeA ?_) | (with_reducible refine le_sizeC ?_) | (with_reducible refine le_sizeD ?_) | (with_reducible refine le_sizeN ?_) | go_size | (simp [go_sem]; done))))
  have i0 : InW w.heap.size w1 := ⟨World.block_lt_of_cell? _ _ b0⟩
  clear V A hb hfit hbs
  go_wp2
  generalize hW : w1.alloc (.cells #[.slice none 0 0, .slice sa ss.length sc] 49) = W1
  have hbW : Below w1.heap.size w1 W1 := by rw [← hW]; repeat' (first | (with_reducible exact Below.refl _ _) | (with_reducible assumption) | (with_reducible refine Below.alloc ?_ ?_ _) | (with_reducible refine Below.drew ?_) | (with_reducible refine belowN ?_ _) | (with_reducible refine Below.setCell ?_ ?_ _) | (with_reducible refine belowG ?_ ?_) | (with_reducible exact Nat.le_refl _) | (with_reducible refine le_sizeG ?_) | (with_reducible refine le_sizeA ?_) | (with_reducible refine le_sizeC ?_) | (with_reducible refine le_sizeD ?_) | (with_reducible refine le_sizeN ?_) | go_size | (simp [go_sem]; done))
  have hzW : W1.heap.size = w1.heap.size + 1 := by rw [← hW]; simp
  have k0 : W1.cell? ⟨w1.heap.size, 0, none⟩ = some (.slice none 0 0) := by rw [← hW]; simp [go_sem]
  have k1 : W1.cell? ⟨w1.heap.size, 1, none⟩ = some (.slice sa ss.length sc) := by rw [← hW]; simp [go_sem]
  have kf : W1.frozen? ⟨w1.heap.size, 0, none⟩ = false := by rw [← hW]; simp [go_sem]
  clear hW
  have hwz := hw1.size
  go_loopw [42] (fun v wr => ∃ (i : Nat) (oa : Option Addr) (oc : Nat), v = .int .i64 (i : Int) ∧ i ≤ cs.length ∧ wr.cell? ⟨w1.heap.size, 0, none⟩ = some (.slice oa i oc) ∧ wr.cell? ⟨w1.heap.size, 1, none⟩ = some (.slice sa ss.length sc) ∧ wr.frozen? ⟨w1.heap.size, 0, none⟩ = false ∧ wr.ownsRow (w1.heap.size + 1) 53 2 (.slice oa i oc) i (varsC ((kindsC cs).take i)) ∧ Below w1.heap.size w1 wr) (fun v _ => cs.length - (intOf v).toNat)
  case atStart => exact ⟨0, none, 0, rfl, Nat.zero_le _, k0, k1, kf, World.ownsRow_nil _ _ _ _, hbW⟩
  case round =>
    obtain ⟨i, ra, rc, rfl, hi, r0, r1, rf, hown, hb⟩ := hrel
    rename World => wr
    clear k0 k1 kf hbW hzW
    have hrz := hb.size
    have hbw : Below w.heap.size w wr := hw1.trans (hb.mono hwz)
    have u0 := (hb.cell (p := ⟨w.heap.size, 0, none⟩) i0.lt).trans b0
    have u1 := (hb.cell (p := ⟨w.heap.size, 1, none⟩) i0.lt).trans b1
    have i2 : InW w.heap.size wr := ⟨World.block_lt_of_cell? _ _ u0⟩
    have hBlt := World.block_lt_of_cell? _ _ r0
    have i3 : InW w1.heap.size wr := ⟨hBlt⟩
    have hownK := Lib.hid hown
    clear hown
    by_cases hlt : i < cs.length
    · obtain ⟨g, o, rfl, hg, hc⟩ := CV.out wr hbw (by omega)
      obtain ⟨n1, n2, n3, n4⟩ := hc i hlt
      have ht := Lib.hid (htk.out i hlt)
      obtain ⟨c, hnn⟩ : ∃ c, cs[i] = c := ⟨_, rfl⟩
      rw [hnn] at n1 n2 n3 n4 ht
      obtain ⟨nm, k, nu, t⟩ := c
      simp only at n1 n2 n3 n4 ht
      have i1 : InW g wr := ⟨hg⟩
      have hI : (i : Int) < (cs.length : Int) := by omega
      clear hc hnn
      go_wp2_with (at_builtin; refine wpList_append_lies _ rfl _ _ 47 rfl (w1.heap.size + 1) 53 j0 _ 2 24 Tryz.underlying47 hj hy1 hy2 hy3 rfl (by decide) (.slice ra i rc) i (varsC ((kindsC cs).take i)) rfl (owns_below hownK.out (by repeat' (first | (with_reducible exact Below.refl _ _) | (with_reducible assumption) | (with_reducible refine Below.alloc ?_ ?_ _) | (with_reducible refine Below.drew ?_) | (with_reducible refine belowN ?_ _) | (with_reducible refine Below.setCell ?_ ?_ _) | (with_reducible refine belowG ?_ ?_) | (with_reducible exact Nat.le_refl _) | (with_reducible refine le_sizeG ?_) | (with_reducible refine le_sizeA ?_) | (with_reducible refine le_sizeC ?_) | (with_reducible refine le_sizeD ?_) | (with_reducible refine le_sizeN ?_) | go_size | (simp [go_sem]; done)))) ⟨_, 0, none⟩ 1 1 [.string nm, .int .i64 k] rfl rfl (World.news_of_block (new_at (by simp))) (by intro u hu; simp at hu; rcases hu with rfl | rfl <;> rfl) (by decide) (by unfold maxLen; omega) (by omega) (by first | (simp [go_sem]; done) | (simp [go_sem]; omega)) _ rfl ?_)
      intro g' cap' w2 hown1 hgrow hat1 hg1
      have hbA : Below (w1.heap.size + 1) wr w2 := Below.grown (by repeat' (first | (with_reducible exact Below.refl _ _) | (with_reducible assumption) | (with_reducible refine Below.alloc ?_ ?_ _) | (with_reducible refine Below.drew ?_) | (with_reducible refine belowN ?_ _) | (with_reducible refine Below.setCell ?_ ?_ _) | (with_reducible refine belowG ?_ ?_) | (with_reducible exact Nat.le_refl _) | (with_reducible refine le_sizeG ?_) | (with_reducible refine le_sizeA ?_) | (with_reducible refine le_sizeC ?_) | (with_reducible refine le_sizeD ?_) | (with_reducible refine le_sizeN ?_) | go_size | (simp [go_sem]; done))) hgrow (by first | (simp [go_sem]; done) | (simp [go_sem]; omega)) (fun k hk => (hownK.out.lt k hk).1)
      have q0 := (hbA.cell (p := ⟨w1.heap.size, 0, none⟩) (by show w1.heap.size < _; omega)).trans r0
      have q1 := (hbA.cell (p := ⟨w1.heap.size, 1, none⟩) (by show w1.heap.size < _; omega)).trans r1
      have qf := (hbA.frozen (p := ⟨w1.heap.size, 0, none⟩) (by show w1.heap.size < _; omega)).trans rf
      have hown2 := Lib.hid hown1
      have hqz := hbA.size
      clear hown1 hgrow hat1 hg1 hownK u0 u1
      go_wp2
      go_roundw
      case rel => exact ⟨i + 1, _, cap', by go_num, by omega, World.cell?_setCell_same _ _ _ q0, by simp [go_sem, q1], by rw [World.frozen?_setCell]; exact qf, by rw [ht.out]; exact ownsRow_setCell_below hown2.out (Nat.lt_succ_self _) _, Below.setCell (hb.trans (hbA.mono (by omega))) (Nat.le_refl _) _⟩
      case measure => simp [intOf]; omega
    · obtain rfl : i = cs.length := by omega
      have hK : VarsAt wr ra (kindsC cs) := by
        refine vars_own (cap := rc) (B := w1.heap.size + 1) (e := 53) ?_
        have := hownK.out
        rw [← kinds_len cs, List.take_length] at this
        exact this
      have VK := Lib.hid (fun wx hx => vars_below (w' := wx) hK hx)
      clear hK hownK
      go_wp2_with fail
      refine (R.out _ (by repeat' (first | (with_reducible exact Below.refl _ _) | (with_reducible assumption) | (with_reducible refine Below.alloc ?_ ?_ _) | (with_reducible refine Below.drew ?_) | (with_reducible refine belowN ?_ _) | (with_reducible refine Below.setCell ?_ ?_ _) | (with_reducible refine belowG ?_ ?_) | (with_reducible exact Nat.le_refl _) | (with_reducible refine le_sizeG ?_) | (with_reducible refine le_sizeA ?_) | (with_reducible refine le_sizeC ?_) | (with_reducible refine le_sizeD ?_) | (with_reducible refine le_sizeN ?_) | go_size | (simp [go_sem]; done)))).mono ?_
      intro e w2 hr
      obtain ⟨v, rfl, hown, hb2⟩ := hr
      obtain ⟨na, nc, hvn⟩ := own_form hown
      subst hvn
      have N := Lib.hid (fun wx hx => nds_below (w' := wx) (nds_own hown) hx)
      have hq : Below wr.heap.size wr w2 := Below.trans (by repeat' (first | (with_reducible exact Below.refl _ _) | (with_reducible assumption) | (with_reducible refine Below.alloc ?_ ?_ _) | (with_reducible refine Below.drew ?_) | (with_reducible refine belowN ?_ _) | (with_reducible refine Below.setCell ?_ ?_ _) | (with_reducible refine belowG ?_ ?_) | (with_reducible exact Nat.le_refl _) | (with_reducible refine le_sizeG ?_) | (with_reducible refine le_sizeA ?_) | (with_reducible refine le_sizeC ?_) | (with_reducible refine le_sizeD ?_) | (with_reducible refine le_sizeN ?_) | go_size | (simp [go_sem]; done))) (hb2.mono (by repeat' (first | (with_reducible exact Below.refl _ _) | (with_reducible assumption) | (with_reducible refine Below.alloc ?_ ?_ _) | (with_reducible refine Below.drew ?_) | (with_reducible refine belowN ?_ _) | (with_reducible refine Below.setCell ?_ ?_ _) | (with_reducible refine belowG ?_ ?_) | (with_reducible exact Nat.le_refl _) | (with_reducible refine le_sizeG ?_) | (with_reducible refine le_sizeA ?_) | (with_reducible refine le_sizeC ?_) | (with_reducible refine le_sizeD ?_) | (with_reducible refine le_sizeN ?_) | go_size | (simp [go_sem]; done))))
      have hqw := hbw.trans (hq.mono hbw.size)
      have d0 := (hq.cell (p := ⟨w.heap.size, 0, none⟩) i2.lt).trans u0
      have d1 := (hq.cell (p := ⟨w.heap.size, 1, none⟩) i2.lt).trans u1
      have e0 := (hq.cell (p := ⟨w1.heap.size, 0, none⟩) i3.lt).trans r0
      have e1 := (hq.cell (p := ⟨w1.heap.size, 1, none⟩) i3.lt).trans r1
      have j2 : InW w.heap.size w2 := ⟨World.block_lt_of_cell? _ _ d0⟩
      have j3 : InW w1.heap.size w2 := ⟨World.block_lt_of_cell? _ _ e0⟩
      have O2 := fun wx (hx : Below w2.heap.size w2 wx) => O.out ra rc na nc wx (N.out wx hx) (VK.out wx (hq.trans (hx.mono hq.size))) (hqw.trans (hx.mono hqw.size))
      have E2 := fun wx (hx : Below w2.heap.size w2 wx) => E.out na nc wx (N.out wx hx) (hqw.trans (hx.mono hqw.size))
      have hqwz := hqw.size
      clear R O E N VK hown hb2 hq u0 u1 r0 r1 i2 i3
      rcases hwayK.out with ⟨x, hx, e⟩ | ⟨K, e, hd⟩
      · rw [e] at O2
        obtain ⟨f1, f2⟩ := nz_pair' hx
        replace O2 := Lib.hid O2
        clear e hx hwayK htyK E2
        go_wp2_with ((with_reducible refine (O2.out _ (by repeat' (first | (with_reducible exact Below.refl _ _) | (with_reducible assumption) | (with_reducible refine Below.alloc ?_ ?_ _) | (with_reducible refine Below.drew ?_) | (with_reducible refine belowN ?_ _) | (with_reducible refine Below.setCell ?_ ?_ _) | (with_reducible refine belowG ?_ ?_) | (with_reducible exact Nat.le_refl _) | (with_reducible refine le_sizeG ?_) | (with_reducible refine le_sizeA ?_) | (with_reducible refine le_sizeC ?_) | (with_reducible refine le_sizeD ?_) | (with_reducible refine le_sizeN ?_) | go_size | (simp [go_sem]; done)))).mono ?_); intro e w1 hr; obtain ⟨rfl, p, rfl⟩ := hr.out; clear hr)
        go_returns
        exact ⟨rfl, by repeat' (first | (with_reducible exact Below.refl _ _) | (with_reducible assumption) | (with_reducible refine Below.alloc ?_ ?_ _) | (with_reducible refine Below.drew ?_) | (with_reducible refine belowN ?_ _) | (with_reducible refine Below.setCell ?_ ?_ _) | (with_reducible refine belowG ?_ ?_) | (with_reducible exact Nat.le_refl _) | (with_reducible refine le_sizeG ?_) | (with_reducible refine le_sizeA ?_) | (with_reducible refine le_sizeC ?_) | (with_reducible refine le_sizeD ?_) | (with_reducible refine le_sizeN ?_) | go_size | (simp [go_sem]; done))⟩
      · rw [e] at O2
        replace O2 := Lib.hid O2
        rcases htyK.out K hd with ⟨h1, h2, h3⟩ | ⟨h1, h2⟩
        · obtain ⟨qk, qn, qs, qe⟩ := q
          simp only at h1 h2 h3 E2
          subst h1 h3
          replace E2 := Lib.hid E2
          have RT := fun wx => right_any qk qn qs wx (by have := right_short h2; unfold maxLen; omega)
          rw [h2] at RT
          replace RT := Lib.hid RT
          have hkk : (qk == qk) = true := beq_self_eq_true qk
          clear e h2 hwayK htyK hd
          go_wp2_with (first | ((with_reducible refine (O2.out _ (by repeat' (first | (with_reducible exact Below.refl _ _) | (with_reducible assumption) | (with_reducible refine Below.alloc ?_ ?_ _) | (with_reducible refine Below.drew ?_) | (with_reducible refine belowN ?_ _) | (with_reducible refine Below.setCell ?_ ?_ _) | (with_reducible refine belowG ?_ ?_) | (with_reducible exact Nat.le_refl _) | (with_reducible refine le_sizeG ?_) | (with_reducible refine le_sizeA ?_) | (with_reducible refine le_sizeC ?_) | (with_reducible refine le_sizeD ?_) | (with_reducible refine le_sizeN ?_) | go_size | (simp [go_sem]; done)))).mono ?_); intro e w1 hr; obtain ⟨rfl, p, rfl⟩ := hr.out; clear hr) | ((with_reducible refine (E2.out _ (by repeat' (first | (with_reducible exact Below.refl _ _) | (with_reducible assumption) | (with_reducible refine Below.alloc ?_ ?_ _) | (with_reducible refine Below.drew ?_) | (with_reducible refine belowN ?_ _) | (with_reducible refine Below.setCell ?_ ?_ _) | (with_reducible refine belowG ?_ ?_) | (with_reducible exact Nat.le_refl _) | (with_reducible refine le_sizeG ?_) | (with_reducible refine le_sizeA ?_) | (with_reducible refine le_sizeC ?_) | (with_reducible refine le_sizeD ?_) | (with_reducible refine le_sizeN ?_) | go_size | (simp [go_sem]; done)))).mono ?_); intro e w1 hr; obtain ⟨rfl, p, rfl⟩ := hr.out; clear hr) | ((with_reducible refine (RT.out _).mono ?_); intro e w1 hr; obtain ⟨rfl, p, rfl⟩ := hr.out; clear hr))
          go_returns
          exact ⟨rfl, by repeat' (first | (with_reducible exact Below.refl _ _) | (with_reducible assumption) | (with_reducible refine Below.alloc ?_ ?_ _) | (with_reducible refine Below.drew ?_) | (with_reducible refine belowN ?_ _) | (with_reducible refine Below.setCell ?_ ?_ _) | (with_reducible refine belowG ?_ ?_) | (with_reducible exact Nat.le_refl _) | (with_reducible refine le_sizeG ?_) | (with_reducible refine le_sizeA ?_) | (with_reducible refine le_sizeC ?_) | (with_reducible refine le_sizeD ?_) | (with_reducible refine le_sizeN ?_) | go_size | (simp [go_sem]; done))⟩
        · rw [h2] at E2
          generalize q.e = x at *
          simp only [errR] at E2
          replace E2 := Lib.hid E2
          clear e hd hwayK htyK h2
          rcases h1 with rfl | rfl | rfl
          all_goals
            go_wp2_with (first | ((with_reducible refine (O2.out _ (by repeat' (first | (with_reducible exact Below.refl _ _) | (with_reducible assumption) | (with_reducible refine Below.alloc ?_ ?_ _) | (with_reducible refine Below.drew ?_) | (with_reducible refine belowN ?_ _) | (with_reducible refine Below.setCell ?_ ?_ _) | (with_reducible refine belowG ?_ ?_) | (with_reducible exact Nat.le_refl _) | (with_reducible refine le_sizeG ?_) | (with_reducible refine le_sizeA ?_) | (with_reducible refine le_sizeC ?_) | (with_reducible refine le_sizeD ?_) | (with_reducible refine le_sizeN ?_) | go_size | (simp [go_sem]; done)))).mono ?_); intro e w1 hr; obtain ⟨rfl, p, rfl⟩ := hr.out; clear hr) | ((with_reducible refine (E2.out _ (by repeat' (first | (with_reducible exact Below.refl _ _) | (with_reducible assumption) | (with_reducible refine Below.alloc ?_ ?_ _) | (with_reducible refine Below.drew ?_) | (with_reducible refine belowN ?_ _) | (with_reducible refine Below.setCell ?_ ?_ _) | (with_reducible refine belowG ?_ ?_) | (with_reducible exact Nat.le_refl _) | (with_reducible refine le_sizeG ?_) | (with_reducible refine le_sizeA ?_) | (with_reducible refine le_sizeC ?_) | (with_reducible refine le_sizeD ?_) | (with_reducible refine le_sizeN ?_) | go_size | (simp [go_sem]; done)))).mono ?_); intro e w1 hr; obtain ⟨rfl, p, rfl⟩ := hr.out; clear hr))
            go_returns
            exact ⟨rfl, by repeat' (first | (with_reducible exact Below.refl _ _) | (with_reducible assumption) | (with_reducible refine Below.alloc ?_ ?_ _) | (with_reducible refine Below.drew ?_) | (with_reducible refine belowN ?_ _) | (with_reducible refine Below.setCell ?_ ?_ _) | (with_reducible refine belowG ?_ ?_) | (with_reducible exact Nat.le_refl _) | (with_reducible refine le_sizeG ?_) | (with_reducible refine le_sizeA ?_) | (with_reducible refine le_sizeC ?_) | (with_reducible refine le_sizeD ?_) | (with_reducible refine le_sizeN ?_) | go_size | (simp [go_sem]; done))⟩
set_option maxRecDepth 100000 in
set_option maxHeartbeats 4000000 in
theorem etyped_err (s : ByteArray) (va : Option Addr) (vc : Nat) (cs : List Cl) (ia : Option Addr) (ic : Nat) (ins : List ByteArray) (sa : Option Addr) (sc : Nat) (ss : List ByteArray) (x : Int) (hr : readT s.data.toList = .error x) (h600 : s.size ≤ 600) (hss100 : ss.length ≤ 100) (hfit : FitE cs ins.length) (w : World)
    (hv : CellsAt w va cs) (hl : Lb w) (he : Eg w) : Calls Tryz.prog 4 #[.string s, envV va cs.length vc ia ins.length ic, .slice sa ss.length sc] w (Ret (.bool true) w) := by
  have hgl := eg_lt he
  have h100 : cs.length ≤ 100 := hfit.2.1
  have hi100 : ins.length ≤ 100 := hfit.2.2
  have A := Lib.hid (fun wx (hb : Below w.heap.size w wx) => anchor5_any wx (lb_below hl hb) (eg_keep he hgl hb))
  have V := Lib.hid (fun wx (hb : Below w.heap.size w wx) => cells_any va vc cs ia ins.length ic (by unfold maxLen; omega) (by omega) (by unfold maxLen; omega) wx (cls_below hv hb))
  have R := fun wx (hb : Below w.heap.size w wx) => read3_any s (by omega) wx (lb_below hl hb) (eg_keep he hgl hb)
  rw [hr] at R
  replace R := Lib.hid R
  have hx1 := readE_nz hr
  have hmax := (fun i (h : i < cs.length) => kinds_take cs i h)
  have CV := Lib.hid (fun wx hb => cls_below (w' := wx) hv hb)
  obtain ⟨j0, hj, hy1, hy2, hy3⟩ := info_parts Tryz.infoKV
  have htk := Lib.hid hmax
  have hsI : ¬ (600 : Int) < (s.size : Int) := by omega
  have hssI : ¬ (100 : Int) < (ss.length : Int) := by omega
  clear hv hl he hgl hr hmax
  unfold envV at *
  unfold FitE at hfit
  go_enter Tryz.func4, Tryz.ntmps4
  go_wp2_with ((with_reducible refine (A.out _ (by repeat' (first | (with_reducible exact Below.refl _ _) | (with_reducible assumption) | (with_reducible refine Below.alloc ?_ ?_ _) | (with_reducible refine Below.drew ?_) | (with_reducible refine belowN ?_ _) | (with_reducible refine Below.setCell ?_ ?_ _) | (with_reducible refine belowG ?_ ?_) | (with_reducible exact Nat.le_refl _) | (with_reducible refine le_sizeG ?_) | (with_reducible refine le_sizeA ?_) | (with_reducible refine le_sizeC ?_) | (with_reducible refine le_sizeD ?_) | (with_reducible refine le_sizeN ?_) | go_size | (simp [go_sem]; done)))).mono ?_); intro e w1 hr; obtain ⟨rfl, p, rfl⟩ := hr.out; clear hr)
  refine (V.out _ (by repeat' (first | (with_reducible exact Below.refl _ _) | (with_reducible assumption) | (with_reducible refine Below.alloc ?_ ?_ _) | (with_reducible refine Below.drew ?_) | (with_reducible refine belowN ?_ _) | (with_reducible refine Below.setCell ?_ ?_ _) | (with_reducible refine belowG ?_ ?_) | (with_reducible exact Nat.le_refl _) | (with_reducible refine le_sizeG ?_) | (with_reducible refine le_sizeA ?_) | (with_reducible refine le_sizeC ?_) | (with_reducible refine le_sizeD ?_) | (with_reducible refine le_sizeN ?_) | go_size | (simp [go_sem]; done)))).mono ?_
  intro e w1 hr
  unfold CellsIs at hr
  rw [if_pos hfit] at hr
  obtain ⟨oa, oc, rfl, _, hb⟩ := hr
  have hbs := hb.size
  have b1 := (hb.cell (p := ⟨w.heap.size, 1, none⟩) (by simp [go_sem])).trans (show _ = some (Value.slice ia ins.length ic) by simp [go_sem])
  have b0 := (hb.cell (p := ⟨w.heap.size, 0, none⟩) (by simp [go_sem])).trans (show _ = some (Value.slice va cs.length vc) by simp [go_sem])
  have hw1 : Below w.heap.size w w1 := Below.trans (by repeat' (first | (with_reducible exact Below.refl _ _) | (with_reducible assumption) | (with_reducible refine Below.alloc ?_ ?_ _) | (with_reducible refine Below.drew ?_) | (with_reducible refine belowN ?_ _) | (with_reducible refine Below.setCell ?_ ?_ _) | (with_reducible refine belowG ?_ ?_) | (with_reducible exact Nat.le_refl _) | (with_reducible refine le_sizeG ?_) | (with_reducible refine le_sizeA ?_) | (with_reducible refine le_sizeC ?_) | (with_reducible refine le_sizeD ?_) | (with_reducible refine le_sizeN ?_) | go_size | (simp [go_sem]; done))) (hb.mono (by first | exact Nat.le_refl _ | repeat' (first | (with_reducible exact Below.refl _ _) | (with_reducible assumption) | (with_reducible refine Below.alloc ?_ ?_ _) | (with_reducible refine Below.drew ?_) | (with_reducible refine belowN ?_ _) | (with_reducible refine Below.setCell ?_ ?_ _) | (with_reducible refine belowG ?_ ?_) | (with_reducible exact Nat.le_refl _) | (with_reducible refine le_sizeG ?_) | (with_reducible refine le_sizeA ?_) | (with_reducible refine le_sizeC ?_) | (with_reducible refine le_sizeD ?_) | (with_reducible refine le_sizeN ?_) | go_size | (simp [go_sem]; done))))
  have i0 : InW w.heap.size w1 := ⟨World.block_lt_of_cell? _ _ b0⟩
  clear V A hb hfit hbs
  go_wp2
  generalize hW : w1.alloc (.cells #[.slice none 0 0, .slice sa ss.length sc] 49) = W1
  have hbW : Below w1.heap.size w1 W1 := by rw [← hW]; repeat' (first | (with_reducible exact Below.refl _ _) | (with_reducible assumption) | (with_reducible refine Below.alloc ?_ ?_ _) | (with_reducible refine Below.drew ?_) | (with_reducible refine belowN ?_ _) | (with_reducible refine Below.setCell ?_ ?_ _) | (with_reducible refine belowG ?_ ?_) | (with_reducible exact Nat.le_refl _) | (with_reducible refine le_sizeG ?_) | (with_reducible refine le_sizeA ?_) | (with_reducible refine le_sizeC ?_) | (with_reducible refine le_sizeD ?_) | (with_reducible refine le_sizeN ?_) | go_size | (simp [go_sem]; done))
  have hzW : W1.heap.size = w1.heap.size + 1 := by rw [← hW]; simp
  have k0 : W1.cell? ⟨w1.heap.size, 0, none⟩ = some (.slice none 0 0) := by rw [← hW]; simp [go_sem]
  have k1 : W1.cell? ⟨w1.heap.size, 1, none⟩ = some (.slice sa ss.length sc) := by rw [← hW]; simp [go_sem]
  have kf : W1.frozen? ⟨w1.heap.size, 0, none⟩ = false := by rw [← hW]; simp [go_sem]
  clear hW
  have hwz := hw1.size
  go_loopw [42] (fun v wr => ∃ (i : Nat) (oa : Option Addr) (oc : Nat), v = .int .i64 (i : Int) ∧ i ≤ cs.length ∧ wr.cell? ⟨w1.heap.size, 0, none⟩ = some (.slice oa i oc) ∧ wr.cell? ⟨w1.heap.size, 1, none⟩ = some (.slice sa ss.length sc) ∧ wr.frozen? ⟨w1.heap.size, 0, none⟩ = false ∧ wr.ownsRow (w1.heap.size + 1) 53 2 (.slice oa i oc) i (varsC ((kindsC cs).take i)) ∧ Below w1.heap.size w1 wr) (fun v _ => cs.length - (intOf v).toNat)
  case atStart => exact ⟨0, none, 0, rfl, Nat.zero_le _, k0, k1, kf, World.ownsRow_nil _ _ _ _, hbW⟩
  case round =>
    obtain ⟨i, ra, rc, rfl, hi, r0, r1, rf, hown, hb⟩ := hrel
    rename World => wr
    clear k0 k1 kf hbW hzW
    have hrz := hb.size
    have hbw : Below w.heap.size w wr := hw1.trans (hb.mono hwz)
    have u0 := (hb.cell (p := ⟨w.heap.size, 0, none⟩) i0.lt).trans b0
    have u1 := (hb.cell (p := ⟨w.heap.size, 1, none⟩) i0.lt).trans b1
    have i2 : InW w.heap.size wr := ⟨World.block_lt_of_cell? _ _ u0⟩
    have hBlt := World.block_lt_of_cell? _ _ r0
    have i3 : InW w1.heap.size wr := ⟨hBlt⟩
    have hownK := Lib.hid hown
    clear hown
    by_cases hlt : i < cs.length
    · obtain ⟨g, o, rfl, hg, hc⟩ := CV.out wr hbw (by omega)
      obtain ⟨n1, n2, n3, n4⟩ := hc i hlt
      have ht := Lib.hid (htk.out i hlt)
      obtain ⟨c, hnn⟩ : ∃ c, cs[i] = c := ⟨_, rfl⟩
      rw [hnn] at n1 n2 n3 n4 ht
      obtain ⟨nm, k, nu, t⟩ := c
      simp only at n1 n2 n3 n4 ht
      have i1 : InW g wr := ⟨hg⟩
      have hI : (i : Int) < (cs.length : Int) := by omega
      clear hc hnn
      go_wp2_with (at_builtin; refine wpList_append_lies _ rfl _ _ 47 rfl (w1.heap.size + 1) 53 j0 _ 2 24 Tryz.underlying47 hj hy1 hy2 hy3 rfl (by decide) (.slice ra i rc) i (varsC ((kindsC cs).take i)) rfl (owns_below hownK.out (by repeat' (first | (with_reducible exact Below.refl _ _) | (with_reducible assumption) | (with_reducible refine Below.alloc ?_ ?_ _) | (with_reducible refine Below.drew ?_) | (with_reducible refine belowN ?_ _) | (with_reducible refine Below.setCell ?_ ?_ _) | (with_reducible refine belowG ?_ ?_) | (with_reducible exact Nat.le_refl _) | (with_reducible refine le_sizeG ?_) | (with_reducible refine le_sizeA ?_) | (with_reducible refine le_sizeC ?_) | (with_reducible refine le_sizeD ?_) | (with_reducible refine le_sizeN ?_) | go_size | (simp [go_sem]; done)))) ⟨_, 0, none⟩ 1 1 [.string nm, .int .i64 k] rfl rfl (World.news_of_block (new_at (by simp))) (by intro u hu; simp at hu; rcases hu with rfl | rfl <;> rfl) (by decide) (by unfold maxLen; omega) (by omega) (by first | (simp [go_sem]; done) | (simp [go_sem]; omega)) _ rfl ?_)
      intro g' cap' w2 hown1 hgrow hat1 hg1
      have hbA : Below (w1.heap.size + 1) wr w2 := Below.grown (by repeat' (first | (with_reducible exact Below.refl _ _) | (with_reducible assumption) | (with_reducible refine Below.alloc ?_ ?_ _) | (with_reducible refine Below.drew ?_) | (with_reducible refine belowN ?_ _) | (with_reducible refine Below.setCell ?_ ?_ _) | (with_reducible refine belowG ?_ ?_) | (with_reducible exact Nat.le_refl _) | (with_reducible refine le_sizeG ?_) | (with_reducible refine le_sizeA ?_) | (with_reducible refine le_sizeC ?_) | (with_reducible refine le_sizeD ?_) | (with_reducible refine le_sizeN ?_) | go_size | (simp [go_sem]; done))) hgrow (by first | (simp [go_sem]; done) | (simp [go_sem]; omega)) (fun k hk => (hownK.out.lt k hk).1)
      have q0 := (hbA.cell (p := ⟨w1.heap.size, 0, none⟩) (by show w1.heap.size < _; omega)).trans r0
      have q1 := (hbA.cell (p := ⟨w1.heap.size, 1, none⟩) (by show w1.heap.size < _; omega)).trans r1
      have qf := (hbA.frozen (p := ⟨w1.heap.size, 0, none⟩) (by show w1.heap.size < _; omega)).trans rf
      have hown2 := Lib.hid hown1
      have hqz := hbA.size
      clear hown1 hgrow hat1 hg1 hownK u0 u1
      go_wp2
      go_roundw
      case rel => exact ⟨i + 1, _, cap', by go_num, by omega, World.cell?_setCell_same _ _ _ q0, by simp [go_sem, q1], by rw [World.frozen?_setCell]; exact qf, by rw [ht.out]; exact ownsRow_setCell_below hown2.out (Nat.lt_succ_self _) _, Below.setCell (hb.trans (hbA.mono (by omega))) (Nat.le_refl _) _⟩
      case measure => simp [intOf]; omega
    · obtain rfl : i = cs.length := by omega
      clear hownK
      go_wp2_with fail
      refine (R.out _ (by repeat' (first | (with_reducible exact Below.refl _ _) | (with_reducible assumption) | (with_reducible refine Below.alloc ?_ ?_ _) | (with_reducible refine Below.drew ?_) | (with_reducible refine belowN ?_ _) | (with_reducible refine Below.setCell ?_ ?_ _) | (with_reducible refine belowG ?_ ?_) | (with_reducible exact Nat.le_refl _) | (with_reducible refine le_sizeG ?_) | (with_reducible refine le_sizeA ?_) | (with_reducible refine le_sizeC ?_) | (with_reducible refine le_sizeD ?_) | (with_reducible refine le_sizeN ?_) | go_size | (simp [go_sem]; done)))).mono ?_
      intro e w2 hr
      obtain ⟨rfl, hb2⟩ := hr
      obtain ⟨p3, rfl⟩ := toG hb2
      clear R hb2
      go_wp2
      go_returns
      exact ⟨rfl, by repeat' (first | (with_reducible exact Below.refl _ _) | (with_reducible assumption) | (with_reducible refine Below.alloc ?_ ?_ _) | (with_reducible refine Below.drew ?_) | (with_reducible refine belowN ?_ _) | (with_reducible refine Below.setCell ?_ ?_ _) | (with_reducible refine belowG ?_ ?_) | (with_reducible exact Nat.le_refl _) | (with_reducible refine le_sizeG ?_) | (with_reducible refine le_sizeA ?_) | (with_reducible refine le_sizeC ?_) | (with_reducible refine le_sizeD ?_) | (with_reducible refine le_sizeN ?_) | go_size | (simp [go_sem]; done))⟩
set_option maxRecDepth 100000 in
set_option maxHeartbeats 2000000 in
theorem etyped_short (s : ByteArray) (va : Option Addr) (vc : Nat) (cs : List Cl) (ia : Option Addr) (n ic : Nat) (sa : Option Addr) (sn sc : Nat) (hsm : s.size ≤ maxLen) (hsn : sn ≤ maxLen) (hvm : cs.length ≤ maxLen) (hvz : cs.length * 48 ≤ 140737488355328) (hn : n ≤ maxLen)
    (hno : ¬ FitE cs n ∨ 600 < s.size ∨ 100 < sn) (w : World)
    (hv : CellsAt w va cs) (hl : Lb w) (he : Eg w) : Calls Tryz.prog 4 #[.string s, envV va cs.length vc ia n ic, .slice sa sn sc] w (Ret (.bool true) w) := by
  have hgl := eg_lt he
  have A := Lib.hid (fun wx (hb : Below w.heap.size w wx) => anchor5_any wx (lb_below hl hb) (eg_keep he hgl hb))
  have V := Lib.hid (fun wx (hb : Below w.heap.size w wx) => cells_any va vc cs ia n ic hvm hvz hn wx (cls_below hv hb))
  unfold maxLen at hsm hsn
  unfold FitE at hno
  unfold envV at *
  clear hv hl he hgl hvm hvz hn
  by_cases hk : goodsC cs = true ∧ cs.length ≤ 100 ∧ n ≤ 100
  · replace hno := hno.resolve_left (fun h => h hk)
    go_enter Tryz.func4, Tryz.ntmps4
    go_wp2_with ((with_reducible refine (A.out _ (by repeat' (first | (with_reducible exact Below.refl _ _) | (with_reducible assumption) | (with_reducible refine Below.alloc ?_ ?_ _) | (with_reducible refine Below.drew ?_) | (with_reducible refine belowN ?_ _) | (with_reducible refine Below.setCell ?_ ?_ _) | (with_reducible refine belowG ?_ ?_) | (with_reducible exact Nat.le_refl _) | (with_reducible refine le_sizeG ?_) | (with_reducible refine le_sizeA ?_) | (with_reducible refine le_sizeC ?_) | (with_reducible refine le_sizeD ?_) | (with_reducible refine le_sizeN ?_) | go_size | (simp [go_sem]; done)))).mono ?_); intro e w1 hr; obtain ⟨rfl, p, rfl⟩ := hr.out; clear hr)
    refine (V.out _ (by repeat' (first | (with_reducible exact Below.refl _ _) | (with_reducible assumption) | (with_reducible refine Below.alloc ?_ ?_ _) | (with_reducible refine Below.drew ?_) | (with_reducible refine belowN ?_ _) | (with_reducible refine Below.setCell ?_ ?_ _) | (with_reducible refine belowG ?_ ?_) | (with_reducible exact Nat.le_refl _) | (with_reducible refine le_sizeG ?_) | (with_reducible refine le_sizeA ?_) | (with_reducible refine le_sizeC ?_) | (with_reducible refine le_sizeD ?_) | (with_reducible refine le_sizeN ?_) | go_size | (simp [go_sem]; done)))).mono ?_
    intro e w1 hr
    unfold CellsIs at hr
    rw [if_pos hk] at hr
    obtain ⟨oa, oc, rfl, _, hb⟩ := hr
    obtain ⟨p2, rfl⟩ := toG hb
    clear V A hb hk
    by_cases h6 : 600 < s.size
    · have hd : (600 : Int) < (s.size : Int) := by omega
      go_wp2
      go_returns
      exact ⟨rfl, by repeat' (first | (with_reducible exact Below.refl _ _) | (with_reducible assumption) | (with_reducible refine Below.alloc ?_ ?_ _) | (with_reducible refine Below.drew ?_) | (with_reducible refine belowN ?_ _) | (with_reducible refine Below.setCell ?_ ?_ _) | (with_reducible refine belowG ?_ ?_) | (with_reducible exact Nat.le_refl _) | (with_reducible refine le_sizeG ?_) | (with_reducible refine le_sizeA ?_) | (with_reducible refine le_sizeC ?_) | (with_reducible refine le_sizeD ?_) | (with_reducible refine le_sizeN ?_) | go_size | (simp [go_sem]; done))⟩
    · have hd : ¬ (600 : Int) < (s.size : Int) := by omega
      have hd2 : (100 : Int) < (sn : Int) := by have := hno.resolve_left h6; omega
      clear hno
      go_wp2
      go_returns
      exact ⟨rfl, by repeat' (first | (with_reducible exact Below.refl _ _) | (with_reducible assumption) | (with_reducible refine Below.alloc ?_ ?_ _) | (with_reducible refine Below.drew ?_) | (with_reducible refine belowN ?_ _) | (with_reducible refine Below.setCell ?_ ?_ _) | (with_reducible refine belowG ?_ ?_) | (with_reducible exact Nat.le_refl _) | (with_reducible refine le_sizeG ?_) | (with_reducible refine le_sizeA ?_) | (with_reducible refine le_sizeC ?_) | (with_reducible refine le_sizeD ?_) | (with_reducible refine le_sizeN ?_) | go_size | (simp [go_sem]; done))⟩
  · clear hno
    go_enter Tryz.func4, Tryz.ntmps4
    go_wp2_with ((with_reducible refine (A.out _ (by repeat' (first | (with_reducible exact Below.refl _ _) | (with_reducible assumption) | (with_reducible refine Below.alloc ?_ ?_ _) | (with_reducible refine Below.drew ?_) | (with_reducible refine belowN ?_ _) | (with_reducible refine Below.setCell ?_ ?_ _) | (with_reducible refine belowG ?_ ?_) | (with_reducible exact Nat.le_refl _) | (with_reducible refine le_sizeG ?_) | (with_reducible refine le_sizeA ?_) | (with_reducible refine le_sizeC ?_) | (with_reducible refine le_sizeD ?_) | (with_reducible refine le_sizeN ?_) | go_size | (simp [go_sem]; done)))).mono ?_); intro e w1 hr; obtain ⟨rfl, p, rfl⟩ := hr.out; clear hr)
    refine (V.out _ (by repeat' (first | (with_reducible exact Below.refl _ _) | (with_reducible assumption) | (with_reducible refine Below.alloc ?_ ?_ _) | (with_reducible refine Below.drew ?_) | (with_reducible refine belowN ?_ _) | (with_reducible refine Below.setCell ?_ ?_ _) | (with_reducible refine belowG ?_ ?_) | (with_reducible exact Nat.le_refl _) | (with_reducible refine le_sizeG ?_) | (with_reducible refine le_sizeA ?_) | (with_reducible refine le_sizeC ?_) | (with_reducible refine le_sizeD ?_) | (with_reducible refine le_sizeN ?_) | go_size | (simp [go_sem]; done)))).mono ?_
    intro e w1 hr
    unfold CellsIs at hr
    rw [if_neg hk] at hr
    obtain ⟨v, rfl, hb⟩ := hr
    obtain ⟨p2, rfl⟩ := toG hb
    clear V A hb hk
    go_wp2
    go_returns
    exact ⟨rfl, by repeat' (first | (with_reducible exact Below.refl _ _) | (with_reducible assumption) | (with_reducible refine Below.alloc ?_ ?_ _) | (with_reducible refine Below.drew ?_) | (with_reducible refine belowN ?_ _) | (with_reducible refine Below.setCell ?_ ?_ _) | (with_reducible refine belowG ?_ ?_) | (with_reducible exact Nat.le_refl _) | (with_reducible refine le_sizeG ?_) | (with_reducible refine le_sizeA ?_) | (with_reducible refine le_sizeC ?_) | (with_reducible refine le_sizeD ?_) | (with_reducible refine le_sizeN ?_) | go_size | (simp [go_sem]; done))⟩
theorem etyped_row {H : Type} (s : ByteArray) {v1 v2 : Value} {d1 : DataW H} {cs : List Cl} {ins : List ByteArray} {W : World} (E : EnvV W v1 d1 cs ins)
    (hz : (d1.weights Tryz.prog 25).all (· ≤ reachBytes) = true) (S : ∃ (ao : Option Addr) (ss : List ByteArray) (cap : Nat), v2 = .slice ao ss.length cap ∧ ss.length ≤ maxLen ∧ StrsAt W ao ss) (hs : s.size ≤ maxLen) (hl : Lb W) (he : Eg W) : Calls Tryz.prog 4 #[.string s, v1, v2] W (Ret (.bool true) W) := by
  have hr := env_reach E hz
  obtain ⟨va, vc, ia, ic, rfl, hv, hss, hvm, him, _, hin⟩ := E
  obtain ⟨sa, ss, sc, rfl, hsm, hst⟩ := S
  by_cases hno : ¬ FitE cs ins.length ∨ 600 < s.size ∨ 100 < ss.length
  · exact etyped_short s va vc cs ia ins.length ic sa ss.length sc hs hsm hvm hr him hno W hv hl he
  · have hfit : FitE cs ins.length := Classical.not_not.1 (fun h => hno (.inl h))
    rcases h : readT s.data.toList with x | ns
    · exact etyped_err s va vc cs ia ic ins sa sc ss x h (by omega) (by omega) hfit W hv hl he
    · exact etyped_ok s va vc cs ia ic ins sa sc ss ns h (by omega) (by omega) hfit (fun c hc => (hin c hc).n64) W hv hss hst hl he
end Go.Proofs.YtlekmpjmcbnjdaaGreatDoor

