/- With further names behind its own a scope leaves the kind of each expression that has one. -/
import Derived.Test.YtkjgfcbanlcmgaaGreatDoorKX
import Derived.Test.YtkjgfcbanlcmgaaGreatDoorXM
import Derived.Test.YtkjgfcbanlcmgaaGreatDoorKZ
import Derived.WalkKit
import Derived.ProofKit
import Derived.OpenShut
import Derived.Handy
import Derived.BigQuiet
import Derived.RegionTactic
import Derived.OwnWalk
import Derived.Deep.DeepCutAuto
import Derived.Lib.Hide
import Derived.WalkSmall
import Derived.WalkLawsBesides
namespace Go.Proofs.YtkjgfcbanlcmgaaGreatDoor
open Go.RowKit
theorem Tryz.infoVar : (Tryz.prog.info? 46).map (fun i => (i.zero, i.size, i.bytes)) = some (some (.agg #[.string ⟨#[]⟩, .int .i64 0]), 2, 24) := by kernel_rfl
theorem Tryz.infoStr : (Tryz.prog.info? 9).map (fun i => (i.zero, i.size, i.bytes)) = some (some (.string ⟨#[]⟩), 1, 16) := by kernel_rfl
theorem lin_err {vs : List (ByteArray × Int)} {ss : List ByteArray} {ns : List Nd} {x : Int} {j : Nat} (h : rightT ns = true) (hl : linK (ownR vs ss) [] ns = .error (x, j)) : x = 24 ∨ x = 20 := by
  have hd := down_lin (ownR_leaf vs ss) (ownR_one vs ss) h
  have h0 := (right_few h).1
  rw [hl] at hd
  exact downK_err (vs := vs) (ss := ss) (right_ahead h) ns.length (ns.length - 1) (by omega) (by omega) x j hd
/-- append at an operation of a region. -/
theorem wpOp_append {P : Program} {ops : Array Oper} {Q : Exit → Act → World → Prop} {i : Nat} {o : Oper} {K : Act → World → Prop} {a : Act} {w w' : World} {v sv v' : Value} (hi : ops[i]? = some o) (hgd : o.guard = none) (s x : Operand) (t : TypeId)
    (ho : o.op = .call { callee := .builtin .append, args := #[s, x], argTypes := #[t, t] }) (hs : a.eval s = v) (hx : a.eval x = sv) (hr : (Builtin.append_ #[t, t] o.type #[v, sv]).run P w = .ok v' w') (h : K (a.put o.dst v') w') : wpOp P ops Q i K a w := by
  refine wpOp_step hi fun K' hK => ?_
  have hw : Region.wanted o (yielded ops a.tmps) = true := by simp [Region.wanted, hgd]
  rw [if_pos hw]
  unfold Oper.wp execOp
  simp only [ho, resolve, invoke, builtin, Sem.run_bind, Sem.run_pure, Result.andThen_ok, List.map_toArray, List.map_cons, List.map_nil, hs, hx, hr]
  exact hK _ _ h
set_option maxRecDepth 100000 in
set_option maxHeartbeats 4000000 in
theorem more_walk_ok (s : ByteArray) (va : Option Addr) (vc : Nat) (vs : List (ByteArray × Int)) (sa : Option Addr) (sc : Nat) (ss : List ByteArray) (wa : Option Addr) (wc : Nat) (ws : List (ByteArray × Int)) (ta : Option Addr) (tc : Nat) (ts : List ByteArray) (ns : List Nd)
    (hr : readT s.data.toList = .ok ns) (h600 : s.size ≤ 600) (h100 : ss.length + ts.length ≤ 100) (hks : kindsB vs = true) (hv100 : vs.length ≤ 100) (hkw : kindsB ws = true) (hw100 : ws.length ≤ 100) (w : World)
    (hv : VarsAt w va vs) (hss : StrsAt w sa ss) (hw : VarsAt w wa ws) (hts : StrsAt w ta ts) (zv : va = none → vc = 0) (zs : sa = none → sc = 0) (zw : wa = none → wc = 0) (zt : ta = none → tc = 0) (hl : Lb w) (he : Eg w) :
    Calls Tryz.prog 5 #[.string s, .agg #[.slice va vs.length vc, .slice sa ss.length sc], .agg #[.slice wa ws.length wc, .slice ta ts.length tc]] w (Ret (.bool true) w) := by
  obtain ⟨hright, hok, h32⟩ := read_right hr
  have hgl := eg_lt he
  have A := Lib.hid (fun wx (hb : Below w.heap.size w wx) => anchor4_any wx (lb_below hl hb) (eg_keep he hgl hb))
  have V := Lib.hid (fun wx (hb : Below w.heap.size w wx) => vars_any va vc vs (by unfold maxLen; omega) (by omega) wx (vars_below hv hb))
  have W := Lib.hid (fun wx (hb : Below w.heap.size w wx) => vars_any wa wc ws (by unfold maxLen; omega) (by omega) wx (vars_below hw hb))
  have R := fun wx (hb : Below w.heap.size w wx) => read3_any s (by omega) wx (lb_below hl hb) (eg_keep he hgl hb)
  rw [hr] at R
  replace R := Lib.hid R
  have T := fun ao cap wx (hN : NdsAt wx ao ns) (hb : Below w.heap.size w wx) => xright_any ao cap ns (by omega) (fun n hn => ⟨Nat.le_trans (hok n hn).s (by omega), Nat.le_trans (hok n hn).name (by omega)⟩) wx hN (lb_below hl hb)
  rw [hright] at T
  have O := Lib.hid (fun (pa : Option Addr) (pc : Nat) (ps : List (ByteArray × Int)) (qa : Option Addr) (qc : Nat) (qs : List ByteArray) (h1 : ps.length ≤ 1000000) (h2 : qs.length ≤ 1000) ao cap wx (hN : NdsAt wx ao ns) (h3 : VarsAt wx pa ps) (h4 : StrsAt wx qa qs) (hb : Below w.heap.size w wx) => kof_any pa pc ps qa qc qs ao cap ns hright h1 h2 wx hN h3 h4 (fun wy hy => T ao cap wy (nds_below hN hy) (hb.trans (hy.mono hb.size))))
  have hV := Lib.hid (fun wx hb => vars_below (w' := wx) hv hb)
  have hS := Lib.hid (fun wx hb => strs_below (w' := wx) hss hb)
  have hW := Lib.hid (fun wx hb => vars_below (w' := wx) hw hb)
  have hT := Lib.hid (fun wx hb => strs_below (w' := wx) hts hb)
  have hlE := Lib.hid (fun x j => lin_err (vs := vs) (ss := ss) (x := x) (j := j) hright)
  replace zv := Lib.hid zv
  replace zs := Lib.hid zs
  replace zw := Lib.hid zw
  replace zt := Lib.hid zt
  have hlE := Lib.hid (fun x j => lin_err (vs := vs) (ss := ss) (x := x) (j := j) hright)
  replace zv := Lib.hid zv
  replace zs := Lib.hid zs
  replace zw := Lib.hid zw
  replace zt := Lib.hid zt
  have hlE := Lib.hid (fun x j => lin_err (vs := vs) (ss := ss) (x := x) (j := j) hright)
  replace zv := Lib.hid zv
  replace zs := Lib.hid zs
  replace zw := Lib.hid zw
  replace zt := Lib.hid zt
  have hlE := Lib.hid (fun x j => lin_err (vs := vs) (ss := ss) (x := x) (j := j) hright)
  replace zv := Lib.hid zv
  replace zs := Lib.hid zs
  replace zw := Lib.hid zw
  replace zt := Lib.hid zt
  have hlE := Lib.hid (fun x j => lin_err (vs := vs) (ss := ss) (x := x) (j := j) hright)
  replace zv := Lib.hid zv
  replace zs := Lib.hid zs
  replace zw := Lib.hid zw
  replace zt := Lib.hid zt
  have hsI : ¬ (600 : Int) < (s.size : Int) := by omega
  have hssI : ¬ (100 : Int) < (ss.length : Int) + (ts.length : Int) := by omega
  have hsl : (ss.length : Int) + (ts.length : Int) ≤ 100 := by omega
  clear hv hss hw hts hl he hgl T hright hok hr
  go_enter Tryz.func5, Tryz.ntmps5
  go_wp2_with ((with_reducible refine (A.out _ (by repeat' (first | (with_reducible exact Below.refl _ _) | (with_reducible assumption) | (with_reducible refine Below.alloc ?_ ?_ _) | (with_reducible refine Below.drew ?_) | (with_reducible refine belowN ?_ _) | (with_reducible refine Below.setCell ?_ ?_ _) | (with_reducible refine belowG ?_ ?_) | (with_reducible exact Nat.le_refl _) | (with_reducible refine le_sizeG ?_) | (with_reducible refine le_sizeA ?_) | (with_reducible refine le_sizeC ?_) | (with_reducible refine le_sizeD ?_) | (with_reducible refine le_sizeN ?_) | go_size | (simp [go_sem]; done)))).mono ?_); intro e w1 hr; obtain ⟨rfl, p, rfl⟩ := hr.out; clear hr)
  refine (V.out _ (by repeat' (first | (with_reducible exact Below.refl _ _) | (with_reducible assumption) | (with_reducible refine Below.alloc ?_ ?_ _) | (with_reducible refine Below.drew ?_) | (with_reducible refine belowN ?_ _) | (with_reducible refine Below.setCell ?_ ?_ _) | (with_reducible refine belowG ?_ ?_) | (with_reducible exact Nat.le_refl _) | (with_reducible refine le_sizeG ?_) | (with_reducible refine le_sizeA ?_) | (with_reducible refine le_sizeC ?_) | (with_reducible refine le_sizeD ?_) | (with_reducible refine le_sizeN ?_) | go_size | (simp [go_sem]; done)))).mono ?_
  intro e w1 hr
  unfold VarsIs at hr
  rw [if_pos ⟨hks, hv100⟩] at hr
  obtain ⟨oa, oc, rfl, _, hb⟩ := hr
  obtain ⟨p1, rfl⟩ := toG hb
  clear V A hb hks
  go_wp2_with fail
  refine (W.out _ (by repeat' (first | (with_reducible exact Below.refl _ _) | (with_reducible assumption) | (with_reducible refine Below.alloc ?_ ?_ _) | (with_reducible refine Below.drew ?_) | (with_reducible refine belowN ?_ _) | (with_reducible refine Below.setCell ?_ ?_ _) | (with_reducible refine belowG ?_ ?_) | (with_reducible exact Nat.le_refl _) | (with_reducible refine le_sizeG ?_) | (with_reducible refine le_sizeA ?_) | (with_reducible refine le_sizeC ?_) | (with_reducible refine le_sizeD ?_) | (with_reducible refine le_sizeN ?_) | go_size | (simp [go_sem]; done)))).mono ?_
  intro e w1 hr
  unfold VarsIs at hr
  rw [if_pos ⟨hkw, hw100⟩] at hr
  obtain ⟨oa2, oc2, rfl, _, hb⟩ := hr
  obtain ⟨p2, rfl⟩ := toG hb
  clear W hb hkw
  go_wp2_with fail
  refine (R.out _ (by repeat' (first | (with_reducible exact Below.refl _ _) | (with_reducible assumption) | (with_reducible refine Below.alloc ?_ ?_ _) | (with_reducible refine Below.drew ?_) | (with_reducible refine belowN ?_ _) | (with_reducible refine Below.setCell ?_ ?_ _) | (with_reducible refine belowG ?_ ?_) | (with_reducible exact Nat.le_refl _) | (with_reducible refine le_sizeG ?_) | (with_reducible refine le_sizeA ?_) | (with_reducible refine le_sizeC ?_) | (with_reducible refine le_sizeD ?_) | (with_reducible refine le_sizeN ?_) | go_size | (simp [go_sem]; done)))).mono ?_
  intro e w2 hr
  obtain ⟨v, rfl, hown, hb2⟩ := hr
  obtain ⟨na, nc, hvn⟩ := own_form hown
  subst hvn
  have N := Lib.hid (fun wx hx => nds_below (w' := wx) (nds_own hown) hx)
  have i0 : InW w.heap.size w2 := ⟨Nat.lt_of_lt_of_le InW.lt hb2.size⟩
  have i1 : InW (w.heap.size + 1) w2 := ⟨Nat.lt_of_lt_of_le InW.lt hb2.size⟩
  have c0 := (hb2.cell (p := ⟨w.heap.size, 0, none⟩) InW.lt).trans (show _ = some (Value.slice va vs.length vc) by simp [go_sem])
  have c1 := (hb2.cell (p := ⟨w.heap.size, 1, none⟩) InW.lt).trans (show _ = some (Value.slice sa ss.length sc) by simp [go_sem])
  have c2 := (hb2.cell (p := ⟨w.heap.size + 1, 0, none⟩) InW.lt).trans (show _ = some (Value.slice wa ws.length wc) by simp [go_sem])
  have c3 := (hb2.cell (p := ⟨w.heap.size + 1, 1, none⟩) InW.lt).trans (show _ = some (Value.slice ta ts.length tc) by simp [go_sem])
  have hw2 : Below w.heap.size w w2 := Below.trans (by repeat' (first | (with_reducible exact Below.refl _ _) | (with_reducible assumption) | (with_reducible refine Below.alloc ?_ ?_ _) | (with_reducible refine Below.drew ?_) | (with_reducible refine belowN ?_ _) | (with_reducible refine Below.setCell ?_ ?_ _) | (with_reducible refine belowG ?_ ?_) | (with_reducible exact Nat.le_refl _) | (with_reducible refine le_sizeG ?_) | (with_reducible refine le_sizeA ?_) | (with_reducible refine le_sizeC ?_) | (with_reducible refine le_sizeD ?_) | (with_reducible refine le_sizeN ?_) | go_size | (simp [go_sem]; done))) (hb2.mono (by repeat' (first | (with_reducible exact Below.refl _ _) | (with_reducible assumption) | (with_reducible refine Below.alloc ?_ ?_ _) | (with_reducible refine Below.drew ?_) | (with_reducible refine belowN ?_ _) | (with_reducible refine Below.setCell ?_ ?_ _) | (with_reducible refine belowG ?_ ?_) | (with_reducible exact Nat.le_refl _) | (with_reducible refine le_sizeG ?_) | (with_reducible refine le_sizeA ?_) | (with_reducible refine le_sizeC ?_) | (with_reducible refine le_sizeD ?_) | (with_reducible refine le_sizeN ?_) | go_size | (simp [go_sem]; done))))
  have O1 := Lib.hid (fun wx (hx : Below w2.heap.size w2 wx) => O.out va vc vs sa sc ss (by omega) (by omega) na nc wx (N.out wx hx) (hV.out wx (hw2.trans (hx.mono hw2.size))) (hS.out wx (hw2.trans (hx.mono hw2.size))) (hw2.trans (hx.mono hw2.size)))
  clear R hown hb2
  rcases hlin : linK (ownR vs ss) [] ns with ⟨x, j⟩ | r
  · have hx := hlE.out x j hlin
    rw [hlin] at O1
    simp only [ofK] at O1
    have hx0 : (x == 0) = false := by rw [beq_eq_false_iff_ne]; omega
    have hx1 : (x != 0) = true := by rw [bne, hx0]; rfl
    clear hx hlin hlE
    go_wp2_with ((with_reducible refine (O1.out _ (by repeat' (first | (with_reducible exact Below.refl _ _) | (with_reducible assumption) | (with_reducible refine Below.alloc ?_ ?_ _) | (with_reducible refine Below.drew ?_) | (with_reducible refine belowN ?_ _) | (with_reducible refine Below.setCell ?_ ?_ _) | (with_reducible refine belowG ?_ ?_) | (with_reducible exact Nat.le_refl _) | (with_reducible refine le_sizeG ?_) | (with_reducible refine le_sizeA ?_) | (with_reducible refine le_sizeC ?_) | (with_reducible refine le_sizeD ?_) | (with_reducible refine le_sizeN ?_) | go_size | (simp [go_sem]; done)))).mono ?_); intro e w1 hr; obtain ⟨rfl, p, rfl⟩ := hr.out; clear hr)
    go_returns
    exact ⟨rfl, by repeat' (first | (with_reducible exact Below.refl _ _) | (with_reducible assumption) | (with_reducible refine Below.alloc ?_ ?_ _) | (with_reducible refine Below.drew ?_) | (with_reducible refine belowN ?_ _) | (with_reducible refine Below.setCell ?_ ?_ _) | (with_reducible refine belowG ?_ ?_) | (with_reducible exact Nat.le_refl _) | (with_reducible refine le_sizeG ?_) | (with_reducible refine le_sizeA ?_) | (with_reducible refine le_sizeC ?_) | (with_reducible refine le_sizeD ?_) | (with_reducible refine le_sizeN ?_) | go_size | (simp [go_sem]; done))⟩
  · rw [hlin] at O1
    simp only [ofK] at O1
    have hmore := linK_more (fun n a b k h => ownR_more (ws := ws) (ts := ts) h) ns [] r hlin
    obtain ⟨K, hK⟩ : ∃ K, r.getD (ns.length - 1) 0 = K := ⟨_, rfl⟩
    rw [hK] at O1
    have hres := Lib.hid (show ofK (linK (ownR (vs ++ ws) (ss ++ ts)) [] ns) ns.length = .tuple #[.int .i64 K, .int .i64 0] by rw [hmore, ← hK]; rfl)
    clear hK hlin hmore hlE
    go_wp2_with fail
    refine (O1.out _ (by repeat' (first | (with_reducible exact Below.refl _ _) | (with_reducible assumption) | (with_reducible refine Below.alloc ?_ ?_ _) | (with_reducible refine Below.drew ?_) | (with_reducible refine belowN ?_ _) | (with_reducible refine Below.setCell ?_ ?_ _) | (with_reducible refine belowG ?_ ?_) | (with_reducible exact Nat.le_refl _) | (with_reducible refine le_sizeG ?_) | (with_reducible refine le_sizeA ?_) | (with_reducible refine le_sizeC ?_) | (with_reducible refine le_sizeD ?_) | (with_reducible refine le_sizeN ?_) | go_size | (simp [go_sem]; done)))).mono ?_
    intro e w3 hr
    obtain ⟨rfl, hb3⟩ := hr
    have d0 := (hb3.cell (p := ⟨w.heap.size, 0, none⟩) i0.lt).trans c0
    have d1 := (hb3.cell (p := ⟨w.heap.size, 1, none⟩) i0.lt).trans c1
    have d2 := (hb3.cell (p := ⟨w.heap.size + 1, 0, none⟩) i1.lt).trans c2
    have d3 := (hb3.cell (p := ⟨w.heap.size + 1, 1, none⟩) i1.lt).trans c3
    have j0 : InW w.heap.size w3 := ⟨Nat.lt_of_lt_of_le i0.lt hb3.size⟩
    have j1 : InW (w.heap.size + 1) w3 := ⟨Nat.lt_of_lt_of_le i1.lt hb3.size⟩
    have hw3 := hw2.trans (hb3.mono hw2.size)
    have N3 := Lib.hid (fun wx hx => N.out wx (hb3.trans (Below.mono hx hb3.size)))
    clear c0 c1 c2 c3 hb3 N O1
    go_upto_region 13 with fail
    go_cut [15] (fun v15 wx => Both w3 (vs ++ ws) (ss ++ ts) v15 wx)
    case first =>
      clear O N3 hres
      obtain ⟨iv, hv1, hv2, hv3, hv4⟩ := info_parts Tryz.infoVar
      obtain ⟨is_, hs1, hs2, hs3, hs4⟩ := info_parts Tryz.infoStr
      refine wp_region_any (by kernel_rfl) ?_
      refine wpAny_inv (fun l a' w' => ∃ x : S13, a' = ⟨#[Value.string s, Value.agg #[Value.slice va vs.length vc, Value.slice sa ss.length sc], Value.agg #[Value.slice wa ws.length wc, Value.slice ta ts.length tc], undef, Value.pointer (some ⟨w.heap.size, 0, none⟩), Value.pointer (some ⟨w.heap.size + 1, 0, none⟩), Value.bool false, Value.slice oa vs.length oc, Value.bool true, Value.slice oa2 ws.length oc2, Value.bool true, Value.slice na ns.length nc, Value.int IntKind.i64 0, Value.int IntKind.i64 K, Value.int IntKind.i64 0, x.x15, undef, undef, Value.bool true, Value.bool false, Value.tuple #[Value.slice oa vs.length oc, Value.bool true], Value.pointer (some ⟨w.heap.size, 0, none⟩), Value.slice va vs.length vc, Value.tuple #[Value.slice oa vs.length oc, Value.bool true], Value.slice oa vs.length oc, Value.bool true, Value.tuple #[Value.slice oa2 ws.length oc2, Value.bool true], Value.pointer (some ⟨w.heap.size + 1, 0, none⟩), Value.slice wa ws.length wc, Value.tuple #[Value.slice oa2 ws.length oc2, Value.bool true], Value.slice oa2 ws.length oc2, Value.bool true, Value.bool true, Value.bool false, Value.bool false, Value.bool true, Value.bool false, Value.bool false, Value.bool false, Value.string s, Value.int IntKind.i64 (s.size : Int), Value.bool (decide ((600 : Int) < (s.size : Int))), Value.bool (decide ((600 : Int) < (s.size : Int))), Value.bool (decide ((600 : Int) < (s.size : Int))), Value.pointer (some ⟨w.heap.size, 1, none⟩), Value.slice sa ss.length sc, Value.int IntKind.i64 (ss.length : Int), Value.pointer (some ⟨w.heap.size + 1, 1, none⟩), Value.slice ta ts.length tc, Value.int IntKind.i64 (ts.length : Int), Value.int IntKind.i64 ((ss.length : Int) + (ts.length : Int)), Value.bool (decide ((100 : Int) < (ss.length : Int) + (ts.length : Int))), Value.bool (decide ((600 : Int) < (s.size : Int)) || decide ((100 : Int) < (ss.length : Int) + (ts.length : Int))), Value.tuple #[Value.slice na ns.length nc, Value.int IntKind.i64 0], Value.string s, Value.tuple #[Value.slice na ns.length nc, Value.int IntKind.i64 0], Value.slice na ns.length nc, Value.int IntKind.i64 0, Value.int IntKind.i64 0, Value.bool false, Value.tuple #[Value.int IntKind.i64 K, Value.int IntKind.i64 0], Value.slice na ns.length nc, Value.agg #[Value.slice va vs.length vc, Value.slice sa ss.length sc], Value.tuple #[Value.int IntKind.i64 K, Value.int IntKind.i64 0], Value.int IntKind.i64 K, Value.int IntKind.i64 0, Value.int IntKind.i64 0, Value.bool false, x.x68, x.x69, x.x70, x.x71, x.x72, x.x73, x.x74, x.x75, x.x76, x.x77, x.x78, x.x79, x.x80, x.x81, x.x82, undef, undef, undef, undef, undef, undef, undef, undef, undef, undef, undef, undef, undef], []⟩ ∧ J13 w3 w.heap.size va vc vs wa wc ws sa sc ss ta tc ts l x w') ?_ ?_ _ _ _ _ (by decide) ⟨⟨undef, undef, undef, undef, undef, undef, undef, undef, undef, undef, undef, undef, undef, undef, undef, undef⟩, rfl, j13_start _ ((Below.refl _ _).drew)⟩
      · intro l a' w2 hI i hi K hK
        obtain ⟨x, ha, J⟩ := hI
        subst ha
        obtain ⟨hlt, _⟩ := ready_at hi
        have hun := ready_not hi
        have hcs : i = 0 ∨ i = 1 ∨ i = 2 ∨ i = 3 ∨ i = 4 ∨ i = 5 ∨ i = 6 ∨ i = 7 ∨ i = 8 ∨ i = 9 ∨ i = 10 ∨ i = 11 ∨ i = 12 ∨ i = 13 ∨ i = 14 ∨ i = 15 ∨ i = 16 := by
          have : i < 17 := hlt
          omega
        clear hlt
        rcases hcs with rfl | rfl | rfl | rfl | rfl | rfl | rfl | rfl | rfl | rfl | rfl | rfl | rfl | rfl | rfl | rfl | rfl
        · -- operation 0
          clear hi
          refine wpOp_step rfl fun K2 hK2 => ?_
          go_simp
          exact hK2 _ _ (hK _ _ ⟨_, rfl, j13_0 J hun⟩)
        · -- operation 1
          clear hi
          refine wpOp_step rfl fun K2 hK2 => ?_
          go_simp
          exact hK2 _ _ (hK _ _ ⟨_, rfl, j13_1 J hun⟩)
        · -- operation 2
          have L1 := ready_dep hi (d := 1) (by kernel_rfl)
          clear hi
          have e := J.f1 L1
          have c := (J.below.cell (p := ⟨w.heap.size, 0, none⟩) j0.lt).trans d0
          obtain ⟨y15, y68, y69, y70, y71, y72, y73, y74, y75, y76, y77, y78, y79, y80, y81, y82⟩ := x
          simp only at e
          subst e
          refine wpOp_step rfl fun K2 hK2 => ?_
          go_simp
          exact hK2 _ _ (hK _ _ ⟨_, rfl, j13_2 J hun⟩)
        · -- operation 3
          have L0 := ready_dep hi (d := 0) (by kernel_rfl)
          have L2 := ready_dep hi (d := 2) (by kernel_rfl)
          clear hi
          have e := J.f2 L2
          have hb2 := hw3.trans (J.below.mono hw3.size)
          obtain ⟨v2, w3', hrun, hown, hg⟩ := run_append_any (P := Tryz.prog) w2 w3.heap.size 22 22 46 iv _ 2 24 Tryz.underlying22 hv1 hv2 hv3 hv4 rfl (by decide) x.x68 0 [] (J.f0 L0 hun) va vs.length vc (varsC vs) (varsC_length vs) (vars_news (hV.out w2 hb2)) vars_one (fun h => ⟨by have := hV.out w2 hb2; rw [h] at this; exact Nat.eq_zero_of_not_pos (fun h0 => by obtain ⟨_, _, e, _⟩ := this h0; cases e), zv.out h⟩) (by unfold maxLen; omega) (by omega) J.below.size
          rw [Nat.zero_add, List.nil_append] at hown
          exact wpOp_append rfl rfl (.tmp 68) (.tmp 70) 22 rfl rfl e hrun (hK _ _ ⟨_, rfl, j13_3 J hun L0 hown hg⟩)
        · -- operation 4
          clear hi
          refine wpOp_step rfl fun K2 hK2 => ?_
          go_simp
          exact hK2 _ _ (hK _ _ ⟨_, rfl, j13_4 J hun⟩)
        · -- operation 5
          have L4 := ready_dep hi (d := 4) (by kernel_rfl)
          clear hi
          have e := J.f4 L4
          have c := (J.below.cell (p := ⟨w.heap.size + 1, 0, none⟩) j1.lt).trans d2
          obtain ⟨y15, y68, y69, y70, y71, y72, y73, y74, y75, y76, y77, y78, y79, y80, y81, y82⟩ := x
          simp only at e
          subst e
          refine wpOp_step rfl fun K2 hK2 => ?_
          go_simp
          exact hK2 _ _ (hK _ _ ⟨_, rfl, j13_5 J hun⟩)
        · -- operation 6
          have L3 := ready_dep hi (d := 3) (by kernel_rfl)
          have L5 := ready_dep hi (d := 5) (by kernel_rfl)
          clear hi
          have e := J.f5 L5
          have hb2 := hw3.trans (J.below.mono hw3.size)
          obtain ⟨v2, w3', hrun, hown, hg⟩ := run_append_any (P := Tryz.prog) w2 w3.heap.size 22 22 46 iv _ 2 24 Tryz.underlying22 hv1 hv2 hv3 hv4 rfl (by decide) x.x71 vs.length (varsC vs) (J.f3 L3 hun) wa ws.length wc (varsC ws) (varsC_length ws) (vars_news (hW.out w2 hb2)) vars_one (fun h => ⟨by have := hW.out w2 hb2; rw [h] at this; exact Nat.eq_zero_of_not_pos (fun h0 => by obtain ⟨_, _, e, _⟩ := this h0; cases e), zw.out h⟩) (by unfold maxLen; omega) (by omega) J.below.size
          exact wpOp_append rfl rfl (.tmp 71) (.tmp 73) 22 rfl rfl e hrun (hK _ _ ⟨_, rfl, j13_6 J hun L3 hown hg⟩)
        · -- operation 7
          clear hi
          refine wpOp_step rfl fun K2 hK2 => ?_
          go_simp
          exact hK2 _ _ (hK _ _ ⟨_, rfl, j13_7 J hun⟩)
        · -- operation 8
          clear hi
          refine wpOp_step rfl fun K2 hK2 => ?_
          go_simp
          exact hK2 _ _ (hK _ _ ⟨_, rfl, j13_8 J hun⟩)
        · -- operation 9
          have L8 := ready_dep hi (d := 8) (by kernel_rfl)
          clear hi
          have e := J.f8 L8
          have c := (J.below.cell (p := ⟨w.heap.size, 1, none⟩) j0.lt).trans d1
          obtain ⟨y15, y68, y69, y70, y71, y72, y73, y74, y75, y76, y77, y78, y79, y80, y81, y82⟩ := x
          simp only at e
          subst e
          refine wpOp_step rfl fun K2 hK2 => ?_
          go_simp
          exact hK2 _ _ (hK _ _ ⟨_, rfl, j13_9 J hun⟩)
        · -- operation 10
          have L7 := ready_dep hi (d := 7) (by kernel_rfl)
          have L9 := ready_dep hi (d := 9) (by kernel_rfl)
          clear hi
          have e := J.f9 L9
          have hb2 := hw3.trans (J.below.mono hw3.size)
          obtain ⟨v2, w3', hrun, hown, hg⟩ := run_append_any (P := Tryz.prog) w2 w3.heap.size 23 23 9 is_ _ 1 16 Tryz.underlying23 hs1 hs2 hs3 hs4 rfl (by decide) x.x75 0 [] (J.f7 L7 hun) sa ss.length sc (strsC ss) (by unfold strsC; rw [List.length_map, Nat.mul_one]) (strs_news (hS.out w2 hb2)) strs_one (fun h => ⟨by have := hS.out w2 hb2; rw [h] at this; exact Nat.eq_zero_of_not_pos (fun h0 => by obtain ⟨_, _, e, _⟩ := this h0; cases e), zs.out h⟩) (by unfold maxLen; omega) (by omega) J.below.size
          rw [Nat.zero_add, List.nil_append] at hown
          exact wpOp_append rfl rfl (.tmp 75) (.tmp 77) 23 rfl rfl e hrun (hK _ _ ⟨_, rfl, j13_10 J hun L7 hown hg⟩)
        · -- operation 11
          clear hi
          refine wpOp_step rfl fun K2 hK2 => ?_
          go_simp
          exact hK2 _ _ (hK _ _ ⟨_, rfl, j13_11 J hun⟩)
        · -- operation 12
          have L11 := ready_dep hi (d := 11) (by kernel_rfl)
          clear hi
          have e := J.f11 L11
          have c := (J.below.cell (p := ⟨w.heap.size + 1, 1, none⟩) j1.lt).trans d3
          obtain ⟨y15, y68, y69, y70, y71, y72, y73, y74, y75, y76, y77, y78, y79, y80, y81, y82⟩ := x
          simp only at e
          subst e
          refine wpOp_step rfl fun K2 hK2 => ?_
          go_simp
          exact hK2 _ _ (hK _ _ ⟨_, rfl, j13_12 J hun⟩)
        · -- operation 13
          have L10 := ready_dep hi (d := 10) (by kernel_rfl)
          have L12 := ready_dep hi (d := 12) (by kernel_rfl)
          clear hi
          have e := J.f12 L12
          have hb2 := hw3.trans (J.below.mono hw3.size)
          obtain ⟨v2, w3', hrun, hown, hg⟩ := run_append_any (P := Tryz.prog) w2 w3.heap.size 23 23 9 is_ _ 1 16 Tryz.underlying23 hs1 hs2 hs3 hs4 rfl (by decide) x.x78 ss.length (strsC ss) (J.f10 L10 hun) ta ts.length tc (strsC ts) (by unfold strsC; rw [List.length_map, Nat.mul_one]) (strs_news (hT.out w2 hb2)) strs_one (fun h => ⟨by have := hT.out w2 hb2; rw [h] at this; exact Nat.eq_zero_of_not_pos (fun h0 => by obtain ⟨_, _, e, _⟩ := this h0; cases e), zt.out h⟩) (by unfold maxLen; omega) (by omega) J.below.size
          exact wpOp_append rfl rfl (.tmp 78) (.tmp 80) 23 rfl rfl e hrun (hK _ _ ⟨_, rfl, j13_13 J hun L10 hown hg⟩)
        · -- operation 14
          have L6 := ready_dep hi (d := 6) (by kernel_rfl)
          have L13 := ready_dep hi (d := 13) (by kernel_rfl)
          clear hi
          obtain ⟨pa, pc, hp⟩ := own_slice (J.f6 L6)
          obtain ⟨qa, qc, hq⟩ := own_slice (J.f13 L13)
          have hj := j13_14 J hun L6 L13
          obtain ⟨y15, y68, y69, y70, y71, y72, y73, y74, y75, y76, y77, y78, y79, y80, y81, y82⟩ := x
          simp only at hp hq hj
          subst hp hq
          refine wpOp_step rfl fun K2 hK2 => ?_
          go_simp
          exact hK2 _ _ (hK _ _ ⟨_, rfl, hj⟩)
        · -- operation 15
          clear hi
          refine wpOp_step rfl fun K2 hK2 => ?_
          go_simp
          exact hK2 _ _ (hK _ _ ⟨_, rfl, j13_15 J hun⟩)
        · -- operation 16
          have L15 := ready_dep hi (d := 15) (by kernel_rfl)
          have L14 := ready_dep hi (d := 14) (by kernel_rfl)
          clear hi
          obtain ⟨g, hx, hB, u, v, hblk⟩ := J.f15 L15
          have e := J.f14 L14
          have hj := j13_16 J hun L14 L15 hx hB hblk
          obtain ⟨pa, pc, hp⟩ := own_slice (J.f6 (J.d14 L14).1)
          obtain ⟨qa, qc, hq⟩ := own_slice (J.f13 (J.d14 L14).2)
          have ig : InW g w2 := ⟨lt_of_block hblk⟩
          have q0 : w2.cell? ⟨g, 0, none⟩ = some u := by rw [cell_of_row w2 g 0 _ _ _ hblk]; rfl
          have q1 : w2.cell? ⟨g, 1, none⟩ = some v := by rw [cell_of_row w2 g 1 _ _ _ hblk]; rfl
          have r0 := frozen_of_row w2 g 0 _ _ hblk
          have r1 := frozen_of_row w2 g 1 _ _ hblk
          obtain ⟨y15, y68, y69, y70, y71, y72, y73, y74, y75, y76, y77, y78, y79, y80, y81, y82⟩ := x
          simp only at e hx hj hp hq
          subst e hx hp hq
          refine wpOp_step rfl fun K2 hK2 => ?_
          go_simp
          exact hK2 _ _ (hK _ _ ⟨_, rfl, hj⟩)
      · intro l a' w2 hI hr
        obtain ⟨x, ha, J⟩ := hI
        subst ha
        have all := ready_nil hr J.size (by kernel_rfl)
        have hboth := Lib.hid (j13_end J (all 6 (by decide)) (all 13 (by decide)) (all 16 (by decide)))
        clear all hr J
        go_wp2
        go_meet
        exact hboth.out
    case rest =>
      obtain ⟨g, pa, pc, qa, qc, rfl, hB, hg, c0, c1, hva, hsa, hb⟩ := hcut
      rename World => wq
      have ig : InW g wq := ⟨hg⟩
      have hwq := hw3.trans (hb.mono hw3.size)
      have hwz := hwq.size
      have O4 := Lib.hid (fun wx (hx : Below wq.heap.size wq wx) => O.out pa pc (vs ++ ws) qa qc (ss ++ ts) (by rw [List.length_append]; omega) (by rw [List.length_append]; omega) na nc wx (N3.out wx (hb.trans (hx.mono hb.size))) (vars_below hva hx) (strs_below hsa hx) (hwq.trans (hx.mono hwq.size)))
      rw [hres.out] at O4
      have hKK : (K == K) = true := beq_self_eq_true K
      clear hres O N3 hV hS hW hT hva hsa d0 d1 d2 d3
      generalize (vs ++ ws).length = n1 at *
      generalize (ss ++ ts).length = n2 at *
      go_wp2_with ((with_reducible refine (O4.out _ (by repeat' (first | (with_reducible exact Below.refl _ _) | (with_reducible assumption) | (with_reducible refine Below.alloc ?_ ?_ _) | (with_reducible refine Below.drew ?_) | (with_reducible refine belowN ?_ _) | (with_reducible refine Below.setCell ?_ ?_ _) | (with_reducible refine belowG ?_ ?_) | (with_reducible exact Nat.le_refl _) | (with_reducible refine le_sizeG ?_) | (with_reducible refine le_sizeA ?_) | (with_reducible refine le_sizeC ?_) | (with_reducible refine le_sizeD ?_) | (with_reducible refine le_sizeN ?_) | go_size | (simp [go_sem]; done)))).mono ?_); intro e w1 hr; obtain ⟨rfl, p, rfl⟩ := hr.out; clear hr)
      go_returns
      exact ⟨rfl, by repeat' (first | (with_reducible exact Below.refl _ _) | (with_reducible assumption) | (with_reducible refine Below.alloc ?_ ?_ _) | (with_reducible refine Below.drew ?_) | (with_reducible refine belowN ?_ _) | (with_reducible refine Below.setCell ?_ ?_ _) | (with_reducible refine belowG ?_ ?_) | (with_reducible exact Nat.le_refl _) | (with_reducible refine le_sizeG ?_) | (with_reducible refine le_sizeA ?_) | (with_reducible refine le_sizeC ?_) | (with_reducible refine le_sizeD ?_) | (with_reducible refine le_sizeN ?_) | go_size | (simp [go_sem]; done))⟩
set_option maxRecDepth 100000 in
set_option maxHeartbeats 2000000 in
theorem more_walk_short (s : ByteArray) (va : Option Addr) (vc : Nat) (vs : List (ByteArray × Int)) (sa : Option Addr) (sc : Nat) (ss : List ByteArray) (wa : Option Addr) (wc : Nat) (ws : List (ByteArray × Int)) (ta : Option Addr) (tc : Nat) (ts : List ByteArray)
    (hsm : s.size ≤ maxLen) (hssm : ss.length ≤ maxLen) (htsm : ts.length ≤ maxLen) (hz : ss.length * 16 ≤ 140737488355328 ∧ ts.length * 16 ≤ 140737488355328) (hvm : vs.length ≤ maxLen) (hvz : vs.length * 24 ≤ 140737488355328) (hwm : ws.length ≤ maxLen) (hwz : ws.length * 24 ≤ 140737488355328)
    (hno : ¬ (kindsB vs = true ∧ vs.length ≤ 100) ∨ ¬ (kindsB ws = true ∧ ws.length ≤ 100) ∨ 600 < s.size ∨ 100 < ss.length + ts.length ∨ ∃ x, readT s.data.toList = .error x) (w : World)
    (hv : VarsAt w va vs) (hw : VarsAt w wa ws) (hl : Lb w) (he : Eg w) : Calls Tryz.prog 5 #[.string s, .agg #[.slice va vs.length vc, .slice sa ss.length sc], .agg #[.slice wa ws.length wc, .slice ta ts.length tc]] w (Ret (.bool true) w) := by
  have hgl := eg_lt he
  have A := Lib.hid (fun wx (hb : Below w.heap.size w wx) => anchor4_any wx (lb_below hl hb) (eg_keep he hgl hb))
  have V := fun wx (hb : Below w.heap.size w wx) => vars_any va vc vs hvm hvz wx (vars_below hv hb)
  have W := fun wx (hb : Below w.heap.size w wx) => vars_any wa wc ws hwm hwz wx (vars_below hw hb)
  have R := Lib.hid (fun (h : s.size ≤ 600) wx (hb : Below w.heap.size w wx) => read3_any s (by omega) wx (lb_below hl hb) (eg_keep he hgl hb))
  unfold maxLen at hsm hssm htsm
  obtain ⟨hz1, hz2⟩ := hz
  have hsum : (ss.length : Int) + (ts.length : Int) ≤ 9223372036854775807 := by omega
  unfold VarsIs at V W
  clear hv hw hl he hgl hvm hvz hwm hwz
  by_cases hk : kindsB vs = true ∧ vs.length ≤ 100
  · replace hno := hno.resolve_left (fun h => h hk)
    simp only [if_pos hk] at V
    by_cases hj : kindsB ws = true ∧ ws.length ≤ 100
    · replace hno := hno.resolve_left (fun h => h hj)
      simp only [if_pos hj] at W
      replace V := Lib.hid V
      replace W := Lib.hid W
      clear hk hj
      go_enter Tryz.func5, Tryz.ntmps5
      go_wp2_with ((with_reducible refine (A.out _ (by repeat' (first | (with_reducible exact Below.refl _ _) | (with_reducible assumption) | (with_reducible refine Below.alloc ?_ ?_ _) | (with_reducible refine Below.drew ?_) | (with_reducible refine belowN ?_ _) | (with_reducible refine Below.setCell ?_ ?_ _) | (with_reducible refine belowG ?_ ?_) | (with_reducible exact Nat.le_refl _) | (with_reducible refine le_sizeG ?_) | (with_reducible refine le_sizeA ?_) | (with_reducible refine le_sizeC ?_) | (with_reducible refine le_sizeD ?_) | (with_reducible refine le_sizeN ?_) | go_size | (simp [go_sem]; done)))).mono ?_); intro e w1 hr; obtain ⟨rfl, p, rfl⟩ := hr.out; clear hr)
      refine (V.out _ (by repeat' (first | (with_reducible exact Below.refl _ _) | (with_reducible assumption) | (with_reducible refine Below.alloc ?_ ?_ _) | (with_reducible refine Below.drew ?_) | (with_reducible refine belowN ?_ _) | (with_reducible refine Below.setCell ?_ ?_ _) | (with_reducible refine belowG ?_ ?_) | (with_reducible exact Nat.le_refl _) | (with_reducible refine le_sizeG ?_) | (with_reducible refine le_sizeA ?_) | (with_reducible refine le_sizeC ?_) | (with_reducible refine le_sizeD ?_) | (with_reducible refine le_sizeN ?_) | go_size | (simp [go_sem]; done)))).mono ?_
      intro e w1 hr
      obtain ⟨oa, oc, rfl, _, hb⟩ := hr
      obtain ⟨p1, rfl⟩ := toG hb
      clear V A hb
      go_wp2_with fail
      refine (W.out _ (by repeat' (first | (with_reducible exact Below.refl _ _) | (with_reducible assumption) | (with_reducible refine Below.alloc ?_ ?_ _) | (with_reducible refine Below.drew ?_) | (with_reducible refine belowN ?_ _) | (with_reducible refine Below.setCell ?_ ?_ _) | (with_reducible refine belowG ?_ ?_) | (with_reducible exact Nat.le_refl _) | (with_reducible refine le_sizeG ?_) | (with_reducible refine le_sizeA ?_) | (with_reducible refine le_sizeC ?_) | (with_reducible refine le_sizeD ?_) | (with_reducible refine le_sizeN ?_) | go_size | (simp [go_sem]; done)))).mono ?_
      intro e w1 hr
      obtain ⟨oa2, oc2, rfl, _, hb⟩ := hr
      obtain ⟨p2, rfl⟩ := toG hb
      clear W hb
      by_cases h6 : 600 < s.size
      · have hd : (600 : Int) < (s.size : Int) := by omega
        go_wp2
        go_returns
        exact ⟨rfl, by repeat' (first | (with_reducible exact Below.refl _ _) | (with_reducible assumption) | (with_reducible refine Below.alloc ?_ ?_ _) | (with_reducible refine Below.drew ?_) | (with_reducible refine belowN ?_ _) | (with_reducible refine Below.setCell ?_ ?_ _) | (with_reducible refine belowG ?_ ?_) | (with_reducible exact Nat.le_refl _) | (with_reducible refine le_sizeG ?_) | (with_reducible refine le_sizeA ?_) | (with_reducible refine le_sizeC ?_) | (with_reducible refine le_sizeD ?_) | (with_reducible refine le_sizeN ?_) | go_size | (simp [go_sem]; done))⟩
      · have hd : ¬ (600 : Int) < (s.size : Int) := by omega
        by_cases h1 : 100 < ss.length + ts.length
        · have hd1 : (100 : Int) < (ss.length : Int) + (ts.length : Int) := by omega
          go_wp2
          go_returns
          exact ⟨rfl, by repeat' (first | (with_reducible exact Below.refl _ _) | (with_reducible assumption) | (with_reducible refine Below.alloc ?_ ?_ _) | (with_reducible refine Below.drew ?_) | (with_reducible refine belowN ?_ _) | (with_reducible refine Below.setCell ?_ ?_ _) | (with_reducible refine belowG ?_ ?_) | (with_reducible exact Nat.le_refl _) | (with_reducible refine le_sizeG ?_) | (with_reducible refine le_sizeA ?_) | (with_reducible refine le_sizeC ?_) | (with_reducible refine le_sizeD ?_) | (with_reducible refine le_sizeN ?_) | go_size | (simp [go_sem]; done))⟩
        · have hd1 : ¬ (100 : Int) < (ss.length : Int) + (ts.length : Int) := by omega
          obtain ⟨x, hx⟩ := (hno.resolve_left h6).resolve_left h1
          have R1 := fun wx hb => R.out (by omega) wx hb
          rw [hx] at R1
          have hx1 := readT_nz hx
          replace R1 := Lib.hid R1
          clear hx R hno
          go_wp2_with fail
          refine (R1.out _ (by repeat' (first | (with_reducible exact Below.refl _ _) | (with_reducible assumption) | (with_reducible refine Below.alloc ?_ ?_ _) | (with_reducible refine Below.drew ?_) | (with_reducible refine belowN ?_ _) | (with_reducible refine Below.setCell ?_ ?_ _) | (with_reducible refine belowG ?_ ?_) | (with_reducible exact Nat.le_refl _) | (with_reducible refine le_sizeG ?_) | (with_reducible refine le_sizeA ?_) | (with_reducible refine le_sizeC ?_) | (with_reducible refine le_sizeD ?_) | (with_reducible refine le_sizeN ?_) | go_size | (simp [go_sem]; done)))).mono ?_
          intro e w2 hr
          obtain ⟨rfl, hb2⟩ := hr
          obtain ⟨p3, rfl⟩ := toG hb2
          clear R1 hb2
          go_wp2
          go_returns
          exact ⟨rfl, by repeat' (first | (with_reducible exact Below.refl _ _) | (with_reducible assumption) | (with_reducible refine Below.alloc ?_ ?_ _) | (with_reducible refine Below.drew ?_) | (with_reducible refine belowN ?_ _) | (with_reducible refine Below.setCell ?_ ?_ _) | (with_reducible refine belowG ?_ ?_) | (with_reducible exact Nat.le_refl _) | (with_reducible refine le_sizeG ?_) | (with_reducible refine le_sizeA ?_) | (with_reducible refine le_sizeC ?_) | (with_reducible refine le_sizeD ?_) | (with_reducible refine le_sizeN ?_) | go_size | (simp [go_sem]; done))⟩
    · simp only [if_neg hj] at W
      replace V := Lib.hid V
      replace W := Lib.hid W
      clear hk hj R hno
      go_enter Tryz.func5, Tryz.ntmps5
      go_wp2_with ((with_reducible refine (A.out _ (by repeat' (first | (with_reducible exact Below.refl _ _) | (with_reducible assumption) | (with_reducible refine Below.alloc ?_ ?_ _) | (with_reducible refine Below.drew ?_) | (with_reducible refine belowN ?_ _) | (with_reducible refine Below.setCell ?_ ?_ _) | (with_reducible refine belowG ?_ ?_) | (with_reducible exact Nat.le_refl _) | (with_reducible refine le_sizeG ?_) | (with_reducible refine le_sizeA ?_) | (with_reducible refine le_sizeC ?_) | (with_reducible refine le_sizeD ?_) | (with_reducible refine le_sizeN ?_) | go_size | (simp [go_sem]; done)))).mono ?_); intro e w1 hr; obtain ⟨rfl, p, rfl⟩ := hr.out; clear hr)
      refine (V.out _ (by repeat' (first | (with_reducible exact Below.refl _ _) | (with_reducible assumption) | (with_reducible refine Below.alloc ?_ ?_ _) | (with_reducible refine Below.drew ?_) | (with_reducible refine belowN ?_ _) | (with_reducible refine Below.setCell ?_ ?_ _) | (with_reducible refine belowG ?_ ?_) | (with_reducible exact Nat.le_refl _) | (with_reducible refine le_sizeG ?_) | (with_reducible refine le_sizeA ?_) | (with_reducible refine le_sizeC ?_) | (with_reducible refine le_sizeD ?_) | (with_reducible refine le_sizeN ?_) | go_size | (simp [go_sem]; done)))).mono ?_
      intro e w1 hr
      obtain ⟨oa, oc, rfl, _, hb⟩ := hr
      obtain ⟨p1, rfl⟩ := toG hb
      clear V A hb
      go_wp2_with fail
      refine (W.out _ (by repeat' (first | (with_reducible exact Below.refl _ _) | (with_reducible assumption) | (with_reducible refine Below.alloc ?_ ?_ _) | (with_reducible refine Below.drew ?_) | (with_reducible refine belowN ?_ _) | (with_reducible refine Below.setCell ?_ ?_ _) | (with_reducible refine belowG ?_ ?_) | (with_reducible exact Nat.le_refl _) | (with_reducible refine le_sizeG ?_) | (with_reducible refine le_sizeA ?_) | (with_reducible refine le_sizeC ?_) | (with_reducible refine le_sizeD ?_) | (with_reducible refine le_sizeN ?_) | go_size | (simp [go_sem]; done)))).mono ?_
      intro e w1 hr
      obtain ⟨v, rfl, hb⟩ := hr
      obtain ⟨p2, rfl⟩ := toG hb
      clear W hb
      go_wp2
      go_returns
      exact ⟨rfl, by repeat' (first | (with_reducible exact Below.refl _ _) | (with_reducible assumption) | (with_reducible refine Below.alloc ?_ ?_ _) | (with_reducible refine Below.drew ?_) | (with_reducible refine belowN ?_ _) | (with_reducible refine Below.setCell ?_ ?_ _) | (with_reducible refine belowG ?_ ?_) | (with_reducible exact Nat.le_refl _) | (with_reducible refine le_sizeG ?_) | (with_reducible refine le_sizeA ?_) | (with_reducible refine le_sizeC ?_) | (with_reducible refine le_sizeD ?_) | (with_reducible refine le_sizeN ?_) | go_size | (simp [go_sem]; done))⟩
  · simp only [if_neg hk] at V
    replace V := Lib.hid V
    have W2 : ∃ b : Bool, Hid (∀ wx, Below w.heap.size w wx → Calls Tryz.prog 7 #[.slice wa ws.length wc] wx (fun e w' => ∃ v, e = .returned (.tuple #[v, .bool b]) ∧ Below wx.heap.size wx w')) := by
      by_cases hj : kindsB ws = true ∧ ws.length ≤ 100
      · exact ⟨true, Lib.hid (fun wx hb => (W wx hb).mono fun e w' h => by rw [if_pos hj] at h; obtain ⟨oa, oc, h1, _, h2⟩ := h; exact ⟨_, h1, h2⟩)⟩
      · exact ⟨false, Lib.hid (fun wx hb => (W wx hb).mono fun e w' h => by rw [if_neg hj] at h; exact h)⟩
    obtain ⟨b2, W2⟩ := W2
    clear hk R hno W
    cases b2
    all_goals
      go_enter Tryz.func5, Tryz.ntmps5
      go_wp2_with ((with_reducible refine (A.out _ (by repeat' (first | (with_reducible exact Below.refl _ _) | (with_reducible assumption) | (with_reducible refine Below.alloc ?_ ?_ _) | (with_reducible refine Below.drew ?_) | (with_reducible refine belowN ?_ _) | (with_reducible refine Below.setCell ?_ ?_ _) | (with_reducible refine belowG ?_ ?_) | (with_reducible exact Nat.le_refl _) | (with_reducible refine le_sizeG ?_) | (with_reducible refine le_sizeA ?_) | (with_reducible refine le_sizeC ?_) | (with_reducible refine le_sizeD ?_) | (with_reducible refine le_sizeN ?_) | go_size | (simp [go_sem]; done)))).mono ?_); intro e w1 hr; obtain ⟨rfl, p, rfl⟩ := hr.out; clear hr)
      refine (V.out _ (by repeat' (first | (with_reducible exact Below.refl _ _) | (with_reducible assumption) | (with_reducible refine Below.alloc ?_ ?_ _) | (with_reducible refine Below.drew ?_) | (with_reducible refine belowN ?_ _) | (with_reducible refine Below.setCell ?_ ?_ _) | (with_reducible refine belowG ?_ ?_) | (with_reducible exact Nat.le_refl _) | (with_reducible refine le_sizeG ?_) | (with_reducible refine le_sizeA ?_) | (with_reducible refine le_sizeC ?_) | (with_reducible refine le_sizeD ?_) | (with_reducible refine le_sizeN ?_) | go_size | (simp [go_sem]; done)))).mono ?_
      intro e w1 hr
      obtain ⟨v, rfl, hb⟩ := hr
      obtain ⟨p1, rfl⟩ := toG hb
      clear V A hb
      go_wp2_with fail
      refine (W2.out _ (by repeat' (first | (with_reducible exact Below.refl _ _) | (with_reducible assumption) | (with_reducible refine Below.alloc ?_ ?_ _) | (with_reducible refine Below.drew ?_) | (with_reducible refine belowN ?_ _) | (with_reducible refine Below.setCell ?_ ?_ _) | (with_reducible refine belowG ?_ ?_) | (with_reducible exact Nat.le_refl _) | (with_reducible refine le_sizeG ?_) | (with_reducible refine le_sizeA ?_) | (with_reducible refine le_sizeC ?_) | (with_reducible refine le_sizeD ?_) | (with_reducible refine le_sizeN ?_) | go_size | (simp [go_sem]; done)))).mono ?_
      intro e w1 hr
      obtain ⟨v, rfl, hb⟩ := hr
      obtain ⟨p2, rfl⟩ := toG hb
      clear W2 hb
      go_wp2
      go_returns
      exact ⟨rfl, by repeat' (first | (with_reducible exact Below.refl _ _) | (with_reducible assumption) | (with_reducible refine Below.alloc ?_ ?_ _) | (with_reducible refine Below.drew ?_) | (with_reducible refine belowN ?_ _) | (with_reducible refine Below.setCell ?_ ?_ _) | (with_reducible refine belowG ?_ ?_) | (with_reducible exact Nat.le_refl _) | (with_reducible refine le_sizeG ?_) | (with_reducible refine le_sizeA ?_) | (with_reducible refine le_sizeC ?_) | (with_reducible refine le_sizeD ?_) | (with_reducible refine le_sizeN ?_) | go_size | (simp [go_sem]; done))⟩
theorem more_row {H : Type} (s : ByteArray) {v1 v2 : Value} {d1 d2 : DataW H} {vs ws : List (ByteArray × Int)} {ss ts : List ByteArray} {W : World} (S : ScopeV W v1 d1 vs ss) (T : ScopeV W v2 d2 ws ts)
    (hz : (d1.weights Tryz.prog 25).all (· ≤ reachBytes) = true) (kz : (d2.weights Tryz.prog 25).all (· ≤ reachBytes) = true) (hs : s.size ≤ maxLen) (hl : Lb W) (he : Eg W) : Calls Tryz.prog 5 #[.string s, v1, v2] W (Ret (.bool true) W) := by
  have hr := scope_reach S hz
  have kr := scope_reach T kz
  obtain ⟨va, vc, sa, sc, rfl, hv, hss, hvm, hsm, _, zv, zs⟩ := S
  obtain ⟨wa, wc, ta, tc, rfl, hw, hts, hwm, htm, _, zw, zt⟩ := T
  by_cases hno : ¬ (kindsB vs = true ∧ vs.length ≤ 100) ∨ ¬ (kindsB ws = true ∧ ws.length ≤ 100) ∨ 600 < s.size ∨ 100 < ss.length + ts.length ∨ ∃ x, readT s.data.toList = .error x
  · exact more_walk_short s va vc vs sa sc ss wa wc ws ta tc ts hs hsm htm ⟨hr.2, kr.2⟩ hvm hr.1 hwm kr.1 hno W hv hw hl he
  · rcases h : readT s.data.toList with x | ns
    · exact absurd (.inr (.inr (.inr (.inr ⟨x, h⟩)))) hno
    · have h1 : kindsB vs = true ∧ vs.length ≤ 100 := Decidable.not_not.1 (fun h => hno (.inl h))
      have h2 : kindsB ws = true ∧ ws.length ≤ 100 := Decidable.not_not.1 (fun h => hno (.inr (.inl h)))
      exact more_walk_ok s va vc vs sa sc ss wa wc ws ta tc ts ns h (by omega) (by omega) h1.1 h1.2 h2.1 h2.2 W hv hss hw hts zv zs zw zt hl he
end Go.Proofs.YtkjgfcbanlcmgaaGreatDoor

