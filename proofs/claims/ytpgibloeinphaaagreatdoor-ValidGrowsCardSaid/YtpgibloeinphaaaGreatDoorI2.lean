/- Several texts of this proof, joined: VQ, VP, VR. -/
import Derived.Test.YtpgibloeinphaaaGreatDoorVN
import Derived.Test.YtpgibloeinphaaaGreatDoorV7
import Derived.Test.YtpgibloeinphaaaGreatDoorV8
import Derived.Test.YtpgibloeinphaaaGreatDoorY2
import Derived.WalkKit
import Derived.ProofKit
import Derived.OpenShut
import Derived.Handy
import Derived.BigQuiet
import Derived.OwnWalk
import Derived.Deep.AppendLies
import Derived.Lib.Hide
import Derived.WalkSmall
import Derived.WalkLawsBesides
import Derived.Test.YtpgibloeinphaaaGreatDoorV9
import Derived.Test.YtpgibloeinphaaaGreatDoorI1
import Derived.Deep.RegionHeld3
namespace Go.Proofs.YtpgibloeinphaaaGreatDoor
open Go.RowKit
section
variable {l : Lk} {lb : Nat}
theorem tgt_c (P : LkP l) (o a : Nat) (ho : o < l.c.states.length) (ha : a < l.c.states.length) (b1 b2 : Nat) (w : World) (h1 : w.cell? ⟨b1,0,none⟩ = some (.pointer (some ⟨lb,0,none⟩))) (h2 : w.cell? ⟨b2,0,none⟩ = some (.int .i64 (a : Int))) (H : LkAt w lb l) : ClIs 265 #[.pointer (some ⟨b1,0,none⟩),.pointer (some ⟨b2,0,none⟩)] (fun o => !apartE l.c.states a o) o w := by
 have A := Lib.hid (fun wx (hb : Below w.heap.size w wx) => apart_any P a o ha ho wx (lk_keep H hb))
 have i1 : InW b1 w := ⟨World.block_lt_of_cell? _ _ h1⟩
 have i2 : InW b2 w := ⟨World.block_lt_of_cell? _ _ h2⟩
 unfold ClIs
 simp only
 generalize apartE l.c.states a o = q at *
 clear H
 show Calls Tryz.prog _ #[.int .i64 (o : Int),.pointer (some ⟨b1,0,none⟩),.pointer (some ⟨b2,0,none⟩)] _ _
 go_enter Tryz.func265,Tryz.ntmps265
 go_wp2_with ((with_reducible refine (A.out _ (by (first | exact gwT | exact lzT))).mono ?_);intro e w1 hr;obtain ⟨rfl,p,rfl⟩ := hr.out;clear hr)
 go_returns
 exact ⟨rfl,by (first | exact gwT | exact lzT)⟩
def GoesRd (w : World) (ao : Option Addr) (gs : List (List UInt8)) : Prop := ∀ i (hi : i < gs.length),∃ g,ao = some ⟨g,0,none⟩ ∧ g < w.heap.size ∧ w.cell? ⟨g,i,none⟩ = some (str gs[i])
theorem goes_keep {w w' : World} {ao : Option Addr} {gs : List (List UInt8)} (h : GoesRd w ao gs) (hb : Below w.heap.size w w') : GoesRd w' ao gs := fun i hi => by
 obtain ⟨g,e,hg,h1⟩ := h i hi
 exact ⟨g,e,Nat.lt_of_lt_of_le hg hb.size,(hb.cell (p := ⟨g,_,none⟩) hg).trans h1⟩
theorem goes_own {w : World} {B : Nat} {ao : Option Addr} {n cap : Nat} {gs : List (List UInt8)} (h : w.ownsRow B 9 1 (.slice ao n cap) gs.length (strsC gs)) : GoesRd w ao gs := fun i hi => by
 obtain ⟨g,cap',e,hg,_,_,hc⟩ := own_head h (by omega)
 cases e
 exact ⟨g,rfl,hg,hc _ _ (by unfold strsC;rw [List.getElem?_map,List.getElem?_eq_getElem hi];rfl)⟩
theorem tgs_more' {ss : List St} {gs : List (List UInt8)} {i : Nat} (h : i < gs.length) (ahead : List Nat) : tgsE ss (gs.drop i) ahead = match findA gs[i] ss 0 with
  | none => 32
  | some at_ => if ahead.any fun o => !apartE ss at_ o then 32 else tgsE ss (gs.drop (i + 1)) (ahead ++ [at_]) := by
 rw [List.drop_eq_getElem_cons h,tgsE]
 cases findA gs[i] ss 0 <;> rfl
theorem tgs_end {ss : List St} {gs : List (List UInt8)} {i : Nat} (h : gs.length ≤ i) (ahead : List Nat) : tgsE ss (gs.drop i) ahead = 0 := by
 rw [List.drop_of_length_le h,tgsE]
set_option maxRecDepth 100000 in
set_option maxHeartbeats 8000000 in
theorem targets_any (P : LkP l) (ao : Option Addr) (cap : Nat) (gs : List (List UInt8)) (hn : gs.length ≤ 1000) (w : World) (h : GoesRd w ao gs) (H : LkAt w lb l) : Calls Tryz.prog 220 #[.pointer (some ⟨lb,0,none⟩),.slice ao gs.length cap] w (Ret (.int .i64 (tgsE l.c.states gs [])) w) := by
 have L := Lib.hid (fun wx (hb : Below w.heap.size w wx) => lk_keep H hb)
 have R := Lib.hid (fun wx (hb : Below w.heap.size w wx) => goes_keep h hb)
 obtain ⟨B,rv,va,sa,oa,pa,vc,sc,oc,pc,H⟩ := H
 have FF := Lib.hid (fun nm => lfind_any P H nm)
 obtain ⟨hl,c0,c1,c2,c3,c4⟩ := lk_cells H
 have hF' : Hid (tgsE l.c.states (gs.drop 0) [] = tgsE l.c.states gs []) := Lib.hid (by rw [List.drop_zero])
 generalize tgsE l.c.states gs [] = F at *
 have i1 : InW lb w := ⟨hl⟩
 obtain ⟨j0,hj,hy1,hy2,hy3⟩ := info_parts Tryz.infoInt
 have hmf : ∀ (fn : Fn) (first cap : Array Value) (w : World),(Instr.makeFunc fn first cap).run Tryz.prog w = .ok (.func fn first cap) w := fun _ _ _ _ => rfl
 clear h
 go_enter Tryz.func220,Tryz.ntmps220
 go_wp2
 go_loopw [5,12] (fun v x wr => ∃ (i : Nat) (ks : List Nat) (oa : Option Addr) (oc : Nat),x = .int .i64 (i : Int) ∧ i ≤ gs.length ∧ ks.length = i ∧ (∀ k ∈ ks,k < l.c.states.length) ∧ Hid (tgsE l.c.states (gs.drop i) ks = F) ∧ v = .slice oa ks.length oc ∧ wr.ownsRow (w.heap.size + 1) 3 1 (.slice oa ks.length oc) ks.length (natsC ks) ∧ wr.cell? ⟨w.heap.size,0,none⟩ = some (.pointer (some ⟨lb,0,none⟩)) ∧ Below w.heap.size w wr) (fun _ x _ => gs.length - (intOf x).toNat)
 case atStart => exact ⟨0,[],none,0,rfl,Nat.zero_le _,rfl,fun _ h => (by cases h),hF',rfl,World.ownsRow_nil _ _ _ _,by simp [go_sem],by (first | exact gwT | exact lzT)⟩
 case round =>
  obtain ⟨i,ks,oa2,oc2,rfl,hi,hki,hks,hF,rfl,hown,hbx,hb⟩ := hrel
  rename World => wr
  have hwz := hb.size
  have i0 : InW w.heap.size wr := ⟨World.block_lt_of_cell? _ _ hbx⟩
  have hz0 := i0.lt
  have iL : InW lb wr := ⟨by omega⟩
  have d0 := (hb.cell (p := ⟨lb,0,none⟩) hl).trans c0
  have d1 := (hb.cell (p := ⟨lb,1,none⟩) hl).trans c1
  have d2 := (hb.cell (p := ⟨lb,2,none⟩) hl).trans c2
  have hownK := Lib.hid hown
  have hk1000 : ks.length ≤ 1000 := by omega
  replace hki := Lib.hid hki
  clear hown
  by_cases hlt : i < gs.length
  ·have hI : (i : Int) < (gs.length : Int) := by omega
   obtain ⟨g,rfl,hg,n1⟩ := R.out wr hb i hlt
   have hm := tgs_more' (ss := l.c.states) hlt ks
   have iG : InW g wr := ⟨hg⟩
   have Fd := FF.out gs[i]
   rw [hF.out] at hm
   have hfl := fnd_lt P gs[i]
   unfold fnd isF at Fd
   unfold fnd at hfl
   generalize gs[i] = nm at *
   replace Fd := Lib.hid (fun wx (hx : Below wr.heap.size wr wx) => Fd.out wx (hb.trans (hx.mono hwz)))
   cases hf : findA nm l.c.states 0 with
   | none =>
    rw [hf] at hm Fd
    simp only [Option.getD_none,Option.isSome_none] at hm Fd
    subst hm
    clear hF hf hfl
    go_wp2_with ((with_reducible refine (Fd.out _ (by (first | exact gwT | exact lzT))).mono ?_);intro e w1 hr;obtain ⟨rfl,p,rfl⟩ := hr.out;clear hr)
    go_returns
    exact ⟨rfl,by (first | exact gwT | exact lzT)⟩
   | some k =>
    rw [hf] at hm Fd hfl
    simp only [Option.getD_some,Option.isSome_some] at hm Fd hfl
    have A := Lib.hid (fun b2 wx (hx : Below wr.heap.size wr wx) (h2 : wx.cell? ⟨b2,0,none⟩ = some (.int .i64 (k : Int))) => has_any 265 (fun _ _ => rfl) (.pointer (some ⟨w.heap.size,0,none⟩)) (.pointer (some ⟨b2,0,none⟩)) #[.pointer (some ⟨w.heap.size,0,none⟩),.pointer (some ⟨b2,0,none⟩)] (.inr rfl) (fun o => !apartE l.c.states k o) oa2 oc2 ks hk1000 wx (nts_own (owns_below hownK.out hx)) fun o ho wy hy => tgt_c P o k (hks o ho) hfl w.heap.size b2 wy ((hy.cell (p := ⟨w.heap.size,0,none⟩) (by have := hx.size;show w.heap.size < _;omega)).trans ((hx.cell (p := ⟨w.heap.size,0,none⟩) hz0).trans hbx)) ((hy.cell (p := ⟨b2,0,none⟩) (World.block_lt_of_cell? _ _ h2)).trans h2) (L.out wy ((hb.trans (hx.mono hwz)).trans (hy.mono (Nat.le_trans hwz hx.size)))))
    generalize (ks.any fun o => !apartE l.c.states k o) = q at *
    clear hF hf
    cases q with
    | true =>
     rw [if_pos rfl] at hm
     subst hm
     go_wp2_with (first | ((with_reducible refine (Fd.out _ (by (first | exact gwT | exact lzT))).mono ?_);intro e w1 hr;obtain ⟨rfl,p,rfl⟩ := hr.out;clear hr) | ((with_reducible refine (A.out _ _ (by (first | exact gwT | exact lzT)) (by simp [go_sem])).mono ?_);intro e w1 hr;obtain ⟨rfl,p,rfl⟩ := hr.out;clear hr))
     go_returns
     exact ⟨rfl,by (first | exact gwT | exact lzT)⟩
    | false =>
     rw [if_neg Bool.false_ne_true] at hm
     have hm' := Lib.hid hm.symm
     clear hm
     go_wp2_with (first | ((with_reducible refine (Fd.out _ (by (first | exact gwT | exact lzT))).mono ?_);intro e w1 hr;obtain ⟨rfl,p,rfl⟩ := hr.out;clear hr) | ((with_reducible refine (A.out _ _ (by (first | exact gwT | exact lzT)) (by simp [go_sem])).mono ?_);intro e w1 hr;obtain ⟨rfl,p,rfl⟩ := hr.out;clear hr) | (at_builtin;refine wpList_append_lies _ rfl _ _ 61 rfl (w.heap.size + 1) 3 j0 _ 1 8 Tryz.underlying61 hj hy1 hy2 hy3 rfl (by decide) (.slice oa2 ks.length oc2) ks.length (natsC ks) rfl (owns_below hownK.out (by (first | exact gwT | exact lzT))) ⟨_,0,none⟩ 1 1 [.int .i64 (k : Int)] rfl rfl (World.news_of_block (new_at (by simp))) (by intro u hu;simp at hu;subst hu;rfl) (by decide) (by unfold maxLen;omega) (by omega) (Nat.le_trans (show w.heap.size + 1 ≤ wr.heap.size by omega) (Below.size (B := wr.heap.size) (by (first | exact gwT | exact lzT)))) _ rfl ?_))
     intro g' cap' w2 hown1 hgrow hat1 hg1
     have hbA : Below (w.heap.size + 1) wr w2 := Below.grown (by (first | exact gwT | exact lzT)) hgrow (Nat.le_trans (show w.heap.size + 1 ≤ wr.heap.size by omega) (Below.size (B := wr.heap.size) (by (first | exact gwT | exact lzT)))) (fun k hk => (hownK.out.lt k hk).1)
     have hown2 := Lib.hid hown1
     have hqz := hbA.size
     clear hown1 hgrow hat1 hg1 hownK Fd A
     go_wp2
     go_roundw
     case rel => exact ⟨i + 1,ks ++ [k],_,cap',by go_num,by omega,by rw [List.length_append,hki.out];rfl,fun o ho => by
      rcases List.mem_append.1 ho with ho | ho
      ·exact hks o ho
      ·rw [List.mem_singleton.1 ho];exact hfl,hm',by rw [List.length_append];rfl,by rw [List.length_append,show natsC (ks ++ [k]) = natsC ks ++ [.int .i64 (k : Int)] by simp [natsC]];exact hown2.out,(hbA.cell (p := ⟨w.heap.size,0,none⟩) (by show w.heap.size < _;omega)).trans hbx,hb.trans (hbA.mono (by omega))⟩
     case measure => simp [intOf];omega
  ·have hI : ¬ (i : Int) < (gs.length : Int) := by omega
   have hm := tgs_end (ss := l.c.states) (show gs.length ≤ i by omega) ks
   rw [hF.out] at hm
   subst hm
   clear hF
   go_wp2
   go_returns
   exact ⟨rfl,by (first | exact gwT | exact lzT)⟩
theorem way_no {t : Tr} (h : t.event = [] ∧ t.cond.length = 0 ∧ t.goes.length = 0) : wayE l t = 11 := by unfold wayE;rw [if_pos h]
theorem way_go {t : Tr} (h : ¬ (t.event = [] ∧ t.cond.length = 0 ∧ t.goes.length = 0)) : wayE l t = thenE (truE l t.cond) (thenE (tgsE l.c.states t.goes []) (eachE l t.thn)) := by unfold wayE;rw [if_neg h]
abbrev trV (t : Tr) (io go uo : Option Addr) (ic gc uc : Nat) : Value := .agg #[str t.event,.slice io t.cond.length ic,.slice go t.goes.length gc,.bool t.inner,.slice uo t.thn.length uc]
set_option maxRecDepth 100000 in
set_option maxHeartbeats 8000000 in
theorem way_any (P : LkP l) (t : Tr) (io go uo : Option Addr) (ic gc uc : Nat) (hf : FitT t) (w : World) (h1 : NdsAt w io t.cond) (h2 : GoesRd w go t.goes) (h3 : ActsAt w uo t.thn) (H : LkAt w lb l) :
  Calls Tryz.prog 172 #[.pointer (some ⟨lb,0,none⟩),trV t io go uo ic gc uc] w (Ret (.int .i64 (wayE l t)) w) := by
 have T := Lib.hid (fun wx (hb : Below w.heap.size w wx) => vtruth_any P io ic t.cond hf.cond wx (nds_below h1 hb) (lk_keep H hb))
 have G1 := Lib.hid (fun wx (hb : Below w.heap.size w wx) => targets_any P go gc t.goes hf.goes wx (goes_keep h2 hb) (lk_keep H hb))
 have E := Lib.hid (fun wx (hb : Below w.heap.size w wx) => each_any P uo uc t.thn hf.thn wx (acts_below h3 hb) (lk_keep H hb))
 obtain ⟨B,rv,va,sa,oa,pa,vc,sc,oc,pc,H⟩ := H
 have i1 : InW lb w := ⟨lt_of_block H.blk⟩
 have wn := @way_no l t
 have wg := @way_go l t
 generalize truE l t.cond = r1 at *
 generalize tgsE l.c.states t.goes [] = r2 at *
 generalize eachE l t.thn = r3 at *
 obtain ⟨ev,cond,gs,inn,thn⟩ := t
 unfold trV
 simp only at *
 clear H h1 h2 h3 hf
 have e1 : ((cond.length : Int) == 0) = (cond.length == 0) := by rw [Bool.eq_iff_iff];simp
 have e2 : ((gs.length : Int) == 0) = (gs.length == 0) := by rw [Bool.eq_iff_iff];simp
 have key : (ev.isEmpty = true ∧ ((cond.length : Int) == 0) = true ∧ ((gs.length : Int) == 0) = true ∧ wayE l ⟨ev,cond,gs,inn,thn⟩ = 11) ∨ (wayE l ⟨ev,cond,gs,inn,thn⟩ = thenE r1 (thenE r2 r3) ∧ (ev.isEmpty = false ∨ ev.isEmpty = true ∧ ((cond.length : Int) == 0) = false ∨ ev.isEmpty = true ∧ ((cond.length : Int) == 0) = true ∧ ((gs.length : Int) == 0) = false)) := by
  rw [e1,e2]
  by_cases hx : ev = [] ∧ cond.length = 0 ∧ gs.length = 0
  ·exact .inl ⟨by rw [hx.1];rfl,by rw [hx.2.1];rfl,by rw [hx.2.2];rfl,wn hx⟩
  ·refine .inr ⟨wg hx,?_⟩
   cases ev with
   | cons c r => exact .inl rfl
   | nil =>
    by_cases hc : cond.length = 0
    ·exact .inr (.inr ⟨rfl,by rw [hc];rfl,beq_eq_false_iff_ne.2 fun hg => hx ⟨rfl,hc,hg⟩⟩)
    ·exact .inr (.inl ⟨rfl,beq_eq_false_iff_ne.2 hc⟩)
 clear wn wg e1 e2
 rcases key with ⟨k1,k2,k3,k4⟩ | ⟨k4,key⟩
 ·rw [k4]
  go_enter Tryz.func172,Tryz.ntmps172
  go_wp2
  go_returns
  exact ⟨rfl,by (first | exact gwT | exact lzT)⟩
 ·rw [k4]
  by_cases h1 : r1 = 0
  ·rw [then_go h1]
   obtain ⟨z0,z1⟩ := eq_eqs h1
   replace h1 := Lib.hid h1
   by_cases h2 : r2 = 0
   ·rw [then_go h2]
    obtain ⟨y0,y1⟩ := eq_eqs h2
    replace h2 := Lib.hid h2
    rcases key with k1 | ⟨k1,k2⟩ | ⟨k1,k2,k3⟩
    all_goals
     go_enter Tryz.func172,Tryz.ntmps172
     go_wp2_with (first | ((with_reducible refine (T.out _ (by (first | exact gwT | exact lzT))).mono ?_);intro e w1 hr;obtain ⟨rfl,p,rfl⟩ := hr.out;clear hr) | ((with_reducible refine (G1.out _ (by (first | exact gwT | exact lzT))).mono ?_);intro e w1 hr;obtain ⟨rfl,p,rfl⟩ := hr.out;clear hr) | ((with_reducible refine (E.out _ (by (first | exact gwT | exact lzT))).mono ?_);intro e w1 hr;obtain ⟨rfl,p,rfl⟩ := hr.out;clear hr))
     go_returns
     exact ⟨rfl,by (first | exact gwT | exact lzT)⟩
   ·rw [then_no h2]
    obtain ⟨y0,y1⟩ := ne_eqs h2
    replace h2 := Lib.hid h2
    rcases key with k1 | ⟨k1,k2⟩ | ⟨k1,k2,k3⟩
    all_goals
     go_enter Tryz.func172,Tryz.ntmps172
     go_wp2_with (first | ((with_reducible refine (T.out _ (by (first | exact gwT | exact lzT))).mono ?_);intro e w1 hr;obtain ⟨rfl,p,rfl⟩ := hr.out;clear hr) | ((with_reducible refine (G1.out _ (by (first | exact gwT | exact lzT))).mono ?_);intro e w1 hr;obtain ⟨rfl,p,rfl⟩ := hr.out;clear hr))
     go_returns
     exact ⟨rfl,by (first | exact gwT | exact lzT)⟩
  ·rw [then_no h1]
   obtain ⟨z0,z1⟩ := ne_eqs h1
   replace h1 := Lib.hid h1
   rcases key with k1 | ⟨k1,k2⟩ | ⟨k1,k2,k3⟩
   all_goals
    go_enter Tryz.func172,Tryz.ntmps172
    go_wp2_with ((with_reducible refine (T.out _ (by (first | exact gwT | exact lzT))).mono ?_);intro e w1 hr;obtain ⟨rfl,p,rfl⟩ := hr.out;clear hr)
    go_returns
    exact ⟨rfl,by (first | exact gwT | exact lzT)⟩
set_option maxRecDepth 100000 in
set_option maxHeartbeats 8000000 in
theorem ways_any (P : LkP l) (i : Nat) (hi : i < l.c.states.length) (w : World) (H : LkAt w lb l) : Calls Tryz.prog 112 #[.pointer (some ⟨lb,0,none⟩),.int .i64 (i : Int)] w (Ret (.int .i64 (waysE l i)) w) := by
 have L := Lib.hid (fun wx (hb : Below w.heap.size w wx) => lk_keep H hb)
 obtain ⟨B,rv,va,sa,oa,pa,vc,sc,oc,pc,H⟩ := H
 obtain ⟨hl,c0,c1,c2,c3,c4⟩ := lk_cells H
 obtain ⟨g,eo,ec,xo,xc,to',tc,rfl,hg,_,_,_,_,_,_,n7,_,_,hT⟩ := st_at H.ch i hi
 have hfit := P.fit i hi
 unfold waysE stL
 rw [show l.c.states.getD i st0 = l.c.states[i] by simp [List.getD,hi]] at hfit ⊢
 have hft := Lib.hid hfit.trans
 have hle : l.c.states[i].trans.length ≤ 96 := by
  have := (P.lens i hi).2.2
  rwa [show l.c.states.getD i st0 = l.c.states[i] by simp [List.getD,hi]] at this
 have RR := Lib.hid (fun wx (hx : Below w.heap.size w wx) => trRow_tp (fx_below hx) hT fun _ _ h => owns_below h hx)
 generalize l.c.states[i].trans = ts at *
 have hF' : Hid (firstE (wayE l) (ts.drop 0) = firstE (wayE l) ts) := Lib.hid (by rw [List.drop_zero])
 generalize firstE (wayE l) ts = F at *
 have i1 : InW lb w := ⟨hl⟩
 have i2 : InW g w := ⟨hg⟩
 have hI : (i : Int) < (l.c.states.length : Int) := by omega
 clear hT hfit H
 go_enter Tryz.func112,Tryz.ntmps112
 go_wp2
 go_loopw [18] (fun x wr => ∃ (k : Nat),x = .int .i64 (k : Int) ∧ k ≤ ts.length ∧ Hid (firstE (wayE l) (ts.drop k) = F) ∧ Below w.heap.size w wr) (fun x _ => ts.length - (intOf x).toNat)
 case atStart => exact ⟨0,rfl,Nat.zero_le _,hF',by (first | exact gwT | exact lzT)⟩
 case round =>
  obtain ⟨k,rfl,hk,hF,hb⟩ := hrel
  rename World => wr
  have hwz := hb.size
  have j0 : InW lb wr := ⟨by omega⟩
  by_cases hlt : k < ts.length
  ·have hK : (k : Int) < (ts.length : Int) := by omega
   obtain ⟨g2,io,ic,go,gc,uo,uc,rfl,hg2,m1,m2,m3,m4,m5,hN,hG,hA⟩ := tr_at (RR.out wr hb) k hlt
   have hfk := hft.out ts[k] (List.getElem_mem hlt)
   have hm := first_more (f := wayE l) hlt
   have W := Lib.hid (fun wx (hx : Below wr.heap.size wr wx) => way_any P ts[k] io go uo ic gc uc hfk wx (nds_below (nds_own hN) hx) (goes_keep (goes_own hG) hx) (acts_below (acRow_at hA) hx) (L.out wx (hb.trans (hx.mono hwz))))
   have j1 : InW g2 wr := ⟨hg2⟩
   unfold trV at W
   clear hN hG hA hfk
   generalize ts[k] = t at *
   rw [hF.out] at hm
   generalize wayE l t = e at *
   by_cases h0 : e = 0
   ·rw [then_go h0] at hm
    obtain ⟨z0,z1⟩ := eq_eqs h0
    replace h0 := Lib.hid h0
    have hm' := Lib.hid hm.symm
    clear hm hF
    go_wp2_with ((with_reducible refine (W.out _ (by (first | exact gwT | exact lzT))).mono ?_);intro e w1 hr;obtain ⟨rfl,p,rfl⟩ := hr.out;clear hr)
    go_roundw
    case rel => exact ⟨k + 1,by go_num,by omega,hm',by (first | exact gwT | exact lzT)⟩
    case measure => simp [intOf];omega
   ·rw [then_no h0] at hm
    obtain ⟨z0,z1⟩ := ne_eqs h0
    replace h0 := Lib.hid h0
    subst hm
    clear hF
    go_wp2_with ((with_reducible refine (W.out _ (by (first | exact gwT | exact lzT))).mono ?_);intro e w1 hr;obtain ⟨rfl,p,rfl⟩ := hr.out;clear hr)
    go_returns
    exact ⟨rfl,by (first | exact gwT | exact lzT)⟩
  ·have hK : ¬ (k : Int) < (ts.length : Int) := by omega
   have hm := first_end (f := wayE l) (show ts.length ≤ k by omega)
   rw [hF.out] at hm
   subst hm
   clear hF
   go_wp2
   go_returns
   exact ⟨rfl,by (first | exact gwT | exact lzT)⟩
end
end Go.Proofs.YtpgibloeinphaaaGreatDoor
namespace Go.Proofs.YtpgibloeinphaaaGreatDoor
open Go.RowKit
section
variable {l : Lk} {lb : Nat}
abbrev lookF (f : FuncId) (lb : Nat) : Value := .func (.func f) #[.pointer (some ⟨lb,0,none⟩)] #[]
def fnsL (l : Lk) (i : Nat) : List FuncId := if pastS (stL l i) then [107,108] else [107,109,110,111,112]
def errsL (l : Lk) (i : Nat) : List Int := if pastS (stL l i) then [onceE l i,pastE l i] else [onceE l i,kidsE l i,startE l i,actsE l i,waysE l i]
theorem fns_no {i : Nat} (h : pastS (stL l i) = false) : fnsL l i = [107,109,110,111,112] := by unfold fnsL;rw [h];rfl
theorem fns_yes {i : Nat} (h : pastS (stL l i) = true) : fnsL l i = [107,108] := by unfold fnsL;rw [h];rfl
def LooksIs (l : Lk) (lb i : Nat) (w : World) (e : Ending) (w' : World) : Prop := ∃ g cap,e = .returned (.slice (some ⟨g,0,none⟩) (fnsL l i).length cap) ∧ g < w'.heap.size ∧ (∀ k f,(fnsL l i)[k]? = some f → w'.cell? ⟨g,k,none⟩ = some (lookF f lb)) ∧ Below w.heap.size w w'
set_option maxRecDepth 100000 in
set_option maxHeartbeats 4000000 in
theorem looks_any (i : Nat) (hi : i < l.c.states.length) (w : World) (H : LkAt w lb l) : Calls Tryz.prog 57 #[.pointer (some ⟨lb,0,none⟩),.int .i64 (i : Int)] w (LooksIs l lb i w) := by
 obtain ⟨B,rv,va,sa,oa,pa,vc,sc,oc,pc,H⟩ := H
 obtain ⟨hl,c0,c1,c2,c3,c4⟩ := lk_cells H
 obtain ⟨g,eo,ec,xo,xc,to',tc,rfl,hg,n1,n2,n3,n4,n5,n6,n7,_⟩ := st_at H.ch i hi
 rw [← stL_at hi] at n1 n2 n3 n4 n5 n6 n7
 have i1 : InW lb w := ⟨hl⟩
 have i2 : InW g w := ⟨hg⟩
 have hI : (i : Int) < (l.c.states.length : Int) := by omega
 have Q := Lib.hid (fun wx => vpast_any (stL l i) (.slice eo (stL l i).enter.length ec) (.slice xo (stL l i).exit.length xc) (.slice to' (stL l i).trans.length tc) wx)
 have hmf : ∀ (fn : Fn) (first cap : Array Value) (w : World),(Instr.makeFunc fn first cap).run Tryz.prog w = .ok (.func fn first cap) w := fun _ _ _ _ => rfl
 clear H
 cases hp : pastS (stL l i)
 ·rw [hp] at Q
  have hfn := Lib.hid (fns_no hp)
  clear hp
  generalize stL l i = s at *
  go_enter Tryz.func57,Tryz.ntmps57
  go_wp2_with ((with_reducible refine (Q.out _).mono ?_);intro e w1 hr;obtain ⟨rfl,p,rfl⟩ := hr.out;clear hr)
  go_returns
  refine ⟨_,_,by rw [hfn.out];rfl,by simp [go_sem],fun k f hf => ?_,by (first | exact gwT | exact lzT)⟩
  rw [hfn.out] at hf
  rcases k with _ | _ | _ | _ | _ | k
  all_goals
   simp at hf
   try subst hf
   try simp [go_sem]
 ·rw [hp] at Q
  have hfn := Lib.hid (fns_yes hp)
  clear hp
  generalize stL l i = s at *
  go_enter Tryz.func57,Tryz.ntmps57
  go_wp2_with ((with_reducible refine (Q.out _).mono ?_);intro e w1 hr;obtain ⟨rfl,p,rfl⟩ := hr.out;clear hr)
  go_returns
  refine ⟨_,_,by rw [hfn.out];rfl,by simp [go_sem],fun k f hf => ?_,by (first | exact gwT | exact lzT)⟩
  rw [hfn.out] at hf
  rcases k with _ | _ | k
  all_goals
   simp at hf
   try subst hf
   try simp [go_sem]
theorem then_zero (a : Int) : thenE a 0 = a := by unfold thenE;split <;> simp_all
theorem state_errs (i : Nat) : stateE l i = firstE id (errsL l i) := by
 unfold stateE errsL
 split
 ·simp only [firstE,id,then_zero]
 ·simp only [firstE,id,then_zero]
theorem errs_len (i : Nat) : (errsL l i).length = (fnsL l i).length := by
 unfold errsL fnsL
 split <;> rfl
set_option maxRecDepth 100000 in
theorem look_any (P : LkP l) (i : Nat) (hi : i < l.c.states.length) {k : Nat} {f : FuncId} {e : Int} (hf : (fnsL l i)[k]? = some f) (he : (errsL l i)[k]? = some e) :
  (∀ a wx,(callFunc f a).run Tryz.prog wx = .ok (.enter f a) wx) ∧ ∀ w,LkAt w lb l → Calls Tryz.prog f #[.pointer (some ⟨lb,0,none⟩),.int .i64 (i : Int)] w (Ret (.int .i64 e) w) := by
 unfold fnsL at hf
 unfold errsL at he
 split at hf
 ·rename_i hp
  rw [if_pos hp] at he
  rcases k with _ | _ | k
  ·cases hf;cases he
   exact ⟨fun _ _ => rfl,fun w H => once_any P i hi w H⟩
  ·cases hf;cases he
   exact ⟨fun _ _ => rfl,fun w H => past_any P i hi w H⟩
  ·cases hf
 ·rename_i hp
  rw [if_neg hp] at he
  rcases k with _ | _ | _ | _ | _ | k
  ·cases hf;cases he
   exact ⟨fun _ _ => rfl,fun w H => once_any P i hi w H⟩
  ·cases hf;cases he
   exact ⟨fun _ _ => rfl,fun w H => kids_any P i hi w H⟩
  ·cases hf;cases he
   exact ⟨fun _ _ => rfl,fun w H => start_any P i hi w H⟩
  ·cases hf;cases he
   exact ⟨fun _ _ => rfl,fun w H => acts_any P i hi w H⟩
  ·cases hf;cases he
   exact ⟨fun _ _ => rfl,fun w H => ways_any P i hi w H⟩
  ·cases hf
end
end Go.Proofs.YtpgibloeinphaaaGreatDoor
namespace Go.Proofs.YtpgibloeinphaaaGreatDoor
open Go.RowKit
structure OkC (c : Ch) : Prop where
 some : 0 < c.states.length
 few : c.states.length ≤ 49
 vars : c.vars.length ≤ 16
 par : Par c.states
 fit : ∀ i,i < c.states.length → FitS (c.states.getD i st0)
 lens : ∀ i,i < c.states.length → (c.states.getD i st0).enter.length ≤ 8 ∧ (c.states.getD i st0).exit.length ≤ 8 ∧ (c.states.getD i st0).trans.length ≤ 96
theorem lkP_of {c : Ch} (h : OkC c) : LkP (lkC c) :=
 ⟨h.some,h.few,h.vars,by show (scV c.vars).length ≤ _;rw [scV_len];have := h.vars;omega,by
  have := scS_le (c.states.drop 1)
  rw [List.length_drop] at this
  have := h.few
  show (scS (c.states.drop 1)).length ≤ 1000
  omega,h.par,h.fit,h.lens⟩
theorem twice_more {vs : List Vr} {i : Nat} (h : i < vs.length) : twiceE (vs.take i) (vs.drop i) = if (vs.take i).any fun u => u.name == vs[i].name then some vs[i].name else twiceE (vs.take (i + 1)) (vs.drop (i + 1)) := by
 rw [List.drop_eq_getElem_cons h,twiceE,List.take_succ_eq_append_getElem h]
theorem twice_end {vs : List Vr} {i : Nat} (h : vs.length ≤ i) : twiceE (vs.take i) (vs.drop i) = none := by
 rw [List.drop_of_length_le h]
 cases vs.take i <;> rfl
theorem sts_more {l : Lk} {ss : List St} {i : Nat} (h : i < ss.length) : stsE l i (ss.drop i) = if stateE l i = 0 then stsE l (i + 1) (ss.drop (i + 1)) else (stateE l i,ss[i].name) := by
 rw [List.drop_eq_getElem_cons h,stsE]
theorem sts_end {l : Lk} {ss : List St} {i : Nat} (h : ss.length ≤ i) : stsE l i (ss.drop i) = (0,[]) := by
 rw [List.drop_of_length_le h,stsE]
theorem checkE_some {c : Ch} {nm : List UInt8} (h0 : 0 < c.states.length) (h : twiceE [] c.vars = some nm) : checkE c = (16,nm) := by
 unfold checkE
 rw [if_neg (by omega),h]
theorem checkE_none {c : Ch} (h0 : 0 < c.states.length) (h : twiceE [] c.vars = none) : checkE c = stsE (lkC c) 0 c.states := by
 unfold checkE
 rw [if_neg (by omega),h]
set_option maxRecDepth 100000 in
set_option maxHeartbeats 8000000 in
theorem vcheck_any {c : Ch} {B : Nat} {rv : Nat → Value} {va sa : Option Addr} {vc sc : Nat} (O : OkC c) (w : World) (H : ChV ct0 B w c rv (.slice va c.vars.length vc) (.slice sa c.states.length sc)) (hw : Lb w) :
  Calls Tryz.prog 18 #[.agg #[str c.name,.slice va c.vars.length vc,.slice sa c.states.length sc]] w (Ret (.tuple #[.int .i64 (checkE c).1,str (checkE c).2]) w) := by
 have C := Lib.hid (fun wx (hb : Below w.heap.size w wx) => chV_keep H hb)
 have hLb := Lib.hid (fun wx (hb : Below w.heap.size w wx) => lb_below hw hb)
 have SC := Lib.hid (fun wx (hb : Below w.heap.size w wx) => scope_any O.vars O.few O.some wx (chV_keep H hb))
 have hs0 := O.some
 have hs49 := O.few
 have hv16 := O.vars
 have z0 : ((c.states.length : Int) == 0) = false := by rw [beq_eq_false_iff_ne];omega
 have hT := Lib.hid (show twiceE (c.vars.take 0) (c.vars.drop 0) = twiceE [] c.vars from rfl)
 have hcs := fun nm => checkE_some (c := c) (nm := nm) hs0
 have hcn := checkE_none (c := c) hs0
 generalize checkE c = F at *
 generalize twiceE [] c.vars = T at *
 have hcap : Hid (0 < c.vars.length → c.vars.length ≤ vc) := Lib.hid fun h0 => by
  obtain ⟨g,cap,e,_,hle,_⟩ := own_head H.vars h0
  cases e
  exact hle
 replace hcs := Lib.hid hcs
 replace hcn := Lib.hid hcn
 clear H hw
 go_enter Tryz.func18,Tryz.ntmps18
 go_wp2
 go_loopw [19] (fun x wr => ∃ (i : Nat),x = .int .i64 (i : Int) ∧ i ≤ c.vars.length ∧ Hid (twiceE (c.vars.take i) (c.vars.drop i) = T) ∧ wr.heap[w.heap.size]? = some (.cells #[str c.name,.slice va c.vars.length vc,.slice sa c.states.length sc] 26 (0,0)) ∧ Below w.heap.size w wr) (fun x _ => c.vars.length - (intOf x).toNat)
 case atStart => exact ⟨0,rfl,Nat.zero_le _,hT,heap_alloc_new w _,by (first | exact gwT | exact lzT)⟩
 case round =>
  obtain ⟨i,rfl,hi,hT,hbx,hb⟩ := hrel
  rename World => wr
  have hwz := hb.size
  have b0 := (cell_of_row wr w.heap.size 0 _ _ _ hbx).trans rfl
  have b1 := (cell_of_row wr w.heap.size 1 _ _ _ hbx).trans rfl
  have b2 := (cell_of_row wr w.heap.size 2 _ _ _ hbx).trans rfl
  have i0 : InW w.heap.size wr := ⟨lt_of_block hbx⟩
  by_cases hlt : i < c.vars.length
  ·have hI : (i : Int) < (c.vars.length : Int) := by omega
   have hcv := hcap.out (by omega)
   have hVr := vrs_of (C.out wr hb)
   obtain ⟨g,rfl,hg,n1,n2,n3,n4⟩ := hVr i hlt
   have hm := twice_more hlt
   rw [hT.out] at hm
   have hli : (c.vars.take i).length = i := by rw [List.length_take];omega
   have V := fun b wx (hx : Below wr.heap.size wr wx) (hc : wx.cell? ⟨b,0,none⟩ = some (.string ⟨c.vars[i].name.toArray⟩)) => vhas_of (some ⟨g,0,none⟩) vc (c.vars.take i) ⟨c.vars[i].name.toArray⟩ (by omega) b wx (vrs_keep (vrs_take hVr i) hx) hc
   rw [hli,show (⟨c.vars[i].name.toArray⟩ : ByteArray).toList = c.vars[i].name by rw [Lib.toList_data]] at V
   replace V := Lib.hid V
   have iG : InW g wr := ⟨hg⟩
   have hI0 : (0 : Int) ≤ (i : Int) := by omega
   have hIc : (i : Int) ≤ (vc : Int) := by omega
   have hIc2 : i ≤ vc := by omega
   generalize ((c.vars.take i).any fun u => u.name == c.vars[i].name) = q at *
   generalize c.vars[i] = v at *
   clear hVr hli hT
   go_wp2
   go_region_held3 (fun w' => w'.cell? ⟨w.heap.size,1,none⟩ = some (.slice (some ⟨g,0,none⟩) c.vars.length vc) ∧ w'.cell? ⟨wr.heap.size,0,none⟩ = some (str v.name)) ((refine ⟨?_,?_⟩ <;> first | assumption | (rw [cell_GI];assumption) | (simp [go_sem, *];done)))
    (first
     | ((with_reducible refine (named_any _ _).mono ?_);intro e w3 hr;obtain ⟨rfl,hx3,hb3⟩ := hr;obtain ⟨p3,rfl⟩ := toG hb3;clear hb3;(try simp only [G_drew,World.size_drew,World.size_alloc] at hx3))
     | ((with_reducible refine (V.out _ _ (by (first | exact gwT | exact lzT)) (by first | assumption | exact hx3 | (rw [← G_G];exact hx3))).mono ?_);intro e w4 hr;obtain ⟨rfl,p4,rfl⟩ := hr.out;clear hr))
   cases q with
   | true =>
    rw [if_pos rfl] at hm
    subst hm
    have hF := hcs.out v.name rfl
    subst hF
    clear hcs hcn
    go_wp2
    (refine wp_region_G (by kernel_rfl) (by kernel_rfl) ?_;(repeat (go_big_quiet_step (fail)));refine wpQuiet_nil ?_;intro _ hw';obtain ⟨pg,hw''⟩ := hw';subst hw'')
    go_wp2
    go_returns
    exact ⟨rfl,by (first | exact gwT | exact lzT)⟩
   | false =>
    rw [if_neg Bool.false_ne_true] at hm
    have hm' := Lib.hid hm.symm
    clear hm
    go_wp2
    go_roundw
    case rel => exact ⟨i + 1,by go_num,by omega,hm',(Below.block (B := wr.heap.size) (by (first | exact gwT | exact lzT)) _ i0.lt).trans hbx,by (first | exact gwT | exact lzT)⟩
    case measure => simp [intOf];omega
  ·have hI : ¬ (i : Int) < (c.vars.length : Int) := by omega
   have hm := twice_end (show c.vars.length ≤ i by omega)
   rw [hT.out] at hm
   have hF := Lib.hid (hcn.out hm)
   have S1 := Lib.hid (fun wx (hx : Below wr.heap.size wr wx) => SC.out wx (hb.trans (hx.mono hwz)))
   generalize hSS : scS (c.states.drop 1) = SS at S1
   replace hSS := Lib.hid hSS
   clear hcs hcn hT hm SC hcap
   go_wp2
   go_upto_region 9 with (fail)
   go_cut [6] (fun x wx => ∃ lb,x = .pointer (some ⟨lb,0,none⟩) ∧ LkAt wx lb (lkC c) ∧ wx.cell? ⟨w.heap.size,2,none⟩ = some (.slice sa c.states.length sc) ∧ Below w.heap.size w wx)
   case first =>
    go_region_held3 (fun w' => w'.cell? ⟨w.heap.size,0,none⟩ = some (str c.name) ∧ w'.cell? ⟨w.heap.size,1,none⟩ = some (.slice va c.vars.length vc) ∧ w'.cell? ⟨w.heap.size,2,none⟩ = some (.slice sa c.states.length sc)) ((refine ⟨?_,?_,?_⟩ <;> first | assumption | (rw [cell_GI];assumption) | (rw [cell_allocI];assumption) | (simp [go_sem, *];done)))
     (first | ((with_reducible refine (S1.out _ (by (first | exact gwT | exact lzT))).mono ?_);intro e w4 hr;obtain ⟨oa,oc,pa,pc,rfl,hO1,hO2,hb4⟩ := hr;obtain ⟨p4,rfl⟩ := toG hb4;clear hb4;(try simp only [G_drew,World.size_drew] at hO1 hO2)))
    all_goals
     go_wp2
     go_meet
    ·have e9 := hSS.out
     subst e9
     refine ⟨_,rfl,⟨B,rv,va,sa,oa,pa,vc,sc,oc,pc,heap_alloc_new _ _,C.out _ (by (first | exact gwT | exact lzT)),vars_below (vars_own hO1) (by (first | exact gwT | exact lzT)),strs_below (vstrs_own hO2) (by (first | exact gwT | exact lzT)),hLb.out _ (by (first | exact gwT | exact lzT))⟩,by simp [go_sem,b2],by (first | exact gwT | exact lzT)⟩
    ·have e9 := hSS.out
     subst e9
     refine ⟨_,rfl,⟨B,rv,va,sa,oa,pa,vc,sc,oc,pc,((belowG0 p4 _).block _ (by simp)).trans (heap_alloc_new _ _),C.out _ (by (first | exact gwT | exact lzT)),vars_own (own_Galloc hO1 (by simp)),vstrs_own (own_Galloc hO2 (by simp)),hLb.out _ (by (first | exact gwT | exact lzT))⟩,by simp [go_sem,b2],by (first | exact gwT | exact lzT)⟩
   case rest =>
    obtain ⟨lb,rfl,HL,k2,hb3⟩ := hcut
    rename World => wx
    have hx := hb3.size
    clear S1 b0 b1 b2 hbx hb hwz
    have P := lkP_of O
    have HK := Lib.hid (fun wy (hy : Below wx.heap.size wx wy) => lk_keep HL hy)
    obtain ⟨_,_,_,_,_,_,_,_,_,_,HL⟩ := HL
    have iLb : InW lb wx := ⟨lt_of_block HL.blk⟩
    have i2 : InW w.heap.size wx := ⟨World.block_lt_of_cell? _ _ k2⟩
    have hR := Lib.hid (show stsE (lkC c) 0 (c.states.drop 0) = F by rw [hF.out];rfl)
    clear HL hF
    go_wp2
    go_loopw [42] (fun x wr => ∃ (i : Nat),x = .int .i64 (i : Int) ∧ i ≤ c.states.length ∧ Hid (stsE (lkC c) i (c.states.drop i) = F) ∧ Below wx.heap.size wx wr) (fun x _ => c.states.length - (intOf x).toNat)
    case atStart => exact ⟨0,rfl,Nat.zero_le _,hR,by (first | exact gwT | exact lzT)⟩
    case round =>
     obtain ⟨i,rfl,hi,hF,hb⟩ := hrel
     rename World => wr
     have hwz := hb.size
     by_cases hlt : i < c.states.length
     ·have hI : (i : Int) < (c.states.length : Int) := by omega
      obtain ⟨g,eo,ec,xo,xc,to',tc,rfl,hg,n1,n2,n3,n4,n5,n6,n7,_,_,_⟩ := st_at (C.out wr (hb3.trans (hb.mono hx))) i hlt
      have hm := sts_more (l := lkC c) hlt
      rw [hF.out,state_errs] at hm
      have LK := Lib.hid (fun wy (hy : Below wr.heap.size wr wy) => looks_any (l := lkC c) (lb := lb) i hlt wy (HK.out wy (hb.trans (hy.mono hwz))))
      have LA := Lib.hid (fun (k : Nat) (f : FuncId) (e : Int) hf he => look_any (lb := lb) P i hlt (k := k) (f := f) (e := e) hf he)
      have hfe := errs_len (l := lkC c) i
      have hf5 : (fnsL (lkC c) i).length ≤ 5 := by unfold fnsL;split <;> decide
      have iG : InW g wr := ⟨hg⟩
      have iL : InW lb wr := ⟨Nat.lt_of_lt_of_le iLb.lt hwz⟩
      generalize c.states[i] = s at *
      have hE0 := Lib.hid (show firstE id ((errsL (lkC c) i).drop 0) = firstE id (errsL (lkC c) i) by rw [List.drop_zero])
      generalize firstE id (errsL (lkC c) i) = E at *
      unfold LooksIs at LK
      generalize errsL (lkC c) i = es at *
      generalize fnsL (lkC c) i = fs at *
      have hm' := Lib.hid hm
      clear hm hF hR
      go_wp2_with fail
      refine (LK.out _ (by (first | exact gwT | exact lzT))).mono ?_
      rintro e w1 ⟨g2,cap,rfl,hg2,hcl,hb4⟩
      have hs1 := (hb4.cell (p := ⟨wr.heap.size,0,none⟩) (by simp)).trans (show _ = some (str s.name) by simp [go_sem])
      have hbw : Below wx.heap.size wx w1 := hb.trans ((Below.alloc (Below.refl _ _) (Nat.le_refl _) _ |>.trans (hb4.mono (by simp))).mono hwz)
      have hcl := Lib.hid hcl
      have j1 : InW g2 w1 := ⟨hg2⟩
      have j2 : InW wr.heap.size w1 := ⟨World.block_lt_of_cell? _ _ hs1⟩
      have hz1 := hbw.size
      clear LK hb4 n1 n2 n3 n4 n5 n6 n7
      dsimp only
      go_wp2
      go_loopw [50] (fun x wq => ∃ (k : Nat),x = .int .i64 (k : Int) ∧ k ≤ fs.length ∧ Hid (firstE id (es.drop k) = E) ∧ Below w1.heap.size w1 wq) (fun x _ => fs.length - (intOf x).toNat)
      case atStart => exact ⟨0,rfl,Nat.zero_le _,hE0,by (first | exact gwT | exact lzT)⟩
      case round =>
       obtain ⟨k,rfl,hk,hK,hbq⟩ := hrel
       rename World => wq
       have hzq := hbq.size
       have q1 : InW g2 wq := ⟨Nat.lt_of_lt_of_le j1.lt hzq⟩
       have q2 : InW wr.heap.size wq := ⟨Nat.lt_of_lt_of_le j2.lt hzq⟩
       have qs := (hbq.cell (p := ⟨wr.heap.size,0,none⟩) j2.lt).trans hs1
       by_cases hlk : k < fs.length
       ·have hKI : (k : Int) < (fs.length : Int) := by omega
        have hlk2 : k < es.length := by omega
        have hcf := hcl.out k fs[k] (List.getElem?_eq_getElem hlk)
        have qc := (hbq.cell (p := ⟨g2,k,none⟩) j1.lt).trans hcf
        obtain ⟨hcf,X⟩ := LA.out k fs[k] es[k] (List.getElem?_eq_getElem hlk) (List.getElem?_eq_getElem hlk2)
        replace X := Lib.hid (fun wy (hy : Below wq.heap.size wq wy) => X wy (HK.out wy ((hbw.trans (hbq.mono hz1)).trans (hy.mono (Nat.le_trans hz1 hzq)))))
        have hn := first_more (f := id) hlk2
        rw [hK.out] at hn
        generalize fs[k] = f at *
        generalize hek : es[k] = e at *
        simp only [id] at hn
        unfold lookF at qc
        clear hK hE0 hek
        by_cases h0 : e = 0
        ·rw [then_go h0] at hn
         obtain ⟨y0,y1⟩ := eq_eqs h0
         replace h0 := Lib.hid h0
         have hn' := Lib.hid hn.symm
         clear hn
         go_wp2
         refine Calls.mono (X.out _ (by (first | exact gwT | exact lzT))) ?_
         intro e5 w5 hr
         obtain ⟨rfl,p,rfl⟩ := hr.out
         clear hr
         go_wp2
         go_roundw
         case rel => exact ⟨k + 1,by go_num,by omega,hn',by (first | exact gwT | exact lzT)⟩
         case measure => simp [intOf];omega
        ·rw [then_no h0] at hn
         obtain ⟨y0,y1⟩ := ne_eqs h0
         subst hn
         have hm := hm'.out
         rw [if_neg h0] at hm
         subst hm
         replace h0 := Lib.hid h0
         clear hm'
         go_wp2
         refine Calls.mono (X.out _ (by (first | exact gwT | exact lzT))) ?_
         intro e5 w5 hr
         obtain ⟨rfl,p,rfl⟩ := hr.out
         clear hr
         go_wp2
         (refine wp_region_G (by kernel_rfl) (by kernel_rfl) ?_;(repeat (go_big_quiet_step (fail)));refine wpQuiet_nil ?_;intro _ hw';obtain ⟨pg,hw''⟩ := hw';subst hw'')
         go_wp2
         go_returns
         refine ⟨rfl,?_⟩
         exact (hb3.trans ((hbw.trans (hbq.mono hz1)).mono hx)).trans (Below.mono (show Below wq.heap.size wq _ by (first | exact gwT | exact lzT)) (Nat.le_trans (Nat.le_trans hx hz1) hzq))
       ·have hKI : ¬ (k : Int) < (fs.length : Int) := by omega
        have hn : E = 0 := by
         rw [← hK.out,List.drop_of_length_le (by omega)]
         rfl
        have hm := hm'.out
        rw [if_pos hn] at hm
        have hm2 := Lib.hid hm.symm
        clear hm hm' hn hK hE0
        go_wp2
        go_roundw
        case rel => exact ⟨i + 1,by go_num,by omega,hm2,(hbw.trans (hbq.mono hz1)).trans (Below.mono (show Below wq.heap.size wq _ by (first | exact gwT | exact lzT)) (Nat.le_trans hz1 hzq))⟩
        case measure => simp [intOf];omega
     ·have hI : ¬ (i : Int) < (c.states.length : Int) := by omega
      have hm := sts_end (l := lkC c) (show c.states.length ≤ i by omega)
      rw [hF.out] at hm
      subst hm
      clear hF hR
      go_wp2
      go_returns
      exact ⟨rfl,hb3.trans (Below.mono (by (first | exact gwT | exact lzT)) hx)⟩
end Go.Proofs.YtpgibloeinphaaaGreatDoor
