/- ValidGrows: the walk. -/
import Derived.Test.YtpgibloeinphaaaGreatDoorI3
import Derived.Test.YtpgibloeinphaaaGreatDoorVH
import Derived.Test.YtpgibloeinphaaaGreatDoorZ4
import Derived.WalkKit
import Derived.ProofKit
import Derived.OpenShut
import Derived.Handy
import Derived.BigQuiet
import Derived.OwnWalk
import Derived.Deep.RegionHeld3
import Derived.Lib.Hide
import Derived.WalkSmall
import Derived.WalkLawsBesides
namespace Go.Proofs.YtpgibloeinphaaaGreatDoor
open Go.RowKit
def zdL (n : Nat) : List UInt8 := if n < 10 then [UInt8.ofNat (48 + n)] else if n < 100 then [UInt8.ofNat (48 + n / 10),UInt8.ofNat (48 + n % 10)] else [UInt8.ofNat (48 + n / 10 / 10),UInt8.ofNat (48 + n / 10 % 10),UInt8.ofNat (48 + n % 10)]
def zzL (n : Nat) : List UInt8 := 122 :: 122 :: zdL n
theorem zz_all : ((List.range 1000).all fun n => nmB (zzL n) && (zzL n).all fun x => x != 10) = true := by decide +kernel
theorem zz_ok {n : Nat} (h : n ≤ 999) : nmB (zzL n) = true ∧ ∀ x ∈ zzL n,x ≠ 10 := by
 have := List.all_eq_true.1 zz_all n (List.mem_range.2 (by omega))
 rw [Bool.and_eq_true] at this
 exact ⟨this.1,fun x hx => by simpa using List.all_eq_true.1 this.2 x hx⟩
theorem zdig_one {n : Nat} (h : n < 10) : zdL n = [UInt8.ofNat (48 + n)] := by unfold zdL;rw [if_pos h]
theorem zdig_more {n : Nat} (h : 10 ≤ n) (h2 : n < 1000) : zdL n = zdL (n / 10) ++ [UInt8.ofNat (48 + n % 10)] := by
 unfold zdL
 rw [if_neg (show ¬ n < 10 by omega)]
 by_cases h1 : n < 100
 ·rw [if_pos h1,if_pos (show n / 10 < 10 by omega)];rfl
 ·rw [if_neg h1,if_neg (show ¬ n / 10 < 10 by omega),if_pos (show n / 10 < 100 by omega)];rfl
theorem zdig_len (n : Nat) : (zdL n).length ≤ 3 := by unfold zdL;split <;> (try split) <;> simp
set_option maxRecDepth 100000 in
theorem zcall_one (n : Nat) (h : n < 10) (w : World) : Calls Tryz.prog 17 #[.int .i64 (n : Int)] w (Ret (.string (bytL (zdL n))) w) := by
 have hk := conv_one
 rw [zdig_one h]
 rcases (by omega : n = 0 ∨ n = 1 ∨ n = 2 ∨ n = 3 ∨ n = 4 ∨ n = 5 ∨ n = 6 ∨ n = 7 ∨ n = 8 ∨ n = 9) with rfl | rfl | rfl | rfl | rfl | rfl | rfl | rfl | rfl | rfl
 all_goals
  clear h
  go_enter Tryz.func17,Tryz.ntmps17
  go_wp2
  go_returns
  exact ⟨rfl,by (first | exact gwT | exact lzT)⟩
theorem conv_at (W : World) (b : Nat) (d : Int) (h : W.cell? ⟨b,0,none⟩ = some (.int .u8 d)) : (convert 99 9 (.slice (some ⟨b,0,none⟩) 1 1)).run Tryz.prog W = .ok (.string ⟨#[UInt8.ofNat d.toNat]⟩) W := by
 rw [run_convert_bytes_string _ _ _ _ _ _ _ Tryz.underlying99 Tryz.underlying5 Tryz.underlying9]
 rw [run_bytesToString _ _ _ _ [d] (by simp [loadCells,go_sem,h])]
 rfl
set_option maxRecDepth 100000 in
set_option maxHeartbeats 4000000 in
theorem zcall_more (n : Nat) (h : 10 ≤ n) (h2 : n < 1000) (w : World) (R : ∀ wx,Calls Tryz.prog 17 #[.int .i64 ((n / 10 : Nat) : Int)] wx (Ret (.string (bytL (zdL (n / 10)))) wx)) : Calls Tryz.prog 17 #[.int .i64 (n : Int)] w (Ret (.string (bytL (zdL n))) w) := by
 have hk := conv_one
 have hk2 := fun (p : Regrown) (d : Int) => conv_at (G p (w.alloc (.cells #[.int .u8 d] 5))) w.heap.size d (by simp [go_sem])
 have hk3 := fun (W : World) (d : Int) => conv_at (W.alloc (.cells #[.int .u8 d] 5)).drew W.heap.size d (show (W.alloc (.cells #[.int .u8 d] 5)).cell? ⟨W.heap.size,0,none⟩ = _ by simp [go_sem])
 replace R := Lib.hid R
 have e0 := Lib.hid (zdig_more h h2)
 have hsz : (bytL (zdL (n / 10))).size ≤ 3 := by rw [bytL_size];exact zdig_len _
 have hq : (n : Int).tdiv 10 = ((n / 10 : Nat) : Int) := by rw [Int.tdiv_eq_ediv_of_nonneg (by omega)];omega
 have hr : (n : Int).tmod 10 = ((n % 10 : Nat) : Int) := by rw [Int.tmod_eq_emod_of_nonneg (by omega)];omega
 have hI : ¬ (n : Int) < 10 := by omega
 have hr9 : n % 10 ≤ 9 := by omega
 have hw8 : IntKind.u8.wrap (48 + ((n % 10 : Nat) : Int)) = 48 + ((n % 10 : Nat) : Int) := by
  unfold IntKind.wrap
  simp [IntKind.signed,IntKind.bits]
  omega
 have hto : (48 + ((n % 10 : Nat) : Int)).toNat = 48 + n % 10 := by omega
 generalize n % 10 = r at *
 generalize zdL n = D at *
 generalize zdL (n / 10) = D2 at *
 have hwn : IntKind.i64.wrap ((n / 10 : Nat) : Int) = ((n / 10 : Nat) : Int) := by rw [IntKind.wrap_i64];omega
 generalize hnq : n / 10 = n2 at *
 go_enter Tryz.func17,Tryz.ntmps17
 go_wp2
 have hwi : IntKind.i64.wrap (48 + (r : Int)) = 48 + (r : Int) := by rw [IntKind.wrap_i64];omega
 go_region_with (first | ((with_reducible refine (R.out _).mono ?_);intro e w1 hr;obtain ⟨rfl,p,rfl⟩ := hr.out;clear hr))
 all_goals
  go_wp2
  go_returns
  refine ⟨?_,by (first | exact gwT | exact lzT)⟩
  rw [e0.out]
  refine congrArg (fun b => Ending.returned (Value.string b)) ?_
  apply ByteArray.ext
  apply Array.ext'
  simp [bytL]
theorem zcall_any {n : Nat} (h : n < 1000) (w : World) : Calls Tryz.prog 17 #[.int .i64 (n : Int)] w (Ret (.string (bytL (zdL n))) w) := by
 by_cases h1 : n < 10
 ·exact zcall_one n h1 w
 ·refine zcall_more n (by omega) h w fun wx => ?_
  by_cases h2 : n / 10 < 10
  ·exact zcall_one _ h2 wx
  ·exact zcall_more _ (by omega) (by omega) wx fun wy => zcall_one _ (by omega) wy
def moreT (s : ByteArray) (m : Nat) : ByteArray := s ++ ⟨#[10,102,105,110,97,108,32]⟩ ++ (⟨#[122,122]⟩ ++ bytL (zdL m)) ++ ⟨#[10,101,110,100]⟩
theorem moreT_list (s : ByteArray) (m : Nat) : (moreT s m).data.toList = s.data.toList ++ zzT (zzL m) := by
 have h5 : lwL 5 = [102,105,110,97,108] := by decide
 have h12 : lwL 12 = [101,110,100] := by decide
 unfold moreT zzT zzL
 rw [h5,h12]
 simp [bytL]
theorem moreT_size {s : ByteArray} {m : Nat} (h : s.size ≤ 5000) : (moreT s m).size ≤ 140737488351232 := by
 have h0 := zdig_len m
 have h1 : (⟨#[10,102,105,110,97,108,32]⟩ : ByteArray).size = 7 := rfl
 have h2 : (⟨#[122,122]⟩ : ByteArray).size = 2 := rfl
 have h3 : (⟨#[10,101,110,100]⟩ : ByteArray).size = 4 := rfl
 unfold moreT
 rw [ByteArray.size_append,ByteArray.size_append,ByteArray.size_append,ByteArray.size_append,bytL_size,h1,h2,h3]
 omega
set_option maxRecDepth 100000 in
set_option maxHeartbeats 8000000 in
theorem vgrows_walk (s : ByteArray) (n : Int) (hs : s.size ≤ 140737488351232) (w : World) (hw : Al w) : Calls Tryz.prog 4 #[.string s,.int .i64 n] w (Ret (.bool true) w) := by
 have A := Lib.hid (anchor9_any w hw)
 cases hx : chartT s.data.toList with
 | error x =>
  have P := Lib.hid (fun wx (hb : Below w.heap.size w wx) => cparse_no s hs (by rw [hx];exact fun c h => by cases h) wx (al_below hw hb))
  clear hw hx
  by_cases h5 : (5000 : Int) < (s.size : Int)
  all_goals
   go_enter Tryz.func4,Tryz.ntmps4
   go_wp2_with (((with_reducible refine (A.out).mono ?_);intro e w1 hr;obtain ⟨rfl,p,rfl⟩ := hr.out;clear hr))
   go_wp2_with fail
   refine (P.out _ (by (first | exact gwT | exact lzT))).mono ?_
   rintro e w1 ⟨v1,v2,v3,y,k,rfl,hy,⟨a1,a2,a3,b1,b2,b3,t,rfl,rfl,rfl⟩,hb⟩
   have hy2 : (y != 0) = true := by rw [bne,hy];rfl
   have hw1 : Below w.heap.size w w1 := Below.trans (by (first | exact gwT | exact lzT)) (hb.mono (by first | exact Nat.le_refl _ | (first | exact gwT | exact lzT)))
   clear P hb A
   dsimp only
   go_wp2
   go_returns
   exact ⟨rfl,hw1.trans (Below.mono (show Below w1.heap.size w1 _ by (first | exact gwT | exact lzT)) hw1.size)⟩
 | ok c =>
  have P := Lib.hid (fun wx (hb : Below w.heap.size w wx) => cparse_ok s hs hx wx (al_below hw hb))
  by_cases hg : (5000 : Int) < (s.size : Int) ∨ n < 0 ∨ (999 : Int) < n
  ·clear hw hx
   by_cases h5 : (5000 : Int) < (s.size : Int)
   all_goals by_cases h0 : n < 0
   all_goals by_cases h9 : (999 : Int) < n
   all_goals first
    | (exfalso;omega)
    | skip
   all_goals
    clear hg
    go_enter Tryz.func4,Tryz.ntmps4
    go_wp2_with (((with_reducible refine (A.out).mono ?_);intro e w1 hr;obtain ⟨rfl,p,rfl⟩ := hr.out;clear hr))
    go_wp2_with fail
    refine (P.out _ (by (first | exact gwT | exact lzT))).mono ?_
    rintro e w1 ⟨rv,va,vc,sa,sc,rfl,hV,hb⟩
    have hw1 : Below w.heap.size w w1 := Below.trans (by (first | exact gwT | exact lzT)) (hb.mono (by first | exact Nat.le_refl _ | (first | exact gwT | exact lzT)))
    clear P hb A hV
    dsimp only
    go_wp2
    go_returns
    exact ⟨rfl,hw1.trans (Below.mono (show Below w1.heap.size w1 _ by (first | exact gwT | exact lzT)) hw1.size)⟩
  ·have h5 : ¬ (5000 : Int) < (s.size : Int) := fun h => hg (.inl h)
   have h0 : ¬ n < 0 := fun h => hg (.inr (.inl h))
   have h9 : ¬ (999 : Int) < n := fun h => hg (.inr (.inr h))
   clear hg
   obtain ⟨m,rfl⟩ : ∃ m : Nat,n = (m : Int) := ⟨n.toNat,by omega⟩
   have D := Lib.hid (fun wx => zcall_any (n := m) (by omega) wx)
   obtain ⟨z1,z2⟩ := zz_ok (n := m) (by omega)
   have hsz := moreT_size (s := s) (m := m) (by omega)
   have el := moreT_list s m
   have hlen : (bytL (zdL m)).size ≤ 3 := by rw [bytL_size];exact zdig_len m
   cases hx2 : chartT (s.data.toList ++ zzT (zzL m)) with
   | error z =>
    have P2 := Lib.hid (fun wx (hb : Below w.heap.size w wx) => cparse_no (moreT s m) hsz (by rw [el,hx2];exact fun c h => by cases h) wx (al_below hw hb))
    unfold moreT at P2
    clear hw hx hx2 hsz el z1 z2
    go_enter Tryz.func4,Tryz.ntmps4
    go_wp2_with (((with_reducible refine (A.out).mono ?_);intro e w1 hr;obtain ⟨rfl,p,rfl⟩ := hr.out;clear hr))
    go_wp2_with fail
    refine (P.out _ (by (first | exact gwT | exact lzT))).mono ?_
    rintro e w1 ⟨rv,va,vc,sa,sc,rfl,hV,hb⟩
    have hw1 : Below w.heap.size w w1 := Below.trans (by (first | exact gwT | exact lzT)) (hb.mono (by first | exact Nat.le_refl _ | (first | exact gwT | exact lzT)))
    have hz1 := hw1.size
    clear P hb A hV
    dsimp only
    go_wp2_with ((with_reducible refine (D.out _).mono ?_);intro e w1 hr;obtain ⟨rfl,p,rfl⟩ := hr.out;clear hr)
    go_wp2_with fail
    refine (P2.out _ (hw1.trans (Below.mono (show Below w1.heap.size w1 _ by (first | exact gwT | exact lzT)) hz1))).mono ?_
    rintro e w2 ⟨v1,v2,v3,y,k,rfl,hy,⟨a1,a2,a3,b1,b2,b3,t,rfl,rfl,rfl⟩,hb2⟩
    have hy2 : (y != 0) = true := by rw [bne,hy];rfl
    have hbw : Below w1.heap.size w1 w2 := Below.trans (by (first | exact gwT | exact lzT)) (hb2.mono (by first | exact Nat.le_refl _ | (first | exact gwT | exact lzT)))
    have hw2 := hw1.trans (hbw.mono hz1)
    clear P2 hb2 D
    dsimp only
    go_wp2
    go_returns
    exact ⟨rfl,hw2.trans (Below.mono (show Below w2.heap.size w2 _ by (first | exact gwT | exact lzT)) hw2.size)⟩
   | ok d =>
    obtain rfl := grown_text hx z1 z2 hx2
    have O := Lib.hid (okC_of hx)
    have O2 := Lib.hid (okC_of hx2)
    have hroot : (c.states.getD 0 st0).kind = 1 := by
     have := (shape_chart hx).root
     unfold stAt at this
     rw [this]
    have hmore := Lib.hid (fun hn h => check_more (c := c) (nm := zzL m) O.out.some O.out.par hroot hn h)
    have LB := Lib.hid (fun wx (hb : Below w.heap.size w wx) => (al_below hw hb).ax.lb)
    have P2 := Lib.hid (fun wx (hb : Below w.heap.size w wx) => cparse_ok (moreT s m) hsz (by rw [el];exact hx2) wx (al_below hw hb))
    unfold moreT at P2
    have hnmq : (⟨#[122,122]⟩ ++ bytL (zdL m) : ByteArray) = ⟨(zzL m).toArray⟩ := by
     apply ByteArray.ext
     apply Array.ext'
     simp [bytL,zzL]
    rw [hnmq] at P2
    have hnl : (⟨(zzL m).toArray⟩ : ByteArray).size ≤ 5 := by
     rw [← hnmq,ByteArray.size_append]
     have h2 : (⟨#[122,122]⟩ : ByteArray).size = 2 := rfl
     omega
    have hnl2 : (zzL m).length ≤ 5 := hnl
    generalize zzL m = nm at *
    generalize hdd : withF c nm = d at *
    clear hw hx hx2 hsz el z1 z2 hroot
    go_enter Tryz.func4,Tryz.ntmps4
    go_wp2_with (((with_reducible refine (A.out).mono ?_);intro e w1 hr;obtain ⟨rfl,p,rfl⟩ := hr.out;clear hr))
    go_wp2_with fail
    refine (P.out _ (by (first | exact gwT | exact lzT))).mono ?_
    rintro e w1 ⟨rv,va,vc,sa,sc,rfl,hV,hb⟩
    have hw1 : Below w.heap.size w w1 := Below.trans (by (first | exact gwT | exact lzT)) (hb.mono (by first | exact Nat.le_refl _ | (first | exact gwT | exact lzT)))
    have hV0 := Lib.hid (fun wx (hx : Below w1.heap.size w1 wx) => chV_keep hV hx)
    have hz1 := hw1.size
    clear P hb A hV
    dsimp only
    go_wp2_with ((with_reducible refine (D.out _).mono ?_);intro e w1 hr;obtain ⟨rfl,p,rfl⟩ := hr.out;clear hr)
    go_wp2_with fail
    refine (P2.out _ (hw1.trans (Below.mono (show Below w1.heap.size w1 _ by (first | exact gwT | exact lzT)) hz1))).mono ?_
    rintro e w2 ⟨rv2,va2,vc2,sa2,sc2,rfl,hV2,hb2⟩
    have hbw : Below w1.heap.size w1 w2 := Below.trans (by (first | exact gwT | exact lzT)) (hb2.mono (by first | exact Nat.le_refl _ | (first | exact gwT | exact lzT)))
    have hw2 := hw1.trans (hbw.mono hz1)
    have hV1 := Lib.hid (fun wx (hx : Below w2.heap.size w2 wx) => hV0.out wx (hbw.trans (hx.mono hbw.size)))
    have hV3 := Lib.hid (fun wx (hx : Below w2.heap.size w2 wx) => chV_keep hV2 hx)
    have hzw := hw2.size
    have d0 : w2.cell? ⟨w1.heap.size,0,none⟩ = some (str c.name) := (hb2.cell (p := ⟨w1.heap.size,0,none⟩) (by simp [go_sem])).trans (by simp [go_sem])
    have d1 : w2.cell? ⟨w1.heap.size,1,none⟩ = some (.slice va c.vars.length vc) := (hb2.cell (p := ⟨w1.heap.size,1,none⟩) (by simp [go_sem])).trans (by simp [go_sem])
    have d2 : w2.cell? ⟨w1.heap.size,2,none⟩ = some (.slice sa c.states.length sc) := (hb2.cell (p := ⟨w1.heap.size,2,none⟩) (by simp [go_sem])).trans (by simp [go_sem])
    have j1 : InW w1.heap.size w2 := ⟨World.block_lt_of_cell? _ _ d0⟩
    have hz2 := hbw.size
    have V1 := Lib.hid (fun wx (hx : Below w2.heap.size w2 wx) => vcheck_any O.out wx (hV1.out wx hx) (LB.out wx (hw2.trans (hx.mono hzw))))
    have V2 := Lib.hid (fun wx (hx : Below w2.heap.size w2 wx) => vcheck_any O2.out wx (hV3.out wx hx) (LB.out wx (hw2.trans (hx.mono hzw))))
    have hfew : c.states.length ≤ 1000 := by have := O.out.few;omega
    clear P2 hb2 D hV2 hV0 hV3 LB O O2 hdd
    dsimp only
    go_wp2
    generalize hqq : (⟨nm.toArray⟩ : ByteArray) = q
    have hq : q.data.toList = nm := by rw [← hqq]
    clear hnmq hqq hlen hnl hnl2
    go_loopw [59] (fun x wr => ∃ (i : Nat),x = .int .i64 (i : Int) ∧ i ≤ c.states.length ∧ Hid (∀ j,(hj : j < c.states.length) → j < i → c.states[j].name ≠ nm) ∧ Below w2.heap.size w2 wr ∧ w2.heap.size < wr.heap.size ∧ wr.cell? ⟨w2.heap.size,0,none⟩ = some (str d.name) ∧ wr.cell? ⟨w2.heap.size,1,none⟩ = some (.slice va2 d.vars.length vc2) ∧ wr.cell? ⟨w2.heap.size,2,none⟩ = some (.slice sa2 d.states.length sc2)) (fun x _ => c.states.length - (intOf x).toNat)
    case atStart => exact ⟨0,rfl,Nat.zero_le _,Lib.hid (fun j _ h => absurd h (Nat.not_lt_zero _)),by (first | exact gwT | exact lzT),by simp,by simp [go_sem],by simp [go_sem],by simp [go_sem]⟩
    case round =>
     obtain ⟨i,rfl,hi,hf,hb,hlw,k0,k1,k2⟩ := hrel
     rename World => wr
     have hwz := hb.size
     have i0 : InW w2.heap.size wr := ⟨hlw⟩
     by_cases hlt : i < c.states.length
     ·obtain ⟨g,eo,ec,xo,xc,to',tc,rfl,hg,n1,n2,n3,n4,n5,n6,n7,_,_,_⟩ := st_at (hV1.out wr hb) i hlt
      have hcs : ∀ h,c.states[i]'h = c.states[i] := fun _ => rfl
      generalize hst : c.states[i] = st at *
      have i1 : InW g wr := ⟨hg⟩
      have hI : (i : Int) < (c.states.length : Int) := by omega
      by_cases hh : st.name = nm
      ·have e1 : (st.name == q.toList) = true := by rw [Lib.toList_data,hq];simpa using hh
       replace hh := Lib.hid hh
       clear hf
       go_wp2
       go_returns
       exact ⟨rfl,hw2.trans (Below.mono (hb.trans (Below.mono (show Below wr.heap.size wr _ by (first | exact gwT | exact lzT)) hwz)) hzw)⟩
      ·have e1 : (st.name == q.toList) = false := by rw [Lib.toList_data,hq];simpa using hh
       have hf2 : Hid (∀ j,(hj : j < c.states.length) → j < i + 1 → c.states[j].name ≠ nm) := Lib.hid (by
        intro j hj hj2
        by_cases hji : j = i
        ·subst hji
         rw [hst]
         exact hh
        ·exact hf.out j hj (by omega))
       replace hh := Lib.hid hh
       clear hf
       go_wp2
       go_roundw
       case rel => exact ⟨i + 1,by go_num,by omega,hf2,hb.trans (Below.mono (show Below wr.heap.size wr _ by (first | exact gwT | exact lzT)) hwz),by simp;omega,((show Below wr.heap.size wr _ by (first | exact gwT | exact lzT)).cell (p := ⟨w2.heap.size,0,none⟩) hlw).trans k0,((show Below wr.heap.size wr _ by (first | exact gwT | exact lzT)).cell (p := ⟨w2.heap.size,1,none⟩) hlw).trans k1,((show Below wr.heap.size wr _ by (first | exact gwT | exact lzT)).cell (p := ⟨w2.heap.size,2,none⟩) hlw).trans k2⟩
       case measure => simp [intOf];omega
     ·have hI : ¬ (i : Int) < (c.states.length : Int) := by omega
      have hall : ∀ s ∈ c.states,s.name ≠ nm := by
       intro s hs
       obtain ⟨j,hj,rfl⟩ := List.mem_iff_getElem.1 hs
       exact hf.out j hj (by omega)
      have hm2 := hmore.out hall
      have f0 := (hb.cell (p := ⟨w1.heap.size,0,none⟩) (World.block_lt_of_cell? _ _ d0)).trans d0
      have f1 := (hb.cell (p := ⟨w1.heap.size,1,none⟩) (World.block_lt_of_cell? _ _ d1)).trans d1
      have f2 := (hb.cell (p := ⟨w1.heap.size,2,none⟩) (World.block_lt_of_cell? _ _ d2)).trans d2
      have j2 : InW w1.heap.size wr := ⟨World.block_lt_of_cell? _ _ f0⟩
      clear hf hmore hall
      obtain ⟨p,hp⟩ : ∃ p,checkE c = p := ⟨_,rfl⟩
      obtain ⟨r,hr⟩ : ∃ r,checkE d = r := ⟨_,rfl⟩
      rw [hp] at V1 hm2
      rw [hr] at V2 hm2
      clear hp hr
      obtain ⟨p1,p2⟩ := p
      obtain ⟨r1,r2⟩ := r
      dsimp only at V1 V2 hm2
      by_cases hz : p1 = 0
      ·have hr1 := hm2 hz
       subst hz
       subst hr1
       clear hm2
       go_wp2_with (first | ((with_reducible refine (V1.out _ (by (first | exact gwT | exact lzT))).mono ?_);intro e w1 hr;obtain ⟨rfl,p,rfl⟩ := hr.out;clear hr) | ((with_reducible refine (V2.out _ (by (first | exact gwT | exact lzT))).mono ?_);intro e w1 hr;obtain ⟨rfl,p,rfl⟩ := hr.out;clear hr))
       go_returns
       exact ⟨rfl,hw2.trans (Below.mono (hb.trans (Below.mono (show Below wr.heap.size wr _ by (first | exact gwT | exact lzT)) hwz)) hzw)⟩
      ·have e1 : (p1 != 0) = true := by simpa using hz
       clear hm2
       go_wp2_with (first | ((with_reducible refine (V1.out _ (by (first | exact gwT | exact lzT))).mono ?_);intro e w1 hr;obtain ⟨rfl,p,rfl⟩ := hr.out;clear hr) | ((with_reducible refine (V2.out _ (by (first | exact gwT | exact lzT))).mono ?_);intro e w1 hr;obtain ⟨rfl,p,rfl⟩ := hr.out;clear hr))
       go_returns
       exact ⟨rfl,hw2.trans (Below.mono (hb.trans (Below.mono (show Below wr.heap.size wr _ by (first | exact gwT | exact lzT)) hwz)) hzw)⟩
theorem str_reach {H : Type} {s : ByteArray} (hz : ((DataW.lit (.string s.data.toList) : DataW H).weights Tryz.prog 9).all (· ≤ reachBytes) = true) : s.size ≤ 140737488351232 := by
 rw [DataW.weights] at hz
 simp only [List.all_cons,Bool.and_eq_true] at hz
 have h : s.data.toList.length ≤ reachBytes := of_decide_eq_true hz.1
 rw [Array.length_toList] at h
 exact h
end Go.Proofs.YtpgibloeinphaaaGreatDoor
