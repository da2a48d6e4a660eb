/- Several texts of this proof, joined: VI, VT. -/
import Derived.Test.YtpgibloeinphaaaGreatDoorW5
import Derived.Test.YtpgibloeinphaaaGreatDoorJ1
import Derived.Test.YtpgibloeinphaaaGreatDoorQ4
import Derived.WalkKit
import Derived.ProofKit
import Derived.OpenShut
import Derived.Handy
import Derived.BigQuiet
import Derived.OwnWalk
import Derived.Lib.Hide
import Derived.Lib.MakeNoZero
import Derived.WalkSmall
import Derived.WalkLawsBesides
import Derived.Lib.Builder
import Derived.Lib.AppendStr
import Derived.Lib.UnsafeStr
import Derived.Laws.Externs
import Derived.Test.YtpgibloeinphaaaGreatDoorZ7
import Derived.Test.YtpgibloeinphaaaGreatDoorShelf5
import Derived.Deep.RegionHeld3
import Derived.Test.YtpgibloeinphaaaGreatDoorV3
import Derived.Test.YtpgibloeinphaaaGreatDoorV2
import Derived.Test.YtpgibloeinphaaaGreatDoorY9
import Derived.Deep.AppendLies
import Derived.Test.YtpgibloeinphaaaGreatDoorShelf3
import Derived.Test.YtpgibloeinphaaaGreatDoorY1
import Derived.Test.YtpgibloeinphaaaGreatDoorY2
import Derived.Lib.Join
import Derived.Test.YtpgibloeinphaaaGreatDoorP2
import Derived.Test.YtpgibloeinphaaaGreatDoorP4
import Derived.Test.YtpgibloeinphaaaGreatDoorP1
import Derived.Test.YtpgibloeinphaaaGreatDoorShelf
import Derived.Test.YtpgibloeinphaaaGreatDoorZ4
import Derived.Test.YtpgibloeinphaaaGreatDoorZ1
import Derived.Test.YtpgibloeinphaaaGreatDoorZ2
import Derived.Lib.Strings
import Derived.Lib.AppendIntMem
import Derived.Test.YtpgibloeinphaaaGreatDoorW3
import Derived.Test.YtpgibloeinphaaaGreatDoorQ1
import Derived.Test.YtpgibloeinphaaaGreatDoorV5
import Derived.Test.YtpgibloeinphaaaGreatDoorI2
namespace Go.Proofs.YtpgibloeinphaaaGreatDoor
theorem fit_tree : ∀ (e : ExT) (o : Nat),valE e → ∀ n ∈ flatE o e,n.s.length ≤ 140737488351232 ∧ n.name.length ≤ 140737488351232
 | .num _,_,_,n,h | .tru _,_,_,n,h => by
  obtain rfl := List.mem_singleton.1 h
  exact ⟨Nat.zero_le _,Nat.zero_le _⟩
 | .quo s,_,v,n,h => by
  obtain rfl := List.mem_singleton.1 h
  exact ⟨Nat.le_trans v.2 (by decide),Nat.zero_le _⟩
 | .name s,_,v,n,h | .ins s,_,v,n,h => by
  obtain rfl := List.mem_singleton.1 h
  exact ⟨Nat.zero_le _,Nat.le_trans v (by decide)⟩
 | .sgn b e,o,v,n,h => by
  rw [flatE] at h
  rcases List.mem_append.1 h with h | h
  ·exact fit_tree e o v n h
  ·obtain rfl := List.mem_singleton.1 h
   exact ⟨by simp [opn],by simp [opn]⟩
 | .bin op l r,o,v,n,h => by
  rw [flatE] at h
  rcases List.mem_append.1 h with h | h
  ·rcases List.mem_append.1 h with h | h
   ·exact fit_tree l o v.1 n h
   ·exact fit_tree r _ v.2 n h
  ·obtain rfl := List.mem_singleton.1 h
   exact ⟨by simp [opn],by simp [opn]⟩
theorem fit_opt {o : Option ExT} (h : OkO o) : FitN (flatO o) := by
 cases o with
 | none => exact ⟨by decide,fun n h => by cases h⟩
 | some e =>
  obtain ⟨_,h2,h3⟩ := h e rfl
  refine ⟨?_,fit_tree e 0 h2⟩
  show (flatE 0 e).length ≤ 2000000
  unfold sizeT at h3
  split at h3
  ·cases h3
  ·omega
theorem fit_acts {cs : List AcX} (h : OkAs cs) : FitB (cs.map flatA) := by
 refine ⟨by rw [List.length_map];have := h.1;omega,fun a ha => ?_⟩
 obtain ⟨x,hx,rfl⟩ := List.mem_map.1 ha
 exact ⟨fit_opt (h.2 x hx).cond,fit_opt (h.2 x hx).x⟩
theorem fit_line {n : Ln} (h : LnOk n) : (n.kind = 8 ∨ n.kind = 9 → FitB n.acts) ∧ (n.kind = 10 ∨ n.kind = 11 → FitT (trOf n)) := by
 obtain ⟨x,rfl,ok,_⟩ := h
 refine ⟨fun hk => ?_,fun hk => ?_⟩
 ·have hk' : x.kind = 8 ∨ x.kind = 9 := by
   rcases hk with hk | hk
   ·exact .inl (by have : (x.kind : Int) = 8 := hk;omega)
   ·exact .inr (by have : (x.kind : Int) = 9 := hk;omega)
  exact fit_acts (acts_ok ok hk').2
 ·have hk' : x.kind = 10 ∨ x.kind = 11 := by
   rcases hk with hk | hk
   ·exact .inl (by have : (x.kind : Int) = 10 := hk;omega)
   ·exact .inr (by have : (x.kind : Int) = 11 := hk;omega)
  have t := (trX_of ok hk').ok
  exact ⟨fit_opt t.cond,by have := t.goes.1;show x.goes.length ≤ 1000;omega,fit_acts t.thn⟩
theorem fit_chart {l : List UInt8} {c : Ch} (h : chartT l = .ok c) : ∀ i,i < c.states.length → FitS (c.states.getD i st0) := fun i hi => by
 have t := (tree_chart h).body i hi
 unfold bodyLn stAt at t
 refine ⟨fun b hb => ?_,fun b hb => ?_,fun r hr => ?_⟩
 ·exact (fit_line (t (enLn b) (by simp only [List.mem_append,List.mem_map];exact .inl ⟨b,hb,rfl⟩))).1 (.inl rfl)
 ·exact (fit_line (t (exLn b) (by simp only [List.mem_append,List.mem_map];exact .inr (.inl ⟨b,hb,rfl⟩)))).1 (.inr rfl)
 ·have := (fit_line (t (trLn r) (by simp only [List.mem_append,List.mem_map];exact .inr (.inr ⟨r,hr,rfl⟩)))).2 (by
   unfold trLn
   by_cases he : r.event = []
   ·rw [if_pos he];exact .inr rfl
   ·rw [if_neg he];exact .inl rfl)
  exact this
end Go.Proofs.YtpgibloeinphaaaGreatDoor
namespace Go.Proofs.YtpgibloeinphaaaGreatDoor
open Go.RowKit
theorem okC_of {l : List UInt8} {c : Ch} (h : chartT l = .ok c) : OkC c :=
 ⟨(good_chart h).some,(good_chart h).few,(good_chart h).vars,par_of (good_chart h),fit_chart h,lens_of (good_chart h)⟩
def PokIs (c : Ch) (w : World) (e : Ending) (w' : World) : Prop := ∃ rv va vc sa sc,e = .returned (.tuple #[.agg #[str c.name,.slice va c.vars.length vc,.slice sa c.states.length sc],.int .i64 0,.int .i64 0]) ∧ ChV ct0 w.heap.size w' c rv (.slice va c.vars.length vc) (.slice sa c.states.length sc) ∧ Below w.heap.size w w'
theorem cparse_ok {c : Ch} (s : ByteArray) (hs : s.size ≤ 140737488351232) (h : chartT s.data.toList = .ok c) (w : World) (hw : Al w) : Calls Tryz.prog 10 #[.string s] w (PokIs c w) :=
 (cparse_all s hs w hw).mono fun e w' hr => by
  obtain ⟨d,y,n,rv,va,vc,sa,sc,hc,rfl,hV,hb⟩ := hr
  obtain ⟨rfl,rfl,rfl⟩ := hc.ok c h
  exact ⟨rv,va,vc,sa,sc,rfl,hV,hb⟩
def PnoIs (w : World) (e : Ending) (w' : World) : Prop := ∃ v1 v2 v3 y n,e = .returned (.tuple #[.agg #[v1,v2,v3],.int .i64 y,.int .i64 n]) ∧ (y == 0) = false ∧ (∃ a1 a2 a3 b1 b2 b3 t,v1 = .string t ∧ v2 = .slice a1 a2 a3 ∧ v3 = .slice b1 b2 b3) ∧ Below w.heap.size w w'
theorem cparse_no (s : ByteArray) (hs : s.size ≤ 140737488351232) (h : ∀ c,chartT s.data.toList ≠ .ok c) (w : World) (hw : Al w) : Calls Tryz.prog 10 #[.string s] w (PnoIs w) :=
 (cparse_any s hs w hw).mono fun e w' hr => by
  unfold CpIs at hr
  cases hx : chartT s.data.toList with
  | ok c => exact absurd hx (h c)
  | error x =>
   obtain ⟨y,n⟩ := x
   rw [hx] at hr
   obtain ⟨rfl,hy,hb⟩ := hr
   exact ⟨_,_,_,y,_,rfl,hy,⟨_,_,_,_,_,_,_,rfl,rfl,rfl⟩,hb⟩
def text9 : ByteArray := ⟨#[99,104,97,114,116,32,99]⟩
def ch9 : Ch := ⟨[99],[],[⟨[99],1,-1,[],[],[],[]⟩]⟩
theorem chart_9 : chartT text9.data.toList = .ok ch9 := by kernel_rfl
theorem check_9 : checkE ch9 = (34,[99]) := by kernel_rfl
theorem check_8 : checkE ch8 = (0,[]) := by kernel_rfl
set_option maxRecDepth 100000 in
set_option maxHeartbeats 4000000 in
theorem anchor9_any (w : World) (hw : Al w) : Calls Tryz.prog 16 #[] w (Ret (.bool true) w) := by
 have P9 := Lib.hid (fun wx (hb : Below w.heap.size w wx) => cparse_ok text9 (by decide) chart_9 wx (al_below hw hb))
 have P8 := Lib.hid (fun wx (hb : Below w.heap.size w wx) => cparse_ok text8 (by decide) chart_8 wx (al_below hw hb))
 have LB := Lib.hid (fun wx (hb : Below w.heap.size w wx) => (al_below hw hb).ax.lb)
 have O9 := okC_of chart_9
 have O8 := okC_of chart_8
 have k9 := check_9
 have k8 := check_8
 unfold text9 at P9
 unfold text8 at P8
 generalize ch9 = c9 at *
 generalize ch8 = c8 at *
 replace O9 := Lib.hid O9
 replace O8 := Lib.hid O8
 replace k9 := Lib.hid k9
 replace k8 := Lib.hid k8
 clear hw
 go_enter Tryz.func16,Tryz.ntmps16
 go_wp2_with fail
 refine (P9.out _ (by (first | exact gwT | exact lzT))).mono ?_
 rintro e w1 ⟨rv,va,vc,sa,sc,rfl,hV,hb⟩
 have hV0 := Lib.hid (fun wx (hx : Below w1.heap.size w1 wx) => chV_keep hV hx)
 clear P9 hV
 have hz1 := hb.size
 dsimp only
 go_wp2_with fail
 refine (P8.out _ (by (first | exact gwT | exact lzT))).mono ?_
 rintro e w2 ⟨rv2,va2,vc2,sa2,sc2,rfl,hV2,hb2⟩
 have hk := hb2.size
 have hbw : Below w1.heap.size w1 w2 := Below.trans (by (first | exact gwT | exact lzT)) (hb2.mono (by simp))
 have d0 := (hb2.cell (p := ⟨w1.heap.size,0,none⟩) (by simp)).trans (show _ = some (str c9.name) by simp [go_sem])
 have d1 := (hb2.cell (p := ⟨w1.heap.size,1,none⟩) (by simp)).trans (show _ = some (.slice va c9.vars.length vc) by simp [go_sem])
 have d2 := (hb2.cell (p := ⟨w1.heap.size,2,none⟩) (by simp)).trans (show _ = some (.slice sa c9.states.length sc) by simp [go_sem])
 have hw1 : Below w.heap.size w w1 := Below.mono hb (by simp)
 have hw2 := hw1.trans (hbw.mono hw1.size)
 have hzw := hw2.size
 have V9 := Lib.hid (fun wx (hx : Below w2.heap.size w2 wx) => vcheck_any O9.out wx (hV0.out wx (hbw.trans (hx.mono hbw.size))) (LB.out wx (hw2.trans (hx.mono hzw))))
 have V8 := Lib.hid (fun wx (hx : Below w2.heap.size w2 wx) => vcheck_any O8.out wx (chV_keep hV2 hx) (LB.out wx (hw2.trans (hx.mono hzw))))
 rw [k9.out] at V9
 rw [k8.out] at V8
 have j1 : InW w1.heap.size w2 := ⟨World.block_lt_of_cell? _ _ d0⟩
 clear P8 hV2 hV0 hb2 LB
 dsimp only
 go_wp2_with (first | ((with_reducible refine (V9.out _ (by (first | exact gwT | exact lzT))).mono ?_);intro e w1 hr;obtain ⟨rfl,p,rfl⟩ := hr.out;clear hr) | ((with_reducible refine (V8.out _ (by (first | exact gwT | exact lzT))).mono ?_);intro e w1 hr;obtain ⟨rfl,p,rfl⟩ := hr.out;clear hr))
 go_returns
 exact ⟨rfl,hw2.trans (Below.mono (show Below w2.heap.size w2 _ by (first | exact gwT | exact lzT)) hzw)⟩
end Go.Proofs.YtpgibloeinphaaaGreatDoor
