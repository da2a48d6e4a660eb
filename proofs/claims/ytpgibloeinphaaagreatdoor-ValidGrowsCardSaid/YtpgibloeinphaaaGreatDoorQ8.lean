/- Several texts of this proof, joined: MQ, MN, MT. -/
import Derived.Test.YtpgibloeinphaaaGreatDoorQ7
import Derived.WalkKit
import Derived.ProofKit
import Derived.OpenShut
import Derived.Handy
import Derived.BigQuiet
import Derived.OwnWalk
import Derived.Deep.AppendLies
import Derived.Lib.Hide
import Derived.WalkSmall
import Derived.WalkLawsBesides
namespace Go.Proofs.YtpgibloeinphaaaGreatDoor
open Go.RowKit
def findA (nm : List UInt8) : List St → Nat → Option Nat
 | [],_ => none
 | s :: r,k => if 0 < k ∧ s.name = nm then some k else findA nm r (k + 1)
def kidsA (p : Int) : List St → Nat → List Nat
 | [],_ => []
 | s :: r,k => if s.parent = p then k :: kidsA p r (k + 1) else kidsA p r (k + 1)
def wthT (ss : List St) (outer : Int) : Nat → Int → Bool
 | 0,_ => false
 | f + 1,i => if i ≤ 0 then false else if (ss.getD i.toNat st0).parent = outer then true else wthT ss outer f (ss.getD i.toNat st0).parent
def wthC (ss : List St) (i outer : Int) : Bool := if i < 0 ∨ (ss.length : Int) ≤ i then false else wthT ss outer ss.length i
theorem findA_more {nm : List UInt8} {ss : List St} {i : Nat} (h : i < ss.length) : findA nm (ss.drop i) i = if 0 < i ∧ ss[i].name = nm then some i else findA nm (ss.drop (i + 1)) (i + 1) := by
 rw [List.drop_eq_getElem_cons h,findA]
theorem findA_end {nm : List UInt8} {ss : List St} {i : Nat} (h : ss.length ≤ i) : findA nm (ss.drop i) i = none := by
 rw [List.drop_of_length_le h,findA]
theorem kidsA_more {p : Int} {ss : List St} {i : Nat} (h : i < ss.length) : kidsA p (ss.drop i) i = if ss[i].parent = p then i :: kidsA p (ss.drop (i + 1)) (i + 1) else kidsA p (ss.drop (i + 1)) (i + 1) := by
 rw [List.drop_eq_getElem_cons h,kidsA]
theorem kidsA_end {p : Int} {ss : List St} {i : Nat} (h : ss.length ≤ i) : kidsA p (ss.drop i) i = [] := by
 rw [List.drop_of_length_le h,kidsA]
theorem kidsA_len (p : Int) : ∀ (ss : List St) (k : Nat),(kidsA p ss k).length ≤ ss.length
 | [],_ => by simp [kidsA]
 | s :: r,k => by
  have := kidsA_len p r (k + 1)
  rw [kidsA]
  split <;> simp <;> omega
structure Par (ss : List St) : Prop where
 root : (ss.getD 0 st0).parent = -1
 par : ∀ i,0 < i → i < ss.length → 0 ≤ (ss.getD i st0).parent ∧ (ss.getD i st0).parent < (i : Int)
theorem wthT_more {ss : List St} {outer : Int} {f i : Nat} : wthT ss outer (f + 1) (i : Int) = if i = 0 then false else if (ss.getD i st0).parent = outer then true else wthT ss outer f (ss.getD i st0).parent := by
 rw [wthT,Int.toNat_natCast]
 by_cases h : i = 0
 ·subst h;rfl
 ·rw [if_neg (by omega),if_neg h]
theorem wthT_zero (ss : List St) (outer : Int) : ∀ f,wthT ss outer f 0 = false
 | 0 => rfl
 | _ + 1 => by rw [wthT,if_pos (Int.le_refl _)]
section
variable {B : Nat} {c : Ch} {rv : Nat → Value} {vv : Value}
theorem chV_hid {τ : CT} {vv sv : Value} {w : World} (h : ChV τ B w c rv vv sv) : Hid (∀ wx,Below w.heap.size w wx → ChV τ B wx c rv vv sv) := Lib.hid fun _ hb => chV_keep h hb
set_option maxRecDepth 100000 in
set_option maxHeartbeats 4000000 in
theorem cfind_any {τ : CT} (so : Option Addr) (sc : Nat) (q : ByteArray) (hn : c.states.length ≤ 1000) (w : World) (h : ChV τ B w c rv vv (.slice so c.states.length sc)) :
  Calls Tryz.prog 162 #[.agg #[str c.name,vv,.slice so c.states.length sc],.string q] w (Ret (.tuple #[.int .i64 (((findA q.data.toList c.states 0).getD 0 : Nat) : Int),.bool (findA q.data.toList c.states 0).isSome]) w) := by
 have H := chV_hid h
 have hS := Lib.hid (List.drop_zero (l := c.states))
 clear h
 generalize hF : findA q.data.toList c.states 0 = F
 have hF' : Hid (findA q.data.toList (c.states.drop 0) 0 = F) := Lib.hid (by rw [hS.out];exact hF)
 clear hF hS
 go_enter Tryz.func162,Tryz.ntmps162
 go_wp2
 go_loopw [11] (fun x wr => ∃ (i : Nat),x = .int .i64 (i : Int) ∧ i ≤ c.states.length ∧ Hid (findA q.data.toList (c.states.drop i) i = F) ∧ Below w.heap.size w wr) (fun x _ => c.states.length - (intOf x).toNat)
 case atStart => exact ⟨0,rfl,Nat.zero_le _,hF',by (first | exact gwT | exact lzT)⟩
 case round =>
  obtain ⟨i,rfl,hi,hf,hb⟩ := hrel
  rename World => wr
  have hwz := hb.size
  by_cases hlt : i < c.states.length
  ·obtain ⟨g,eo,ec,xo,xc,to',tc,rfl,hg,n1,n2,n3,n4,n5,n6,n7,_,_,_⟩ := st_at (H.out wr hb) i hlt
   have hm := findA_more (nm := q.data.toList) hlt
   generalize c.states[i] = s at *
   have i1 : InW g wr := ⟨hg⟩
   have hI : (i : Int) < (c.states.length : Int) := by omega
   by_cases hh : 0 < i ∧ s.name = q.data.toList
   ·have hI0 : (0 : Int) < (i : Int) := by omega
    have e1 : (s.name == q.toList) = true := by rw [Lib.toList_data];simpa using hh.2
    rw [if_pos hh,hf.out] at hm
    subst hm
    replace hh := Lib.hid hh
    clear hf
    go_wp2
    go_returns
    exact ⟨rfl,by (first | exact gwT | exact lzT)⟩
   ·rw [if_neg hh,hf.out] at hm
    have hm' := Lib.hid hm.symm
    clear hf hm
    by_cases h0 : 0 < i
    ·have e1 : (s.name == q.toList) = false := by rw [Lib.toList_data];simpa using fun e => hh ⟨h0,e⟩
     have hI0 : (0 : Int) < (i : Int) := by omega
     replace hh := Lib.hid hh
     go_wp2
     go_roundw
     case rel => exact ⟨i + 1,by go_num,by omega,hm',by (first | exact gwT | exact lzT)⟩
     case measure => simp [intOf];omega
    ·have hI0 : ¬ (0 : Int) < (i : Int) := by omega
     replace hh := Lib.hid hh
     go_wp2
     go_roundw
     case rel => exact ⟨i + 1,by go_num,by omega,hm',by (first | exact gwT | exact lzT)⟩
     case measure => simp [intOf];omega
  ·have hI : ¬ (i : Int) < (c.states.length : Int) := by omega
   have hm := findA_end (nm := q.data.toList) (show c.states.length ≤ i by omega)
   rw [hf.out] at hm
   subst hm
   clear hf
   go_wp2
   go_returns
   exact ⟨rfl,by (first | exact gwT | exact lzT)⟩
set_option maxRecDepth 100000 in
set_option maxHeartbeats 4000000 in
theorem rfind_any {τ : CT} (so : Option Addr) (sc : Nat) (q : ByteArray) (hn : c.states.length ≤ 1000) (w : World) (h : ChV τ B w c rv vv (.slice so c.states.length sc)) :
  Calls Tryz.prog 29 #[.agg #[str c.name,vv,.slice so c.states.length sc],.string q] w (Ret (.int .i64 (match findA q.data.toList c.states 0 with | some k => (k : Int) | none => -1)) w) := by
 have H := chV_hid h
 have hF' : Hid (findA q.data.toList (c.states.drop 1) 1 = findA q.data.toList c.states 0) := Lib.hid (by
  cases c.states with
  | nil => rfl
  | cons s r =>
   rw [List.drop_one,List.tail_cons,findA,if_neg (by omega)])
 clear h
 generalize findA q.data.toList c.states 0 = F at *
 go_enter Tryz.func29,Tryz.ntmps29
 go_wp2
 go_loopw [5] (fun x wr => ∃ (i : Nat),x = .int .i64 (i : Int) ∧ 1 ≤ i ∧ i ≤ c.states.length + 1 ∧ Hid (findA q.data.toList (c.states.drop i) i = F) ∧ Below w.heap.size w wr ∧ wr.cell? ⟨w.heap.size,2,none⟩ = some (.slice so c.states.length sc) ∧ w.heap.size < wr.heap.size) (fun x _ => c.states.length + 1 - (intOf x).toNat)
 case atStart => exact ⟨1,rfl,Nat.le_refl _,by omega,hF',by (first | exact gwT | exact lzT),by simp [go_sem],by simp⟩
 case round =>
  obtain ⟨i,rfl,h1,hi,hf,hb,hc2,hlw⟩ := hrel
  rename World => wr
  have hwz := hb.size
  have i0 : InW w.heap.size wr := ⟨hlw⟩
  by_cases hlt : i < c.states.length
  ·obtain ⟨g,eo,ec,xo,xc,to',tc,rfl,hg,n1,n2,n3,n4,n5,n6,n7,_,_,_⟩ := st_at (H.out wr hb) i hlt
   have hm := findA_more (nm := q.data.toList) hlt
   generalize c.states[i] = s at *
   have i1 : InW g wr := ⟨hg⟩
   have hI : (i : Int) < (c.states.length : Int) := by omega
   by_cases hh : s.name = q.data.toList
   ·have e1 : (s.name == q.toList) = true := by rw [Lib.toList_data];simpa using hh
    rw [if_pos ⟨by omega,hh⟩,hf.out] at hm
    subst hm
    replace hh := Lib.hid hh
    clear hf
    go_wp2
    go_returns
    exact ⟨rfl,by (first | exact gwT | exact lzT)⟩
   ·rw [if_neg (fun h => hh h.2),hf.out] at hm
    have hm' := Lib.hid hm.symm
    clear hf hm
    have e1 : (s.name == q.toList) = false := by rw [Lib.toList_data];simpa using hh
    replace hh := Lib.hid hh
    go_wp2
    go_roundw
    case rel => exact ⟨i + 1,by go_num,by omega,by omega,hm',by (first | exact gwT | exact lzT),hc2,hlw⟩
    case measure => simp [intOf];omega
  ·have hI : ¬ (i : Int) < (c.states.length : Int) := by omega
   have hm := findA_end (nm := q.data.toList) (show c.states.length ≤ i by omega)
   rw [hf.out] at hm
   subst hm
   clear hf
   go_wp2
   go_returns
   exact ⟨rfl,by (first | exact gwT | exact lzT)⟩
def NatsIs (ks : List Nat) (w : World) (e : Ending) (w' : World) : Prop := ∃ v,e = .returned v ∧ w'.ownsRow w.heap.size 3 1 v ks.length (natsC ks) ∧ Below w.heap.size w w'
set_option maxRecDepth 100000 in
set_option maxHeartbeats 4000000 in
theorem ckids_any {τ : CT} (so : Option Addr) (sc : Nat) (p : Int) (hn : c.states.length ≤ 1000) (w : World) (h : ChV τ B w c rv vv (.slice so c.states.length sc)) :
  Calls Tryz.prog 165 #[.agg #[str c.name,vv,.slice so c.states.length sc],.int .i64 p] w (NatsIs (kidsA p c.states 0) w) := by
 have H := chV_hid h
 have hk0 := kidsA_len p c.states 0
 have hF' : Hid (kidsA p c.states 0 = [] ++ kidsA p (c.states.drop 0) 0) := Lib.hid (by rw [List.drop_zero];rfl)
 clear h
 generalize kidsA p c.states 0 = F at *
 obtain ⟨j0,hj,hy1,hy2,hy3⟩ := info_parts Tryz.infoInt
 go_enter Tryz.func165,Tryz.ntmps165
 go_wp2
 go_loopw [5,11] (fun v x wr => ∃ (i : Nat) (ks : List Nat) (oa : Option Addr) (oc : Nat),x = .int .i64 (i : Int) ∧ i ≤ c.states.length ∧ Hid (F = ks ++ kidsA p (c.states.drop i) i) ∧ v = .slice oa ks.length oc ∧ wr.ownsRow w.heap.size 3 1 (.slice oa ks.length oc) ks.length (natsC ks) ∧ Below w.heap.size w wr) (fun _ x _ => c.states.length - (intOf x).toNat)
 case atStart => exact ⟨0,[],none,0,rfl,Nat.zero_le _,hF',rfl,World.ownsRow_nil _ _ _ _,by (first | exact gwT | exact lzT)⟩
 case round =>
  obtain ⟨i,ks,oa,oc,rfl,hi,hf,rfl,hown,hb⟩ := hrel
  rename World => wr
  have hwz := hb.size
  have hkl : ks.length ≤ 1000 := by
   have := congrArg List.length hf.out
   rw [List.length_append] at this
   omega
  have hownK := Lib.hid hown
  clear hown
  by_cases hlt : i < c.states.length
  ·obtain ⟨g,eo,ec,xo,xc,to',tc,rfl,hg,n1,n2,n3,n4,n5,n6,n7,_,_,_⟩ := st_at (H.out wr hb) i hlt
   have hm := kidsA_more (p := p) hlt
   generalize c.states[i] = s at *
   have i1 : InW g wr := ⟨hg⟩
   have hI : (i : Int) < (c.states.length : Int) := by omega
   by_cases hh : s.parent = p
   ·have e1 : (s.parent == p) = true := by simpa using hh
    rw [if_pos hh] at hm
    have hf2 : Hid (F = (ks ++ [i]) ++ kidsA p (c.states.drop (i + 1)) (i + 1)) := Lib.hid (by rw [hf.out,hm];simp)
    replace hh := Lib.hid hh
    clear hf hm
    go_wp2_with (at_builtin;refine wpList_append_lies _ rfl _ _ 61 rfl w.heap.size 3 j0 _ 1 8 Tryz.underlying61 hj hy1 hy2 hy3 rfl (by decide) (.slice oa ks.length oc) ks.length (natsC ks) rfl (owns_below hownK.out (by (first | exact gwT | exact lzT))) ⟨_,0,none⟩ 1 1 [.int .i64 (i : Int)] rfl rfl (World.news_of_block (new_at (by simp))) (by intro u hu;simp at hu;subst hu;rfl) (by decide) (by unfold maxLen;omega) (by omega) (by simp [go_sem];omega) _ rfl ?_)
    intro g' cap' w1 hown1 hgrow hat1 hg1
    have hb1 : Below w.heap.size w w1 := Below.grown (by (first | exact gwT | exact lzT)) hgrow (by simp [go_sem];omega) (fun k hk => (hownK.out.lt k hk).1)
    have hown2 := Lib.hid hown1
    clear hown1 hgrow hat1 hg1 hownK hb
    go_wp2
    go_roundw
    case rel => exact ⟨i + 1,ks ++ [i],_,cap',by go_num,by omega,hf2,by rw [List.length_append];rfl,by rw [List.length_append,show natsC (ks ++ [i]) = natsC ks ++ [.int .i64 (i : Int)] by simp [natsC]];exact hown2.out,hb1⟩
    case measure => simp [intOf];omega
   ·have e1 : (s.parent == p) = false := by simpa using hh
    rw [if_neg hh] at hm
    have hf2 : Hid (F = ks ++ kidsA p (c.states.drop (i + 1)) (i + 1)) := Lib.hid (by rw [hf.out,hm])
    replace hh := Lib.hid hh
    clear hf hm
    go_wp2
    go_roundw
    case rel => exact ⟨i + 1,ks,oa,oc,by go_num,by omega,hf2,rfl,owns_below hownK.out (by (first | exact gwT | exact lzT)),by (first | exact gwT | exact lzT)⟩
    case measure => simp [intOf];omega
  ·have hI : ¬ (i : Int) < (c.states.length : Int) := by omega
   have hm := kidsA_end (p := p) (show c.states.length ≤ i by omega)
   have hf2 : F = ks := by rw [hf.out,hm,List.append_nil]
   subst hf2
   clear hf hm
   go_wp2
   go_returns
   exact ⟨_,rfl,owns_below hownK.out (by (first | exact gwT | exact lzT)),by (first | exact gwT | exact lzT)⟩
set_option maxRecDepth 100000 in
set_option maxHeartbeats 4000000 in
theorem cwithin_out (so : Option Addr) (sc : Nat) (i outer : Int) (hi : i < 0 ∨ (c.states.length : Int) ≤ i) (w : World) :
  Calls Tryz.prog 164 #[.agg #[str c.name,vv,.slice so c.states.length sc],.int .i64 i,.int .i64 outer] w (Ret (.bool false) w) := by
 rcases hi with hi | hi
 ·go_enter Tryz.func164,Tryz.ntmps164
  go_wp2
  go_returns
  exact ⟨rfl,by (first | exact gwT | exact lzT)⟩
 ·by_cases h0 : i < 0
  ·go_enter Tryz.func164,Tryz.ntmps164
   go_wp2
   go_returns
   exact ⟨rfl,by (first | exact gwT | exact lzT)⟩
  ·go_enter Tryz.func164,Tryz.ntmps164
   go_wp2
   go_returns
   exact ⟨rfl,by (first | exact gwT | exact lzT)⟩
set_option maxRecDepth 100000 in
set_option maxHeartbeats 4000000 in
theorem cwithin_in {τ : CT} (so : Option Addr) (sc : Nat) (a : Nat) (outer : Int) (hn : c.states.length ≤ 1000) (hp : Par c.states) (ha : a < c.states.length) (w : World) (h : ChV τ B w c rv vv (.slice so c.states.length sc)) :
  Calls Tryz.prog 164 #[.agg #[str c.name,vv,.slice so c.states.length sc],.int .i64 (a : Int),.int .i64 outer] w (Ret (.bool (wthT c.states outer c.states.length (a : Int))) w) := by
 have H := chV_hid h
 have hp' := Lib.hid hp
 clear h hp
 obtain ⟨f,hf,hF⟩ : ∃ f,a ≤ f ∧ Hid (wthT c.states outer c.states.length (a : Int) = wthT c.states outer (f + 1) (a : Int)) := ⟨c.states.length - 1,by omega,Lib.hid (by rw [show c.states.length - 1 + 1 = c.states.length by omega])⟩
 generalize wthT c.states outer c.states.length (a : Int) = F at *
 obtain ⟨g,eo,ec,xo,xc,to',tc,rfl,hg,n1,n2,n3,n4,n5,n6,n7,_,_,_⟩ := st_at (H.out w (Below.refl _ _)) a ha
 have hpe : c.states[a].parent = (c.states.getD a st0).parent := by rw [getD_at ha]
 rw [hpe] at n3
 replace hpe := Lib.hid hpe
 have i1 : InW g w := ⟨hg⟩
 have hA : (a : Int) < (c.states.length : Int) := by omega
 obtain ⟨p0,hp0⟩ : ∃ p0,(c.states.getD a st0).parent = p0 := ⟨_,rfl⟩
 rw [hp0] at n3
 replace hp0 := Lib.hid hp0
 go_enter Tryz.func164,Tryz.ntmps164
 go_wp2
 go_loopw [1,7] (fun x y wr => ∃ (i f : Nat),x = .int .i64 (i : Int) ∧ i ≤ f ∧ i < c.states.length ∧ Hid (F = wthT c.states outer (f + 1) (i : Int)) ∧ y = .int .i64 (c.states.getD i st0).parent ∧ Below w.heap.size w wr ∧ wr.cell? ⟨w.heap.size,2,none⟩ = some (.slice (some ⟨g,0,none⟩) c.states.length sc) ∧ w.heap.size < wr.heap.size) (fun x _ _ => (intOf x).toNat)
 case atStart => exact ⟨a,f,rfl,hf,ha,hF,by rw [hp0.out],by (first | exact gwT | exact lzT),by simp [go_sem],by simp⟩
 case round =>
  obtain ⟨i,f,rfl,hif,hi,hF,rfl,hb,hc2,hlw⟩ := hrel
  rename World => wr
  have hwz := hb.size
  have i0 : InW w.heap.size wr := ⟨hlw⟩
  have hm := wthT_more (ss := c.states) (outer := outer) (f := f) (i := i)
  by_cases hi0 : i = 0
  ·subst hi0
   rw [if_pos rfl] at hm
   have hF2 : F = false := by rw [hF.out,hm]
   subst hF2
   have hr := hp'.out.root
   generalize (c.states.getD 0 st0).parent = pr at *
   subst hr
   clear hF hm
   go_wp2
   go_returns
   exact ⟨rfl,by (first | exact gwT | exact lzT)⟩
  ·obtain ⟨q1,q2⟩ := hp'.out.par i (by omega) hi
   rw [if_neg hi0] at hm
   obtain ⟨p,hpp⟩ : ∃ p : Nat,(c.states.getD i st0).parent = (p : Int) := ⟨(c.states.getD i st0).parent.toNat,by omega⟩
   have hpl : p < c.states.length := by omega
   rw [hpp] at hm q1 q2 ⊢
   have hpp' := Lib.hid hpp
   clear hpp
   by_cases ho : (p : Int) = outer
   ·rw [if_pos ho] at hm
    have hF2 : F = true := by rw [hF.out,hm]
    subst hF2
    have e1 : ((p : Int) == outer) = true := by simpa using ho
    replace ho := Lib.hid ho
    clear hF hm
    go_wp2
    go_returns
    exact ⟨rfl,by (first | exact gwT | exact lzT)⟩
   ·rw [if_neg ho] at hm
    obtain ⟨f',rfl⟩ : ∃ f',f = f' + 1 := ⟨f - 1,by omega⟩
    have hF2 : Hid (F = wthT c.states outer (f' + 1) (p : Int)) := Lib.hid (by rw [hF.out,hm])
    have e1 : ((p : Int) == outer) = false := by simpa using ho
    replace ho := Lib.hid ho
    clear hF hm
    obtain ⟨g2,eo,ec,xo,xc,to',tc,hge,hg2,k1,k2,k3,k4,k5,k6,k7,_,_,_⟩ := st_at (H.out wr hb) p hpl
    cases hge
    rw [← getD_at hpl] at k3
    have i2 : InW g wr := ⟨hg2⟩
    have hP : (p : Int) < (c.states.length : Int) := by omega
    obtain ⟨pv,hpv⟩ : ∃ pv,(c.states.getD p st0).parent = pv := ⟨_,rfl⟩
    rw [hpv] at k3
    replace hpv := Lib.hid hpv
    go_wp2
    go_roundw
    case rel => exact ⟨p,f',rfl,by omega,hpl,hF2,by rw [hpv.out],by (first | exact gwT | exact lzT),hc2,hlw⟩
    case measure => simp [intOf];omega
set_option maxRecDepth 100000 in
set_option maxHeartbeats 4000000 in
theorem rwithin_out (so : Option Addr) (sc : Nat) (i outer : Int) (hi : i ≤ 0 ∨ (c.states.length : Int) ≤ i) (w : World) :
  Calls Tryz.prog 74 #[.agg #[str c.name,vv,.slice so c.states.length sc],.int .i64 i,.int .i64 outer] w (Ret (.bool false) w) := by
 by_cases h0 : i ≤ 0
 ·go_enter Tryz.func74,Tryz.ntmps74
  go_wp2
  go_returns
  exact ⟨rfl,by (first | exact gwT | exact lzT)⟩
 ·replace hi := hi.resolve_left h0
  go_enter Tryz.func74,Tryz.ntmps74
  go_wp2
  go_returns
  exact ⟨rfl,by (first | exact gwT | exact lzT)⟩
set_option maxRecDepth 100000 in
set_option maxHeartbeats 4000000 in
theorem rwithin_in {τ : CT} (so : Option Addr) (sc : Nat) (outer : Int) (hp : Par c.states) : ∀ (f i : Nat) (w : World),i ≤ f → i < c.states.length → ChV τ B w c rv vv (.slice so c.states.length sc) →
  Calls Tryz.prog 74 #[.agg #[str c.name,vv,.slice so c.states.length sc],.int .i64 (i : Int),.int .i64 outer] w (Ret (.bool (wthT c.states outer (f + 1) (i : Int))) w) := by
 intro f
 induction f with
 | zero =>
  intro i w hi _ _
  obtain rfl : i = 0 := by omega
  have := rwithin_out (c := c) (vv := vv) so sc 0 outer (.inl (Int.le_refl _)) w
  simpa [wthT] using this
 | succ f ih =>
  intro i w hi hl h
  by_cases h0 : i = 0
  ·subst h0
   have := rwithin_out (c := c) (vv := vv) so sc 0 outer (.inl (Int.le_refl _)) w
   rw [show ((0 : Nat) : Int) = 0 from rfl,wthT_zero]
   exact this
  ·have hm := wthT_more (ss := c.states) (outer := outer) (f := f + 1) (i := i)
   rw [if_neg h0] at hm
   obtain ⟨q1,q2⟩ := hp.par i (by omega) hl
   obtain ⟨p,hpp⟩ : ∃ p : Nat,(c.states.getD i st0).parent = (p : Int) := ⟨(c.states.getD i st0).parent.toNat,by omega⟩
   have hpl : p < c.states.length := by omega
   have R := Lib.hid (fun wx (hk : Below w.heap.size w wx) => ih p wx (by omega) hpl (chV_keep h hk))
   obtain ⟨g,eo,ec,xo,xc,to',tc,rfl,hg,n1,n2,n3,n4,n5,n6,n7,_,_,_⟩ := st_at h i hl
   rw [← getD_at hl,hpp] at n3
   rw [hpp] at hm
   have i1 : InW g w := ⟨hg⟩
   have hA : (i : Int) < (c.states.length : Int) := by omega
   have hA0 : ¬ (i : Int) ≤ 0 := by omega
   have hp' := Lib.hid hp
   clear ih h hpp hp
   by_cases ho : (p : Int) = outer
   ·rw [if_pos ho] at hm
    rw [hm]
    have e1 : ((p : Int) == outer) = true := by simpa using ho
    replace ho := Lib.hid ho
    clear hm
    go_enter Tryz.func74,Tryz.ntmps74
    go_wp2
    go_returns
    exact ⟨rfl,by (first | exact gwT | exact lzT)⟩
   ·rw [if_neg ho] at hm
    rw [hm]
    have e1 : ((p : Int) == outer) = false := by simpa using ho
    replace ho := Lib.hid ho
    clear hm
    generalize wthT c.states outer (f + 1) (p : Int) = F at *
    go_enter Tryz.func74,Tryz.ntmps74
    go_wp2_with (((with_reducible refine (R.out _ (by (first | exact gwT | exact lzT))).mono ?_);intro e w1 hr;obtain ⟨rfl,p,rfl⟩ := hr.out;clear hr))
    go_returns
    exact ⟨rfl,by (first | exact gwT | exact lzT)⟩
end
def TxtsIs (ls : List (List UInt8)) (w : World) (e : Ending) (w' : World) : Prop := ∃ v,e = .returned v ∧ w'.ownsRow w.heap.size 9 1 v ls.length (strsC ls) ∧ Below w.heap.size w w'
end Go.Proofs.YtpgibloeinphaaaGreatDoor
namespace Go.Proofs.YtpgibloeinphaaaGreatDoor
open Go.RowKit
theorem txt_at {w : World} {B : Nat} {ao : Option Addr} {n cap : Nat} {ls : List (List UInt8)} (h : w.ownsRow B 9 1 (.slice ao n cap) ls.length (strsC ls)) (i : Nat) (hi : i < ls.length) : ∃ g,ao = some ⟨g,0,none⟩ ∧ g < w.heap.size ∧ w.cell? ⟨g,i,none⟩ = some (str ls[i]) := by
 obtain ⟨g,cap',e,hg,_,_,hc⟩ := own_head h (by omega)
 cases e
 exact ⟨g,rfl,hg,hc _ _ (by unfold strsC;rw [List.getElem?_map,List.getElem?_eq_getElem hi];rfl)⟩
set_option maxRecDepth 100000 in
set_option maxHeartbeats 4000000 in
theorem malike_any (ao : Option Addr) (cap : Nat) (bo : Option Addr) (bap : Nat) (ns : List Nd) (hn : ns.length ≤ 2000000) (w : World) (h : NdsAt w ao ns) (k : NdsAt w bo ns) : Calls Tryz.prog 100 #[.slice ao ns.length cap,.slice bo ns.length bap] w (Ret (.bool true) w) := by
 have H := fun wx hb => nds_below (w' := wx) h hb
 replace H := Lib.hid H
 have K := fun wx hb => nds_below (w' := wx) k hb
 replace K := Lib.hid K
 clear h k
 go_enter Tryz.func100,Tryz.ntmps100
 go_wp2
 go_loopw [13] (fun x wr => ∃ (i : Nat),x = .int .i64 (i : Int) ∧ i ≤ ns.length ∧ Below w.heap.size w wr) (fun x _ => ns.length - (intOf x).toNat)
 case atStart => exact ⟨0,rfl,Nat.zero_le _,by (first | exact gwT | exact lzT)⟩
 case round =>
  obtain ⟨i,rfl,hi,hb⟩ := hrel
  rename World => wr
  have hwz := hb.size
  by_cases hlt : i < ns.length
  ·obtain ⟨g,o,rfl,hg,hc⟩ := H.out wr hb (by omega)
   obtain ⟨n1,n2,n3,n4,n5,n6,n7⟩ := hc i hlt
   obtain ⟨g2,o2,rfl,hg2,hc2⟩ := K.out wr hb (by omega)
   obtain ⟨m1,m2,m3,m4,m5,m6,m7⟩ := hc2 i hlt
   generalize ns[i] = n at *
   have i1 : InW g wr := ⟨hg⟩
   have i2 : InW g2 wr := ⟨hg2⟩
   have hI : (i : Int) < (ns.length : Int) := by omega
   clear hc hc2
   go_wp2_with fail
   (refine wp_region_G (by kernel_rfl) (by kernel_rfl) ?_;(repeat (go_big_quiet_step (fail)));refine wpQuiet_nil ?_;intro _ hw';obtain ⟨pg,hw''⟩ := hw';subst hw'')
   go_wp2
   go_roundw
   case rel => exact ⟨i + 1,by go_num,by omega,by (first | exact gwT | exact lzT)⟩
   case measure => simp [intOf];omega
  ·have hI : ¬ (i : Int) < (ns.length : Int) := by omega
   go_wp2
   go_returns
   exact ⟨rfl,hb⟩
set_option maxRecDepth 100000 in
set_option maxHeartbeats 4000000 in
theorem mtexts_same {B1 B2 : Nat} (ao : Option Addr) (cap : Nat) (bo : Option Addr) (bap : Nat) (ls : List (List UInt8)) (hn : ls.length ≤ 2000000) (w : World) (h : w.ownsRow B1 9 1 (.slice ao ls.length cap) ls.length (strsC ls)) (k : w.ownsRow B2 9 1 (.slice bo ls.length bap) ls.length (strsC ls)) :
  Calls Tryz.prog 101 #[.slice ao ls.length cap,.slice bo ls.length bap] w (Ret (.bool true) w) := by
 have H := Lib.hid (fun wx (hb : Below w.heap.size w wx) => owns_below (w' := wx) h hb)
 have K := Lib.hid (fun wx (hb : Below w.heap.size w wx) => owns_below (w' := wx) k hb)
 clear h k
 go_enter Tryz.func101,Tryz.ntmps101
 go_wp2
 go_loopw [13] (fun x wr => ∃ (i : Nat),x = .int .i64 (i : Int) ∧ i ≤ ls.length ∧ Below w.heap.size w wr) (fun x _ => ls.length - (intOf x).toNat)
 case atStart => exact ⟨0,rfl,Nat.zero_le _,by (first | exact gwT | exact lzT)⟩
 case round =>
  obtain ⟨i,rfl,hi,hb⟩ := hrel
  rename World => wr
  have hwz := hb.size
  by_cases hlt : i < ls.length
  ·obtain ⟨g,rfl,hg,n1⟩ := txt_at (H.out wr hb) i hlt
   obtain ⟨g2,rfl,hg2,m1⟩ := txt_at (K.out wr hb) i hlt
   generalize ls[i] = n at *
   have i1 : InW g wr := ⟨hg⟩
   have i2 : InW g2 wr := ⟨hg2⟩
   have hI : (i : Int) < (ls.length : Int) := by omega
   go_wp2_with fail
   (refine wp_region_G (by kernel_rfl) (by kernel_rfl) ?_;(repeat (go_big_quiet_step (fail)));refine wpQuiet_nil ?_;intro _ hw';obtain ⟨pg,hw''⟩ := hw';subst hw'')
   go_wp2
   go_roundw
   case rel => exact ⟨i + 1,by go_num,by omega,by (first | exact gwT | exact lzT)⟩
   case measure => simp [intOf];omega
  ·have hI : ¬ (i : Int) < (ls.length : Int) := by omega
   go_wp2
   go_returns
   exact ⟨rfl,hb⟩
set_option maxRecDepth 100000 in
set_option maxHeartbeats 4000000 in
theorem macts_same (ao : Option Addr) (cap : Nat) (bo : Option Addr) (bap : Nat) (cs : List Ac) (hc : cs.length ≤ 1000) (hn : ∀ c ∈ cs,c.cond.length ≤ 2000000 ∧ c.x.length ≤ 2000000) (w : World) (h : ActsAt w ao cs) (k : ActsAt w bo cs) : Calls Tryz.prog 102 #[.slice ao cs.length cap,.slice bo cs.length bap] w (Ret (.bool true) w) := by
 have H := Lib.hid (fun wx hb => acts_below (w' := wx) h hb)
 have K := Lib.hid (fun wx hb => acts_below (w' := wx) k hb)
 clear h k
 go_enter Tryz.func102,Tryz.ntmps102
 go_wp2
 go_loopw [13] (fun x wr => ∃ (i : Nat),x = .int .i64 (i : Int) ∧ i ≤ cs.length ∧ Below w.heap.size w wr) (fun x _ => cs.length - (intOf x).toNat)
 case atStart => exact ⟨0,rfl,Nat.zero_le _,by (first | exact gwT | exact lzT)⟩
 case round =>
  obtain ⟨i,rfl,hi,hb⟩ := hrel
  rename World => wr
  have hwz := hb.size
  by_cases hlt : i < cs.length
  ·obtain ⟨g,rfl,hg,hcs⟩ := H.out wr hb (by omega)
   obtain ⟨io,ic,xo,xc,n1,n2,n3,n4,n5,hN1,hN2⟩ := hcs i hlt
   obtain ⟨g2,rfl,hg2,hcs2⟩ := K.out wr hb (by omega)
   obtain ⟨jo,jc,yo,yc,m1,m2,m3,m4,m5,hM1,hM2⟩ := hcs2 i hlt
   obtain ⟨hl1,hl2⟩ := hn cs[i] (List.getElem_mem hlt)
   generalize cs[i] = c at *
   have A1 := Lib.hid (fun wx (hk : Below wr.heap.size wr wx) => malike_any io ic jo jc c.cond hl1 wx (nds_below hN1 hk) (nds_below hM1 hk))
   have A2 := Lib.hid (fun wx (hk : Below wr.heap.size wr wx) => malike_any xo xc yo yc c.x hl2 wx (nds_below hN2 hk) (nds_below hM2 hk))
   have i1 : InW g wr := ⟨hg⟩
   have i2 : InW g2 wr := ⟨hg2⟩
   have hI : (i : Int) < (cs.length : Int) := by omega
   clear hcs hcs2 hN1 hN2 hM1 hM2
   go_wp2_with fail
   (refine wp_region_G (by kernel_rfl) (by kernel_rfl) ?_;(try simp only [List.append_eq,List.cons_append,List.nil_append]);(repeat (go_big_quiet_step (first | (with_reducible exact quietG (A1.out _ (by (first | exact gwT | exact lzT)))) | (with_reducible exact quietG (A2.out _ (by (first | exact gwT | exact lzT)))))));refine wpQuiet_nil ?_;intro _ hw';obtain ⟨pg,hw''⟩ := hw';subst hw'')
   go_wp2
   go_roundw
   case rel => exact ⟨i + 1,by go_num,by omega,by (first | exact gwT | exact lzT)⟩
   case measure => simp [intOf];omega
  ·have hI : ¬ (i : Int) < (cs.length : Int) := by omega
   go_wp2
   go_returns
   exact ⟨rfl,hb⟩
set_option maxRecDepth 100000 in
set_option maxHeartbeats 4000000 in
theorem mblocks_same {τ υ : CT} {B1 B2 : Nat} (ao : Option Addr) (cap : Nat) (bo : Option Addr) (bap : Nat) (bs : List (List Ac)) (hl : bs.length ≤ 1000) (hs : ∀ b ∈ bs,SmallB b) (w : World) (h : BlkRow τ B1 w (.slice ao bs.length cap) bs) (k : BlkRow υ B2 w (.slice bo bs.length bap) bs) :
  Calls Tryz.prog 99 #[.slice ao bs.length cap,.slice bo bs.length bap] w (Ret (.bool true) w) := by
 have H := Lib.hid (fun wx (hb : Below w.heap.size w wx) => blkRow_tp (w' := wx) (fx_below hb) h fun _ _ k => owns_below k hb)
 have K := Lib.hid (fun wx (hb : Below w.heap.size w wx) => blkRow_tp (w' := wx) (fx_below hb) k fun _ _ k => owns_below k hb)
 clear h k
 go_enter Tryz.func99,Tryz.ntmps99
 go_wp2
 go_loopw [13] (fun x wr => ∃ (i : Nat),x = .int .i64 (i : Int) ∧ i ≤ bs.length ∧ Below w.heap.size w wr) (fun x _ => bs.length - (intOf x).toNat)
 case atStart => exact ⟨0,rfl,Nat.zero_le _,by (first | exact gwT | exact lzT)⟩
 case round =>
  obtain ⟨i,rfl,hi,hb⟩ := hrel
  rename World => wr
  have hwz := hb.size
  by_cases hlt : i < bs.length
  ·obtain ⟨g,xo,xc,rfl,hg,n1,hA⟩ := blk_at (H.out wr hb) i hlt
   obtain ⟨g2,yo,yc,rfl,hg2,m1,hA2⟩ := blk_at (K.out wr hb) i hlt
   obtain ⟨b1,b2⟩ := big_smallB (hs bs[i] (List.getElem_mem hlt))
   generalize bs[i] = c at *
   have A1 := Lib.hid (fun wx (hk : Below wr.heap.size wr wx) => macts_same xo xc yo yc c b1 b2 wx (acts_below (acRow_at hA) hk) (acts_below (acRow_at hA2) hk))
   have i1 : InW g wr := ⟨hg⟩
   have i2 : InW g2 wr := ⟨hg2⟩
   have hI : (i : Int) < (bs.length : Int) := by omega
   clear hA hA2 b1 b2
   go_wp2_with fail
   (refine wp_region_G (by kernel_rfl) (by kernel_rfl) ?_;(repeat (go_big_quiet_step ((with_reducible exact quietG (A1.out _ (by (first | exact gwT | exact lzT)))))));refine wpQuiet_nil ?_;intro _ hw';obtain ⟨pg,hw''⟩ := hw';subst hw'')
   go_wp2
   go_roundw
   case rel => exact ⟨i + 1,by go_num,by omega,by (first | exact gwT | exact lzT)⟩
   case measure => simp [intOf];omega
  ·have hI : ¬ (i : Int) < (bs.length : Int) := by omega
   go_wp2
   go_returns
   exact ⟨rfl,hb⟩
set_option maxRecDepth 100000 in
set_option maxHeartbeats 4000000 in
theorem mstate_same {τ υ : CT} {B1 B2 : Nat} (s : St) (eo xo to' fo yo uo : Option Addr) (ec xc tc fc yc uc : Nat) (he : s.enter.length ≤ 1000) (hx : s.exit.length ≤ 1000) (ht : s.trans.length ≤ 1000) (hs : SmallS s) (w : World)
  (h1 : BlkRow τ B1 w (.slice eo s.enter.length ec) s.enter) (h2 : BlkRow τ B1 w (.slice xo s.exit.length xc) s.exit) (h3 : TrRow τ B1 w (.slice to' s.trans.length tc) s.trans)
  (k1 : BlkRow υ B2 w (.slice fo s.enter.length fc) s.enter) (k2 : BlkRow υ B2 w (.slice yo s.exit.length yc) s.exit) (k3 : TrRow υ B2 w (.slice uo s.trans.length uc) s.trans) :
  Calls Tryz.prog 51 #[.agg #[str s.name,.int .i64 s.kind,.int .i64 s.parent,str s.start,.slice eo s.enter.length ec,.slice xo s.exit.length xc,.slice to' s.trans.length tc],.agg #[str s.name,.int .i64 s.kind,.int .i64 s.parent,str s.start,.slice fo s.enter.length fc,.slice yo s.exit.length yc,.slice uo s.trans.length uc]] w (Ret (.bool true) w) := by
 have E := Lib.hid (fun wx (hb : Below w.heap.size w wx) => mblocks_same eo ec fo fc s.enter he hs.enter wx (blkRow_tp (fx_below hb) h1 fun _ _ k => owns_below k hb) (blkRow_tp (fx_below hb) k1 fun _ _ k => owns_below k hb))
 have X := Lib.hid (fun wx (hb : Below w.heap.size w wx) => mblocks_same xo xc yo yc s.exit hx hs.exit wx (blkRow_tp (fx_below hb) h2 fun _ _ k => owns_below k hb) (blkRow_tp (fx_below hb) k2 fun _ _ k => owns_below k hb))
 have H := Lib.hid (fun wx (hb : Below w.heap.size w wx) => trRow_tp (w' := wx) (fx_below hb) h3 fun _ _ k => owns_below k hb)
 have K := Lib.hid (fun wx (hb : Below w.heap.size w wx) => trRow_tp (w' := wx) (fx_below hb) k3 fun _ _ k => owns_below k hb)
 have hsm := Lib.hid hs.trans
 clear h1 h2 h3 k1 k2 k3 hs
 obtain ⟨n1,n2,n3,n4,l1,l2,ts⟩ := s
 simp only at *
 go_enter Tryz.func51,Tryz.ntmps51
 go_wp2_with (first | ((with_reducible refine (E.out _ (by (first | exact gwT | exact lzT))).mono ?_);intro e w1 hr;obtain ⟨rfl,p,rfl⟩ := hr.out;clear hr) | ((with_reducible refine (X.out _ (by (first | exact gwT | exact lzT))).mono ?_);intro e w1 hr;obtain ⟨rfl,p,rfl⟩ := hr.out;clear hr))
 go_loopw [62] (fun x wr => ∃ (i : Nat),x = .int .i64 (i : Int) ∧ i ≤ ts.length ∧ Below w.heap.size w wr ∧ wr.cell? ⟨w.heap.size + 1,6,none⟩ = some (.slice uo ts.length uc) ∧ w.heap.size + 1 < wr.heap.size) (fun x _ => ts.length - (intOf x).toNat)
 case atStart => exact ⟨0,rfl,Nat.zero_le _,by (first | exact gwT | exact lzT),by simp [go_sem],by simp [go_sem]⟩
 case round =>
  obtain ⟨i,rfl,hi,hb,hc6,hlw⟩ := hrel
  rename World => wr
  have hwz := hb.size
  have i0 : InW (w.heap.size + 1) wr := ⟨hlw⟩
  by_cases hlt : i < ts.length
  ·obtain ⟨g,io,ic,go,gc,po,pc,rfl,hg,c1,c2,c3,c4,c5,hN,hG,hA⟩ := tr_at (H.out wr hb) i hlt
   obtain ⟨g2,jo,jc,ho,hc,qo,qc,rfl,hg2,d1,d2,d3,d4,d5,hN2,hG2,hA2⟩ := tr_at (K.out wr hb) i hlt
   obtain ⟨m1,m2,m3⟩ := hsm.out ts[i] (List.getElem_mem hlt)
   obtain ⟨b1,b2⟩ := big_smallB m3
   generalize ts[i] = t at *
   have A1 := Lib.hid (fun wx (hk : Below wr.heap.size wr wx) => malike_any io ic jo jc t.cond (by omega) wx (nds_below (ndsL_own hN) hk) (nds_below (ndsL_own hN2) hk))
   have A2 := Lib.hid (fun wx (hk : Below wr.heap.size wr wx) => mtexts_same go gc ho hc t.goes (by omega) wx (owns_below hG hk) (owns_below hG2 hk))
   have A3 := Lib.hid (fun wx (hk : Below wr.heap.size wr wx) => macts_same po pc qo qc t.thn b1 b2 wx (acts_below (acRow_at hA) hk) (acts_below (acRow_at hA2) hk))
   have i1 : InW g wr := ⟨hg⟩
   have i2 : InW g2 wr := ⟨hg2⟩
   have hI : (i : Int) < (ts.length : Int) := by omega
   clear hN hG hA hN2 hG2 hA2 m1 m2 m3 b1 b2
   go_wp2_with (first | ((with_reducible refine (A1.out _ (by (first | exact gwT | exact lzT))).mono ?_);intro e w1 hr;obtain ⟨rfl,p,rfl⟩ := hr.out;clear hr) | ((with_reducible refine (A2.out _ (by (first | exact gwT | exact lzT))).mono ?_);intro e w1 hr;obtain ⟨rfl,p,rfl⟩ := hr.out;clear hr) | ((with_reducible refine (A3.out _ (by (first | exact gwT | exact lzT))).mono ?_);intro e w1 hr;obtain ⟨rfl,p,rfl⟩ := hr.out;clear hr))
   go_roundw
   case rel => exact ⟨i + 1,by go_num,by omega,by (first | exact gwT | exact lzT),by simp [go_sem,hc6],by first | (simp [go_sem];done) | (simp [go_sem];omega)⟩
   case measure => simp [intOf];omega
  ·have hI : ¬ (i : Int) < (ts.length : Int) := by omega
   go_wp2
   go_returns
   exact ⟨rfl,hb⟩
set_option maxRecDepth 100000 in
set_option maxHeartbeats 4000000 in
theorem msame_any {τ υ : CT} {B1 B2 : Nat} (c : Ch) (rv sv' : Nat → Value) (vv sv ww tv : Value) (hvs : c.vars.length ≤ 16) (hss : c.states.length ≤ 49) (hlen : ∀ i,i < c.states.length → (c.states.getD i st0).enter.length ≤ 8 ∧ (c.states.getD i st0).exit.length ≤ 8 ∧ (c.states.getD i st0).trans.length ≤ 96) (hsm : SmallC c) (w : World)
  (h : ChV τ B1 w c rv vv sv) (k : ChV υ B2 w c sv' ww tv) : Calls Tryz.prog 14 #[.agg #[str c.name,vv,sv],.agg #[str c.name,ww,tv]] w (Ret (.bool true) w) := by
 obtain ⟨va,vc,sa,sc,rfl,rfl⟩ := chV_form h
 obtain ⟨wa,wc,ta,tc0,rfl,rfl⟩ := chV_form k
 have H := Lib.hid (fun wx (hb : Below w.heap.size w wx) => chV_keep h hb)
 have K := Lib.hid (fun wx (hb : Below w.heap.size w wx) => chV_keep k hb)
 have hlen' := Lib.hid hlen
 have hsm' := Lib.hid hsm
 clear h k hlen hsm
 go_enter Tryz.func14,Tryz.ntmps14
 go_wp2
 go_loopw [33] (fun x wr => ∃ (i : Nat),x = .int .i64 (i : Int) ∧ i ≤ c.vars.length ∧ Below w.heap.size w wr ∧ wr.cell? ⟨w.heap.size,1,none⟩ = some (.slice va c.vars.length vc) ∧ wr.cell? ⟨w.heap.size + 1,1,none⟩ = some (.slice wa c.vars.length wc) ∧ wr.cell? ⟨w.heap.size,2,none⟩ = some (.slice sa c.states.length sc) ∧ wr.cell? ⟨w.heap.size + 1,2,none⟩ = some (.slice ta c.states.length tc0) ∧ w.heap.size + 1 < wr.heap.size) (fun x _ => c.vars.length - (intOf x).toNat)
 case atStart => exact ⟨0,rfl,Nat.zero_le _,by (first | exact gwT | exact lzT),by simp [go_sem],by simp [go_sem],by simp [go_sem],by simp [go_sem],by simp [go_sem]⟩
 case round =>
  obtain ⟨i,rfl,hi,hb,k1,k2,k3,k4,hlw⟩ := hrel
  rename World => wr
  have hwz := hb.size
  have i0 : InW (w.heap.size + 1) wr := ⟨hlw⟩
  have i9 : InW w.heap.size wr := ⟨by omega⟩
  by_cases hlt : i < c.vars.length
  ·obtain ⟨g,rfl,hg,n1,n2,n3,n4⟩ := var_at (H.out wr hb) i hlt
   obtain ⟨g2,rfl,hg2,m1,m2,m3,m4⟩ := var_at (K.out wr hb) i hlt
   generalize c.vars[i] = v at *
   have i1 : InW g wr := ⟨hg⟩
   have i2 : InW g2 wr := ⟨hg2⟩
   have hI : (i : Int) < (c.vars.length : Int) := by omega
   go_wp2_with fail
   (refine wp_region_G (by kernel_rfl) (by kernel_rfl) ?_;(repeat (go_big_quiet_step (fail)));refine wpQuiet_nil ?_;intro _ hw';obtain ⟨pg,hw''⟩ := hw';subst hw'')
   go_wp2
   go_roundw
   case rel => exact ⟨i + 1,by go_num,by omega,by (first | exact gwT | exact lzT),by simp [go_sem,k1],by simp [go_sem,k2],by simp [go_sem,k3],by simp [go_sem,k4],by simp [go_sem]⟩
   case measure => simp [intOf];omega
  ·have hI : ¬ (i : Int) < (c.vars.length : Int) := by omega
   go_wp2
   go_loopw [51] (fun x wx => ∃ (i : Nat),x = .int .i64 (i : Int) ∧ i ≤ c.states.length ∧ Below w.heap.size w wx ∧ wx.cell? ⟨w.heap.size,2,none⟩ = some (.slice sa c.states.length sc) ∧ wx.cell? ⟨w.heap.size + 1,2,none⟩ = some (.slice ta c.states.length tc0) ∧ w.heap.size + 1 < wx.heap.size) (fun x _ => c.states.length - (intOf x).toNat)
   case atStart => exact ⟨0,rfl,Nat.zero_le _,hb,k3,k4,hlw⟩
   case round =>
    obtain ⟨i,rfl,hi,hb,k3,k4,hlw⟩ := hrel
    rename World => wx
    have hwz := hb.size
    have i0 : InW (w.heap.size + 1) wx := ⟨hlw⟩
    have i9 : InW w.heap.size wx := ⟨by omega⟩
    by_cases hlt : i < c.states.length
    ·obtain ⟨g,eo,ec,xo,xc,to',tc,rfl,hg,n1,n2,n3,n4,n5,n6,n7,hE,hX,hT⟩ := st_at (H.out wx hb) i hlt
     obtain ⟨g2,fo,fc,yo,yc,uo,uc,rfl,hg2,m1,m2,m3,m4,m5,m6,m7,hE2,hX2,hT2⟩ := st_at (K.out wx hb) i hlt
     obtain ⟨l1,l2,l3⟩ := hlen'.out i hlt
     have hs := hsm'.out _ (List.getElem_mem hlt)
     rw [getD_at hlt] at l1 l2 l3
     generalize c.states[i] = s at *
     have S := Lib.hid (fun wy (hk : Below wx.heap.size wx wy) => mstate_same s eo xo to' fo yo uo ec xc tc fc yc uc (by omega) (by omega) (by omega) hs wy (blkRow_tp (fx_below hk) hE fun _ _ k => owns_below k hk) (blkRow_tp (fx_below hk) hX fun _ _ k => owns_below k hk) (trRow_tp (fx_below hk) hT fun _ _ k => owns_below k hk) (blkRow_tp (fx_below hk) hE2 fun _ _ k => owns_below k hk) (blkRow_tp (fx_below hk) hX2 fun _ _ k => owns_below k hk) (trRow_tp (fx_below hk) hT2 fun _ _ k => owns_below k hk))
     have i1 : InW g wx := ⟨hg⟩
     have i2 : InW g2 wx := ⟨hg2⟩
     have hI : (i : Int) < (c.states.length : Int) := by omega
     clear hE hX hT hE2 hX2 hT2 l1 l2 l3 hs
     go_wp2_with fail
     (refine wp_region_G (by kernel_rfl) (by kernel_rfl) ?_;(repeat (go_big_quiet_step ((with_reducible exact quietG (S.out _ (by (first | exact gwT | exact lzT)))))));refine wpQuiet_nil ?_;intro _ hw';obtain ⟨pg,hw''⟩ := hw';subst hw'')
     go_wp2
     go_roundw
     case rel => exact ⟨i + 1,by go_num,by omega,by (first | exact gwT | exact lzT),by simp [go_sem,k3],by simp [go_sem,k4],by simp [go_sem]⟩
     case measure => simp [intOf];omega
    ·have hI : ¬ (i : Int) < (c.states.length : Int) := by omega
     go_wp2
     go_returns
     exact ⟨rfl,hb⟩
end Go.Proofs.YtpgibloeinphaaaGreatDoor
namespace Go.Proofs.YtpgibloeinphaaaGreatDoor
open Go.RowKit
def text8 : ByteArray := ⟨#[99,104,97,114,116,32,99,10,115,116,97,116,101,32,97,10,101,110,100]⟩
def ch8 : Ch := ⟨[99],[],[⟨[99],1,-1,[],[],[],[]⟩,⟨[97],3,0,[],[],[],[]⟩]⟩
theorem chart_8 : chartT text8.data.toList = .ok ch8 := by kernel_rfl
def P8Is (w : World) (e : Ending) (w' : World) : Prop := ∃ va vc g sc,e = .returned (.tuple #[.agg #[.string ⟨#[99]⟩,.slice va 0 vc,.slice (some ⟨g,0,none⟩) 2 sc],.int .i64 0,.int .i64 0]) ∧
 g < w'.heap.size ∧ w'.cell? ⟨g,7,none⟩ = some (.string ⟨#[97]⟩) ∧ w'.cell? ⟨g,9,none⟩ = some (.int .i64 0) ∧ Below w.heap.size w w'
theorem cparse_8 (w : World) (hw : Al w) : Calls Tryz.prog 10 #[.string text8] w (P8Is w) := by
 refine (cparse_any text8 (by decide) w hw).mono fun e w' hr => ?_
 rw [chart_8] at hr
 obtain ⟨rv,vv,sv,rfl,hV,hb⟩ := hr
 obtain ⟨va,vc,sa,sc,rfl,rfl⟩ := chV_form hV
 obtain ⟨g,eo,ec,xo,xc,to',tc,rfl,hg,n1,n2,n3,_⟩ := st_at hV 1 (by decide)
 exact ⟨va,vc,g,sc,rfl,hg,n1,n3,hb⟩
set_option maxRecDepth 100000 in
set_option maxHeartbeats 4000000 in
theorem anchor8_any (w : World) (hw : Al w) : Calls Tryz.prog 9 #[] w (Ret (.bool true) w) := by
 have P := Lib.hid (cparse_8 w hw)
 unfold text8 at P
 clear hw
 go_enter Tryz.func9,Tryz.ntmps9
 go_wp2_with fail
 refine P.out.mono ?_
 intro e w1 hr
 obtain ⟨va,vc,g,sc,rfl,hg,h1,h2,hb⟩ := hr
 clear P
 have i1 : InW g w1 := ⟨hg⟩
 have hz := hb.size
 go_wp2
 go_returns
 exact ⟨rfl,by (first | exact gwT | exact lzT)⟩
end Go.Proofs.YtpgibloeinphaaaGreatDoor
