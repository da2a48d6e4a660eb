/- Several texts of this proof, joined: E3, QA, QB, QC, SB1, SB2, SB3. -/
import Derived.Test.YtacnlghljmgdiaaGreatDoorZ1
import Derived.Test.YtacnlghljmgdiaaGreatDoorO1
import Derived.Test.YtacnlghljmgdiaaGreatDoorChecked
import Derived.WalkKit
import Derived.ProofKit
import Derived.OpenShut
import Derived.Handy
import Derived.BigQuiet
import Derived.OwnWalk
import Derived.Deep.RegionHeld3
import Derived.Deep.AppendLies
import Derived.Laws.OwnMore
import Derived.Lib.Hide
import Derived.WalkSmall
import Derived.WalkLawsBesides
namespace Go.Proofs.YtacnlghljmgdiaaGreatDoor
structure Tm where
 due:Int
 seq:Int
 name:ByteArray
end Go.Proofs.YtacnlghljmgdiaaGreatDoor
namespace Go.Proofs.YtacnlghljmgdiaaGreatDoor
open Go.RowKit
theorem Tryz.infoQs:(Tryz.prog.info? 9).map (fun i=>(i.zero,i.size,i.bytes)) = some (some (.string ⟨#[]⟩),1,16):=by kernel_rfl
def x1s (m:Nat) (cs:List Value) (w:World) (e:Ending) (w':World):Prop:=∃ ao cap,e = .returned (.slice ao m cap) ∧ w'.ownsRow w.heap.size 9 1 (.slice ao m cap) m cs ∧ Below w.heap.size w w'
set_option maxRecDepth 100000 in
theorem q1x (ao:Option Addr) (m c:Nat) (cs:List Value) (hm:m ≤ 400) (hl:cs.length = m * 1) (h1:∀ u ∈ cs,u.oneCell' = true) (w:World) (h:z2d w ao c cs) :
  Calls Tryz.prog 44 #[.slice ao m c] w (x1s m cs w):=by
 have he:=fun (ao:Option Addr) (n c:Nat) (wx:World)=>Lib.run_eql_slice_nil (P:=Tryz.prog) wx 38 9 ao n c 0 0 Tryz.underlying38
 cases ao with
 | none =>
  obtain ⟨rfl,rfl⟩:=h.1 rfl
  obtain rfl:m = 0:=by simp at hl;omega
  clear h h1
  go_enter Tryz.func44,Tryz.ntmps44
  go_wp2
  go_returns
  exact ⟨none,0,rfl,World.ownsRow_nil _ _ _ _,gzT⟩
 | some ad =>
  have H:=hiT (fun wx (hb:Below w.heap.size w wx)=>z0k h hb)
  have O:=hiT h1
  obtain ⟨j0,hj,hy1,hy2,hy3⟩:=info_parts Tryz.infoQs
  clear h h1
  go_enter Tryz.func44,Tryz.ntmps44
  go_wp2_with (at_builtin;refine z0u rfl _ _ 38 rfl w.heap.size 9 j0 _ 1 16 Tryz.underlying38 hj hy1 hy2 hy3 rfl deT (.slice (some ⟨w.heap.size,0,none⟩) 0 0) 0 [] rfl (z9y (Nat.le_refl _) (heap_alloc_new w _)) (some ad) m c cs rfl (H.out _ gzT) hl O.out (by unfold maxLen;omega) omT (by simp) ?_)
  intro v' w2 hown2 hgrow
  have hb2:Below w.heap.size w w2:=Below.grown gzT hgrow (by simp) (fun k hk=>by cases hk;simp)
  obtain ⟨oa2,oc2,rfl⟩:=z0g hown2
  replace hown2:=hiT hown2
  clear hgrow H O hj hy1 hy2 hy3
  go_wp2
  go_returns
  exact ⟨oa2,oc2,rfl,by simpa using hown2.out,hb2⟩
theorem Tryz.infoQt:(Tryz.prog.info? 68).map (fun i=>(i.zero,i.size,i.bytes)) = some (some (.agg #[.int .i64 0,.int .i64 0,.string ⟨#[]⟩]),3,32):=by kernel_rfl
def x1t (m:Nat) (cs:List Value) (w:World) (e:Ending) (w':World):Prop:=∃ ao cap,e = .returned (.slice ao m cap) ∧ w'.ownsRow w.heap.size 68 3 (.slice ao m cap) m cs ∧ Below w.heap.size w w'
set_option maxRecDepth 100000 in
theorem j9b (ao:Option Addr) (m c:Nat) (cs:List Value) (hm:m ≤ 400) (hl:cs.length = m * 3) (h1:∀ u ∈ cs,u.oneCell' = true) (w:World) (h:z2d w ao c cs) :
  Calls Tryz.prog 45 #[.slice ao m c] w (x1t m cs w):=by
 have he:=fun (ao:Option Addr) (n c:Nat) (wx:World)=>Lib.run_eql_slice_nil (P:=Tryz.prog) wx 39 68 ao n c 0 0 Tryz.underlying39
 cases ao with
 | none =>
  obtain ⟨rfl,rfl⟩:=h.1 rfl
  obtain rfl:m = 0:=by simp at hl;omega
  clear h h1
  go_enter Tryz.func45,Tryz.ntmps45
  go_wp2
  go_returns
  exact ⟨none,0,rfl,World.ownsRow_nil _ _ _ _,gzT⟩
 | some ad =>
  have H:=hiT (fun wx (hb:Below w.heap.size w wx)=>z0k h hb)
  have O:=hiT h1
  obtain ⟨j0,hj,hy1,hy2,hy3⟩:=info_parts Tryz.infoQt
  clear h h1
  go_enter Tryz.func45,Tryz.ntmps45
  go_wp2_with (at_builtin;refine z0u rfl _ _ 39 rfl w.heap.size 68 j0 _ 3 32 Tryz.underlying39 hj hy1 hy2 hy3 rfl deT (.slice (some ⟨w.heap.size,0,none⟩) 0 0) 0 [] rfl (z9y (Nat.le_refl _) (heap_alloc_new w _)) (some ad) m c cs rfl (H.out _ gzT) hl O.out (by unfold maxLen;omega) omT (by simp) ?_)
  intro v' w2 hown2 hgrow
  have hb2:Below w.heap.size w w2:=Below.grown gzT hgrow (by simp) (fun k hk=>by cases hk;simp)
  obtain ⟨oa2,oc2,rfl⟩:=z0g hown2
  replace hown2:=hiT hown2
  clear hgrow H O hj hy1 hy2 hy3
  go_wp2
  go_returns
  exact ⟨oa2,oc2,rfl,by simpa using hown2.out,hb2⟩
def tmC (t:Tm):List Value:=[.int .i64 t.due,.int .i64 t.seq,.string t.name]
theorem Tryz.infoQb:(Tryz.prog.info? 35).map (fun i=>(i.zero,i.size,i.bytes)) = some (some (.int .u64 0),1,8):=by kernel_rfl
def x1q (m:Nat) (cs:List Value) (w:World) (e:Ending) (w':World):Prop:=∃ ao cap,e = .returned (.slice ao m cap) ∧ w'.ownsRow w.heap.size 35 1 (.slice ao m cap) m cs ∧ Below w.heap.size w w'
set_option maxRecDepth 100000 in
theorem j8z (ao:Option Addr) (m c:Nat) (cs:List Value) (hm:m ≤ 400) (hl:cs.length = m * 1) (h1:∀ u ∈ cs,u.oneCell' = true) (w:World) (h:z2d w ao c cs) :
  Calls Tryz.prog 42 #[.slice ao m c] w (x1q m cs w):=by
 have he:=fun (ao:Option Addr) (n c:Nat) (wx:World)=>Lib.run_eql_slice_nil (P:=Tryz.prog) wx 36 35 ao n c 0 0 Tryz.underlying36
 cases ao with
 | none =>
  obtain ⟨rfl,rfl⟩:=h.1 rfl
  obtain rfl:m = 0:=by simp at hl;omega
  clear h h1
  go_enter Tryz.func42,Tryz.ntmps42
  go_wp2
  go_returns
  exact ⟨none,0,rfl,World.ownsRow_nil _ _ _ _,gzT⟩
 | some ad =>
  have H:=hiT (fun wx (hb:Below w.heap.size w wx)=>z0k h hb)
  have O:=hiT h1
  obtain ⟨j0,hj,hy1,hy2,hy3⟩:=info_parts Tryz.infoQb
  clear h h1
  go_enter Tryz.func42,Tryz.ntmps42
  go_wp2_with (at_builtin;refine z0u rfl _ _ 36 rfl w.heap.size 35 j0 _ 1 8 Tryz.underlying36 hj hy1 hy2 hy3 rfl deT (.slice (some ⟨w.heap.size,0,none⟩) 0 0) 0 [] rfl (z9y (Nat.le_refl _) (heap_alloc_new w _)) (some ad) m c cs rfl (H.out _ gzT) hl O.out (by unfold maxLen;omega) omT (by simp) ?_)
  intro v' w2 hown2 hgrow
  have hb2:Below w.heap.size w w2:=Below.grown gzT hgrow (by simp) (fun k hk=>by cases hk;simp)
  obtain ⟨oa2,oc2,rfl⟩:=z0g hown2
  replace hown2:=hiT hown2
  clear hgrow H O hj hy1 hy2 hy3
  go_wp2
  go_returns
  exact ⟨oa2,oc2,rfl,by simpa using hown2.out,hb2⟩
theorem Tryz.infoQv:(Tryz.prog.info? 66).map (fun i=>(i.zero,i.size,i.bytes)) = some (some (.agg #[.int .i64 0,.int .i64 0,.string ⟨#[]⟩]),3,32):=by kernel_rfl
def x1u (m:Nat) (cs:List Value) (w:World) (e:Ending) (w':World):Prop:=∃ ao cap,e = .returned (.slice ao m cap) ∧ w'.ownsRow w.heap.size 66 3 (.slice ao m cap) m cs ∧ Below w.heap.size w w'
set_option maxRecDepth 100000 in
theorem j9c (ao:Option Addr) (m c:Nat) (cs:List Value) (hm:m ≤ 400) (hl:cs.length = m * 3) (h1:∀ u ∈ cs,u.oneCell' = true) (w:World) (h:z2d w ao c cs) :
  Calls Tryz.prog 43 #[.slice ao m c] w (x1u m cs w):=by
 have he:=fun (ao:Option Addr) (n c:Nat) (wx:World)=>Lib.run_eql_slice_nil (P:=Tryz.prog) wx 37 66 ao n c 0 0 Tryz.underlying37
 cases ao with
 | none =>
  obtain ⟨rfl,rfl⟩:=h.1 rfl
  obtain rfl:m = 0:=by simp at hl;omega
  clear h h1
  go_enter Tryz.func43,Tryz.ntmps43
  go_wp2
  go_returns
  exact ⟨none,0,rfl,World.ownsRow_nil _ _ _ _,gzT⟩
 | some ad =>
  have H:=hiT (fun wx (hb:Below w.heap.size w wx)=>z0k h hb)
  have O:=hiT h1
  obtain ⟨j0,hj,hy1,hy2,hy3⟩:=info_parts Tryz.infoQv
  clear h h1
  go_enter Tryz.func43,Tryz.ntmps43
  go_wp2_with (at_builtin;refine z0u rfl _ _ 37 rfl w.heap.size 66 j0 _ 3 32 Tryz.underlying37 hj hy1 hy2 hy3 rfl deT (.slice (some ⟨w.heap.size,0,none⟩) 0 0) 0 [] rfl (z9y (Nat.le_refl _) (heap_alloc_new w _)) (some ad) m c cs rfl (H.out _ gzT) hl O.out (by unfold maxLen;omega) omT (by simp) ?_)
  intro v' w2 hown2 hgrow
  have hb2:Below w.heap.size w w2:=Below.grown gzT hgrow (by simp) (fun k hk=>by cases hk;simp)
  obtain ⟨oa2,oc2,rfl⟩:=z0g hown2
  replace hown2:=hiT hown2
  clear hgrow H O hj hy1 hy2 hy3
  go_wp2
  go_returns
  exact ⟨oa2,oc2,rfl,by simpa using hown2.out,hb2⟩
theorem Tryz.infoQi:(Tryz.prog.info? 3).map (fun i=>(i.zero,i.size,i.bytes)) = some (some (.int .i64 0),1,8):=by kernel_rfl
def x1r (m:Nat) (cs:List Value) (w:World) (e:Ending) (w':World):Prop:=∃ ao cap,e = .returned (.slice ao m cap) ∧ w'.ownsRow w.heap.size 3 1 (.slice ao m cap) m cs ∧ Below w.heap.size w w'
set_option maxRecDepth 100000 in
theorem j9a (ao:Option Addr) (m c:Nat) (cs:List Value) (hm:m ≤ 400) (hl:cs.length = m * 1) (h1:∀ u ∈ cs,u.oneCell' = true) (w:World) (h:z2d w ao c cs) :
  Calls Tryz.prog 46 #[.slice ao m c] w (x1r m cs w):=by
 have he:=fun (ao:Option Addr) (n c:Nat) (wx:World)=>Lib.run_eql_slice_nil (P:=Tryz.prog) wx 40 3 ao n c 0 0 Tryz.underlying40
 cases ao with
 | none =>
  obtain ⟨rfl,rfl⟩:=h.1 rfl
  obtain rfl:m = 0:=by simp at hl;omega
  clear h h1
  go_enter Tryz.func46,Tryz.ntmps46
  go_wp2
  go_returns
  exact ⟨none,0,rfl,World.ownsRow_nil _ _ _ _,gzT⟩
 | some ad =>
  have H:=hiT (fun wx (hb:Below w.heap.size w wx)=>z0k h hb)
  have O:=hiT h1
  obtain ⟨j0,hj,hy1,hy2,hy3⟩:=info_parts Tryz.infoQi
  clear h h1
  go_enter Tryz.func46,Tryz.ntmps46
  go_wp2_with (at_builtin;refine z0u rfl _ _ 40 rfl w.heap.size 3 j0 _ 1 8 Tryz.underlying40 hj hy1 hy2 hy3 rfl deT (.slice (some ⟨w.heap.size,0,none⟩) 0 0) 0 [] rfl (z9y (Nat.le_refl _) (heap_alloc_new w _)) (some ad) m c cs rfl (H.out _ gzT) hl O.out (by unfold maxLen;omega) omT (by simp) ?_)
  intro v' w2 hown2 hgrow
  have hb2:Below w.heap.size w w2:=Below.grown gzT hgrow (by simp) (fun k hk=>by cases hk;simp)
  obtain ⟨oa2,oc2,rfl⟩:=z0g hown2
  replace hown2:=hiT hown2
  clear hgrow H O hj hy1 hy2 hy3
  go_wp2
  go_returns
  exact ⟨oa2,oc2,rfl,by simpa using hown2.out,hb2⟩
end Go.Proofs.YtacnlghljmgdiaaGreatDoor
