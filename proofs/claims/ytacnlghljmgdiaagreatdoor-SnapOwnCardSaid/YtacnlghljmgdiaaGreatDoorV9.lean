/- Several texts of this proof, joined: VM, VO, VN. -/
import Derived.Test.YtacnlghljmgdiaaGreatDoorV8
import Derived.WalkKit
import Derived.ProofKit
import Derived.OpenShut
import Derived.Handy
import Derived.BigQuiet
import Derived.OwnWalk
import Derived.Deep.RegionHeld3
import Derived.Lib.Hide
import Derived.WalkSmall
import Derived.WalkLawsBesides
import Derived.Test.YtacnlghljmgdiaaGreatDoorV7
import Derived.Test.YtacnlghljmgdiaaGreatDoorV6
import Derived.RangeFuncNested
import Derived.RangeFuncBound
import Derived.RangeFuncCalls
import Derived.RangeFuncLeaves
import Derived.OwnWalkIn
import Derived.TacticsInMore
namespace Go.Proofs.YtacnlghljmgdiaaGreatDoor
open Go.RowKit Go.Sort
section
variable {l:Lk} {lb:Nat}
theorem j3j {p:Int}:∀ {ss:List St} {k j:Nat},j ∈ z3c p ss k → j < k + ss.length
 | [],_,_,h=>by cases h
 | s :: r,k,j,h=>by
  rw [z3c] at h
  rw [List.length_cons]
  split at h
  ·rcases List.mem_cons.1 h with rfl | h
   ·omega
   ·have:=j3j h;omega
  ·have:=j3j h;omega
theorem q4o {p:Regrown} {X:World} {o o':Obj} {B e s n:Nat} {v:Value} {xs:List Value} (h:(G p (X.alloc o)).ownsRow B e s v n xs) (hB:X.heap.size + 1 ≤ B):(G p (X.alloc o')).ownsRow B e s v n xs:=by
 refine ⟨h.1,?_⟩
 rcases h.2 with h0 | ⟨g,cap,cur,e1,e2,e3,e4⟩
 ·exact .inl h0
 ·refine .inr ⟨g,cap,cur,e1,e2,?_,e4⟩
  rw [← e3]
  unfold G grow redrawn World.alloc
  have hg:X.heap.size + 1 ≤ g:=Nat.le_trans hB e2
  simp only [Array.getElem?_append,Array.size_push]
  rw [if_neg omT,if_neg omT]
set_option maxRecDepth 100000 in
set_option maxHeartbeats 8000000 in
theorem k7g (P:LkP l) (i:Nat) (hi:i < l.c.states.length) (w:World) (H:q9y w lb l):Calls Tryz.prog 119 #[.pointer (some ⟨lb,0,none⟩),.int .i64 (i:Int)] w (Ret (.int .i64 (k7f l i)) w):=by
 have L:=hiT (fun wx (hb:Below w.heap.size w wx)=>z5r H hb)
 obtain ⟨B,rv,va,sa,oa,pa,vc,sc,oc,pc,H⟩:=H
 have K:=hiT (fun wx (hb:Below w.heap.size w wx)=>j5u sa sc (i:Int) (by have:=P.few;omega) wx (z1u H.ch hb))
 obtain ⟨hl,c0,c1,c2,c3,c4⟩:=z3r H
 obtain ⟨g,eo,ec,xo,xc,to',tc,rfl,hg,n1,n2,n3,n4,n5,n6,n7,_⟩:=z8h H.ch i hi
 rw [← q9c hi] at n1 n2 n3 n4 n5 n6 n7
 have hkl:=q3b (i:Int) l.c.states 0
 have hks:=hiT (fun k (hk:k ∈ z3c (i:Int) l.c.states 0)=>show k < l.c.states.length by have:=j3j hk;omega)
 have hfew:=P.few
 have i1:InW lb w:=⟨hl⟩
 have i2:InW g w:=⟨hg⟩
 have hI:(i:Int) < (l.c.states.length:Int):=by omega
 unfold k7f
 rw [show v1n l i = (if (stL l i).kind = 5 then (z3c (i:Int) l.c.states 0).length == 0 && (stL l i).trans.length == 0 else if (stL l i).kind = 4 then ((z3c (i:Int) l.c.states 0).any fun k => !z3o (stL l k)) && !((z3c (i:Int) l.c.states 0).any fun k => !y0i (stL l k)) else if (stL l i).kind = 3 then ((z3c (i:Int) l.c.states 0).any fun k => !z3o (stL l k)) || (z3c (i:Int) l.c.states 0).length == 0 else ((z3c (i:Int) l.c.states 0).any fun k => !z3o (stL l k))) from rfl]
 have U:=hiT (fun b wx=>z8n b 34 wx)
 generalize stL l i = s at *
 generalize z3c (i:Int) l.c.states 0 = ks at *
 have A1:=hiT (fun b ao cap wx (h:j5i wx ao ks) (hb:wx.cell? ⟨b,0,none⟩ = some (.pointer (some ⟨lb,0,none⟩))) (hw:Below w.heap.size w wx)=>j9m 151 (fun _ _=>rfl) (.pointer (some ⟨b,0,none⟩)) undef #[.pointer (some ⟨b,0,none⟩)] (.inl rfl) (fun k => !z3o (stL l k)) ao cap ks omT wx h fun k hk wy hy=>v8n k (hks.out k hk) b wy ((hy.cell (p:=⟨b,0,none⟩) (World.block_lt_of_cell? _ _ hb)).trans hb) (L.out wy (hw.trans (hy.mono hw.size))))
 have A2:=hiT (fun b ao cap wx (h:j5i wx ao ks) (hb:wx.cell? ⟨b,0,none⟩ = some (.pointer (some ⟨lb,0,none⟩))) (hw:Below w.heap.size w wx)=>j9m 152 (fun _ _=>rfl) (.pointer (some ⟨b,0,none⟩)) undef #[.pointer (some ⟨b,0,none⟩)] (.inl rfl) (fun k => !y0i (stL l k)) ao cap ks omT wx h fun k hk wy hy=>v8o k (hks.out k hk) b wy ((hy.cell (p:=⟨b,0,none⟩) (World.block_lt_of_cell? _ _ hb)).trans hb) (L.out wy (hw.trans (hy.mono hw.size))))
 generalize (ks.any fun k => !z3o (stL l k)) = q1 at *
 generalize (ks.any fun k => !y0i (stL l k)) = q2 at *
 have hmf:∀ (fn:Fn) (first cap:Array Value) (w:World),(Instr.makeFunc fn first cap).run Tryz.prog w = .ok (.func fn first cap) w:=fun _ _ _ _=>rfl
 have e0:((ks.length:Int) == 0) = (ks.length == 0):=by rw [Bool.eq_iff_iff];simp
 have e1:((s.trans.length:Int) == 0) = (s.trans.length == 0):=by rw [Bool.eq_iff_iff];simp
 generalize hA:(if s.kind = 5 then ks.length == 0 && s.trans.length == 0 else if s.kind = 4 then q1 && !q2 else if s.kind = 3 then q1 || ks.length == 0 else q1) = A
 rw [← e0,← e1] at hA
 obtain ⟨z0,hz0⟩:∃ z0,((ks.length:Int) == 0) = z0:=⟨_,rfl⟩
 obtain ⟨z1,hz1⟩:∃ z1,((s.trans.length:Int) == 0) = z1:=⟨_,rfl⟩
 rw [hz0,hz1] at hA
 clear e0 e1
 replace hA:=hiT hA
 clear H
 go_enter Tryz.func119,Tryz.ntmps119
 go_wp2
 go_upto_region 1 with (fail)
 go_cut [5,6] (fun x y wx=>∃ (sb:Nat) (ao:Option Addr) (cap:Nat),x = .pointer (some ⟨sb,0,none⟩) ∧ y = .slice ao ks.length cap ∧ wx.cell? ⟨sb,1,none⟩ = some (.int .i64 s.kind) ∧ wx.cell? ⟨sb,6,none⟩ = some (.slice to' s.trans.length tc) ∧ wx.cell? ⟨w.heap.size,0,none⟩ = some (.pointer (some ⟨lb,0,none⟩)) ∧ j5i wx ao ks ∧ Below w.heap.size w wx)
 case first =>
  clear A1 A2 L U
  go_region_held3 (fun w'=>w'.cell? ⟨w.heap.size,0,none⟩ = some (.pointer (some ⟨lb,0,none⟩)) ∧ w'.cell? ⟨lb,0,none⟩ = some (str l.c.name) ∧ w'.cell? ⟨lb,1,none⟩ = some (.slice va l.c.vars.length vc) ∧ w'.cell? ⟨lb,2,none⟩ = some (.slice (some ⟨g,0,none⟩) l.c.states.length sc) ∧ w'.cell? ⟨g,i * 7,none⟩ = some (str s.name) ∧ w'.cell? ⟨g,i * 7 + 1,none⟩ = some (.int .i64 s.kind) ∧ w'.cell? ⟨g,i * 7 + 2,none⟩ = some (.int .i64 s.parent) ∧ w'.cell? ⟨g,i * 7 + 3,none⟩ = some (str s.start) ∧ w'.cell? ⟨g,i * 7 + 4,none⟩ = some (.slice eo s.enter.length ec) ∧ w'.cell? ⟨g,i * 7 + 5,none⟩ = some (.slice xo s.exit.length xc) ∧ w'.cell? ⟨g,i * 7 + 6,none⟩ = some (.slice to' s.trans.length tc))
   ((refine ⟨?_,?_,?_,?_,?_,?_,?_,?_,?_,?_,?_⟩ <;> first | assumption | (rw [z1f];assumption) | (rw [z0p];assumption) | (simp [go_sem, *];done)))
   (first | ((with_reducible refine (K.out _ gzT).mono ?_);intro e w1 hr;obtain ⟨v,rfl,hO,hb1⟩:=hr;obtain ⟨ao,cap,rfl⟩:=z0g hO;obtain ⟨p1,rfl⟩:=toG hb1;clear hb1;(try simp only [z5j,World.size_drew] at hO)))
  all_goals
   go_wp2
   go_meet
  ·exact ⟨_,ao,cap,rfl,rfl,by simp [go_sem, *],by simp [go_sem, *],by simp [go_sem, *],q3j (j9z hO) gzT,gzT⟩
  ·exact ⟨_,ao,cap,rfl,rfl,by simp [go_sem, *],by simp [go_sem, *],by simp [go_sem, *],j9z (q4o hO (by simp)),gzT⟩
 case rest =>
  obtain ⟨sb,ao,cap,rfl,rfl,k1,k6,kb,hN,hb⟩:=hcut
  rename World=>wx
  have B1:=hiT (fun wy (hy:Below wx.heap.size wx wy)=>A1.out _ ao cap wy (q3j hN hy) ((hy.cell (p:=⟨w.heap.size,0,none⟩) (World.block_lt_of_cell? _ _ kb)).trans kb) (hb.trans (hy.mono hb.size)))
  have B2:=hiT (fun wy (hy:Below wx.heap.size wx wy)=>A2.out _ ao cap wy (q3j hN hy) ((hy.cell (p:=⟨w.heap.size,0,none⟩) (World.block_lt_of_cell? _ _ kb)).trans kb) (hb.trans (hy.mono hb.size)))
  have j1:InW sb wx:=⟨World.block_lt_of_cell? _ _ k1⟩
  have hwz:=hb.size
  clear A1 A2 hN K c0 c1 c2 c3 c4 n1 n2 n3 n4 n5 n6 n7
  have hA1:=hA.out
  clear hA
  by_cases h5:s.kind = 5
  ·rw [if_pos h5] at hA1
   subst hA1
   have f5:(s.kind == 5) = true:=by simpa using h5
   replace h5:=hiT h5
   cases z0
   all_goals
    go_wp2_with (first | ((with_reducible refine (B1.out _ gzT).mono ?_);intro e w1 hr;obtain ⟨rfl,p,rfl⟩:=hr.out;clear hr) | ((with_reducible refine (U.out _ _).mono ?_);intro e w1 hr;obtain ⟨rfl,p,rfl⟩:=hr.out;clear hr))
    go_returns
    exact ⟨rfl,hb.trans (Below.mono gzT hwz)⟩
  ·rw [if_neg h5] at hA1
   have f5:(s.kind == 5) = false:=beq_eq_false_iff_ne.2 h5
   replace h5:=hiT h5
   by_cases h4:s.kind = 4
   ·rw [if_pos h4] at hA1
    subst hA1
    have f4:(s.kind == 4) = true:=by simpa using h4
    replace h4:=hiT h4
    cases q1
    all_goals
     go_wp2_with (first | ((with_reducible refine (B1.out _ gzT).mono ?_);intro e w1 hr;obtain ⟨rfl,p,rfl⟩:=hr.out;clear hr) | ((with_reducible refine (B2.out _ gzT).mono ?_);intro e w1 hr;obtain ⟨rfl,p,rfl⟩:=hr.out;clear hr) | ((with_reducible refine (U.out _ _).mono ?_);intro e w1 hr;obtain ⟨rfl,p,rfl⟩:=hr.out;clear hr))
     go_returns
     exact ⟨rfl,hb.trans (Below.mono gzT hwz)⟩
   ·rw [if_neg h4] at hA1
    have f4:(s.kind == 4) = false:=beq_eq_false_iff_ne.2 h4
    replace h4:=hiT h4
    by_cases h3:s.kind = 3
    ·rw [if_pos h3] at hA1
     subst hA1
     have f3:(s.kind == 3) = true:=by simpa using h3
     replace h3:=hiT h3
     cases q1
     all_goals
      go_wp2_with (first | ((with_reducible refine (B1.out _ gzT).mono ?_);intro e w1 hr;obtain ⟨rfl,p,rfl⟩:=hr.out;clear hr) | ((with_reducible refine (U.out _ _).mono ?_);intro e w1 hr;obtain ⟨rfl,p,rfl⟩:=hr.out;clear hr))
      go_returns
      exact ⟨rfl,hb.trans (Below.mono gzT hwz)⟩
    ·rw [if_neg h3] at hA1
     subst hA1
     have f3:(s.kind == 3) = false:=beq_eq_false_iff_ne.2 h3
     replace h3:=hiT h3
     go_wp2_with (first | ((with_reducible refine (B1.out _ gzT).mono ?_);intro e w1 hr;obtain ⟨rfl,p,rfl⟩:=hr.out;clear hr) | ((with_reducible refine (U.out _ _).mono ?_);intro e w1 hr;obtain ⟨rfl,p,rfl⟩:=hr.out;clear hr))
     go_returns
     exact ⟨rfl,hb.trans (Below.mono gzT hwz)⟩
end
end Go.Proofs.YtacnlghljmgdiaaGreatDoor
namespace Go.Proofs.YtacnlghljmgdiaaGreatDoor
open Go.RowKit
section
variable {l:Lk} {lb:Nat}
set_option maxRecDepth 100000 in
set_option maxHeartbeats 8000000 in
theorem k5s (P:LkP l) (i:Nat) (hi:i < l.c.states.length) (w:World) (H:q9y w lb l):Calls Tryz.prog 121 #[.pointer (some ⟨lb,0,none⟩),.int .i64 (i:Int)] w (Ret (.int .i64 (k5r l i)) w):=by
 have L:=hiT (fun wx (hb:Below w.heap.size w wx)=>z5r H hb)
 obtain ⟨B,rv,va,sa,oa,pa,vc,sc,oc,pc,H⟩:=H
 obtain ⟨hl,c0,c1,c2,c3,c4⟩:=z3r H
 obtain ⟨g,eo,ec,xo,xc,to',tc,rfl,hg,_,_,_,_,n5,n6,_,hE,hX,_⟩:=z8h H.ch i hi
 have hfit:=P.fit i hi
 have hlen:=P.lens i hi
 unfold k5r stL
 rw [show l.c.states.getD i st0 = l.c.states[i] by simp [List.getD,hi]] at hfit hlen ⊢
 have hfb:Hid (∀ b ∈ l.c.states[i].enter ++ l.c.states[i].exit,v7b b):=hiT fun b hb=>by
  rcases List.mem_append.1 hb with hb | hb
  ·exact hfit.enter b hb
  ·exact hfit.exit b hb
 have CC:=hiT (fun g1 cap wx (hb:Below w.heap.size w wx) (hg1:g1 < wx.heap.size) (hk0:wx.cell? ⟨g1,0,none⟩ = some (.slice eo l.c.states[i].enter.length ec)) (hk1:wx.cell? ⟨g1,1,none⟩ = some (.slice xo l.c.states[i].exit.length xc))=>y4j g1 cap eo xo ec xc l.c.states[i].enter l.c.states[i].exit hlen.1 hlen.2.1 wx hg1 hk0 hk1 (z1c (z1q hb) hE fun _ _ h=>z0a h hb) (z1c (z1q hb) hX fun _ _ h=>z0a h hb))
 have hF':Hid (z3e (q4f l) ((l.c.states[i].enter ++ l.c.states[i].exit).drop 0) = z3e (q4f l) (l.c.states[i].enter ++ l.c.states[i].exit)):=hiT (by rw [List.drop_zero])
 have hbl:(l.c.states[i].enter ++ l.c.states[i].exit).length ≤ 1000:=by rw [List.length_append];omega
 generalize z3e (q4f l) (l.c.states[i].enter ++ l.c.states[i].exit) = F at *
 generalize (l.c.states[i].enter ++ l.c.states[i].exit) = bs at *
 have i1:InW lb w:=⟨hl⟩
 have i2:InW g w:=⟨hg⟩
 have hI:(i:Int) < (l.c.states.length:Int):=by omega
 generalize l.c.states[i] = s at *
 clear hE hX hfit hlen H
 go_enter Tryz.func121,Tryz.ntmps121
 go_wp2
 go_region_held3 (fun w'=>w'.cell? ⟨lb,2,none⟩ = some (.slice (some ⟨g,0,none⟩) l.c.states.length sc) ∧ w'.cell? ⟨g,i * 7 + 4,none⟩ = some (.slice eo s.enter.length ec) ∧ w'.cell? ⟨g,i * 7 + 5,none⟩ = some (.slice xo s.exit.length xc)) ((refine ⟨?_,?_,?_⟩ <;> first | assumption | (rw [z1f];assumption) | (rw [z0p];assumption) | (simp [go_sem, *];done)))
  (first | ((with_reducible refine (CC.out _ _ _ gzT (by simp [go_sem]) (by simp [go_sem]) (by simp [go_sem])).mono ?_);intro e w1 hr;obtain ⟨ao,cap,rfl,hR,hb1⟩:=hr;obtain ⟨p1,rfl⟩:=toG hb1;clear hb1))
 (try simp only [z5j] at hR)
 clear CC c0 c1 c2 c3 c4 n5 n6
 go_wp2
 go_loopw [29] (fun x wr=>∃ (k:Nat),x = .int .i64 (k:Int) ∧ k ≤ bs.length ∧ Hid (z3e (q4f l) (bs.drop k) = F) ∧ z2i ct0 0 wr (.slice ao bs.length cap) bs ∧ Below w.heap.size w wr) (fun x _=>bs.length - (intOf x).toNat)
 case atStart=>exact ⟨0,rfl,Nat.zero_le _,hF',by first | exact hR | (rw [← G_G];exact hR),gzT⟩
 case round =>
  obtain ⟨k,rfl,hk,hF,hR,hb⟩:=hrel
  rename World=>wr
  have hwz:=hb.size
  have j0:InW lb wr:=⟨by omega⟩
  have RR:=hiT (fun wx (hx:Below wr.heap.size wr wx)=>z1c (z1q hx) hR fun _ _ h=>z0a h hx)
  by_cases hlt:k < bs.length
  ·have hK:(k:Int) < (bs.length:Int):=by omega
   obtain ⟨g2,yo,yc,rfl,hg2,n1,hA⟩:=v1g hR k hlt
   have hfk:=hfb.out bs[k] (List.getElem_mem hlt)
   have hm:=q0t (f:=q4f l) hlt
   have E:=hiT (fun wx (hx:Below wr.heap.size wr wx)=>y1y P yo yc bs[k] hfk wx (z6f (q5y hA) hx) (L.out wx (hb.trans (hx.mono hwz))))
   have j1:InW g2 wr:=⟨hg2⟩
   clear hA hR hfk
   generalize bs[k] = b at *
   rw [hF.out] at hm
   generalize q4f l b = e at *
   by_cases h0:e = 0
   ·rw [q2i h0] at hm
    obtain ⟨z0,z1⟩:=q7n h0
    replace h0:=hiT h0
    have hm':=hiT hm.symm
    clear hm hF
    go_wp2_with ((with_reducible refine (E.out _ gzT).mono ?_);intro e w1 hr;obtain ⟨rfl,p,rfl⟩:=hr.out;clear hr)
    go_roundw
    case rel=>exact ⟨k + 1,by go_num,by omega,hm',RR.out _ gzT,gzT⟩
    case measure=>simp [intOf];omega
   ·rw [q2j h0] at hm
    obtain ⟨z0,z1⟩:=q8b h0
    replace h0:=hiT h0
    subst hm
    clear hF
    go_wp2_with ((with_reducible refine (E.out _ gzT).mono ?_);intro e w1 hr;obtain ⟨rfl,p,rfl⟩:=hr.out;clear hr)
    go_returns
    exact ⟨rfl,gzT⟩
  ·have hK:¬ (k:Int) < (bs.length:Int):=by omega
   have hm:=q7o (f:=q4f l) (show bs.length ≤ k by omega)
   rw [hF.out] at hm
   subst hm
   clear hF hR
   go_wp2
   go_returns
   exact ⟨rfl,gzT⟩
end
attribute [local go_sem] Oper.semAt_some
def x0w (ss:List St):Option Nat → Bool
 | none=>false
 | some i=>(ss.getD i st0).kind == 4
theorem k5v (ss:List St) (a b:Nat):q2u ss a b = if a = b then false else if q4b ss (a:Int) (b:Int) then false else if q4b ss (b:Int) (a:Int) then false else x0w ss (q5t ss (a:Int) (b:Int) ss.length):=by
 unfold q2u
 cases q5t ss (a:Int) (b:Int) ss.length <;> rfl
section
variable {l:Lk} {lb:Nat}
theorem k5y (sa:Option Addr) (n sc:Nat) (w:World):Calls Tryz.prog 227 #[.slice sa n sc] w (fun e w'=>∃ b,e = .returned (.func (.func 247) #[] #[.pointer (some ⟨b,0,none⟩)]) ∧ z1x w' b (.slice sa n sc) 70 ∧ w.heap.size ≤ b ∧ Below w.heap.size w w'):=by
 have hmf:∀ (fn:Fn) (first cap:Array Value) (w:World),(Instr.makeFunc fn first cap).run Tryz.prog w = .ok (.func fn first cap) w:=fun _ _ _ _=>rfl
 go_enter Tryz.func227,Tryz.ntmps227
 go_wp2
 go_returns
 exact ⟨w.heap.size,rfl,heap_alloc_new w _,Nat.le_refl _,gzT⟩
set_option maxRecDepth 100000 in
set_option maxHeartbeats 8000000 in
theorem y8y (P:LkP l) (a b:Nat) (ha:a < l.c.states.length) (hb:b < l.c.states.length) (w:World) (H:q9y w lb l):Calls Tryz.prog 212 #[.pointer (some ⟨lb,0,none⟩),.int .i64 (a:Int),.int .i64 (b:Int)] w (Ret (.bool (q2u l.c.states a b)) w):=by
 obtain ⟨B,rv,va,sa,oa,pa,vc,sc,oc,pc,H⟩:=H
 have W1:=hiT (fun o wx (hw:Below w.heap.size w wx)=>q0s sa sc a o (by have:=P.few;omega) P.par ha wx (z1u H.ch hw))
 have W2:=hiT (fun o wx (hw:Below w.heap.size w wx)=>q0s sa sc b o (by have:=P.few;omega) P.par hb wx (z1u H.ch hw))
 obtain ⟨hl,c0,c1,c2,c3,c4⟩:=z3r H
 have i1:InW lb w:=⟨hl⟩
 rw [k5v,q9u ha,q9u hb]
 have e0:((a:Int) == (b:Int)) = decide (a = b):=by rw [Bool.eq_iff_iff];simp;omega
 refine (callsIn_wide (n:=9)).1 ?_
 refine callsIn_of_wp_marks Tryz.func212 rfl trivial ?_ rfl
 simp only [Tryz.ntmps212,List.size_toArray,List.length_cons,List.length_nil,Nat.reduceAdd,Nat.reduceSub,Array.replicate_succ,Array.replicate_zero,List.push_toArray,List.append_toArray,List.nil_append,List.cons_append]
 refine wpIn_wide.2 ?_
 by_cases hab:a = b
 ·rw [if_pos hab]
  have e1:((a:Int) == (b:Int)) = true:=by rw [e0];simpa using hab
  replace hab:=hiT hab
  clear e0 W1 W2
  go_wp2
  (refine z0d krT krT ?_;(repeat (go_big_quiet_step (fail)));refine wpQuiet_nil ?_;intro _ hw';obtain ⟨pg,hw''⟩:=hw';subst hw'')
  go_wp2
  refine ⟨.bool false,by simp [results,Tryz.f212,go_sem],rfl,gzT⟩
 ·rw [if_neg hab]
  have e1:((a:Int) == (b:Int)) = false:=by rw [e0];simpa using hab
  replace hab:=hiT hab
  clear e0
  cases hw1:j5b l.c.states (b:Int) l.c.states.length (a:Int) with
  | true =>
   have A1:=W1.out (b:Int)
   rw [hw1] at A1
   replace A1:=hiT A1
   rw [if_pos rfl]
   clear W1 W2 hw1
   go_wp2
   (refine z0d krT krT ?_;(repeat (go_big_quiet_step (exact z1i (A1.out _ gzT))));refine wpQuiet_nil ?_;intro _ hw';obtain ⟨pg,hw''⟩:=hw';subst hw'')
   go_wp2
   refine ⟨.bool false,by simp [results,Tryz.f212,go_sem],rfl,gzT⟩
  | false =>
   have A1:=W1.out (b:Int)
   rw [hw1] at A1
   replace A1:=hiT A1
   rw [if_neg Bool.false_ne_true]
   cases hw2:j5b l.c.states (a:Int) l.c.states.length (b:Int) with
   | true =>
    have A2:=W2.out (a:Int)
    rw [hw2] at A2
    replace A2:=hiT A2
    rw [if_pos rfl]
    clear W1 W2 hw1 hw2
    go_wp2
    (refine z0d krT krT ?_;(repeat (go_big_quiet_step (first | (with_reducible exact z1i (A1.out _ gzT)) | (with_reducible exact z1i (A2.out _ gzT)))));refine wpQuiet_nil ?_;intro _ hw';obtain ⟨pg,hw''⟩:=hw';subst hw'')
    go_wp2
    refine ⟨.bool false,by simp [results,Tryz.f212,go_sem],rfl,gzT⟩
   | false =>
    have A2:=W2.out (a:Int)
    rw [hw2] at A2
    replace A2:=hiT A2
    rw [if_neg Bool.false_ne_true]
    have Bk:=hiT (fun wx=>k5y sa l.c.states.length sc wx)
    generalize hans:x0w l.c.states (q5t l.c.states (a:Int) (b:Int) l.c.states.length) = ans
    replace hans:=hiT hans
    clear hw1 hw2
    go_wp2
    (refine z0d krT krT ?_;(repeat (go_big_quiet_step (first | (with_reducible exact z1i (A1.out _ gzT)) | (with_reducible exact z1i (A2.out _ gzT)))));refine wpQuiet_nil ?_;intro _ hw';obtain ⟨pg,hw''⟩:=hw';subst hw'')
    obtain ⟨W0,hW0⟩:∃ W0,((((w.alloc (.cells #[.pointer (some ⟨lb,0,none⟩)] 230)).alloc (.cells #[.int .i64 (a:Int)] 3)).alloc (.cells #[.int .i64 (b:Int)] 3)).alloc (.cells #[.bool false] 4)) = W0:=⟨_,rfl⟩
    rw [hW0]
    have q0:z1x W0 w.heap.size (.pointer (some ⟨lb,0,none⟩)) 230:=by rw [← hW0];exact z0j (z0j (z0j (heap_alloc_new w _)))
    have qa:z1x W0 (w.heap.size + 1) (.int .i64 (a:Int)) 3:=by rw [← hW0];exact z0j (z0j (z0s (by simp)))
    have qb:z1x W0 (w.heap.size + 1 + 1) (.int .i64 (b:Int)) 3:=by rw [← hW0];exact z0j (z0s (by simp))
    have qr:z1x W0 (w.heap.size + 1 + 1 + 1) (.bool false) 4:=by rw [← hW0];exact z0s (by simp)
    have hz0:W0.heap.size = w.heap.size + 1 + 1 + 1 + 1:=by rw [← hW0];simp
    have hb0:Below w.heap.size w W0:=by rw [← hW0];exact gzT
    have iL:InW lb W0:=⟨by omega⟩
    have c2':=(hb0.cell (p:=⟨lb,2,none⟩) hl).trans c2
    obtain ⟨z0,y0,x0⟩:=z0r q0
    have c0':=(hb0.cell (p:=⟨lb,0,none⟩) hl).trans c0
    have c1':=(hb0.cell (p:=⟨lb,1,none⟩) hl).trans c1
    clear hW0 c0 c1 c3 c4
    generalize hx3:w.heap.size + 1 + 1 + 1 = x3 at *
    generalize hx2:w.heap.size + 1 + 1 = x2 at *
    generalize hx1:w.heap.size + 1 = x1 at *
    have j0:InW w.heap.size W0:=⟨by omega⟩
    go_wp2_with fail
    refine (Bk.out _).mono ?_
    rintro e W ⟨bb,rfl,hcb,hbb,hW⟩
    have hbW:Below W0.heap.size W0 W:=(z1e pg W0).trans (hW.mono (z1e pg W0).size)
    have hb1:Below w.heap.size w W:=hb0.trans (hbW.mono omT)
    have hzW:=hbW.size
    dsimp only
    go_wp2
    refine (wpIn_wide (n:=9)).1 ?_
    refine y6p (n:=9) (b:=bb) (sa:=sa) (sc:=sc) (c:=l.c) (B:=B) (rv:=rv) (vv := .slice va l.c.vars.length vc) deT (by have:=P.few;omega) rfl rfl
     (fun j W'=>q5t l.c.states (a:Int) (b:Int) l.c.states.length = q5t l.c.states (a:Int) (b:Int) j ∧ Below W.heap.size W W' ∧ W.heap.size + 2 ≤ W'.heap.size)
     (fun j W'=>q5t l.c.states (a:Int) (b:Int) l.c.states.length = some j ∧ z1x W' x3 (.bool ((l.c.states.getD j st0).kind == 4)) 4 ∧ W.grownBy W' (some x3))
     ?sJ ?sI ?sIx ?s0 ?sIa (fun j v sb=>{ tmps:=#[.pointer (some ⟨lb,0,none⟩),.int .i64 (a:Int),.int .i64 (b:Int),.pointer (some ⟨w.heap.size,0,none⟩),.pointer (some ⟨x1,0,none⟩),.pointer (some ⟨x2,0,none⟩),.pointer (some ⟨x3,0,none⟩),.int .i64 (j:Int),.pointer (some ⟨sb,0,none⟩),.int .i64 (a:Int),.int .i64 (b:Int),.bool false,.bool false,.pointer (some ⟨lb,0,none⟩),.pointer (some ⟨lb,0,none⟩),.pointer (some ⟨lb,0,none⟩),.agg #[str l.c.name,.slice va l.c.vars.length vc,.slice sa l.c.states.length sc],.int .i64 (a:Int),.int .i64 (b:Int),.bool false,.bool false,.bool false,.pointer (some ⟨lb,0,none⟩),.pointer (some ⟨lb,0,none⟩),.pointer (some ⟨lb,0,none⟩),.agg #[str l.c.name,.slice va l.c.vars.length vc,.slice sa l.c.states.length sc],.int .i64 (b:Int),.int .i64 (a:Int),.bool false,.bool false,.pointer (some ⟨lb,0,none⟩),.pointer (some ⟨lb,0,none⟩),.pointer (some ⟨lb,0,none⟩),.pointer (some ⟨lb,2,none⟩),.slice sa l.c.states.length sc,.func (.func 247) #[] #[.pointer (some ⟨bb,0,none⟩)],.int .i64 (j:Int),v,undef,undef,undef,undef,undef,undef,undef,undef,undef,undef,undef,undef,undef,undef,undef,undef,undef,undef,undef],defers:=[] }) ?assign ?body ?done ?stop
    case sJ=>exact fun j W' h=>⟨z1u H.ch (hb1.trans (h.2.1.mono hb1.size)),z1s hcb h.2.1⟩
    case sI =>
     rintro p V V' j ⟨g1,g2,g3⟩ hg hj
     exact ⟨g1,g2.grown hg g2.size fun k e=>by cases e;omega,Nat.le_trans g3 hg.size⟩
    case sIx =>
     rintro p V V' j ⟨g1,g2,g3⟩ hg hj
     refine ⟨g1,z4q g2 hg omT,⟨hg.os.trans g3.os,hg.tape.trans g3.tape,hg.output.trans g3.output,Nat.le_trans g3.size hg.size,fun k hk hne=>(hg.block k (Nat.lt_of_lt_of_le hk g3.size) (by simp;omega)).trans (g3.block k hk hne)⟩⟩
    case s0=>exact fun o o'=>⟨rfl,gzT,by simp⟩
    case sIa =>
     rintro p V o ⟨g1,g2,g3⟩
     exact ⟨g1,g2.alloc g2.size _,by simp;omega⟩
    case assign =>
     intro l0 j hj eo xo to' ec xc tc V1 K hK
     gi_wp2
     exact hK
    case body =>
     rintro l0 j hj eo xo to' ec xc tc sb V1 ⟨g1,g2,g3⟩ hsb
     have hV:=hbW.trans (g2.mono hbW.size)
     obtain ⟨z0,_,y0⟩:=z0r (z1s q0 hV)
     obtain ⟨za,_,ya⟩:=z0r (z1s qa hV)
     obtain ⟨zb,_,yb⟩:=z0r (z1s qb hV)
     obtain ⟨zr,fr,yr⟩:=z0r (z1s qr hV)
     have d0:=(hV.cell (p:=⟨lb,0,none⟩) iL.lt).trans c0'
     have d1:=(hV.cell (p:=⟨lb,1,none⟩) iL.lt).trans c1'
     have d2:=(hV.cell (p:=⟨lb,2,none⟩) iL.lt).trans c2'
     have m1:=(cell_of_row V1 sb 1 _ _ _ hsb).trans rfl
     have hw:=hb1.trans (g2.mono hb1.size)
     have A:=hiT (fun wx (hx:Below V1.heap.size V1 wx)=>W1.out (j:Int) wx (hw.trans (hx.mono hw.size)))
     have D:=hiT (fun wx (hx:Below V1.heap.size V1 wx)=>W2.out (j:Int) wx (hw.trans (hx.mono hw.size)))
     have hlast:q5t l.c.states (a:Int) (b:Int) (j + 1) = if j5b l.c.states (j:Int) l.c.states.length (a:Int) && j5b l.c.states (j:Int) l.c.states.length (b:Int) then some j else q5t l.c.states (a:Int) (b:Int) j:=by rw [q5t,q9u ha,q9u hb]
     rw [hlast] at g1
     have iV:InW lb V1:=⟨by have:=hw.size;omega⟩
     have iS:InW sb V1:=⟨lt_of_block hsb⟩
     have i0:InW w.heap.size V1:=⟨y0⟩
     have ia:InW x1 V1:=⟨ya⟩
     have ib:InW x2 V1:=⟨yb⟩
     have iH:∀ p:Regrown,∀ k,k = W.heap.size ∨ k = W.heap.size + 1 → (G p V1).heap[k]? = V1.heap[k]?:=fun p k hk=>(z1e p V1).block k omT
     generalize j5b l.c.states (j:Int) l.c.states.length (a:Int) = v1 at *
     generalize j5b l.c.states (j:Int) l.c.states.length (b:Int) = v2 at *
     cases v1 with
     | false =>
      rw [Bool.false_and,if_neg Bool.false_ne_true] at g1
      replace g1:=hiT g1
      gi_wp2
      refine z7u krT krT krT ?_
      repeat (refine wpQuietIn_step (fun _ _ _ _=>trivial) (fun K hK=>?_);go_simp;first | (refine hK _ ?_;clear hK K) | (apply Exists.intro;refine ⟨fun _=>?_,hK _ ?_⟩;first | (with_reducible exact callsIn_wide.2 (z1i (A.out _ gzT))) | (with_reducible exact callsIn_wide.2 (z1i (D.out _ gzT)));clear hK K))
      refine wpQuietIn_nil ?_
      intro _ hw'
      obtain ⟨pg,hw''⟩:=hw'
      subst hw''
      gi_wp2
      exact ⟨fun k hk=>iH pg k hk,g1.out,g2.trans ((z1e pg V1).mono g2.size),Nat.le_trans g3 (z1e pg V1).size⟩
     | true =>
      cases v2 with
      | false =>
       rw [Bool.true_and,if_neg Bool.false_ne_true] at g1
       replace g1:=hiT g1
       gi_wp2
       refine z7u krT krT krT ?_
       repeat (refine wpQuietIn_step (fun _ _ _ _=>trivial) (fun K hK=>?_);go_simp;first | (refine hK _ ?_;clear hK K) | (apply Exists.intro;refine ⟨fun _=>?_,hK _ ?_⟩;first | (with_reducible exact callsIn_wide.2 (z1i (A.out _ gzT))) | (with_reducible exact callsIn_wide.2 (z1i (D.out _ gzT)));clear hK K))
       refine wpQuietIn_nil ?_
       intro _ hw'
       obtain ⟨pg,hw''⟩:=hw'
       subst hw''
       gi_wp2
       exact ⟨fun k hk=>iH pg k hk,g1.out,g2.trans ((z1e pg V1).mono g2.size),Nat.le_trans g3 (z1e pg V1).size⟩
      | true =>
       rw [Bool.true_and,if_pos rfl] at g1
       replace g1:=hiT g1
       gi_wp2
       refine z7u krT krT krT ?_
       repeat (refine wpQuietIn_step (fun _ _ _ _=>trivial) (fun K hK=>?_);go_simp;first | (refine hK _ ?_;clear hK K) | (apply Exists.intro;refine ⟨fun _=>?_,hK _ ?_⟩;first | (with_reducible exact callsIn_wide.2 (z1i (A.out _ gzT))) | (with_reducible exact callsIn_wide.2 (z1i (D.out _ gzT)));clear hK K))
       refine wpQuietIn_nil ?_
       intro _ hw'
       obtain ⟨pg,hw''⟩:=hw'
       subst hw''
       gi_wp2
       have hbG:=z1e pg (V1.setCell ⟨x3,0,none⟩ (.bool (l.c.states[j].kind == 4)))
       have hzs:(V1.setCell ⟨x3,0,none⟩ (.bool (l.c.states[j].kind == 4))).heap.size = V1.heap.size:=by simp
       refine ⟨fun k hk=>(hbG.block k omT).trans (z0v omT),g1.out,?_,?_⟩
       ·rw [show l.c.states.getD j st0 = l.c.states[j] by simp [List.getD,hj]]
        exact z1s (z7s (z1s qr hV)) hbG
       ·refine ⟨hbG.os.trans g2.os,hbG.tape.trans g2.tape,hbG.output.trans g2.output,Nat.le_trans g2.size (by rw [← hzs];exact hbG.size),fun k hk hne=>(hbG.block k (by have:=g2.size;omega)).trans ((z0v (fun e=>hne (by rw [e]))).trans (g2.block k hk))⟩
    case done =>
     rintro D V hD ⟨g1,g2,g3⟩ hK
     have h9:=hans.out
     rw [g1,q5t,show x0w l.c.states none = false from rfl] at h9
     subst h9
     have hV:=hbW.trans (g2.mono hbW.size)
     obtain ⟨zr,fr,yr⟩:=z0r (z1s qr hV)
     go_wp2
     have hgD:=grownBy_putObj' (V.setCell ⟨x3,0,none⟩ (.bool false)) D (.deferred none)
     have q9:=z4q (z7s (u := .bool false) (z1s qr hV)) hgD omT
     have zz:=(z0r q9).1
     have hw:=hb1.trans (g2.mono hb1.size)
     refine ⟨by simp,.inl ⟨_,_,rfl,run_takeDeferred ((z0v omT).trans hK),?_⟩⟩
     refine ⟨.bool false,by simp [results,Tryz.f212,go_sem,zz],rfl,(Below.setCell hw (show w.heap.size ≤ x3 by omega) _).grown hgD (by simpa using hw.size) fun k e=>by cases e;omega⟩
    case stop =>
     rintro D j V hD hj ⟨g1,g2,g3⟩ hK
     have h9:=hans.out
     rw [g1,show x0w l.c.states (some j) = ((l.c.states.getD j st0).kind == 4) from rfl] at h9
     obtain ⟨zr,fr,yr⟩:=z0r g2
     rw [h9] at zr g2
     have hw:Below w.heap.size w V:=hb1.grown g3 hb1.size fun k e=>by cases e;omega
     gi_wp2
     have hgD:=grownBy_putObj' V D (.deferred none)
     have zz:=(z0r (z4q g2 hgD omT)).1
     refine ⟨by simp,.inl ⟨_,_,rfl,run_takeDeferred hK,?_⟩⟩
     refine ⟨.bool ans,by simp [results,Tryz.f212,go_sem,zz],rfl,hw.grown hgD hw.size fun k e=>by cases e;omega⟩
end
end Go.Proofs.YtacnlghljmgdiaaGreatDoor
