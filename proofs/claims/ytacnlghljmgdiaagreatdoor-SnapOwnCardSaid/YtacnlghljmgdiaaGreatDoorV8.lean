/- Several texts of this proof, joined: VF, VL. -/
import Derived.Test.YtacnlghljmgdiaaGreatDoorV5
import Derived.WalkKit
import Derived.ProofKit
import Derived.OpenShut
import Derived.Handy
import Derived.BigQuiet
import Derived.OwnWalk
import Derived.Deep.RegionHeld3
import Derived.Lib.Hide
import Derived.WalkSmall
import Derived.WalkLawsBesides
namespace Go.Proofs.YtacnlghljmgdiaaGreatDoor
open Go.RowKit
def j5i (w:World) (ao:Option Addr) (ks:List Nat):Prop:=∀ i (hi:i < ks.length),∃ g,ao = some ⟨g,0,none⟩ ∧ g < w.heap.size ∧ w.cell? ⟨g,i,none⟩ = some (.int .i64 (ks[i]:Int))
theorem q3j {w w':World} {ao:Option Addr} {ks:List Nat} (h:j5i w ao ks) (hb:Below w.heap.size w w'):j5i w' ao ks:=fun i hi=>by
 obtain ⟨g,e,hg,h1⟩:=h i hi
 exact ⟨g,e,Nat.lt_of_lt_of_le hg hb.size,(hb.cell (p:=⟨g,_,none⟩) hg).trans h1⟩
theorem j9z {w:World} {B:Nat} {ao:Option Addr} {n cap:Nat} {ks:List Nat} (h:w.ownsRow B 3 1 (.slice ao n cap) ks.length (z1h ks)):j5i w ao ks:=fun i hi=>by
 obtain ⟨g,cap',e,hg,_,_,hc⟩:=z1g h omT
 cases e
 exact ⟨g,rfl,hg,hc _ _ (by unfold z1h;rw [List.getElem?_map,List.getElem?_eq_getElem hi];rfl)⟩
def k5i (f:FuncId) (caps:Array Value) (q:Nat → Bool) (k:Nat) (w:World):Prop:=Calls Tryz.prog f (#[.int .i64 (k:Int)] ++ caps) w (Ret (.bool (q k)) w)
theorem k5u {q:Nat → Bool} {ks:List Nat} {i:Nat} (h:i < ks.length):(ks.drop i).any q = (q ks[i] || (ks.drop (i + 1)).any q):=by
 rw [List.drop_eq_getElem_cons h,List.any_cons]
theorem v2x {q:Nat → Bool} {ks:List Nat} {i:Nat} (h:ks.length ≤ i):(ks.drop i).any q = false:=by
 rw [List.drop_of_length_le h];rfl
def x1i (o:Bool) (w:World) (e:Ending) (w':World):Prop:=(∃ i:Int,e = .returned (.int .i64 i) ∧ (o = true → 0 ≤ i) ∧ (o = false → i = -1)) ∧ Below w.heap.size w w'
set_option maxRecDepth 100000 in
set_option maxHeartbeats 4000000 in
theorem v4n (f:FuncId) (hcf:∀ a wx,(callFunc f a).run Tryz.prog wx = .ok (.enter f a) wx) (c1 c2:Value) (caps:Array Value) (hcap:caps = #[c1] ∨ caps = #[c1,c2]) (q:Nat → Bool) (ao:Option Addr) (cap:Nat) (ks:List Nat) (hn:ks.length ≤ 1000) (w:World) (h:j5i w ao ks) (C:∀ k,k ∈ ks → ∀ wx,Below w.heap.size w wx → k5i f caps q k wx) :
  Calls Tryz.prog 182 #[.slice ao ks.length cap,.func (.func f) #[] caps] w (x1i (ks.any q) w):=by
 have H:=hiT (fun wx hk=>q3j (w':=wx) h hk)
 have hF':Hid ((ks.drop 0).any q = ks.any q):=hiT (by rw [List.drop_zero])
 unfold k5i at C
 replace C:=hiT C
 generalize ks.any q = F at *
 clear h
 rcases hcap with rfl | rfl
 all_goals
  go_enter Tryz.func182,Tryz.ntmps182
  go_wp2
  go_loopw [8] (fun v wr=>∃ i:Nat,v = .int .i64 (i:Int) ∧ i ≤ ks.length ∧ Hid ((ks.drop i).any q = F) ∧ Below w.heap.size w wr) (fun v _=>ks.length - (intOf v).toNat)
  case atStart=>exact ⟨0,rfl,Nat.zero_le _,hF',gzT⟩
  case round =>
   obtain ⟨i,rfl,hi,hf,hk⟩:=hrel
   rename World=>wr
   have hwz:=hk.size
   by_cases hlt:i < ks.length
   ·obtain ⟨g,rfl,hg,n1⟩:=H.out wr hk i hlt
    have hm:=k5u (q:=q) hlt
    have hI:(i:Int) < (ks.length:Int):=by omega
    have i1:InW g wr:=⟨hg⟩
    have C1:=hiT (fun wx (hx:Below wr.heap.size wr wx)=>C.out ks[i] (List.getElem_mem hlt) wx (hk.trans (hx.mono hwz)))
    generalize ks[i] = k at *
    rcases he:q k
    ·rw [he,Bool.false_or,hf.out] at hm
     rw [he] at C1
     have hm':=hiT hm.symm
     clear he hf hm C
     go_wp2
     refine Calls.mono (C1.out _ gzT) ?_
     intro e w1 hr
     obtain ⟨rfl,p,rfl⟩:=hr.out
     clear hr
     go_wp2
     go_roundw
     case rel=>exact ⟨i + 1,by go_num,by omega,hm',gzT⟩
     case measure=>simp [intOf];omega
    ·rw [he,Bool.true_or,hf.out] at hm
     rw [he] at C1
     subst hm
     clear he hf C
     go_wp2
     refine Calls.mono (C1.out _ gzT) ?_
     intro e w1 hr
     obtain ⟨rfl,p,rfl⟩:=hr.out
     clear hr
     go_wp2
     go_returns
     exact ⟨⟨_,rfl,fun _=>omT,fun h=>(by cases h)⟩,gzT⟩
   ·have hge:¬ (i:Int) < (ks.length:Int):=by omega
    have hm:=v2x (q:=q) (show ks.length ≤ i by omega)
    rw [hf.out] at hm
    subst hm
    clear hf
    go_wp2
    go_returns
    exact ⟨⟨_,rfl,fun h=>(by cases h),fun _=>rfl⟩,gzT⟩
set_option maxRecDepth 100000 in
theorem j9m (f:FuncId) (hcf:∀ a wx,(callFunc f a).run Tryz.prog wx = .ok (.enter f a) wx) (c1 c2:Value) (caps:Array Value) (hcap:caps = #[c1] ∨ caps = #[c1,c2]) (q:Nat → Bool) (ao:Option Addr) (cap:Nat) (ks:List Nat) (hn:ks.length ≤ 1000) (w:World) (h:j5i w ao ks) (C:∀ k,k ∈ ks → ∀ wx,Below w.heap.size w wx → k5i f caps q k wx) :
  Calls Tryz.prog 150 #[.slice ao ks.length cap,.func (.func f) #[] caps] w (Ret (.bool (ks.any q)) w):=by
 have I:=hiT (fun wx (hk:Below w.heap.size w wx)=>v4n f hcf c1 c2 caps hcap q ao cap ks hn wx (q3j h hk) fun k hm wy hy=>C k hm wy (hk.trans (hy.mono hk.size)))
 clear h C hcap hcf
 generalize ks.any q = F at *
 go_enter Tryz.func150,Tryz.ntmps150
 go_wp2_with fail
 refine (I.out _ gzT).mono ?_
 rintro e w1 ⟨⟨i,rfl,h1,h2⟩,hb⟩
 obtain ⟨p,rfl⟩:=toG hb
 clear I hb
 cases F with
 | true =>
  have h0:=h1 rfl
  clear h1 h2
  go_wp2
  go_returns
  exact ⟨rfl,gzT⟩
 | false =>
  obtain rfl:=h2 rfl
  clear h1 h2
  go_wp2
  go_returns
  exact ⟨rfl,gzT⟩
section
variable {l:Lk} {lb:Nat}
theorem v8n (k:Nat) (hk:k < l.c.states.length) (b:Nat) (w:World) (hb:w.cell? ⟨b,0,none⟩ = some (.pointer (some ⟨lb,0,none⟩))) (H:q9y w lb l):k5i 151 #[.pointer (some ⟨b,0,none⟩)] (fun k => !z3o (stL l k)) k w:=by
 obtain ⟨B,rv,va,sa,oa,pa,vc,sc,oc,pc,H⟩:=H
 obtain ⟨hl,c0,c1,c2,c3,c4⟩:=z3r H
 obtain ⟨g,eo,ec,xo,xc,to',tc,rfl,hg,n1,n2,n3,n4,n5,n6,n7,_,_,_⟩:=z8h H.ch k hk
 have hs:stL l k = l.c.states[k]:=by unfold stL;simp [List.getD,hk]
 have i1:InW lb w:=⟨hl⟩
 have i2:InW g w:=⟨hg⟩
 have i3:InW b w:=⟨World.block_lt_of_cell? _ _ hb⟩
 have hI:(k:Int) < (l.c.states.length:Int):=by omega
 unfold k5i
 simp only [hs]
 generalize l.c.states[k] = s at *
 have Q:=hiT (fun wx=>q0l s (.slice eo s.enter.length ec) (.slice xo s.exit.length xc) (.slice to' s.trans.length tc) wx)
 clear H hs
 show Calls Tryz.prog _ #[.int .i64 (k:Int),.pointer (some ⟨b,0,none⟩)] _ _
 go_enter Tryz.func151,Tryz.ntmps151
 go_wp2_with ((with_reducible refine (Q.out _).mono ?_);intro e w1 hr;obtain ⟨rfl,p,rfl⟩:=hr.out;clear hr)
 go_returns
 exact ⟨rfl,gzT⟩
theorem v8o (k:Nat) (hk:k < l.c.states.length) (b:Nat) (w:World) (hb:w.cell? ⟨b,0,none⟩ = some (.pointer (some ⟨lb,0,none⟩))) (H:q9y w lb l):k5i 152 #[.pointer (some ⟨b,0,none⟩)] (fun k => !y0i (stL l k)) k w:=by
 obtain ⟨B,rv,va,sa,oa,pa,vc,sc,oc,pc,H⟩:=H
 obtain ⟨hl,c0,c1,c2,c3,c4⟩:=z3r H
 obtain ⟨g,eo,ec,xo,xc,to',tc,rfl,hg,n1,n2,n3,n4,n5,n6,n7,_,_,_⟩:=z8h H.ch k hk
 have hs:stL l k = l.c.states[k]:=by unfold stL;simp [List.getD,hk]
 have i1:InW lb w:=⟨hl⟩
 have i2:InW g w:=⟨hg⟩
 have i3:InW b w:=⟨World.block_lt_of_cell? _ _ hb⟩
 have hI:(k:Int) < (l.c.states.length:Int):=by omega
 unfold k5i
 simp only [hs]
 generalize l.c.states[k] = s at *
 have Q:=hiT (fun wx=>k4t s (.slice eo s.enter.length ec) (.slice xo s.exit.length xc) (.slice to' s.trans.length tc) wx)
 clear H hs
 show Calls Tryz.prog _ #[.int .i64 (k:Int),.pointer (some ⟨b,0,none⟩)] _ _
 go_enter Tryz.func152,Tryz.ntmps152
 go_wp2_with ((with_reducible refine (Q.out _).mono ?_);intro e w1 hr;obtain ⟨rfl,p,rfl⟩:=hr.out;clear hr)
 go_returns
 exact ⟨rfl,gzT⟩
end
section
variable {l:Lk} {lb:Nat}
theorem q9c {k:Nat} (hk:k < l.c.states.length):stL l k = l.c.states[k]:=by unfold stL;simp [List.getD,hk]
theorem k0e (P:LkP l) (nm:List UInt8):fnd l nm < l.c.states.length:=by
 unfold fnd
 cases h:z7b nm l.c.states 0 with
 | none=>exact P.some
 | some j =>
  have key:∀ (ss:List St) (k j:Nat),z7b nm ss k = some j → j < k + ss.length:=by
   intro ss
   induction ss with
   | nil=>intro k j h;cases h
   | cons s r ih =>
    intro k j h
    rw [z7b] at h
    rw [List.length_cons]
    split at h
    ·cases h;omega
    ·have:=ih _ _ h
     omega
  have:=key _ _ _ h
  simpa using this
theorem q3d {w:World} {B:Nat} {rv:Nat → Value} {va sa oa pa:Option Addr} {vc sc oc pc:Nat} (P:LkP l) (H:LkV w lb l B rv va sa oa pa vc sc oc pc) (nm:List UInt8):Hid (∀ wx,Below w.heap.size w wx →
  Calls Tryz.prog 148 #[.agg #[str l.c.name,.slice va l.c.vars.length vc,.slice sa l.c.states.length sc],str nm] wx (Ret (.tuple #[.int .i64 (fnd l nm:Int),.bool (isF l nm)]) wx)) :=
 hiT fun wx hb=>j5t sa sc ⟨nm.toArray⟩ (by have:=P.few;omega) wx (z1u H.ch hb)
set_option maxRecDepth 100000 in
set_option maxHeartbeats 4000000 in
theorem y2q (P:LkP l) (i:Nat) (hi:i < l.c.states.length) (w:World) (H:q9y w lb l):Calls Tryz.prog 117 #[.pointer (some ⟨lb,0,none⟩),.int .i64 (i:Int)] w (Ret (.int .i64 (y6d l i)) w):=by
 obtain ⟨B,rv,va,sa,oa,pa,vc,sc,oc,pc,H⟩:=H
 have F:=q3d P H (stL l i).name
 obtain ⟨hl,c0,c1,c2,c3,c4⟩:=z3r H
 obtain ⟨g,eo,ec,xo,xc,to',tc,rfl,hg,n1,_⟩:=z8h H.ch i hi
 rw [← q9c hi] at n1
 have i1:InW lb w:=⟨hl⟩
 have i2:InW g w:=⟨hg⟩
 have hI:(i:Int) < (l.c.states.length:Int):=by omega
 unfold y6d
 have U:=hiT (fun b wx=>z8n b 16 wx)
 generalize fnd l (stL l i).name = f at *
 generalize isF l (stL l i).name = o at *
 generalize (stL l i).name = nm at *
 clear H
 have e0:((i:Int) == 0) = (i == 0):=by rw [Bool.eq_iff_iff];simp
 have e1:((f:Int) == (i:Int)) = (f == i):=by rw [Bool.eq_iff_iff];simp;omega
 generalize (f == i) = b1 at *
 cases h0:(i == 0)
 ·rw [h0] at e0
  rw [Bool.false_or]
  replace h0:=hiT h0
  go_enter Tryz.func117,Tryz.ntmps117
  go_wp2
  (refine z0d krT krT ?_;(repeat (go_big_quiet_step (exact z1i (F.out _ gzT))));refine wpQuiet_nil ?_;intro _ hw';obtain ⟨pg,hw''⟩:=hw';subst hw'')
  go_wp2_with ((with_reducible refine (U.out _ _).mono ?_);intro e w1 hr;obtain ⟨rfl,p,rfl⟩:=hr.out;clear hr)
  go_returns
  exact ⟨rfl,gzT⟩
 ·rw [h0] at e0
  rw [Bool.true_or]
  replace h0:=hiT h0
  go_enter Tryz.func117,Tryz.ntmps117
  go_wp2
  (refine z0d krT krT ?_;(repeat (go_big_quiet_step (exact z1i (F.out _ gzT))));refine wpQuiet_nil ?_;intro _ hw';obtain ⟨pg,hw''⟩:=hw';subst hw'')
  go_wp2_with ((with_reducible refine (U.out _ _).mono ?_);intro e w1 hr;obtain ⟨rfl,p,rfl⟩:=hr.out;clear hr)
  go_returns
  exact ⟨rfl,gzT⟩
set_option maxRecDepth 100000 in
set_option maxHeartbeats 4000000 in
theorem k3w (P:LkP l) (i:Nat) (hi:i < l.c.states.length) (w:World) (H:q9y w lb l):Calls Tryz.prog 120 #[.pointer (some ⟨lb,0,none⟩),.int .i64 (i:Int)] w (Ret (.int .i64 (y3k l i)) w):=by
 obtain ⟨B,rv,va,sa,oa,pa,vc,sc,oc,pc,H⟩:=H
 have F:=q3d P H (stL l i).start
 obtain ⟨hl,c0,c1,c2,c3,c4⟩:=z3r H
 obtain ⟨g,eo,ec,xo,xc,to',tc,rfl,hg,_,_,_,n4,_⟩:=z8h H.ch i hi
 have hf:=k0e P (stL l i).start
 obtain ⟨g',fo,fc,yo,yc,uo,uc,hge,_,m1,m2,m3,m4,m5,m6,m7,_⟩:=z8h H.ch _ hf
 cases hge
 rw [← q9c hi] at n4
 have i1:InW lb w:=⟨hl⟩
 have i2:InW g w:=⟨hg⟩
 have hI:(i:Int) < (l.c.states.length:Int):=by omega
 have hJ:((fnd l (stL l i).start:Nat):Int) < (l.c.states.length:Int):=by omega
 unfold y3k x3l
 have U:=hiT (fun b wx=>z8n b 31 wx)
 have hst:=q9c hf
 generalize fnd l (stL l i).start = f at *
 generalize isF l (stL l i).start = o at *
 rw [hst]
 generalize l.c.states[f] = s at *
 generalize (stL l i).start = nm at *
 have Q:=hiT (fun wx=>q0l s (.slice fo s.enter.length fc) (.slice yo s.exit.length yc) (.slice uo s.trans.length uc) wx)
 have e1:(nm == []) = nm.isEmpty:=by cases nm <;> rfl
 rw [e1]
 generalize z3o s = p at *
 clear H hst e1
 cases hn:nm.isEmpty <;> cases o <;> cases hp:(s.parent == (i:Int))
 all_goals
  go_enter Tryz.func120,Tryz.ntmps120
  go_wp2_with (first | ((with_reducible refine (F.out _ gzT).mono ?_);intro e w1 hr;obtain ⟨rfl,p,rfl⟩:=hr.out;clear hr) | ((with_reducible refine (Q.out _).mono ?_);intro e w1 hr;obtain ⟨rfl,p,rfl⟩:=hr.out;clear hr) | ((with_reducible refine (U.out _ _).mono ?_);intro e w1 hr;obtain ⟨rfl,p,rfl⟩:=hr.out;clear hr))
  go_returns
  exact ⟨rfl,gzT⟩
theorem q9u {ss:List St} {a:Nat} {o:Int} (h:a < ss.length):q4b ss (a:Int) o = j5b ss o ss.length (a:Int):=by
 unfold q4b
 rw [if_neg omT]
set_option maxRecDepth 100000 in
set_option maxHeartbeats 4000000 in
theorem k8o (P:LkP l) (i:Nat) (hi:i < l.c.states.length) (w:World) (H:q9y w lb l):Calls Tryz.prog 118 #[.pointer (some ⟨lb,0,none⟩),.int .i64 (i:Int)] w (Ret (.int .i64 (k8n l i)) w):=by
 obtain ⟨B,rv,va,sa,oa,pa,vc,sc,oc,pc,H⟩:=H
 have F:=q3d P H (stL l i).start
 obtain ⟨hl,c0,c1,c2,c3,c4⟩:=z3r H
 obtain ⟨g,eo,ec,xo,xc,to',tc,rfl,hg,n1,n2,n3,n4,n5,n6,n7,_⟩:=z8h H.ch i hi
 have hf:=k0e P (stL l i).start
 have W:=hiT (fun o wx (hb:Below w.heap.size w wx)=>q0s (some ⟨g,0,none⟩) sc (fnd l (stL l i).start) o (by have:=P.few;omega) P.par hf wx (z1u H.ch hb))
 obtain ⟨g',fo,fc,yo,yc,uo,uc,hge,_,m1,m2,m3,m4,m5,m6,m7,_⟩:=z8h H.ch _ hf
 cases hge
 have i1:InW lb w:=⟨hl⟩
 have i2:InW g w:=⟨hg⟩
 have hI:(i:Int) < (l.c.states.length:Int):=by omega
 have hJ:((fnd l (stL l i).start:Nat):Int) < (l.c.states.length:Int):=by omega
 unfold k8n v9f
 rw [q9u hf]
 have U:=hiT (fun b wx=>z8n b 33 wx)
 have hst:=q9c hf
 generalize fnd l (stL l i).start = f at *
 generalize isF l (stL l i).start = o at *
 rw [hst]
 generalize l.c.states[f] = s at *
 rw [← q9c hi] at n1 n2 n3 n4 n5 n6 n7
 generalize stL l i = t at *
 have Q:=hiT (fun wx=>q0l s (.slice fo s.enter.length fc) (.slice yo s.exit.length yc) (.slice uo s.trans.length uc) wx)
 generalize z3o s = p at *
 replace W:=hiT (W.out t.parent)
 generalize j5b l.c.states t.parent l.c.states.length (f:Int) = wt at *
 clear H hst
 rcases e6:(t.kind == 6)
 ·rw [if_neg (by simpa using e6)]
  cases hb:(s.parent == t.parent) <;> cases o
  all_goals
   go_enter Tryz.func118,Tryz.ntmps118
   go_wp2
   (refine z0d krT krT ?_;(repeat (go_big_quiet_step (exact z1i (F.out _ gzT))));refine wpQuiet_nil ?_;intro _ hw';obtain ⟨pg,hw''⟩:=hw';subst hw'')
   go_wp2
   (refine z0d krT krT ?_;(repeat (go_big_quiet_step (fail)));refine wpQuiet_nil ?_;intro _ hw';obtain ⟨pg,hw''⟩:=hw';subst hw'')
   go_wp2_with (first | ((with_reducible refine (Q.out _).mono ?_);intro e w1 hr;obtain ⟨rfl,p,rfl⟩:=hr.out;clear hr) | ((with_reducible refine (U.out _ _).mono ?_);intro e w1 hr;obtain ⟨rfl,p,rfl⟩:=hr.out;clear hr))
   go_returns
   exact ⟨rfl,gzT⟩
 ·rw [if_pos (by simpa using e6)]
  cases wt <;> cases o
  all_goals
   go_enter Tryz.func118,Tryz.ntmps118
   go_wp2
   (refine z0d krT krT ?_;(repeat (go_big_quiet_step (exact z1i (F.out _ gzT))));refine wpQuiet_nil ?_;intro _ hw';obtain ⟨pg,hw''⟩:=hw';subst hw'')
   go_wp2
   (refine z0d krT krT ?_;(repeat (go_big_quiet_step (fail)));refine wpQuiet_nil ?_;intro _ hw';obtain ⟨pg,hw''⟩:=hw';subst hw'')
   go_wp2
   (refine z0d krT krT ?_;(repeat (go_big_quiet_step ((first | exact z1i (W.out _ gzT) | exact k2q (W.out _ gzT) | exact k2r (W.out _ gzT)))));refine wpQuiet_nil ?_;intro _ hw';obtain ⟨pg,hw''⟩:=hw';subst hw'')
   go_wp2_with (first | ((with_reducible refine (Q.out _).mono ?_);intro e w1 hr;obtain ⟨rfl,p,rfl⟩:=hr.out;clear hr) | ((with_reducible refine (U.out _ _).mono ?_);intro e w1 hr;obtain ⟨rfl,p,rfl⟩:=hr.out;clear hr))
   go_returns
   exact ⟨rfl,gzT⟩
end
end Go.Proofs.YtacnlghljmgdiaaGreatDoor
