/- Several texts of this proof, joined: X9, XA. -/
import Derived.Test.YtacnlghljmgdiaaGreatDoorY3
import Derived.WalkKit
import Derived.ProofKit
import Derived.OpenShut
import Derived.Handy
import Derived.BigQuiet
import Derived.OwnWalk
import Derived.Deep.AppendLies
import Derived.Lib.Hide
import Derived.WalkSmall
import Derived.WalkLawsBesides
import Derived.BigRegion
namespace Go.Proofs.YtacnlghljmgdiaaGreatDoor
open Go.RowKit
def k5l (B rb:Nat) (lv:Value) (o:Option Rd) (w:World) (e:Ending) (w':World):Prop:=e = .returned (.bool o.isSome) ∧ (∀ r',o = some r' → q4c B rb lv r' w') ∧ Below B w w'
theorem z3b {B rb:Nat} {lv:Value} {o:Option Rd} {r r':Rd} {w w':World} {e:Ending} (h:q6v B rb lv o r w e w') (ho:o = some r'):e = .returned (.bool true) ∧ q4c B rb lv r' w' ∧ Below B w w':=by subst ho;exact h
theorem z4v {B rb:Nat} {lv:Value} {o:Option Rd} {r:Rd} {w w':World} {e:Ending} (h:q6v B rb lv o r w e w') (ho:o = none):e = .returned (.bool false) ∧ q4c B rb lv r w' ∧ Below B w w':=by subst ho;exact h
set_option maxRecDepth 100000 in
set_option maxHeartbeats 4000000 in
theorem k2u {B rb:Nat} {ao:Option Addr} {cap:Nat} {ts:List Tk} {r:Rd} (g:Good 0 ts r) (w:World) (h:q4c B rb (.slice ao ts.length cap) r w) (env:Env B ao ts w) :
  Calls Tryz.prog 255 #[.pointer (some ⟨rb,0,none⟩)] w (k5l B rb (.slice ao ts.length cap) (atom ts r) w):=by
 have hA:=hiT h
 have hts:=env.few
 have hts1:ts.length ≤ 1000:=by omega
 have gq:=hiT g
 replace env:=hiT env
 clear h
 unfold atom
 rcases t1:takes ts [105,110] r with _ | r1
 ·simp only
  rcases n1:rname 16 ts r with _ | r2
  ·simp only
   rcases v1:rvalue ts r with _ | r3
   ·go_enter Tryz.func255,Tryz.ntmps255
    go_wp2_with fail
    refine (z1b ⟨#[105,110]⟩ g.at_ _ hA.out env.out).mono ?_
    intro e w1 hr
    obtain ⟨rfl,h1,hb1⟩:=z4v hr t1
    have hA1:=hiT h1
    have env1:=hiT (z1d env.out hb1)
    clear hr h1
    go_wp2_with fail
    refine (z8e 16 hts1 g.at_ (by have:=z2a g hts;omega) (by have:=z2a g hts;omega) _ hA1.out (q2y env1.out)).mono ?_
    intro e w2 hr
    obtain ⟨rfl,h2,hb2⟩:=z4v hr n1
    have hA2:=hiT h2
    have env2:=hiT (z1d env1.out hb2)
    replace hb2:=hb1.trans hb2
    clear hr h2
    go_wp2_with fail
    refine (j1v hts1 g.at_ (by have:=z2a g hts;omega) (by have:=z2a g hts;omega) _ hA2.out (q2y env2.out)).mono ?_
    intro e w3 hr
    obtain ⟨rfl,h3,hb3⟩:=z4v hr v1
    have hA3:=hiT h3
    have env3:=hiT (z1d env2.out hb3)
    replace hb3:=hb2.trans hb3
    clear hr h3
    go_wp2
    go_returns
    exact ⟨rfl,fun r' hr'=>(by cases hr'),hb3⟩
   ·go_enter Tryz.func255,Tryz.ntmps255
    go_wp2_with fail
    refine (z1b ⟨#[105,110]⟩ g.at_ _ hA.out env.out).mono ?_
    intro e w1 hr
    obtain ⟨rfl,h1,hb1⟩:=z4v hr t1
    have hA1:=hiT h1
    have env1:=hiT (z1d env.out hb1)
    clear hr h1
    go_wp2_with fail
    refine (z8e 16 hts1 g.at_ (by have:=z2a g hts;omega) (by have:=z2a g hts;omega) _ hA1.out (q2y env1.out)).mono ?_
    intro e w2 hr
    obtain ⟨rfl,h2,hb2⟩:=z4v hr n1
    have hA2:=hiT h2
    have env2:=hiT (z1d env1.out hb2)
    replace hb2:=hb1.trans hb2
    clear hr h2
    go_wp2_with fail
    refine (j1v hts1 g.at_ (by have:=z2a g hts;omega) (by have:=z2a g hts;omega) _ hA2.out (q2y env2.out)).mono ?_
    intro e w3 hr
    obtain ⟨rfl,h3,hb3⟩:=z3b hr v1
    have hA3:=hiT h3
    have env3:=hiT (z1d env2.out hb3)
    replace hb3:=hb2.trans hb3
    clear hr h3
    go_wp2
    go_returns
    exact ⟨rfl,fun r' hr'=>(by cases hr';exact hA3.out),hb3⟩
  ·simp only
   go_enter Tryz.func255,Tryz.ntmps255
   go_wp2_with fail
   refine (z1b ⟨#[105,110]⟩ g.at_ _ hA.out env.out).mono ?_
   intro e w1 hr
   obtain ⟨rfl,h1,hb1⟩:=z4v hr t1
   have hA1:=hiT h1
   have env1:=hiT (z1d env.out hb1)
   clear hr h1
   go_wp2_with fail
   refine (z8e 16 hts1 g.at_ (by have:=z2a g hts;omega) (by have:=z2a g hts;omega) _ hA1.out (q2y env1.out)).mono ?_
   intro e w2 hr
   obtain ⟨rfl,h2,hb2⟩:=z3b hr n1
   have hA2:=hiT h2
   have env2:=hiT (z1d env1.out hb2)
   replace hb2:=hb1.trans hb2
   clear hr h2
   go_wp2
   go_returns
   exact ⟨rfl,fun r' hr'=>(by cases hr';exact hA2.out),hb2⟩
 ·simp only
  have g1:=(z8k g t1).1
  rcases t2:takes ts [40] r1 with _ | r2
  ·simp only
   go_enter Tryz.func255,Tryz.ntmps255
   go_wp2_with fail
   refine (z1b ⟨#[105,110]⟩ g.at_ _ hA.out env.out).mono ?_
   intro e w1 hr
   obtain ⟨rfl,h1,hb1⟩:=z3b hr t1
   have hA1:=hiT h1
   have env1:=hiT (z1d env.out hb1)
   clear hr h1
   go_wp2_with fail
   refine (z1b ⟨#[40]⟩ g1.at_ _ hA1.out env1.out).mono ?_
   intro e w2 hr
   obtain ⟨rfl,h2,hb2⟩:=z4v hr t2
   have hA2:=hiT h2
   have env2:=hiT (z1d env1.out hb2)
   replace hb2:=hb1.trans hb2
   clear hr h2
   go_wp2
   go_returns
   exact ⟨rfl,fun r' hr'=>(by cases hr'),hb2⟩
  ·simp only
   have g2:=(z8k g1 t2).1
   rcases t3:rname 17 ts r2 with _ | r3
   ·simp only
    go_enter Tryz.func255,Tryz.ntmps255
    go_wp2_with fail
    refine (z1b ⟨#[105,110]⟩ g.at_ _ hA.out env.out).mono ?_
    intro e w1 hr
    obtain ⟨rfl,h1,hb1⟩:=z3b hr t1
    have hA1:=hiT h1
    have env1:=hiT (z1d env.out hb1)
    clear hr h1
    go_wp2_with fail
    refine (z1b ⟨#[40]⟩ g1.at_ _ hA1.out env1.out).mono ?_
    intro e w2 hr
    obtain ⟨rfl,h2,hb2⟩:=z3b hr t2
    have hA2:=hiT h2
    have env2:=hiT (z1d env1.out hb2)
    replace hb2:=hb1.trans hb2
    clear hr h2
    go_wp2_with fail
    refine (z8e 17 hts1 g2.at_ (by have:=z2a g2 hts;omega) (by have:=z2a g2 hts;omega) _ hA2.out (q2y env2.out)).mono ?_
    intro e w3 hr
    obtain ⟨rfl,h3,hb3⟩:=z4v hr t3
    have hA3:=hiT h3
    have env3:=hiT (z1d env2.out hb3)
    replace hb3:=hb2.trans hb3
    clear hr h3
    go_wp2
    go_returns
    exact ⟨rfl,fun r' hr'=>(by cases hr'),hb3⟩
   ·simp only
    have g3:=(q7z g2 t3).1
    rcases t4:takes ts [41] r3 with _ | r4
    ·go_enter Tryz.func255,Tryz.ntmps255
     go_wp2_with fail
     refine (z1b ⟨#[105,110]⟩ g.at_ _ hA.out env.out).mono ?_
     intro e w1 hr
     obtain ⟨rfl,h1,hb1⟩:=z3b hr t1
     have hA1:=hiT h1
     have env1:=hiT (z1d env.out hb1)
     clear hr h1
     go_wp2_with fail
     refine (z1b ⟨#[40]⟩ g1.at_ _ hA1.out env1.out).mono ?_
     intro e w2 hr
     obtain ⟨rfl,h2,hb2⟩:=z3b hr t2
     have hA2:=hiT h2
     have env2:=hiT (z1d env1.out hb2)
     replace hb2:=hb1.trans hb2
     clear hr h2
     go_wp2_with fail
     refine (z8e 17 hts1 g2.at_ (by have:=z2a g2 hts;omega) (by have:=z2a g2 hts;omega) _ hA2.out (q2y env2.out)).mono ?_
     intro e w3 hr
     obtain ⟨rfl,h3,hb3⟩:=z3b hr t3
     have hA3:=hiT h3
     have env3:=hiT (z1d env2.out hb3)
     replace hb3:=hb2.trans hb3
     clear hr h3
     go_wp2_with fail
     refine (z1b ⟨#[41]⟩ g3.at_ _ hA3.out env3.out).mono ?_
     intro e w4 hr
     obtain ⟨rfl,h4,hb4⟩:=z4v hr t4
     have hA4:=hiT h4
     have env4:=hiT (z1d env3.out hb4)
     replace hb4:=hb3.trans hb4
     clear hr h4
     go_wp2
     go_returns
     exact ⟨rfl,fun r' hr'=>(by cases hr'),hb4⟩
    ·go_enter Tryz.func255,Tryz.ntmps255
     go_wp2_with fail
     refine (z1b ⟨#[105,110]⟩ g.at_ _ hA.out env.out).mono ?_
     intro e w1 hr
     obtain ⟨rfl,h1,hb1⟩:=z3b hr t1
     have hA1:=hiT h1
     have env1:=hiT (z1d env.out hb1)
     clear hr h1
     go_wp2_with fail
     refine (z1b ⟨#[40]⟩ g1.at_ _ hA1.out env1.out).mono ?_
     intro e w2 hr
     obtain ⟨rfl,h2,hb2⟩:=z3b hr t2
     have hA2:=hiT h2
     have env2:=hiT (z1d env1.out hb2)
     replace hb2:=hb1.trans hb2
     clear hr h2
     go_wp2_with fail
     refine (z8e 17 hts1 g2.at_ (by have:=z2a g2 hts;omega) (by have:=z2a g2 hts;omega) _ hA2.out (q2y env2.out)).mono ?_
     intro e w3 hr
     obtain ⟨rfl,h3,hb3⟩:=z3b hr t3
     have hA3:=hiT h3
     have env3:=hiT (z1d env2.out hb3)
     replace hb3:=hb2.trans hb3
     clear hr h3
     go_wp2_with fail
     refine (z1b ⟨#[41]⟩ g3.at_ _ hA3.out env3.out).mono ?_
     intro e w4 hr
     obtain ⟨rfl,h4,hb4⟩:=z3b hr t4
     have hA4:=hiT h4
     have env4:=hiT (z1d env3.out hb4)
     replace hb4:=hb3.trans hb4
     clear hr h4
     go_wp2
     go_returns
     exact ⟨rfl,fun r' hr'=>(by cases hr';exact hA4.out),hb4⟩
def v7p (B rb:Nat) (lv:Value) (x:Bool × Rd) (w:World) (e:Ending) (w':World):Prop:=e = .returned (.bool x.1) ∧ q4c B rb lv x.2 w' ∧ Below B w w'
set_option maxRecDepth 100000 in
set_option maxHeartbeats 8000000 in
theorem j7n {B rb:Nat} {ao:Option Addr} {cap:Nat} {ts:List Tk} {r:Rd} (g:Good 1 ts r) (w:World) (h:q4c B rb (.slice ao ts.length cap) r w) (env:Env B ao ts w) :
  Calls Tryz.prog 239 #[.pointer (some ⟨rb,0,none⟩)] w (v7p B rb (.slice ao ts.length cap) (more ts r) w):=by
 have hts:=env.few
 have hsz:=env.size
 have hrat:=g.at_
 have Bt:=j7h g.at_ w h env
 have hbi:=j0q ts r.at_
 obtain ⟨i0,hi,hz1,hz2,hz3⟩:=info_parts Tryz.infoInt
 unfold more
 obtain ⟨op,hop⟩:∃ op,between ts r.at_ = op:=⟨_,rfl⟩
 rw [hop] at Bt hbi
 rw [hop]
 by_cases h0:op = 0
 ·subst h0
  rw [if_pos deT]
  replace Bt:=hiT Bt
  clear h env g
  go_enter Tryz.func239,Tryz.ntmps239
  go_wp2_with fail
  refine (Bt.out).mono ?_
  intro e w1 hr
  obtain ⟨rfl,h1,hb1⟩:=hr
  clear Bt
  go_wp2
  go_returns
  exact ⟨rfl,h1,hb1⟩
 ·have h0':(op == 0) = false:=by rw [beq_eq_false_iff_ne];exact h0
  have hb:=hbi.resolve_left h0
  unfold v0x at Bt
  rw [h0'] at Bt
  replace Bt:=hiT Bt
  rw [h0',if_neg (by simp)]
  have L:=fun wx=>hiT (k7k op wx)
  have hlp:=y2h hb
  have hl6:q5u op ≤ 1000:=by
   unfold q5u z4o
   (repeat' split) <;> omega
  obtain ⟨least,hle⟩:∃ x,q5u op = x:=⟨_,rfl⟩
  rw [hle] at L hlp hl6
  rw [hle]
  replace L:=hiT L
  have F:=fun wx hk hs=>hiT (q2e (B:=B) (rb:=rb) (lv := .slice ao ts.length cap) least hlp hl6 hts g wx hk hs)
  replace F:=hiT F
  obtain ⟨fg,fa,_,_⟩:=z6m hlp g
  obtain ⟨q,hqe⟩:∃ q,finish least r = q:=⟨_,rfl⟩
  rw [hqe] at F fg fa
  rw [hqe]
  obtain ⟨_,fw,_,_⟩:=z2a fg hts
  have hqa:=hiT fa
  have T:=fun wx=>hiT (q3x op wx)
  obtain ⟨tt,htt⟩:∃ x,z4o op = x:=⟨_,rfl⟩
  rw [htt] at T
  rw [htt]
  replace T:=hiT T
  cases hw:q.wait with
  | nil =>
   rw [show v6o [] tt = false from rfl,if_neg (by simp)]
   have hn0:q.wait.length = 0:=by rw [hw];rfl
   have hd1:decide ((0:Int) < (q.wait.length:Int)) = false:=by rw [decide_eq_false_iff_not];omega
   have hd2:decide (0 < q.wait.length) = false:=by rw [decide_eq_false_iff_not];omega
   have T2:=T
   replace hn0:=hiT hn0
   rw [← hw]
   have hw':=hiT hw
   clear h env g hbi hle hop htt fg fa hqe hw
   go_enter Tryz.func239,Tryz.ntmps239
   go_wp2_with fail
   refine (Bt.out).mono ?_
   intro e w1 hr
   obtain ⟨rfl,h1,hb1⟩:=hr
   have hA1:=hiT h1
   clear Bt h1
   go_wp2_with ((with_reducible refine ((L.out _).out).mono ?_);rintro e w1 ⟨rfl,rfl⟩)
   refine ((F.out _ hA1.out (Nat.le_trans hsz hb1.size)).out).mono ?_
   intro e w2 hr
   obtain ⟨rfl,h2,hb2⟩:=hr
   replace hb2:=hb1.trans hb2
   have hQ:=hiT h2
   obtain ⟨nv,pv,wv,h2⟩:=h2
   obtain ⟨wa,wc,hwe⟩:=z0g h2.wait
   subst hwe
   have hq:=hiT h2
   have hwt:=hiT h2.wait
   obtain ⟨c0,c1,c2,c3,c4,c5,hrb,hfr⟩:=z1r h2
   have f4:=hfr 4
   have i1:InW rb w2:=⟨hrb⟩
   have hbase:=h2.base
   have hsz2:B ≤ w2.heap.size:=by omega
   clear h2 hfr c0 c1 c2 c3 c5 F L hA1
   go_wp2_with (first | ((with_reducible refine ((T2.out _).out).mono ?_);rintro e w1 ⟨rfl,rfl⟩) | ((with_reducible refine ((T.out _).out).mono ?_);rintro e w1 ⟨rfl,rfl⟩) | (at_builtin;refine wpList_append_lies _ rfl _ _ 40 rfl B 3 i0 _ 1 8 Tryz.underlying40 hi hz1 hz2 hz3 rfl deT (.slice wa q.wait.length wc) q.wait.length (q1k q.wait.reverse) rfl (z0a hwt.out gzT) ⟨_,0,none⟩ 1 1 [.int .i64 op] rfl rfl (World.news_of_block (z2k _ _)) (by intro u hu;simp at hu;subst hu;rfl) deT (by unfold maxLen;omega) omT (by simp [go_sem];omega) _ rfl ?_))
   intro g9 cap' w9 hown1 hgrow hat1 hg1
   obtain ⟨k2,k3,k4,kf,kl⟩:=z4i hgrow hq.out hwt.out deT gzT
   have hk:=z0h (z0a hwt.out gzT) (z4c hq.out gzT).blk deT hgrow
   have k1:w9.cell? ⟨rb,1,none⟩ = some (.int .i64 (r.at_:Int)):=by rw [cell_of_row _ rb 1 _ _ _ hk,← hqa.out];rfl
   have kf4:=kf 4
   have kf1:=kf 1
   have i9:InW rb w9:=⟨kl⟩
   have hz:=hiT (q8n (z4c hq.out gzT) hgrow hown1 rfl hat1 (by simp))
   have hbz:=z4h hgrow hwt.out hb2 gzT hsz2
   clear hown1 hgrow hat1 hg1 kf hk
   go_wp2
   go_returns
   exact ⟨rfl,⟨_,_,_,j7j hz.out (r.at_ + 1) (x:=(r.at_:Int) + 1) rfl⟩,Below.setCell (Below.setCell hbz hbase _) hbase _⟩
  | cons o u =>
   have hn1:q.wait.length = u.length + 1:=by rw [hw];rfl
   have T2:=fun wx=>hiT (q3x o wx)
   obtain ⟨tq,hto⟩:∃ x,z4o o = x:=⟨_,rfl⟩
   rw [hto] at T2
   rw [show v6o (o :: u) tt = (tq == tt) by rw [← hto];rfl]
   replace T2:=hiT T2
   have hd1:decide ((0:Int) < (q.wait.length:Int)) = true:=by rw [decide_eq_true_iff];omega
   have hd2:decide (0 < q.wait.length) = true:=by rw [decide_eq_true_iff];omega
   have hm1:(q.wait.length:Int) - 1 = (u.length:Int):=by omega
   replace hn1:=hiT hn1
   rw [← hw]
   rcases hc:(tq == tt)
   ·rw [if_neg (by simp)]
    clear h env g hbi hle hop htt fg fa hqe hto
    go_enter Tryz.func239,Tryz.ntmps239
    go_wp2_with fail
    refine (Bt.out).mono ?_
    intro e w1 hr
    obtain ⟨rfl,h1,hb1⟩:=hr
    have hA1:=hiT h1
    clear Bt h1
    go_wp2_with ((with_reducible refine ((L.out _).out).mono ?_);rintro e w1 ⟨rfl,rfl⟩)
    refine ((F.out _ hA1.out (Nat.le_trans hsz hb1.size)).out).mono ?_
    intro e w2 hr
    obtain ⟨rfl,h2,hb2⟩:=hr
    replace hb2:=hb1.trans hb2
    have hQ:=hiT h2
    obtain ⟨nv,pv,wv,h2⟩:=h2
    obtain ⟨gw,wc,hwe,hgw,hwcap,_,hwc⟩:=z1g h2.wait (by rw [hw];simp)
    subst hwe
    have wcell:w2.cell? ⟨gw,u.length,none⟩ = some (.int .i64 o):=hwc _ _ (by rw [hw];simp [q1k])
    have i2:InW gw w2:=⟨hgw⟩
    have hq:=hiT h2
    have hwt:=hiT h2.wait
    obtain ⟨c0,c1,c2,c3,c4,c5,hrb,hfr⟩:=z1r h2
    have f4:=hfr 4
    have i1:InW rb w2:=⟨hrb⟩
    have hbase:=h2.base
    have hsz2:B ≤ w2.heap.size:=by omega
    clear hw hwc h2 hfr c0 c1 c2 c3 c5 F L hA1
    go_wp2_with (first | ((with_reducible refine ((T2.out _).out).mono ?_);rintro e w1 ⟨rfl,rfl⟩) | ((with_reducible refine ((T.out _).out).mono ?_);rintro e w1 ⟨rfl,rfl⟩) | (at_builtin;refine wpList_append_lies _ rfl _ _ 40 rfl B 3 i0 _ 1 8 Tryz.underlying40 hi hz1 hz2 hz3 rfl deT (.slice (some ⟨gw,0,none⟩) q.wait.length wc) q.wait.length (q1k q.wait.reverse) rfl (z0a hwt.out gzT) ⟨_,0,none⟩ 1 1 [.int .i64 op] rfl rfl (World.news_of_block (z2k _ _)) (by intro u hu;simp at hu;subst hu;rfl) deT (by unfold maxLen;omega) omT (by simp [go_sem];omega) _ rfl ?_))
    intro g9 cap' w9 hown1 hgrow hat1 hg1
    obtain ⟨k2,k3,k4,kf,kl⟩:=z4i hgrow hq.out hwt.out deT gzT
    have hk:=z0h (z0a hwt.out gzT) (z4c hq.out gzT).blk deT hgrow
    have k1:w9.cell? ⟨rb,1,none⟩ = some (.int .i64 (r.at_:Int)):=by rw [cell_of_row _ rb 1 _ _ _ hk,← hqa.out];rfl
    have kf4:=kf 4
    have kf1:=kf 1
    have i9:InW rb w9:=⟨kl⟩
    have hz:=hiT (q8n (z4c hq.out gzT) hgrow hown1 rfl hat1 (by simp))
    have hbz:=z4h hgrow hwt.out hb2 gzT hsz2
    clear hown1 hgrow hat1 hg1 kf hk
    go_wp2
    go_returns
    exact ⟨rfl,⟨_,_,_,j7j hz.out (r.at_ + 1) (x:=(r.at_:Int) + 1) rfl⟩,Below.setCell (Below.setCell hbz hbase _) hbase _⟩
   ·rw [if_pos rfl]
    clear h env g hbi hle hop htt fg fa hqe hto
    go_enter Tryz.func239,Tryz.ntmps239
    go_wp2_with fail
    refine (Bt.out).mono ?_
    intro e w1 hr
    obtain ⟨rfl,h1,hb1⟩:=hr
    have hA1:=hiT h1
    clear Bt h1
    go_wp2_with ((with_reducible refine ((L.out _).out).mono ?_);rintro e w1 ⟨rfl,rfl⟩)
    refine ((F.out _ hA1.out (Nat.le_trans hsz hb1.size)).out).mono ?_
    intro e w2 hr
    obtain ⟨rfl,h2,hb2⟩:=hr
    replace hb2:=hb1.trans hb2
    have hQ:=hiT h2
    obtain ⟨nv,pv,wv,h2⟩:=h2
    obtain ⟨gw,wc,hwe,hgw,hwcap,_,hwc⟩:=z1g h2.wait (by rw [hw];simp)
    subst hwe
    have wcell:w2.cell? ⟨gw,u.length,none⟩ = some (.int .i64 o):=hwc _ _ (by rw [hw];simp [q1k])
    have i2:InW gw w2:=⟨hgw⟩
    have hq:=hiT h2
    have hwt:=hiT h2.wait
    obtain ⟨c0,c1,c2,c3,c4,c5,hrb,hfr⟩:=z1r h2
    have f4:=hfr 4
    have i1:InW rb w2:=⟨hrb⟩
    have hbase:=h2.base
    have hsz2:B ≤ w2.heap.size:=by omega
    clear hw hwc h2 hfr c0 c1 c2 c3 c5 F L hA1
    go_wp2_with (first | ((with_reducible refine ((T2.out _).out).mono ?_);rintro e w1 ⟨rfl,rfl⟩) | ((with_reducible refine ((T.out _).out).mono ?_);rintro e w1 ⟨rfl,rfl⟩))
    go_returns
    exact ⟨rfl,z2c hQ.out gzT,gzT⟩
theorem v5x {B rb gw wc:Nat} {lv nv pv:Value} {r:Rd} {op:Int} {ws:List Int} {w:World} (hw:r.wait = op :: ws) (h:RdIs B rb lv r nv pv (.slice (some ⟨gw,0,none⟩) r.wait.length wc) w) :
  RdIs B rb lv { r with wait:=ws } nv pv (.slice (some ⟨gw,0,none⟩) ws.length wc) (w.setCell ⟨rb,4,none⟩ (.slice (some ⟨gw,0,none⟩) ws.length wc)):=by
 have hwt:=q3n h.wait (k:=ws.length) (by rw [hw];simp)
 rw [hw,j6c] at hwt
 have hb:=h.blk
 exact ⟨z0l hb,ownsRow_setCell_other h.nodes (z0n h.nodes hb deT) _,ownsRow_setCell_other h.parts (z0n h.parts hb deT) _,ownsRow_setCell_other hwt (z0n hwt hb deT) _,h.apart,h.base⟩
def v7w (w:World) (rb:Nat):Nat:=match w.cell? ⟨rb,1,none⟩ with | some (.int _ a)=>a.toNat | _=>0
theorem q4d {B rb:Nat} {lv:Value} {r:Rd} {w:World} (h:q4c B rb lv r w):v7w w rb = r.at_:=by
 obtain ⟨nv,pv,wv,h⟩:=h
 unfold v7w
 rw [(z1r h).2.1]
 rfl
set_option maxRecDepth 100000 in
set_option maxHeartbeats 8000000 in
theorem k9a {B rb:Nat} {ao:Option Addr} {cap:Nat} {ts:List Tk} {r:Rd} (g:Good 0 ts r) (w:World) (h:q4c B rb (.slice ao ts.length cap) r w) (env:Env B ao ts w) :
  Calls Tryz.prog 238 #[.pointer (some ⟨rb,0,none⟩)] w (k5l B rb (.slice ao ts.length cap) (one ts r) w):=by
 have hA:=hiT h
 have hG:=hiT g
 have hts:=env.few
 have hE:=hiT (fun wx hb=>z1d (w':=wx) env hb)
 have hF:=hiT (show ts.length < r.at_ + 128 by omega)
 clear h g env
 have hone:=hiT (fun (q:Rd) (hq:q = aheads 128 ts r)=>(show one ts r = match atom ts q with | some r1=>some (closes 128 ts r1) | none=>none from by rw [hq];rfl))
 go_enter Tryz.func238,Tryz.ntmps238
 go_wp2
 go_loopw [3] (fun _ wr=>∃ (f:Nat) (q:Rd),q4c B rb (.slice ao ts.length cap) q wr ∧ Good 0 ts q ∧ ts.length < q.at_ + f ∧ aheads f ts q = aheads 128 ts r ∧ Below B w wr) (fun _ wr=>ts.length + 1 - v7w wr rb)
 case atStart=>exact ⟨128,r,hA.out,hG.out,hF.out,rfl,gzT⟩
 case round =>
  obtain ⟨f,q,hq,gq,hfu,hfin,hb⟩:=hrel
  rename World=>wr
  have hat:=gq.at_
  have hatq:=q4d hq
  obtain ⟨qn,qw,qp,qi⟩:=z2a gq hts
  have henv:=hE.out wr hb
  obtain ⟨f,rfl⟩:∃ f',f = f' + 1:=⟨f - 1,by omega⟩
  rw [aheads] at hfin
  have C:=hiT (y6o hat omT omT wr hq henv)
  cases ha:ahead ts q with
  | some q' =>
   rw [ha] at hfin
   obtain ⟨g',e'⟩:=j0n gq ha
   have hnext:=hiT hfin
   have hg':=hiT g'
   have hat':=g'.at_
   clear hfin g' gq hq henv
   go_wp2_with fail
   refine (C.out).mono ?_
   intro e w1 hr
   obtain ⟨rfl,h1,hb1⟩:=z3b hr ha
   have hb2:=hb.trans hb1
   have hat1:=q4d h1
   clear hr C
   go_wp2
   go_roundw
   case rel=>exact ⟨f,q',h1,hg'.out,by omega,hnext.out,hb2⟩
   case measure=>rw [hat1,hatq];omega
  | none =>
   rw [ha] at hfin
   simp only at hfin
   replace hone:=hiT (hone.out q hfin)
   have hgq:=hiT gq
   clear hfin
   go_wp2_with fail
   refine (C.out).mono ?_
   intro e w1 hr
   obtain ⟨rfl,h1,hb1⟩:=z4v hr ha
   have hb2:=hb.trans hb1
   have At:=hiT (k2u hgq.out w1 h1 (hE.out w1 hb2))
   clear hr C h1 hb1 gq hq henv
   go_wp2_with fail
   refine (At.out).mono ?_
   intro e w2 hr
   obtain ⟨rfl,h2,hb3⟩:=hr
   replace hb3:=hb2.trans hb3
   clear At hb2
   cases hat2:atom ts q with
   | none =>
    simp only [Option.isSome]
    clear h2
    go_wp2
    go_returns
    have ho:=hone.out
    rw [hat2] at ho
    show k5l B rb (.slice ao ts.length cap) (one ts r) w _ _
    rw [ho]
    exact ⟨rfl,fun r' hr'=>(by cases hr'),hb3⟩
   | some r1 =>
    simp only [Option.isSome]
    have hA2:=hiT (h2 r1 hat2)
    have hG1:=hiT (j5p hgq.out hat2).1
    have hF1:=hiT (show ts.length < r1.at_ + 128 by omega)
    have ho:=hone.out
    rw [hat2] at ho
    replace ho:=hiT ho
    clear h2 hgq ha hone
    go_wp2
    go_loopw [8] (fun _ wr=>∃ (f:Nat) (q:Rd),q4c B rb (.slice ao ts.length cap) q wr ∧ Good 1 ts q ∧ ts.length < q.at_ + f ∧ closes f ts q = closes 128 ts r1 ∧ Below B w wr) (fun _ wr=>ts.length + 1 - v7w wr rb)
    case atStart=>exact ⟨128,r1,hA2.out,hG1.out,hF1.out,rfl,hb3⟩
    case round =>
     clear hatq hat qn qw qp qi hfu hat2 hb3 hb
     obtain ⟨f,p,hp,gp,hfu,hfin,hb⟩:=hrel
     rename World=>wr
     have hat:=gp.at_
     have hatp:=q4d hp
     obtain ⟨qn,qw,qp,qi⟩:=z2a gp hts
     have henv:=hE.out wr hb
     have hsz:=henv.size
     obtain ⟨f,rfl⟩:∃ f',f = f' + 1:=⟨f - 1,by omega⟩
     rw [closes] at hfin
     have hP:=hiT hp
     obtain ⟨nv,pv,wv,h1⟩:=hp
     obtain ⟨_,_,_,_,_,c5,hrb,_⟩:=z1r h1
     have i1:InW rb wr:=⟨hrb⟩
     clear h1
     by_cases h0:0 < p.within ∧ z2t ts p.at_ [41] = true
     ·rw [if_pos h0] at hfin
      have hnext:=hiT hfin
      have gc:=hiT (j0t gp h0.1 h0.2)
      have g':Good 1 ts { p with at_:=p.at_ + 1 }:=⟨gp.ops,gp.par,Nat.le_succ_of_le gp.sum,z4w h0.2,gp.wth⟩
      obtain ⟨fg,fa,fwi,_⟩:=z6m (Int.le_refl 1) g'
      have F:=fun wx hk hs=>hiT (q2e (B:=B) (rb:=rb) (lv := .slice ao ts.length cap) 1 (Int.le_refl 1) omT hts g' wx hk hs)
      obtain ⟨z,hz⟩:∃ z,finish 1 { p with at_:=p.at_ + 1 } = z:=⟨_,rfl⟩
      rw [hz] at F fg fa fwi
      obtain ⟨u,hu⟩:∃ u,z.wait = -1 :: u:=by rw [← hz];exact gc.out.2.2
      have hclose:=hiT (show close p = { { z with wait:=u } with within:=p.within - 1 } by unfold close;rw [hz,hu];rfl)
      obtain ⟨_,zw,_,_⟩:=z2a fg hts
      replace F:=hiT F
      have Tk:=hiT (z1b ⟨#[41]⟩ hat wr hP.out henv)
      have hn1:z.wait.length = u.length + 1:=by rw [hu];rfl
      rw [hn1] at zw
      have hd1:decide ((0:Int) < (p.within:Int)) = true:=by rw [decide_eq_true_iff];omega
      have hd2:decide (0 < p.within) = true:=by rw [decide_eq_true_iff];omega
      have hts0:=q1d h0.2
      have hw0:=h0.1
      have hlt:=z4w h0.2
      have eclose:=gc.out.2.1
      clear hfin fg fa g' gp hz henv hP
      go_wp2_with fail
      refine (Tk.out).mono ?_
      intro e w3 hr
      obtain ⟨rfl,h3,hb3⟩:=z3b hr hts0
      have hR3:=hiT h3
      have hsz3:B ≤ w3.heap.size:=Nat.le_trans hsz hb3.size
      replace hb3:=hb.trans hb3
      clear hr Tk h3 hts0
      go_wp2_with fail
      refine ((F.out _ hR3.out hsz3).out).mono ?_
      intro e w4 hr
      obtain ⟨rfl,⟨nv4,pv4,wv4,h4⟩,hb4⟩:=hr
      replace hb4:=hb3.trans hb4
      obtain ⟨gw,wc,hwe,hgw,hwcap,_,_⟩:=z1g h4.wait omT
      subst hwe
      obtain ⟨_,_,_,_,d4,d5,hrb4,hfr4⟩:=z1r h4
      rw [hn1] at d4
      rw [fwi] at d5
      have f4:=hfr4 4
      have f5:=hfr4 5
      have j1:InW rb w4:=⟨hrb4⟩
      have hbase:=h4.base
      have hwcap':u.length ≤ wc:=by omega
      have hpw:=hiT (v5x hu h4)
      have hx:((p.within:Int) - 1) = ((p.within - 1:Nat):Int):=by omega
      replace hx:=hiT hx
      clear h4 hfr4 hR3 F hb3 hn1 c5 i1
      go_wp2_with fail
      have m1:IntKind.i64.wrap (u.length:Int) = (u.length:Int):=by rw [IntKind.wrap_i64];omega
      have m2:(u.length:Int) ≤ (wc:Int):=by omega
      go_region
      go_wp2
      have hend:q4c B rb (.slice ao ts.length cap) (close p) ((w4.setCell ⟨rb,4,none⟩ (.slice (some ⟨gw,0,none⟩) u.length wc)).setCell ⟨rb,5,none⟩ (.int .i64 ((p.within:Int) - 1))).drew:=by
       rw [hclose.out]
       exact z2c (w':=((w4.setCell ⟨rb,4,none⟩ (.slice (some ⟨gw,0,none⟩) u.length wc)).setCell ⟨rb,5,none⟩ (.int .i64 ((p.within:Int) - 1))).drew) ⟨_,_,_,j7k hpw.out (p.within - 1) hx.out⟩ gzT
      have hate:=q4d hend
      rw [eclose] at hate
      go_roundw
      case rel=>exact ⟨f,close p,hend,gc.out.1,by omega,hnext.out,gzT⟩
      case measure =>
       rw [hate,hatp]
       omega
     ·rw [if_neg h0] at hfin
      replace ho:=hiT (ho.out.trans (by rw [← hfin]):one ts r = some p)
      clear hfin gp
      by_cases hw0:0 < p.within
      ·have ht0:z2t ts p.at_ [41] = false:=by
        rw [← Bool.not_eq_true]
        exact fun h=>h0 ⟨hw0,h⟩
       have Tk:=hiT (z1b ⟨#[41]⟩ hat wr hP.out henv)
       have hts0:=z4n ht0
       have hd1:decide ((0:Int) < (p.within:Int)) = true:=by rw [decide_eq_true_iff];omega
       have hd2:decide (0 < p.within) = true:=by rw [decide_eq_true_iff];omega
       clear ht0 henv h0
       go_wp2_with fail
       refine (Tk.out).mono ?_
       intro e w3 hr
       obtain ⟨rfl,h3,hb3⟩:=z4v hr hts0
       replace hb3:=hb.trans hb3
       clear hr Tk hts0 c5 i1
       go_wp2
       go_returns
       show k5l B rb (.slice ao ts.length cap) (one ts r) w _ _
       rw [ho.out]
       exact ⟨rfl,fun r' hr'=>(by cases hr';exact h3),hb3⟩
      ·have hd1:decide ((0:Int) < (p.within:Int)) = false:=by rw [decide_eq_false_iff_not];omega
       have hd2:decide (0 < p.within) = false:=by rw [decide_eq_false_iff_not];omega
       clear henv h0
       go_wp2
       go_returns
       show k5l B rb (.slice ao ts.length cap) (one ts r) w _ _
       rw [ho.out]
       exact ⟨rfl,fun r' hr'=>(by cases hr';exact hP.out),hb⟩
set_option maxRecDepth 100000 in
set_option maxHeartbeats 8000000 in
theorem y7e {B rb:Nat} {ao:Option Addr} {cap:Nat} {ts:List Tk} {r:Rd} (g:Good 0 ts r) (w:World) (h:q4c B rb (.slice ao ts.length cap) r w) (env:Env B ao ts w) :
  Calls Tryz.prog 223 #[.pointer (some ⟨rb,0,none⟩)] w (k5l B rb (.slice ao ts.length cap) (whole 128 ts r) w):=by
 have hA:=hiT h
 have hG:=hiT g
 have hts:=env.few
 have hE:=hiT (fun wx hb=>z1d (w':=wx) env hb)
 have hF:=hiT (show ts.length < r.at_ + 128 by omega)
 have hsz:=env.size
 clear h g env
 go_enter Tryz.func223,Tryz.ntmps223
 go_wp2
 go_loopw [3] (fun _ wr=>∃ (f:Nat) (q:Rd),q4c B rb (.slice ao ts.length cap) q wr ∧ Good 0 ts q ∧ ts.length < q.at_ + f ∧ whole f ts q = whole 128 ts r ∧ Below B w wr) (fun _ wr=>ts.length + 1 - v7w wr rb)
 case atStart=>exact ⟨128,r,hA.out,hG.out,hF.out,rfl,gzT⟩
 case round =>
  obtain ⟨f,q,hq,gq,hfu,hfin,hb⟩:=hrel
  rename World=>wr
  have hat:=gq.at_
  have hatq:=q4d hq
  have O:=hiT (k9a gq wr hq (hE.out wr hb))
  obtain ⟨f,rfl⟩:∃ f',f = f' + 1:=⟨f - 1,by omega⟩
  rw [whole] at hfin
  cases ho:one ts q with
  | none =>
   rw [ho] at hfin
   have hres:=hiT hfin
   clear hfin gq hq
   go_wp2_with fail
   refine (O.out).mono ?_
   intro e w1 hr
   rw [ho] at hr
   obtain ⟨rfl,_,hb1⟩:=hr
   replace hb1:=hb.trans hb1
   clear O ho
   go_wp2
   go_returns
   show k5l B rb (.slice ao ts.length cap) (whole 128 ts r) w _ _
   rw [← hres.out]
   exact ⟨rfl,fun r' hr'=>(by cases hr'),hb1⟩
  | some r1 =>
   rw [ho] at hfin
   simp only at hfin
   obtain ⟨g1,e1⟩:=y2s gq ho
   obtain ⟨m1,m2⟩:=j6q g1
   obtain ⟨b,r2,hm⟩:∃ b r2,more ts r1 = (b,r2):=⟨_,_,rfl⟩
   rw [hm] at hfin m1 m2
   simp only at m1 m2
   have hg1:=hiT g1
   cases b
   ·simp only at hfin
    have hres:=hiT hfin
    obtain ⟨g2,_⟩:=m2 rfl
    have F:=hiT (fun wx hk hs=>q2e (B:=B) (rb:=rb) (lv := .slice ao ts.length cap) 1 (Int.le_refl 1) omT hts g2 wx hk hs)
    clear hfin gq hq m1 m2 g1
    go_wp2_with fail
    refine (O.out).mono ?_
    intro e w1 hr
    rw [ho] at hr
    obtain ⟨rfl,h1,hb1⟩:=hr
    have Mo:=hiT (j7n hg1.out w1 (h1 r1 rfl) (hE.out w1 (hb.trans hb1)))
    replace hb1:=hb.trans hb1
    clear O ho h1
    go_wp2_with fail
    refine (Mo.out).mono ?_
    intro e w2 hr
    rw [hm] at hr
    obtain ⟨rfl,h2,hb2⟩:=hr
    have hR2:=hiT h2
    replace hb2:=hb1.trans hb2
    clear Mo h2
    go_wp2_with fail
    refine (F.out _ hR2.out (Nat.le_trans hsz hb2.size)).mono ?_
    intro e w3 hr
    obtain ⟨rfl,h3,hb3⟩:=hr
    have hR3:=hiT h3
    replace hb3:=hb2.trans hb3
    obtain ⟨nv,pv,wv,h3⟩:=h3
    obtain ⟨_,_,_,_,_,c5,hrb,_⟩:=z1r h3
    have i1:InW rb w3:=⟨hrb⟩
    clear h3 F hR2
    generalize finish 1 r2 = z at *
    by_cases hz:z.within = 0
    ·have hz1:((z.within:Int) == 0) = true:=by rw [beq_iff_eq];omega
     have hz2:(z.within == 0) = true:=by rw [beq_iff_eq];omega
     replace hz:=hiT hz
     go_wp2
     go_returns
     show k5l B rb (.slice ao ts.length cap) (whole 128 ts r) w _ _
     rw [← hres.out,if_pos hz.out]
     exact ⟨rfl,fun r' hr'=>(by cases hr';exact hR3.out),hb3⟩
    ·have hz1:((z.within:Int) == 0) = false:=by rw [beq_eq_false_iff_ne];omega
     have hz2:(z.within == 0) = false:=by rw [beq_eq_false_iff_ne];omega
     replace hz:=hiT hz
     go_wp2
     go_returns
     show k5l B rb (.slice ao ts.length cap) (whole 128 ts r) w _ _
     rw [← hres.out,if_neg hz.out]
     exact ⟨rfl,fun r' hr'=>(by cases hr'),hb3⟩
   ·simp only at hfin
    have hnext:=hiT hfin
    obtain ⟨g2,e2⟩:=m1 rfl
    have hg2:=hiT g2
    have hat2:=g2.at_
    clear hfin gq hq m1 m2 g1 g2
    go_wp2_with fail
    refine (O.out).mono ?_
    intro e w1 hr
    rw [ho] at hr
    obtain ⟨rfl,h1,hb1⟩:=hr
    have Mo:=hiT (j7n hg1.out w1 (h1 r1 rfl) (hE.out w1 (hb.trans hb1)))
    replace hb1:=hb.trans hb1
    clear O ho h1
    go_wp2_with fail
    refine (Mo.out).mono ?_
    intro e w2 hr
    rw [hm] at hr
    obtain ⟨rfl,h2,hb2⟩:=hr
    have hR2:=hiT h2
    have hate:=q4d h2
    simp only at hate
    replace hb2:=hb1.trans hb2
    clear Mo h2
    go_wp2
    go_roundw
    case rel=>exact ⟨f,r2,hR2.out,hg2.out,by omega,hnext.out,hb2⟩
    case measure=>rw [hate,hatq];omega
end Go.Proofs.YtacnlghljmgdiaaGreatDoor
