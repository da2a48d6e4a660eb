/- Several texts of this proof, joined: X5, X6, X7, X8. -/
import Derived.Test.YtacnlghljmgdiaaGreatDoorY2
import Derived.WalkKit
import Derived.ProofKit
import Derived.OpenShut
import Derived.Handy
import Derived.BigQuiet
import Derived.StillTailTactics
import Derived.Deep.RegionHeld3
import Derived.Lib.Hide
import Derived.WalkSmall
import Derived.WalkLawsBesides
import Derived.OwnWalk
import Derived.Deep.AppendLies
import Derived.Test.YtacnlghljmgdiaaGreatDoorO1
import Derived.BigRegion
namespace Go.Proofs.YtacnlghljmgdiaaGreatDoor
open Go.RowKit
set_option maxRecDepth 100000 in
set_option maxHeartbeats 4000000 in
theorem z8e {B rb:Nat} {ao:Option Addr} {cap:Nat} {ts:List Tk} {r:Rd} (op:Int) (hts:ts.length ≤ 1000) (hat:r.at_ ≤ ts.length) (hns:r.nodes.length ≤ 1000) (hps:r.parts.length ≤ 1000) (w:World) (h:q4c B rb (.slice ao ts.length cap) r w) (hl:Sl w ao ts) :
  Calls Tryz.prog 268 #[.pointer (some ⟨rb,0,none⟩),.int .i64 op] w (q6v B rb (.slice ao ts.length cap) (rname op ts r) r w):=by
 have hAt:=hiT h
 obtain ⟨nv,pv,wv,h⟩:=h
 obtain ⟨c0,c1,c2,c3,c4,c5,hrb,hfr⟩:=z1r h
 have f1:=hfr 1
 have hbase:=h.base
 have i1:InW rb w:=⟨hrb⟩
 have hsz:B ≤ w.heap.size:=by omega
 clear c2 c3 c4 c5 hfr
 by_cases he:r.at_ = ts.length
 ·have hn:rname op ts r = none:=by unfold rname z2b;rw [List.getElem?_eq_none omT]
  rw [hn]
  have hd:((r.at_:Int) == (ts.length:Int)) = true:=by rw [beq_iff_eq];omega
  clear hn h hl he
  go_enter Tryz.func268,Tryz.ntmps268
  go_wp2_with fail
  (refine z0d krT krT ?_;(repeat (go_big_quiet_step (fail)));refine wpQuiet_nil ?_;intro _ hw';obtain ⟨pg,hw''⟩:=hw';subst hw'')
  go_wp2
  go_returns
  exact ⟨rfl,z2c hAt.out gzT,gzT⟩
 ·have hlt:r.at_ < ts.length:=by omega
  obtain ⟨g,rfl,hg,ht⟩:=hl omT
  obtain ⟨a0,a1,a2,a3⟩:=ht r.at_ hlt
  have i2:InW g w:=⟨hg⟩
  have hd:((r.at_:Int) == (ts.length:Int)) = false:=by rw [beq_eq_false_iff_ne];omega
  have hres:rname op ts r = if (ts[r.at_].k == 1 && !z4k ts[r.at_].s) then some { r.add ⟨op,0,0,[],ts[r.at_].s,0,0⟩ with at_:=r.at_ + 1 } else none:=by
   unfold rname z2b
   rw [List.getElem?_eq_getElem hlt]
   simp only
   cases hc:(ts[r.at_].k == 1 && !z4k ts[r.at_].s)
   ·rw [if_neg (by simp)];rfl
   ·rw [if_pos rfl];rfl
  rw [hres]
  have M:=fun wx=>hiT (q1e ⟨ts[r.at_].s.toArray⟩ wx)
  have Ad:=fun wx hk=>hiT (j4g (B:=B) (rb:=rb) (lv := .slice (some ⟨g,0,none⟩) ts.length cap) (r:=r) ⟨op,0,0,[],ts[r.at_].s,0,0⟩ hns hps wx hk)
  unfold ndV at Ad
  simp only at Ad M
  replace M:=hiT M
  replace Ad:=hiT Ad
  clear hres hl ht he h a2 a3
  generalize ts[r.at_].k = tk at *
  generalize hmb:z4k ts[r.at_].s = mb at *
  have hAq:=hiT (rfl:(⟨ts[r.at_].s.toArray⟩:ByteArray) = ⟨ts[r.at_].s.toArray⟩)
  generalize ts[r.at_].s = tx at *
  clear hmb
  cases hk:(tk == 1)
  ·have hk2:(tk != 1) = true:=by rw [bne,hk];rfl
   rw [hk] at *
   go_enter Tryz.func268,Tryz.ntmps268
   go_wp2_with fail
   (refine z0d krT krT ?_;(repeat (go_big_quiet_step (fail)));refine wpQuiet_nil ?_;intro _ hw';obtain ⟨pg,hw''⟩:=hw';subst hw'')
   go_wp2
   go_returns
   exact ⟨rfl,z2c hAt.out gzT,gzT⟩
  ·have hk2:(tk != 1) = false:=by rw [bne,hk];rfl
   rw [hk] at *
   cases mb
   ·go_enter Tryz.func268,Tryz.ntmps268
    go_wp2_with fail
    (refine z0d krT krT ?_;(repeat (go_big_quiet_step (exact j4f ((M.out _).out))));refine wpQuiet_nil ?_;intro _ hw';obtain ⟨pg,hw''⟩:=hw';subst hw'')
    go_wp2_with fail
    go_still_tail 14,krT
    change wpList _ _ _ _ _ (G pg w).drew
    go_wp2_with fail
    refine ((Ad.out _ (z2c hAt.out gzT)).out).mono ?_
    intro e w1 hr
    obtain ⟨rfl,⟨nv1,pv1,wv1,h1⟩,hb1⟩:=hr
    obtain ⟨b0,b1,_,_,_,_,brb,bfr⟩:=z1r h1
    replace b1:w1.cell? ⟨rb,1,none⟩ = some (.int .i64 (r.at_:Int)):=b1
    have g1:=bfr 1
    have j1:InW rb w1:=⟨brb⟩
    have hq:=hiT (j7j h1 (r.at_ + 1) (x:=(r.at_:Int) + 1) rfl)
    have hb2:Below B w w1:=Below.trans gzT hb1
    clear h1 hb1 Ad M c0 c1 f1 a0 a1 bfr
    go_wp2
    go_returns
    exact ⟨rfl,⟨_,_,_,hq.out⟩,Below.setCell hb2 hbase _⟩
   ·go_enter Tryz.func268,Tryz.ntmps268
    go_wp2_with fail
    (refine z0d krT krT ?_;(repeat (go_big_quiet_step (exact j4f ((M.out _).out))));refine wpQuiet_nil ?_;intro _ hw';obtain ⟨pg,hw''⟩:=hw';subst hw'')
    go_wp2
    go_returns
    exact ⟨rfl,z2c hAt.out gzT,gzT⟩
theorem k0w (k:Int) (s:ByteArray) (n a:Int) (x y:ByteArray) (b:Bool) (hb:((k == 1 || k == 5) && (s.data.toList == x.data.toList || s.data.toList == y.data.toList)) = b) (g:Nat) (w:World) (hc:w.cell? ⟨g,0,none⟩ = some (.string x)) (hd:w.cell? ⟨g,1,none⟩ = some (.string y)) :
  Calls Tryz.prog 175 #[.agg #[.int .i64 k,.string s,.int .i64 n,.int .i64 a],.slice (some ⟨g,0,none⟩) 2 2] w (Ret (.bool b) w):=by
 have hz:Txts w (some ⟨g,0,none⟩) [x,y]:=by
  intro i hi
  simp only [List.length_cons,List.length_nil] at hi
  rcases (by omega:i = 0 ∨ i = 1) with rfl | rfl
  ·exact ⟨_,rfl,by simpa [go_sem,Addr.add] using hc⟩
  ·exact ⟨_,rfl,by simpa [go_sem,Addr.add] using hd⟩
 refine (v1m k s n a (some ⟨g,0,none⟩) [x,y] 2 (by simp) _ hz).mono fun e w' h=>⟨?_,h.2⟩
 rw [h.1,← hb]
 have e:∀ z:ByteArray,(z.data.toList == s.data.toList) = (s.data.toList == z.data.toList):=fun z=>by rw [Bool.eq_iff_iff,beq_iff_eq,beq_iff_eq];exact ⟨Eq.symm,Eq.symm⟩
 simp only [j3i,List.any_cons,List.any_nil,Bool.or_false,Lib.toList_data,e]
def bT:ByteArray:=⟨#[116,114,117,101]⟩
def bF:ByteArray:=⟨#[102,97,108,115,101]⟩
theorem v0n {ts:List Tk} {r:Rd} (h:r.at_ < ts.length):rvalue ts r = (if ts[r.at_].k == 3 then some ⟨0,1,ts[r.at_].n,[],[],0,0⟩ else if ts[r.at_].k == 4 then some ⟨0,3,0,ts[r.at_].s,[],0,0⟩ else if q0n ts[r.at_] [116,114,117,101] then some ⟨0,2,1,[],[],0,0⟩ else if q0n ts[r.at_] [102,97,108,115,101] then some ⟨0,2,0,[],[],0,0⟩ else (none:Option Nd)).map fun n=>{ r.add n with at_:=r.at_ + 1 }:=by
 unfold rvalue q0k
 rw [List.getElem?_eq_getElem h]
 simp only
 repeat' split
 all_goals first | rfl | simp_all
set_option maxRecDepth 100000 in
set_option maxHeartbeats 4000000 in
theorem j1v {B rb:Nat} {ao:Option Addr} {cap:Nat} {ts:List Tk} {r:Rd} (hts:ts.length ≤ 1000) (hat:r.at_ ≤ ts.length) (hns:r.nodes.length ≤ 1000) (hps:r.parts.length ≤ 1000) (w:World) (h:q4c B rb (.slice ao ts.length cap) r w) (hl:Sl w ao ts) :
  Calls Tryz.prog 269 #[.pointer (some ⟨rb,0,none⟩)] w (q6v B rb (.slice ao ts.length cap) (rvalue ts r) r w):=by
 have hAt:=hiT h
 obtain ⟨nv,pv,wv,h⟩:=h
 obtain ⟨c0,c1,c2,c3,c4,c5,hrb,hfr⟩:=z1r h
 have f1:=hfr 1
 have hbase:=h.base
 have i1:InW rb w:=⟨hrb⟩
 have hsz:B ≤ w.heap.size:=by omega
 clear c2 c3 c4 c5 hfr
 by_cases he:r.at_ = ts.length
 ·have hn:rvalue ts r = none:=by unfold rvalue q0k;rw [List.getElem?_eq_none omT]
  rw [hn]
  have hd:((r.at_:Int) == (ts.length:Int)) = true:=by rw [beq_iff_eq];omega
  clear hn h hl he
  go_enter Tryz.func269,Tryz.ntmps269
  go_wp2_with fail
  (refine z0d krT krT ?_;(repeat (go_big_quiet_step (fail)));refine wpQuiet_nil ?_;intro _ hw';obtain ⟨pg,hw''⟩:=hw';subst hw'')
  go_wp2
  go_returns
  exact ⟨rfl,z2c hAt.out gzT,gzT⟩
 ·have hlt:r.at_ < ts.length:=by omega
  obtain ⟨g,rfl,hg,ht⟩:=hl omT
  obtain ⟨a0,a1,a2,a3⟩:=ht r.at_ hlt
  have i2:InW g w:=⟨hg⟩
  have hd:((r.at_:Int) == (ts.length:Int)) = false:=by rw [beq_eq_false_iff_ne];omega
  rw [v0n hlt]
  have Ad:=fun n wx hk=>hiT (j4g (B:=B) (rb:=rb) (lv := .slice (some ⟨g,0,none⟩) ts.length cap) (r:=r) n hns hps wx hk)
  unfold ndV at Ad
  replace Ad:=hiT Ad
  obtain ⟨b1,hb1⟩:∃ b,q0n ts[r.at_] [116,114,117,101] = b:=⟨_,rfl⟩
  obtain ⟨b2,hb2⟩:∃ b,q0n ts[r.at_] [102,97,108,115,101] = b:=⟨_,rfl⟩
  rw [hb1,hb2]
  have I1:=fun g wx hc=>hiT (q1y ts[r.at_].k ⟨ts[r.at_].s.toArray⟩ ts[r.at_].n (ts[r.at_].a:Int) bT b1 hb1 g wx hc)
  have I2:=fun g wx hc hd=>hiT (k0w ts[r.at_].k ⟨ts[r.at_].s.toArray⟩ ts[r.at_].n (ts[r.at_].a:Int) bT bF (b1 || b2) (by rw [← hb1,← hb2,q0n,q0n,← Bool.and_or_distrib_left];rfl) g wx hc hd)
  unfold bT at I1 I2
  unfold bF at I2
  replace I1:=hiT I1
  replace I2:=hiT I2
  clear hl ht he h hb1 hb2
  generalize ts[r.at_].k = tk at *
  generalize hn':ts[r.at_].n = tn at *
  have hAq:=hiT (rfl:(⟨ts[r.at_].s.toArray⟩:ByteArray) = ⟨ts[r.at_].s.toArray⟩)
  generalize ts[r.at_].s = tx at *
  generalize (ts[r.at_].a:Int) = ta at *
  clear hn' hAq
  rcases h3:(tk == 3)
  ·rcases h4:(tk == 4)
   ·cases b1
    ·cases b2
     ·go_enter Tryz.func269,Tryz.ntmps269
      go_wp2_with fail
      (refine z0d krT krT ?_;(repeat (go_big_quiet_step (fail)));refine wpQuiet_nil ?_;intro _ hw';obtain ⟨pg,hw''⟩:=hw';subst hw'')
      go_wp2_with fail
      go_region_held3 (fun w'=>w'.cell? ⟨rb,0,none⟩ = some (.slice (some ⟨g,0,none⟩) ts.length cap) ∧ w'.cell? ⟨rb,1,none⟩ = some (.int .i64 (r.at_:Int)) ∧ w'.cell? ⟨g,r.at_ * 4,none⟩ = some (.int .i64 tk) ∧ w'.cell? ⟨g,r.at_ * 4 + 1,none⟩ = some (.string ⟨tx.toArray⟩) ∧ w'.cell? ⟨g,r.at_ * 4 + 2,none⟩ = some (.int .i64 tn) ∧ w'.cell? ⟨g,r.at_ * 4 + 3,none⟩ = some (.int .i64 ta)) ((refine ⟨?_,?_,?_,?_,?_,?_⟩ <;> first | assumption | (simp [go_sem, *];done))) (fail)
      go_wp2_with (first | ((with_reducible refine (q8d _ _).mono ?_);intro e w1 hr;obtain ⟨rfl,p,rfl⟩:=hr.out;clear hr) | ((with_reducible refine (q1g _ _).mono ?_);intro e w1 hr;obtain ⟨rfl,p,rfl⟩:=hr.out;clear hr) | ((with_reducible refine (z8m _ _).mono ?_);intro e w1 hr;obtain ⟨rfl,p,rfl⟩:=hr.out;clear hr) | ((with_reducible refine ((I2.out _ _ (by simp [go_sem]) (by simp [go_sem])).out).mono ?_);intro e w1 hr;obtain ⟨rfl,p,rfl⟩:=hr.out;clear hr) | ((with_reducible refine ((I1.out _ _ (by simp [go_sem])).out).mono ?_);intro e w1 hr;obtain ⟨rfl,p,rfl⟩:=hr.out;clear hr))
      go_returns
      exact ⟨rfl,z2c hAt.out gzT,gzT⟩
     ·go_enter Tryz.func269,Tryz.ntmps269
      go_wp2_with fail
      (refine z0d krT krT ?_;(repeat (go_big_quiet_step (fail)));refine wpQuiet_nil ?_;intro _ hw';obtain ⟨pg,hw''⟩:=hw';subst hw'')
      go_wp2_with fail
      go_region_held3 (fun w'=>w'.cell? ⟨rb,0,none⟩ = some (.slice (some ⟨g,0,none⟩) ts.length cap) ∧ w'.cell? ⟨rb,1,none⟩ = some (.int .i64 (r.at_:Int)) ∧ w'.cell? ⟨g,r.at_ * 4,none⟩ = some (.int .i64 tk) ∧ w'.cell? ⟨g,r.at_ * 4 + 1,none⟩ = some (.string ⟨tx.toArray⟩) ∧ w'.cell? ⟨g,r.at_ * 4 + 2,none⟩ = some (.int .i64 tn) ∧ w'.cell? ⟨g,r.at_ * 4 + 3,none⟩ = some (.int .i64 ta)) ((refine ⟨?_,?_,?_,?_,?_,?_⟩ <;> first | assumption | (simp [go_sem, *];done))) (fail)
      go_wp2_with (first | ((with_reducible refine (q8d _ _).mono ?_);intro e w1 hr;obtain ⟨rfl,p,rfl⟩:=hr.out;clear hr) | ((with_reducible refine (q1g _ _).mono ?_);intro e w1 hr;obtain ⟨rfl,p,rfl⟩:=hr.out;clear hr) | ((with_reducible refine (z8m _ _).mono ?_);intro e w1 hr;obtain ⟨rfl,p,rfl⟩:=hr.out;clear hr) | ((with_reducible refine ((I2.out _ _ (by simp [go_sem]) (by simp [go_sem])).out).mono ?_);intro e w1 hr;obtain ⟨rfl,p,rfl⟩:=hr.out;clear hr) | ((with_reducible refine ((I1.out _ _ (by simp [go_sem])).out).mono ?_);intro e w1 hr;obtain ⟨rfl,p,rfl⟩:=hr.out;clear hr))
      refine ((Ad.out ⟨0,2,0,[],[],0,0⟩ _ (z2c hAt.out gzT)).out).mono ?_
      intro e w1 hr
      obtain ⟨rfl,⟨nv1,pv1,wv1,h1⟩,hb1⟩:=hr
      obtain ⟨b0,b1,_,_,_,_,brb,bfr⟩:=z1r h1
      replace b1:w1.cell? ⟨rb,1,none⟩ = some (.int .i64 (r.at_:Int)):=b1
      have g1:=bfr 1
      have j1:InW rb w1:=⟨brb⟩
      have hq:=hiT (j7j h1 (r.at_ + 1) (x:=(r.at_:Int) + 1) rfl)
      have hb2:Below B w w1:=Below.trans gzT hb1
      clear h1 hb1 Ad I1 I2 c0 c1 f1 a0 a1 a2 a3 bfr
      go_wp2
      go_returns
      exact ⟨rfl,⟨_,_,_,hq.out⟩,Below.setCell hb2 hbase _⟩
    ·go_enter Tryz.func269,Tryz.ntmps269
     go_wp2_with fail
     (refine z0d krT krT ?_;(repeat (go_big_quiet_step (fail)));refine wpQuiet_nil ?_;intro _ hw';obtain ⟨pg,hw''⟩:=hw';subst hw'')
     go_wp2_with fail
     go_region_held3 (fun w'=>w'.cell? ⟨rb,0,none⟩ = some (.slice (some ⟨g,0,none⟩) ts.length cap) ∧ w'.cell? ⟨rb,1,none⟩ = some (.int .i64 (r.at_:Int)) ∧ w'.cell? ⟨g,r.at_ * 4,none⟩ = some (.int .i64 tk) ∧ w'.cell? ⟨g,r.at_ * 4 + 1,none⟩ = some (.string ⟨tx.toArray⟩) ∧ w'.cell? ⟨g,r.at_ * 4 + 2,none⟩ = some (.int .i64 tn) ∧ w'.cell? ⟨g,r.at_ * 4 + 3,none⟩ = some (.int .i64 ta)) ((refine ⟨?_,?_,?_,?_,?_,?_⟩ <;> first | assumption | (simp [go_sem, *];done))) (fail)
     go_wp2_with (first | ((with_reducible refine (q8d _ _).mono ?_);intro e w1 hr;obtain ⟨rfl,p,rfl⟩:=hr.out;clear hr) | ((with_reducible refine (q1g _ _).mono ?_);intro e w1 hr;obtain ⟨rfl,p,rfl⟩:=hr.out;clear hr) | ((with_reducible refine (z8m _ _).mono ?_);intro e w1 hr;obtain ⟨rfl,p,rfl⟩:=hr.out;clear hr) | ((with_reducible refine ((I2.out _ _ (by simp [go_sem]) (by simp [go_sem])).out).mono ?_);intro e w1 hr;obtain ⟨rfl,p,rfl⟩:=hr.out;clear hr) | ((with_reducible refine ((I1.out _ _ (by simp [go_sem])).out).mono ?_);intro e w1 hr;obtain ⟨rfl,p,rfl⟩:=hr.out;clear hr))
     refine ((Ad.out ⟨0,2,1,[],[],0,0⟩ _ (z2c hAt.out gzT)).out).mono ?_
     intro e w1 hr
     obtain ⟨rfl,⟨nv1,pv1,wv1,h1⟩,hb1⟩:=hr
     obtain ⟨b0,b1,_,_,_,_,brb,bfr⟩:=z1r h1
     replace b1:w1.cell? ⟨rb,1,none⟩ = some (.int .i64 (r.at_:Int)):=b1
     have g1:=bfr 1
     have j1:InW rb w1:=⟨brb⟩
     have hq:=hiT (j7j h1 (r.at_ + 1) (x:=(r.at_:Int) + 1) rfl)
     have hb2:Below B w w1:=Below.trans gzT hb1
     clear h1 hb1 Ad I1 I2 c0 c1 f1 a0 a1 a2 a3 bfr
     go_wp2
     go_returns
     exact ⟨rfl,⟨_,_,_,hq.out⟩,Below.setCell hb2 hbase _⟩
   ·go_enter Tryz.func269,Tryz.ntmps269
    go_wp2_with fail
    (refine z0d krT krT ?_;(repeat (go_big_quiet_step (fail)));refine wpQuiet_nil ?_;intro _ hw';obtain ⟨pg,hw''⟩:=hw';subst hw'')
    go_wp2_with fail
    go_region_held3 (fun w'=>w'.cell? ⟨rb,0,none⟩ = some (.slice (some ⟨g,0,none⟩) ts.length cap) ∧ w'.cell? ⟨rb,1,none⟩ = some (.int .i64 (r.at_:Int)) ∧ w'.cell? ⟨g,r.at_ * 4,none⟩ = some (.int .i64 tk) ∧ w'.cell? ⟨g,r.at_ * 4 + 1,none⟩ = some (.string ⟨tx.toArray⟩) ∧ w'.cell? ⟨g,r.at_ * 4 + 2,none⟩ = some (.int .i64 tn) ∧ w'.cell? ⟨g,r.at_ * 4 + 3,none⟩ = some (.int .i64 ta)) ((refine ⟨?_,?_,?_,?_,?_,?_⟩ <;> first | assumption | (simp [go_sem, *];done))) (fail)
    go_wp2_with (first | ((with_reducible refine (q8d _ _).mono ?_);intro e w1 hr;obtain ⟨rfl,p,rfl⟩:=hr.out;clear hr) | ((with_reducible refine (q1g _ _).mono ?_);intro e w1 hr;obtain ⟨rfl,p,rfl⟩:=hr.out;clear hr) | ((with_reducible refine (z8m _ _).mono ?_);intro e w1 hr;obtain ⟨rfl,p,rfl⟩:=hr.out;clear hr) | ((with_reducible refine ((I2.out _ _ (by simp [go_sem]) (by simp [go_sem])).out).mono ?_);intro e w1 hr;obtain ⟨rfl,p,rfl⟩:=hr.out;clear hr) | ((with_reducible refine ((I1.out _ _ (by simp [go_sem])).out).mono ?_);intro e w1 hr;obtain ⟨rfl,p,rfl⟩:=hr.out;clear hr))
    refine ((Ad.out ⟨0,3,0,tx,[],0,0⟩ _ (z2c hAt.out gzT)).out).mono ?_
    intro e w1 hr
    obtain ⟨rfl,⟨nv1,pv1,wv1,h1⟩,hb1⟩:=hr
    obtain ⟨b0,b1,_,_,_,_,brb,bfr⟩:=z1r h1
    replace b1:w1.cell? ⟨rb,1,none⟩ = some (.int .i64 (r.at_:Int)):=b1
    have g1:=bfr 1
    have j1:InW rb w1:=⟨brb⟩
    have hq:=hiT (j7j h1 (r.at_ + 1) (x:=(r.at_:Int) + 1) rfl)
    have hb2:Below B w w1:=Below.trans gzT hb1
    clear h1 hb1 Ad I1 I2 c0 c1 f1 a0 a1 a2 a3 bfr
    go_wp2
    go_returns
    exact ⟨rfl,⟨_,_,_,hq.out⟩,Below.setCell hb2 hbase _⟩
  ·go_enter Tryz.func269,Tryz.ntmps269
   go_wp2_with fail
   (refine z0d krT krT ?_;(repeat (go_big_quiet_step (fail)));refine wpQuiet_nil ?_;intro _ hw';obtain ⟨pg,hw''⟩:=hw';subst hw'')
   go_wp2_with fail
   go_region_held3 (fun w'=>w'.cell? ⟨rb,0,none⟩ = some (.slice (some ⟨g,0,none⟩) ts.length cap) ∧ w'.cell? ⟨rb,1,none⟩ = some (.int .i64 (r.at_:Int)) ∧ w'.cell? ⟨g,r.at_ * 4,none⟩ = some (.int .i64 tk) ∧ w'.cell? ⟨g,r.at_ * 4 + 1,none⟩ = some (.string ⟨tx.toArray⟩) ∧ w'.cell? ⟨g,r.at_ * 4 + 2,none⟩ = some (.int .i64 tn) ∧ w'.cell? ⟨g,r.at_ * 4 + 3,none⟩ = some (.int .i64 ta)) ((refine ⟨?_,?_,?_,?_,?_,?_⟩ <;> first | assumption | (simp [go_sem, *];done))) (fail)
   go_wp2_with (first | ((with_reducible refine (q8d _ _).mono ?_);intro e w1 hr;obtain ⟨rfl,p,rfl⟩:=hr.out;clear hr) | ((with_reducible refine (q1g _ _).mono ?_);intro e w1 hr;obtain ⟨rfl,p,rfl⟩:=hr.out;clear hr) | ((with_reducible refine (z8m _ _).mono ?_);intro e w1 hr;obtain ⟨rfl,p,rfl⟩:=hr.out;clear hr) | ((with_reducible refine ((I2.out _ _ (by simp [go_sem]) (by simp [go_sem])).out).mono ?_);intro e w1 hr;obtain ⟨rfl,p,rfl⟩:=hr.out;clear hr) | ((with_reducible refine ((I1.out _ _ (by simp [go_sem])).out).mono ?_);intro e w1 hr;obtain ⟨rfl,p,rfl⟩:=hr.out;clear hr))
   refine ((Ad.out ⟨0,1,tn,[],[],0,0⟩ _ (z2c hAt.out gzT)).out).mono ?_
   intro e w1 hr
   obtain ⟨rfl,⟨nv1,pv1,wv1,h1⟩,hb1⟩:=hr
   obtain ⟨b0,b1,_,_,_,_,brb,bfr⟩:=z1r h1
   replace b1:w1.cell? ⟨rb,1,none⟩ = some (.int .i64 (r.at_:Int)):=b1
   have g1:=bfr 1
   have j1:InW rb w1:=⟨brb⟩
   have hq:=hiT (j7j h1 (r.at_ + 1) (x:=(r.at_:Int) + 1) rfl)
   have hb2:Below B w w1:=Below.trans gzT hb1
   clear h1 hb1 Ad I1 I2 c0 c1 f1 a0 a1 a2 a3 bfr
   go_wp2
   go_returns
   exact ⟨rfl,⟨_,_,_,hq.out⟩,Below.setCell hb2 hbase _⟩
def v4c:Array Value:=(z7c.map fun l=>Value.string ⟨l.toArray⟩).toArray
def Eg (w:World):Prop:=w.var? Tryz.prog "whirligig/expr.signs" = some v4c
theorem z7y:Tryz.prog.globalNamed "whirligig/expr.signs" = some 12:=by kernel_rfl
theorem y9v {w:World} (h:Eg w):12 < w.heap.size:=z6o z7y h
theorem j3c {B:Nat} {w w':World} (h:Eg w) (hB:12 < B) (hb:Below B w w'):Eg w':=var?_below hb z7y hB h
theorem z4a {w:World} (h:Eg w) (i:Nat) (hi:i < 16):w.cell? ⟨12,i,none⟩ = some (.string ⟨(z7c.getD i []).toArray⟩):=by
 rw [World.var?_cell z7y h i]
 have h:∀ k,k < 16 → k = 0 ∨ k = 1 ∨ k = 2 ∨ k = 3 ∨ k = 4 ∨ k = 5 ∨ k = 6 ∨ k = 7 ∨ k = 8 ∨ k = 9 ∨ k = 10 ∨ k = 11 ∨ k = 12 ∨ k = 13 ∨ k = 14 ∨ k = 15:=by omega
 rcases h i hi with rfl | rfl | rfl | rfl | rfl | rfl | rfl | rfl | rfl | rfl | rfl | rfl | rfl | rfl | rfl | rfl <;> rfl
structure Env (B:Nat) (ao:Option Addr) (ts:List Tk) (w:World):Prop where
 sl:0 < ts.length → ∃ g,ao = some ⟨g,0,none⟩ ∧ g < B ∧ Toks w g ts
 gl:12 < B
 eg:Eg w
 few:ts.length ≤ 120
 size:B ≤ w.heap.size
theorem y1e {B:Nat} {w w':World} {g:Nat} {ts:List Tk} (h:Toks w g ts) (hg:g < B) (hb:Below B w w'):Toks w' g ts:=by
 intro i hi
 obtain ⟨h1,h2,h3,h4⟩:=h i hi
 exact ⟨(hb.cell (p:=⟨g,_,none⟩) hg).trans h1,(hb.cell (p:=⟨g,_,none⟩) hg).trans h2,(hb.cell (p:=⟨g,_,none⟩) hg).trans h3,(hb.cell (p:=⟨g,_,none⟩) hg).trans h4⟩
theorem z1d {B:Nat} {ao:Option Addr} {ts:List Tk} {w w':World} (h:Env B ao ts w) (hb:Below B w w'):Env B ao ts w' :=
 ⟨fun h0=>by obtain ⟨g,hg,hgB,ht⟩:=h.sl h0;exact ⟨g,hg,hgB,y1e ht hgB hb⟩,h.gl,j3c h.eg h.gl hb,h.few,Nat.le_trans h.size hb.size⟩
theorem q2y {B:Nat} {ao:Option Addr} {ts:List Tk} {w:World} (h:Env B ao ts w):Sl w ao ts:=fun h0=>by
 obtain ⟨g,hg,hgB,ht⟩:=h.sl h0
 exact ⟨g,hg,Nat.lt_of_lt_of_le hgB h.size,ht⟩
theorem z1b {B rb:Nat} {ao:Option Addr} {cap:Nat} {ts:List Tk} {r:Rd} (x:ByteArray) (hat:r.at_ ≤ ts.length) (w:World) (h:q4c B rb (.slice ao ts.length cap) r w) (env:Env B ao ts w) :
  Calls Tryz.prog 256 #[.pointer (some ⟨rb,0,none⟩),.string x] w (q6v B rb (.slice ao ts.length cap) (takes ts x.data.toList r) r w) :=
 y7d x (by have:=env.few;omega) hat w h (q2y env)
set_option maxRecDepth 100000 in
set_option maxHeartbeats 4000000 in
theorem y6o {B rb:Nat} {ao:Option Addr} {cap:Nat} {ts:List Tk} {r:Rd} (hat:r.at_ ≤ ts.length) (hws:r.wait.length ≤ 1000) (hwi:r.within ≤ 1000) (w:World) (h:q4c B rb (.slice ao ts.length cap) r w) (env:Env B ao ts w) :
  Calls Tryz.prog 254 #[.pointer (some ⟨rb,0,none⟩)] w (q6v B rb (.slice ao ts.length cap) (ahead ts r) r w):=by
 have hA:=hiT h
 obtain ⟨i0,hi,hz1,hz2,hz3⟩:=info_parts Tryz.infoInt
 have sg1:=z4a env.eg 1 deT
 simp only [z7c,List.getD_cons_zero,List.getD_cons_succ] at sg1
 have hl:=y9v env.eg
 replace env:=hiT env
 clear h
 unfold ahead
 rcases t0:z2t ts r.at_ [110,111,116]
 ·rw [if_neg (by simp)]
  rcases t1:z2t ts r.at_ [45]
  ·rw [if_neg (by simp)]
   rcases t2:z2t ts r.at_ [40]
   ·rw [if_neg (by simp)]
    go_enter Tryz.func254,Tryz.ntmps254
    go_wp2_with fail
    refine (z1b ⟨#[110,111,116]⟩ hat _ hA.out env.out).mono ?_
    intro e w1 hr1
    rw [z4n t0] at hr1
    obtain ⟨rfl,h1,hb1⟩:=hr1
    have hA1:=hiT h1
    have env1:=hiT (z1d env.out hb1)
    have sg1_1:=z4a env1.out.eg 1 deT
    have sg1_2:=z4a env1.out.eg 2 deT
    simp only [z7c,List.getD_cons_zero,List.getD_cons_succ] at sg1_1 sg1_2
    go_wp2_with fail
    refine (z1b ⟨#[45]⟩ hat _ hA1.out env1.out).mono ?_
    intro e w2 hr2
    rw [z4n t1] at hr2
    obtain ⟨rfl,h2,hb2⟩:=hr2
    have hA2:=hiT h2
    have env2:=hiT (z1d env1.out hb2)
    have hb2:=hb1.trans hb2
    have sg2_1:=z4a env2.out.eg 1 deT
    have sg2_2:=z4a env2.out.eg 2 deT
    simp only [z7c,List.getD_cons_zero,List.getD_cons_succ] at sg2_1 sg2_2
    go_wp2_with fail
    refine (z1b ⟨#[40]⟩ hat _ hA2.out env2.out).mono ?_
    intro e w3 hr3
    rw [z4n t2] at hr3
    obtain ⟨rfl,h3,hb3⟩:=hr3
    have hA3:=hiT h3
    have env3:=hiT (z1d env2.out hb3)
    have hb3:=hb2.trans hb3
    go_wp2
    go_returns
    exact ⟨rfl,hA3.out,hb3⟩
   ·rw [if_pos rfl]
    go_enter Tryz.func254,Tryz.ntmps254
    go_wp2_with fail
    refine (z1b ⟨#[110,111,116]⟩ hat _ hA.out env.out).mono ?_
    intro e w1 hr1
    rw [z4n t0] at hr1
    obtain ⟨rfl,h1,hb1⟩:=hr1
    have hA1:=hiT h1
    have env1:=hiT (z1d env.out hb1)
    have sg1_1:=z4a env1.out.eg 1 deT
    have sg1_2:=z4a env1.out.eg 2 deT
    simp only [z7c,List.getD_cons_zero,List.getD_cons_succ] at sg1_1 sg1_2
    go_wp2_with fail
    refine (z1b ⟨#[45]⟩ hat _ hA1.out env1.out).mono ?_
    intro e w2 hr2
    rw [z4n t1] at hr2
    obtain ⟨rfl,h2,hb2⟩:=hr2
    have hA2:=hiT h2
    have env2:=hiT (z1d env1.out hb2)
    have hb2:=hb1.trans hb2
    have sg2_1:=z4a env2.out.eg 1 deT
    have sg2_2:=z4a env2.out.eg 2 deT
    simp only [z7c,List.getD_cons_zero,List.getD_cons_succ] at sg2_1 sg2_2
    go_wp2_with fail
    refine (z1b ⟨#[40]⟩ hat _ hA2.out env2.out).mono ?_
    intro e w3 hr3
    rw [q1d t2] at hr3
    obtain ⟨rfl,h3,hb3⟩:=hr3
    have hA3:=hiT h3
    have env3:=hiT (z1d env2.out hb3)
    have hb3:=hb2.trans hb3
    obtain ⟨nv,pv,wv,h3⟩:=h3
    obtain ⟨wa,wc,rfl⟩:=z0g h3.wait
    obtain ⟨c0,c1,c2,c3,c4,c5,hrb,hfr⟩:=z1r h3
    have hbase:=h3.base
    have f4:=hfr 4
    have f5:=hfr 5
    have i1:InW rb w3:=⟨hrb⟩
    have hsz:B ≤ w3.heap.size:=by omega
    have hq:=hiT h3
    have hwt:=hiT h3.wait
    clear h3 c0 c1 c2 c3 hfr
    go_wp2_with (at_builtin;refine wpList_append_lies _ rfl _ _ 40 rfl B 3 i0 _ 1 8 Tryz.underlying40 hi hz1 hz2 hz3 rfl deT (.slice wa r.wait.length wc) r.wait.length (q1k r.wait.reverse) rfl (z0a hwt.out gzT) ⟨_,0,none⟩ 1 1 [.int .i64 (-1)] rfl rfl (World.news_of_block (z2k _ _)) (by intro u hu;simp at hu;subst hu;rfl) deT (by unfold maxLen;omega) omT (by simp [go_sem];omega) _ rfl ?_)
    intro g cap' w9 hown1 hgrow hat1 hg1
    obtain ⟨k2,k3,k4,kf,kl⟩:=z4i hgrow hq.out hwt.out deT gzT
    have kf4:=kf 4
    have kf5:=kf 5
    have k5:w9.cell? ⟨rb,5,none⟩ = some (.int .i64 (r.within:Int)):=by rw [cell_of_row _ rb 5 _ _ _ (z0h (z0a hwt.out gzT) (z4c hq.out gzT).blk deT hgrow)];rfl
    have i9:InW rb w9:=⟨kl⟩
    have hz:=hiT (q8n (z4c hq.out gzT) hgrow hown1 rfl hat1 (by simp))
    have hbz:=z4h hgrow hwt.out hb3 gzT hsz
    clear hown1 hgrow hat1 hg1 kf
    go_wp2
    go_returns
    exact ⟨rfl,⟨_,_,_,j7k hz.out (r.within + 1) (x:=(r.within:Int) + 1) rfl⟩,Below.setCell (Below.setCell hbz hbase _) hbase _⟩
  ·rw [if_pos rfl]
   go_enter Tryz.func254,Tryz.ntmps254
   go_wp2_with fail
   refine (z1b ⟨#[110,111,116]⟩ hat _ hA.out env.out).mono ?_
   intro e w1 hr1
   rw [z4n t0] at hr1
   obtain ⟨rfl,h1,hb1⟩:=hr1
   have hA1:=hiT h1
   have env1:=hiT (z1d env.out hb1)
   have sg1_1:=z4a env1.out.eg 1 deT
   have sg1_2:=z4a env1.out.eg 2 deT
   simp only [z7c,List.getD_cons_zero,List.getD_cons_succ] at sg1_1 sg1_2
   go_wp2_with fail
   refine (z1b ⟨#[45]⟩ hat _ hA1.out env1.out).mono ?_
   intro e w2 hr2
   rw [q1d t1] at hr2
   obtain ⟨rfl,h2,hb2⟩:=hr2
   have hA2:=hiT h2
   have env2:=hiT (z1d env1.out hb2)
   have hb2:=hb1.trans hb2
   have sg2_1:=z4a env2.out.eg 1 deT
   have sg2_2:=z4a env2.out.eg 2 deT
   simp only [z7c,List.getD_cons_zero,List.getD_cons_succ] at sg2_1 sg2_2
   obtain ⟨nv,pv,wv,h2⟩:=h2
   obtain ⟨wa,wc,rfl⟩:=z0g h2.wait
   obtain ⟨c0,c1,c2,c3,c4,c5,hrb,hfr⟩:=z1r h2
   have hbase:=h2.base
   have f4:=hfr 4
   have f5:=hfr 5
   have i1:InW rb w2:=⟨hrb⟩
   have hsz:B ≤ w2.heap.size:=by omega
   have hq:=hiT h2
   have hwt:=hiT h2.wait
   clear h2 c0 c1 c2 c3 hfr
   go_wp2_with (at_builtin;refine wpList_append_lies _ rfl _ _ 40 rfl B 3 i0 _ 1 8 Tryz.underlying40 hi hz1 hz2 hz3 rfl deT (.slice wa r.wait.length wc) r.wait.length (q1k r.wait.reverse) rfl (z0a hwt.out gzT) ⟨_,0,none⟩ 1 1 [.int .i64 (2)] rfl rfl (World.news_of_block (z2k _ _)) (by intro u hu;simp at hu;subst hu;rfl) deT (by unfold maxLen;omega) omT (by simp [go_sem];omega) _ rfl ?_)
   intro g cap' w9 hown1 hgrow hat1 hg1
   obtain ⟨k2,k3,k4,kf,kl⟩:=z4i hgrow hq.out hwt.out deT gzT
   have kf4:=kf 4
   have i9:InW rb w9:=⟨kl⟩
   have hz:=hiT (q8n (z4c hq.out gzT) hgrow hown1 rfl hat1 (by simp))
   have hbz:=z4h hgrow hwt.out hb2 gzT hsz
   clear hown1 hgrow hat1 hg1 kf
   go_wp2
   go_returns
   exact ⟨rfl,⟨_,_,_,hz.out⟩,Below.setCell hbz hbase _⟩
 ·rw [if_pos rfl]
  go_enter Tryz.func254,Tryz.ntmps254
  go_wp2_with fail
  refine (z1b ⟨#[110,111,116]⟩ hat _ hA.out env.out).mono ?_
  intro e w1 hr1
  rw [q1d t0] at hr1
  obtain ⟨rfl,h1,hb1⟩:=hr1
  have hA1:=hiT h1
  have env1:=hiT (z1d env.out hb1)
  have sg1_1:=z4a env1.out.eg 1 deT
  have sg1_2:=z4a env1.out.eg 2 deT
  simp only [z7c,List.getD_cons_zero,List.getD_cons_succ] at sg1_1 sg1_2
  obtain ⟨nv,pv,wv,h1⟩:=h1
  obtain ⟨wa,wc,rfl⟩:=z0g h1.wait
  obtain ⟨c0,c1,c2,c3,c4,c5,hrb,hfr⟩:=z1r h1
  have hbase:=h1.base
  have f4:=hfr 4
  have f5:=hfr 5
  have i1:InW rb w1:=⟨hrb⟩
  have hsz:B ≤ w1.heap.size:=by omega
  have hq:=hiT h1
  have hwt:=hiT h1.wait
  clear h1 c0 c1 c2 c3 hfr
  go_wp2_with (at_builtin;refine wpList_append_lies _ rfl _ _ 40 rfl B 3 i0 _ 1 8 Tryz.underlying40 hi hz1 hz2 hz3 rfl deT (.slice wa r.wait.length wc) r.wait.length (q1k r.wait.reverse) rfl (z0a hwt.out gzT) ⟨_,0,none⟩ 1 1 [.int .i64 (1)] rfl rfl (World.news_of_block (z2k _ _)) (by intro u hu;simp at hu;subst hu;rfl) deT (by unfold maxLen;omega) omT (by simp [go_sem];omega) _ rfl ?_)
  intro g cap' w9 hown1 hgrow hat1 hg1
  obtain ⟨k2,k3,k4,kf,kl⟩:=z4i hgrow hq.out hwt.out deT gzT
  have kf4:=kf 4
  have i9:InW rb w9:=⟨kl⟩
  have hz:=hiT (q8n (z4c hq.out gzT) hgrow hown1 rfl hat1 (by simp))
  have hbz:=z4h hgrow hwt.out hb1 gzT hsz
  clear hown1 hgrow hat1 hg1 kf
  go_wp2
  go_returns
  exact ⟨rfl,⟨_,_,_,hz.out⟩,Below.setCell hbz hbase _⟩
def v0x (B rb:Nat) (lv:Value) (op:Int) (r:Rd) (w:World) (e:Ending) (w':World):Prop:=e = .returned (.tuple #[.int .i64 op,.bool (!(op == 0))]) ∧ q4c B rb lv r w' ∧ Below B w w'
theorem y6f (t:Tk) (i:Nat) (hi:i ≤ 15) (h:q0n t (z7c.getD i []) = true):z6s t (16 - i) (i:Int) = i:=by
 rw [show 16 - i = (15 - i) + 1 by omega,z6s,show ((i:Int)).toNat = i from rfl,h];rfl
theorem y0c (t:Tk) (i:Nat) (hi:i ≤ 15) (h:q0n t (z7c.getD i []) = false):z6s t (16 - i) (i:Int) = z6s t (16 - (i + 1)) ((i + 1:Nat):Int):=by
 rw [show 16 - i = (15 - i) + 1 by omega,z6s,show ((i:Int)).toNat = i from rfl,h,show 16 - (i + 1) = 15 - i by omega];rfl
set_option maxRecDepth 100000 in
set_option maxHeartbeats 4000000 in
theorem j7h {B rb:Nat} {ao:Option Addr} {cap:Nat} {ts:List Tk} {r:Rd} (hat:r.at_ ≤ ts.length) (w:World) (h:q4c B rb (.slice ao ts.length cap) r w) (env:Env B ao ts w) :
  Calls Tryz.prog 257 #[.pointer (some ⟨rb,0,none⟩)] w (v0x B rb (.slice ao ts.length cap) (between ts r.at_) r w):=by
 have hAt:=hiT h
 have hts:=env.few
 obtain ⟨nv,pv,wv,h⟩:=h
 obtain ⟨c0,c1,c2,c3,c4,c5,hrb,hfr⟩:=z1r h
 have hbase:=h.base
 have i1:InW rb w:=⟨hrb⟩
 have hsz:B ≤ w.heap.size:=by omega
 clear c2 c3 c4 c5 hfr
 by_cases he:r.at_ = ts.length
 ·have hn:between ts r.at_ = 0:=by unfold between;rw [List.getElem?_eq_none omT]
  rw [hn]
  have hd:((r.at_:Int) == (ts.length:Int)) = true:=by rw [beq_iff_eq];omega
  clear hn h he env
  go_enter Tryz.func257,Tryz.ntmps257
  go_wp2_with fail
  (refine z0d krT krT ?_;(repeat (go_big_quiet_step (fail)));refine wpQuiet_nil ?_;intro _ hw';obtain ⟨pg,hw''⟩:=hw';subst hw'')
  go_wp2
  go_returns
  exact ⟨rfl,z2c hAt.out gzT,gzT⟩
 ·have hlt:r.at_ < ts.length:=by omega
  obtain ⟨g,rfl,hgB,ht⟩:=env.sl omT
  have hg:g < w.heap.size:=by omega
  have hd:((r.at_:Int) == (ts.length:Int)) = false:=by rw [beq_eq_false_iff_ne];omega
  have hb0:between ts r.at_ = z6s ts[r.at_] (16 - 3) ((3:Nat):Int):=by unfold between;rw [List.getElem?_eq_getElem hlt];rfl
  rw [hb0]
  have I:=fun x b hb g wx hc=>hiT (q1y (ts[r.at_]'hlt).k ⟨(ts[r.at_]'hlt).s.toArray⟩ (ts[r.at_]'hlt).n ((ts[r.at_]'hlt).a:Int) x b hb g wx hc)
  replace I:=hiT I
  have hw:=fun i=>(rfl:q0n ts[r.at_] (z7c.getD i []) = _)
  have C:=fun wx hk=>q4w (w':=wx) ht hg hk r.at_ hlt
  have D:=fun wx hk=>z1r (z4c (w':=wx) h hk)
  have E:=fun wx hk=>z4a (j3c (w':=wx) env.eg (y9v env.eg) hk)
  have hgl:=y9v env.eg
  replace C:=hiT C
  replace D:=hiT D
  replace E:=hiT E
  have hit:=hiT (y6f ts[r.at_])
  have miss:=hiT (y0c ts[r.at_])
  have hend:z6s ts[r.at_] (16 - 16) ((16:Nat):Int) = 0:=rfl
  replace hend:=hiT hend
  clear hb0 he h ht env
  obtain ⟨a0,a1,a2,a3⟩:=C.out w (Below.refl _ _)
  have i2:InW g w:=⟨hg⟩
  obtain ⟨p,hp⟩:∃ p,z6s ts[r.at_] (16 - 3) ((3:Nat):Int) = p:=⟨_,rfl⟩
  rw [hp]
  generalize ts[r.at_] = t at *
  clear hw
  go_enter Tryz.func257,Tryz.ntmps257
  go_wp2_with fail
  (refine z0d krT krT ?_;(repeat (go_big_quiet_step (fail)));refine wpQuiet_nil ?_;intro _ hw';obtain ⟨pg,hw''⟩:=hw';subst hw'')
  go_wp2
  go_loopw [4] (fun v wr=>∃ i:Nat,3 ≤ i ∧ i ≤ 16 ∧ v = .int .i64 i ∧ p = z6s t (16 - i) (i:Int) ∧ Below w.heap.size w wr) (fun v _=>16 - (intOf v).toNat)
  case atStart=>exact ⟨3,Nat.le_refl _,by omega,rfl,hp.symm,gzT⟩
  case round =>
   obtain ⟨i,h3,h16,rfl,hop,hb⟩:=hrel
   rename World=>wr
   clear c0 c1 a0 a1 a2 a3 i1 i2
   obtain ⟨a0,a1,a2,a3⟩:=C.out wr hb
   obtain ⟨c0,c1,_,_,_,_,hrb1,_⟩:=D.out wr hb
   have hwz:=hb.size
   have hbB:Below B w wr:=hb.mono hsz
   have hsz2:B ≤ wr.heap.size:=by omega
   have i1:InW rb wr:=⟨hrb1⟩
   have i2:InW g wr:=⟨by omega⟩
   have i3:InW 12 wr:=⟨by omega⟩
   by_cases hl:i ≤ 15
   ·have s0:=E.out wr hb i omT
    rcases hwd:q0n t (z7c.getD i [])
    ·have hnext:=hiT (hop.trans (miss.out i hl hwd))
     have hwd':((t.k == 1 || t.k == 5) && (⟨t.s.toArray⟩:ByteArray).data.toList == (⟨(z7c.getD i []).toArray⟩:ByteArray).data.toList) = false:=hwd
     have I1:=fun g wx hc=>I.out _ _ hwd' g wx hc
     replace I1:=hiT I1
     clear hwd hwd' hop
     generalize (⟨(z7c.getD i []).toArray⟩:ByteArray) = x at *
     generalize t.k = tk at *
     generalize (⟨t.s.toArray⟩:ByteArray) = tx at *
     generalize t.n = tn at *
     generalize (t.a:Int) = ta at *
     have hli:(i:Int) < 16:=by omega
     go_wp2_with fail
     go_region_held3 (fun w'=>w'.cell? ⟨rb,0,none⟩ = some (.slice (some ⟨g,0,none⟩) ts.length cap) ∧ w'.cell? ⟨rb,1,none⟩ = some (.int .i64 (r.at_:Int)) ∧ w'.cell? ⟨g,r.at_ * 4,none⟩ = some (.int .i64 tk) ∧ w'.cell? ⟨g,r.at_ * 4 + 1,none⟩ = some (.string tx) ∧ w'.cell? ⟨g,r.at_ * 4 + 2,none⟩ = some (.int .i64 tn) ∧ w'.cell? ⟨g,r.at_ * 4 + 3,none⟩ = some (.int .i64 ta) ∧ w'.cell? ⟨12,i,none⟩ = some (.string x)) ((refine ⟨?_,?_,?_,?_,?_,?_,?_⟩ <;> first | assumption | (simp [go_sem, *];done))) (first | ((with_reducible refine ((I1.out _ _ (by simp [go_sem])).out).mono ?_);intro e w1 hr;obtain ⟨rfl,p,rfl⟩:=hr.out;clear hr))
     go_wp2
     go_roundw
     case rel=>exact ⟨i + 1,by omega,by omega,by go_num,hnext.out,gzT⟩
     case measure=>simp [intOf];omega
    ·have hres:=hiT (hop.trans (hit.out i hl hwd))
     have hwd':((t.k == 1 || t.k == 5) && (⟨t.s.toArray⟩:ByteArray).data.toList == (⟨(z7c.getD i []).toArray⟩:ByteArray).data.toList) = true:=hwd
     have I1:=fun g wx hc=>I.out _ _ hwd' g wx hc
     replace I1:=hiT I1
     clear hwd hwd' hop
     generalize (⟨(z7c.getD i []).toArray⟩:ByteArray) = x at *
     generalize t.k = tk at *
     generalize (⟨t.s.toArray⟩:ByteArray) = tx at *
     generalize t.n = tn at *
     generalize (t.a:Int) = ta at *
     have hli:(i:Int) < 16:=by omega
     have hnz:((i:Int) == 0) = false:=by rw [beq_eq_false_iff_ne];omega
     go_wp2_with fail
     go_region_held3 (fun w'=>w'.cell? ⟨rb,0,none⟩ = some (.slice (some ⟨g,0,none⟩) ts.length cap) ∧ w'.cell? ⟨rb,1,none⟩ = some (.int .i64 (r.at_:Int)) ∧ w'.cell? ⟨g,r.at_ * 4,none⟩ = some (.int .i64 tk) ∧ w'.cell? ⟨g,r.at_ * 4 + 1,none⟩ = some (.string tx) ∧ w'.cell? ⟨g,r.at_ * 4 + 2,none⟩ = some (.int .i64 tn) ∧ w'.cell? ⟨g,r.at_ * 4 + 3,none⟩ = some (.int .i64 ta) ∧ w'.cell? ⟨12,i,none⟩ = some (.string x)) ((refine ⟨?_,?_,?_,?_,?_,?_,?_⟩ <;> first | assumption | (simp [go_sem, *];done))) (first | ((with_reducible refine ((I1.out _ _ (by simp [go_sem])).out).mono ?_);intro e w1 hr;obtain ⟨rfl,p,rfl⟩:=hr.out;clear hr))
     go_wp2
     go_returns
     exact ⟨by rw [hres.out,hnz];rfl,z2c hAt.out gzT,gzT⟩
   ·obtain rfl:i = 16:=by omega
    have hres:=hiT (hop.trans hend.out)
    clear hop
    go_wp2
    go_returns
    exact ⟨by rw [hres.out];rfl,z2c hAt.out gzT,gzT⟩
theorem j6t (l:List Nat) (c f:Nat) (h:f + c = l.length):(z1h l.reverse).take (f * 1) = z1h (l.drop c).reverse:=by
 have e:l.reverse = (l.drop c).reverse ++ (l.take c).reverse:=by rw [← List.reverse_append,List.take_append_drop]
 have hl:(z1h (l.drop c).reverse).length = f:=by unfold z1h;simp;omega
 rw [e,Nat.mul_one]
 show (z1h ((l.drop c).reverse ++ (l.take c).reverse)).take f = _
 unfold z1h at *
 rw [List.map_append,List.take_left' hl]
theorem j6c (op:Int) (ws:List Int):(q1k (op :: ws).reverse).take (ws.length * 1) = q1k ws.reverse:=by
 unfold q1k
 rw [List.reverse_cons,List.map_append,List.take_left' (by simp)]
theorem v9k {B rb gp gw pc wc f c:Nat} {lv nv:Value} {r:Rd} {op:Int} {ws:List Int} {w:World} (hw:r.wait = op :: ws) (h:RdIs B rb lv r nv (.slice (some ⟨gp,0,none⟩) r.parts.length pc) (.slice (some ⟨gw,0,none⟩) r.wait.length wc) w) (hf:f + c = r.parts.length) :
  RdIs B rb lv { r with wait:=ws,parts:=r.parts.drop c } nv (.slice (some ⟨gp,0,none⟩) f pc) (.slice (some ⟨gw,0,none⟩) ws.length wc) ((w.setCell ⟨rb,4,none⟩ (.slice (some ⟨gw,0,none⟩) ws.length wc)).setCell ⟨rb,3,none⟩ (.slice (some ⟨gp,0,none⟩) f pc)):=by
 have hp:=q3n h.parts (k:=f) omT
 have hwt:=q3n h.wait (k:=ws.length) (by rw [hw];simp)
 rw [j6t _ c f hf] at hp
 rw [hw,j6c] at hwt
 have hb:=h.blk
 have hd:f = (r.parts.drop c).length:=by rw [List.length_drop];omega
 have h1:=z0l (i:=4) (u := .slice (some ⟨gw,0,none⟩) ws.length wc) hb
 have a1:=ownsRow_setCell_other h.nodes (z0n h.nodes hb deT) (.slice (some ⟨gw,0,none⟩) ws.length wc) (a:=⟨rb,4,none⟩)
 have a2:=ownsRow_setCell_other hp (z0n hp hb deT) (.slice (some ⟨gw,0,none⟩) ws.length wc) (a:=⟨rb,4,none⟩)
 have a3:=ownsRow_setCell_other hwt (z0n hwt hb deT) (.slice (some ⟨gw,0,none⟩) ws.length wc) (a:=⟨rb,4,none⟩)
 refine ⟨z0l h1,ownsRow_setCell_other a1 (z0n a1 h1 deT) _,?_,ownsRow_setCell_other a3 (z0n a3 h1 deT) _,h.apart,h.base⟩
 have:=ownsRow_setCell_other a2 (z0n a2 h1 deT) (.slice (some ⟨gp,0,none⟩) f pc) (a:=⟨rb,3,none⟩)
 show World.ownsRow _ _ _ _ _ (r.parts.drop c).length (z1h (r.parts.drop c).reverse)
 rw [← hd]
 exact this
theorem j6y {w:World} {g:Nat} {l:List Nat} {c f:Nat} (hf:f + c = l.length) (h:∀ j u,(z1h l.reverse)[j]? = some u → w.cell? ⟨g,j,none⟩ = some u) (hg:g < w.heap.size) :
  Ints w (some ⟨g,f,none⟩) ((l.take c).reverse.map fun (p:Nat)=>(p:Int)):=by
 intro i hi
 refine ⟨g,f,rfl,h _ _ ?_,hg⟩
 have e:l.reverse = (l.drop c).reverse ++ (l.take c).reverse:=by rw [← List.reverse_append,List.take_append_drop]
 have hl:(l.drop c).reverse.length = f:=by rw [List.length_reverse,List.length_drop];omega
 simp only [List.length_map] at hi
 unfold z1h
 rw [e,List.getElem?_map,List.getElem?_append_right omT,hl,Nat.add_sub_cancel_left,List.getElem?_eq_getElem hi]
 simp
theorem z2a {k:Nat} {ts:List Tk} {r:Rd} (g:Good k ts r) (h:ts.length ≤ 120):r.nodes.length ≤ 120 ∧ r.wait.length ≤ 120 ∧ r.parts.length ≤ 120 + k ∧ r.within ≤ 120:=by
 have h1:=g.sum
 have h2:=g.at_
 have h3:=g.par
 have h4:=g.wth
 have hb:∀ l:List Int,bins l ≤ l.length ∧ opens l ≤ l.length:=by
  intro l
  induction l with
  | nil=>exact ⟨Nat.le_refl _,Nat.le_refl _⟩
  | cons o l ih =>
   rw [bins,opens,List.length_cons]
   constructor <;> split <;> omega
 have:=hb r.wait
 omega
set_option maxRecDepth 100000 in
set_option maxHeartbeats 8000000 in
theorem q2e {B rb:Nat} {lv:Value} {ts:List Tk} {r:Rd} (least:Int) (hl:1 ≤ least) (_hl6:least ≤ 1000) (hts:ts.length ≤ 120) (g:Good 1 ts r) (w:World) (h:q4c B rb lv r w) (hsz:B ≤ w.heap.size) :
  Calls Tryz.prog 240 #[.pointer (some ⟨rb,0,none⟩),.int .i64 least] w (v0y B rb lv (finish least r) w):=by
 have hA:=hiT h
 obtain ⟨nv,pv,wv,h⟩:=h
 obtain ⟨wa,wc,rfl⟩:=z0g h.wait
 obtain ⟨c0,c1,c2,c3,c4,c5,hrb,hfr⟩:=z1r h
 have i1:InW rb w:=⟨hrb⟩
 have hbase:=h.base
 have hws:=(z2a g hts).2.1
 have gh:=hiT g
 clear h c0 c1 c2 c3 c5 hfr g
 go_enter Tryz.func240,Tryz.ntmps240
 go_wp2
 go_loopw [4] (fun v wr=>∃ r':Rd,v = .int .i64 (r'.wait.length:Int) ∧ q4c B rb lv r' wr ∧ Good 1 ts r' ∧ y2a least r'.wait r' = finish least r ∧ Below B w wr) (fun v _=>(intOf v).toNat)
 case atStart=>exact ⟨r,rfl,hA.out,gh.out,rfl,gzT⟩
 case round =>
  obtain ⟨q,rfl,hq,gq,hfin,hb⟩:=hrel
  rename World=>wr
  clear c4 i1
  have hqA:=hiT hq
  obtain ⟨nv1,pv1,wv1,h1⟩:=hq
  obtain ⟨qn,qw,qp,qi⟩:=z2a gq hts
  have hszr:B ≤ wr.heap.size:=Nat.le_trans hsz hb.size
  cases hw:q.wait with
  | nil =>
   have hres:=hiT (show q = finish least r from by rw [← hfin,hw];obtain ⟨a,nodes,parts,wait,within⟩:=q;simp only at hw;subst hw;rfl)
   simp only [List.length_nil]
   clear h1 hfin gq gh hA
   go_wp2
   go_returns
   exact ⟨rfl,by rw [← hres.out];exact hqA.out,gzT⟩
  | cons op ws =>
   obtain ⟨gw,wc1,e,hgw,hwcap,_,hwc⟩:=z1g h1.wait (by rw [hw];simp)
   subst e
   obtain ⟨gp,pc,e,hgp,hpc,hpm,hpcells⟩:=z1g h1.parts (by rw [gq.par];omega)
   subst e
   have wcell:wr.cell? ⟨gw,ws.length,none⟩ = some (.int .i64 op):=hwc _ _ (by rw [hw];simp [q1k])
   obtain ⟨d0,d1,d2,d3,d4,d5,drb,dfr⟩:=z1r h1
   have e3:=dfr 3
   have e4:=dfr 4
   have T:=fun wx=>hiT (q3x op wx)
   have hn1:q.wait.length = ws.length + 1:=by rw [hw];rfl
   rw [hn1] at d4
   rw [List.length_cons]
   rw [hn1] at qw
   have hn1':=hn1
   have j1:InW rb wr:=⟨drb⟩
   have j2:InW gw wr:=⟨hgw⟩
   have j3:InW gp wr:=⟨hgp⟩
   by_cases hlt:z4o op < least
   ·have hres:=hiT (show q = finish least r from by rw [← hfin,hw,y2a,if_pos hlt];obtain ⟨a,nodes,parts,wait,within⟩:=q;simp only at hw;subst hw;rfl)
    generalize z4o op = tt at *
    replace T:=hiT T
    clear h1 hfin gq gh hA hwc hpcells dfr d0 d1 d2 d5 hw hn1
    generalize ws.length = m at *
    go_wp2_with (first | ((with_reducible refine ((T.out _).out).mono ?_);rintro e w1 ⟨rfl,rfl⟩))
    go_returns
    exact ⟨rfl,by rw [← hres.out];exact hqA.out,gzT⟩
   ·have hop:¬ op = -1:=j2h hl hlt
    have hpg:=y2z hw hop gq
    have g2:=hpg.1
    have hcl:=hpg.2
    clear hpg
    have hnext:=hiT (show y2a least (q5v op ws q).wait (q5v op ws q) = finish least r from by rw [← hfin,hw,y2a,if_neg hlt];rfl)
    obtain ⟨f,hf⟩:∃ f,f + cnt op = q.parts.length:=⟨q.parts.length - cnt op,by omega⟩
    have hc1:1 ≤ cnt op:=by rw [y1v ((gq.ops op (by rw [hw];simp)).resolve_left hop)];omega
    have hc2:cnt op ≤ 2:=by
     unfold cnt
     (repeat' split) <;> omega
    have C:=fun wx=>hiT (q7h op wx)
    have hln:((q.parts.take (cnt op)).reverse.map fun (p:Nat)=>(p:Int)).length = cnt op:=by simp;omega
    have O:=fun wx (hk:Below wr.heap.size wr wx)=>hiT (z5x op (some ⟨gp,f,none⟩) (pc - f) ((q.parts.take (cnt op)).reverse.map fun (p:Nat)=>(p:Int)) (by rw [hln];omega) wx (fun i hi=>by
     obtain ⟨g',o',e',hc',hg'⟩:=j6y hf hpcells hgp i hi
     exact ⟨g',o',e',(hk.cell (p:=⟨g',_,none⟩) hg').trans hc',Nat.lt_of_lt_of_le hg' hk.size⟩))
    rw [hln,← x2m] at O
    have D:=fun wx (hk:Below wr.heap.size wr wx)=>z1r (z4c h1 hk)
    rw [hn1] at D
    replace D:=hiT D
    have P:=fun wx (hk:Below wr.heap.size wr wx)=>hiT (v9k (w:=wx) hw (z4c h1 hk) hf)
    have Ad:=fun wx hk=>hiT (j4g (B:=B) (rb:=rb) (lv:=lv) (r:={ q with wait:=ws,parts:=q.parts.drop (cnt op) }) (opn op (q.parts.take (cnt op)).reverse) (by show q.nodes.length ≤ 1000;omega) (by show (q.parts.drop (cnt op)).length ≤ 1000;rw [List.length_drop];omega) wx hk)
    have hrel2:=hiT (show q5v op ws q = Rd.add { q with wait:=ws,parts:=q.parts.drop (cnt op) } (opn op (q.parts.take (cnt op)).reverse) from rfl)
    have g3:=hiT g2
    unfold ndV at O Ad
    generalize z4o op = tt at *
    replace T:=hiT T
    replace O:=hiT O
    replace P:=hiT P
    replace Ad:=hiT Ad
    replace C:=hiT C
    clear h1 hfin gq gh hA hwc hpcells dfr d0 d1 d2 d5 hw hn1 hln g2 hqA
    generalize opn op (q.parts.take (cnt op)).reverse = nd at *
    generalize cnt op = c at *
    generalize q.parts.length = L at *
    subst hf
    have hmm:=hiT (rfl:ws.length = ws.length)
    go_wp2_with (first | ((with_reducible refine ((T.out _).out).mono ?_);rintro e w1 ⟨rfl,rfl⟩))
    (refine z0d krT krT ?_;(repeat (go_big_quiet_step (exact j4f ((C.out _).out))));refine wpQuiet_nil ?_;intro _ hw';obtain ⟨pg,hw''⟩:=hw';subst hw'')
    go_wp2_with ((with_reducible refine ((O.out _ gzT).out).mono ?_);intro e w1 hr;obtain ⟨rfl,p,rfl⟩:=hr.out;clear hr)
    go_wp2_with fail
    generalize hW:(G (pq p pg) wr).alloc _ = W
    generalize hnb:(G (pq p pg) wr).heap.size = nb
    have hbW:Below wr.heap.size wr W:=by rw [← hW];exact gzT
    have hnW:W.heap[nb]? = some (.cells #[.int .i64 nd.op,.int .i64 nd.k,.int .i64 nd.n,.string ⟨nd.s.toArray⟩,.string ⟨nd.name.toArray⟩,.int .i64 nd.l,.int .i64 nd.r] 239 (0,0)):=by rw [← hW,← hnb];exact z2k _ _
    have hnr:¬ rb = nb:=by have:=(z1e (pq p pg) wr).size;omega
    clear hW hnb d3 d4 e3 e4 j1 j2 j3 wcell
    obtain ⟨_,_,_,d3,d4,_,drb2,dfr⟩:=D.out W hbW
    have e3:=dfr 3
    have e4:=dfr 4
    have j1:InW rb W:=⟨drb2⟩
    clear dfr
    have m1:IntKind.i64.wrap (ws.length:Int) = (ws.length:Int):=by rw [IntKind.wrap_i64];omega
    have m2:(ws.length:Int) ≤ (wc1:Int):=by rw [hn1'] at hwcap;omega
    have m3:IntKind.i64.wrap (f:Int) = (f:Int):=by rw [IntKind.wrap_i64];omega
    have m4:(f:Int) ≤ (pc:Int):=by omega
    go_region
    have hP:=P.out W hbW
    have hnz:((W.setCell ⟨rb,4,none⟩ (.slice (some ⟨gw,0,none⟩) ws.length wc1)).setCell ⟨rb,3,none⟩ (.slice (some ⟨gp,0,none⟩) f pc)).heap[nb]? = _:=(Below.heap_setCell _ _ _ _ (fun e=>hnr e.symm)).trans ((Below.heap_setCell _ _ _ _ (fun e=>hnr e.symm)).trans hnW)
    have hbz:Below B w ((W.setCell ⟨rb,4,none⟩ (.slice (some ⟨gw,0,none⟩) ws.length wc1)).setCell ⟨rb,3,none⟩ (.slice (some ⟨gp,0,none⟩) f pc)):=Below.setCell (Below.setCell (hb.trans (hbW.mono hszr)) hbase _) hbase _
    clear d3 d4 e3 e4 j1 hnW P D O C T m1 m2 m3 m4
    generalize (W.setCell ⟨rb,4,none⟩ (.slice (some ⟨gw,0,none⟩) ws.length wc1)).setCell ⟨rb,3,none⟩ (.slice (some ⟨gp,0,none⟩) f pc) = wz at *
    have n0:=cell_of_row wz nb 0 _ _ _ hnz
    have n1:=cell_of_row wz nb 1 _ _ _ hnz
    have n2:=cell_of_row wz nb 2 _ _ _ hnz
    have n3:=cell_of_row wz nb 3 _ _ _ hnz
    have n4:=cell_of_row wz nb 4 _ _ _ hnz
    have n5:=cell_of_row wz nb 5 _ _ _ hnz
    have n6:=cell_of_row wz nb 6 _ _ _ hnz
    simp only [List.getElem?_toArray,List.getElem?_cons_zero,List.getElem?_cons_succ] at n0 n1 n2 n3 n4 n5 n6
    go_wp2_with fail
    refine ((Ad.out _ (z2c ⟨_,_,_,hP.out⟩ gzT)).out).mono ?_
    intro e w9 hr
    obtain ⟨rfl,h9,hb9⟩:=hr
    rw [← hrel2.out] at h9
    have hb10:Below B w w9:=Below.trans gzT hb9
    clear n0 n1 n2 n3 n4 n5 n6 hnz hP Ad
    have hlen:=hiT (show (q5v op ws q).wait.length = ws.length from rfl)
    go_wp2
    go_roundw
    case rel=>exact ⟨q5v op ws q,by rw [hlen.out],h9,g3.out,hnext.out,hb10⟩
    case measure=>simp [intOf]
end Go.Proofs.YtacnlghljmgdiaaGreatDoor
