/- Several texts of this proof, joined: X5, X6, X7, X8. -/
import Derived.Test.YtfgpmcepppcmiaaGreatDoorY2
import Derived.WalkKit
import Derived.ProofKit
import Derived.OpenShut
import Derived.Handy
import Derived.BigQuiet
import Derived.StillTailTactics
import Derived.Deep.RegionHeld3
import Derived.Lib.Hide
import Derived.WalkSmall
import Derived.WalkLawsBesides
import Derived.OwnWalk
import Derived.Deep.AppendLies
import Derived.Test.YtfgpmcepppcmiaaGreatDoorO1
import Derived.BigRegion
namespace Go.Proofs.YtfgpmcepppcmiaaGreatDoor
open Go.RowKit
set_option maxRecDepth 100000 in
set_option maxHeartbeats 4000000 in
theorem rname_any {B rb:Nat} {ao:Option Addr} {cap:Nat} {ts:List Tk} {r:Rd} (op:Int) (hts:ts.length ≤ 1000) (hat:r.at_ ≤ ts.length) (hns:r.nodes.length ≤ 1000) (hps:r.parts.length ≤ 1000) (w:World) (h:RdAt B rb (.slice ao ts.length cap) r w) (hl:Sl w ao ts) :
  Calls Tryz.prog 269 #[.pointer (some ⟨rb,0,none⟩),.int .i64 op] w (StepIs B rb (.slice ao ts.length cap) (rname op ts r) r w):=by
 have hAt:=Lib.hid h
 obtain ⟨nv,pv,wv,h⟩:=h
 obtain ⟨c0,c1,c2,c3,c4,c5,hrb,hfr⟩:=rd_cells h
 have f1:=hfr 1
 have hbase:=h.base
 have i1:InW rb w:=⟨hrb⟩
 have hsz:B ≤ w.heap.size:=by omega
 clear c2 c3 c4 c5 hfr
 by_cases he:r.at_ = ts.length
 ·have hn:rname op ts r = none:=by unfold rname nameAt;rw [List.getElem?_eq_none (by omega)]
  rw [hn]
  have hd:((r.at_:Int) == (ts.length:Int)) = true:=by rw [beq_iff_eq];omega
  clear hn h hl he
  go_enter Tryz.func269,Tryz.ntmps269
  go_wp2_with fail
  (refine wp_region_G (by kernel_rfl) (by kernel_rfl) ?_;(repeat (go_big_quiet_step (fail)));refine wpQuiet_nil ?_;intro _ hw';obtain ⟨pg,hw''⟩:=hw';subst hw'')
  go_wp2
  go_returns
  exact ⟨rfl,rdat_keep hAt.out (by (first | exact gwT | exact lzT)),by (first | exact gwT | exact lzT)⟩
 ·have hlt:r.at_ < ts.length:=by omega
  obtain ⟨g,rfl,hg,ht⟩:=hl (by omega)
  obtain ⟨a0,a1,a2,a3⟩:=ht r.at_ hlt
  have i2:InW g w:=⟨hg⟩
  have hd:((r.at_:Int) == (ts.length:Int)) = false:=by rw [beq_eq_false_iff_ne];omega
  have hres:rname op ts r = if (ts[r.at_].k == 1 && !meansB ts[r.at_].s) then some { r.add ⟨op,0,0,[],ts[r.at_].s,0,0⟩ with at_:=r.at_ + 1 } else none:=by
   unfold rname nameAt
   rw [List.getElem?_eq_getElem hlt]
   simp only
   cases hc:(ts[r.at_].k == 1 && !meansB ts[r.at_].s)
   ·rw [if_neg (by simp)];rfl
   ·rw [if_pos rfl];rfl
  rw [hres]
  have M:=fun wx=>Lib.hid (tmeans_any ⟨ts[r.at_].s.toArray⟩ wx)
  have Ad:=fun wx hk=>Lib.hid (radd_any (B:=B) (rb:=rb) (lv := .slice (some ⟨g,0,none⟩) ts.length cap) (r:=r) ⟨op,0,0,[],ts[r.at_].s,0,0⟩ hns hps wx hk)
  unfold ndV at Ad
  simp only at Ad M
  replace M:=Lib.hid M
  replace Ad:=Lib.hid Ad
  clear hres hl ht he h a2 a3
  generalize ts[r.at_].k = tk at *
  generalize hmb:meansB ts[r.at_].s = mb at *
  have hAq:=Lib.hid (rfl:(⟨ts[r.at_].s.toArray⟩:ByteArray) = ⟨ts[r.at_].s.toArray⟩)
  generalize ts[r.at_].s = tx at *
  clear hmb
  cases hk:(tk == 1)
  ·have hk2:(tk != 1) = true:=by rw [bne,hk];rfl
   rw [hk] at *
   go_enter Tryz.func269,Tryz.ntmps269
   go_wp2_with fail
   (refine wp_region_G (by kernel_rfl) (by kernel_rfl) ?_;(repeat (go_big_quiet_step (fail)));refine wpQuiet_nil ?_;intro _ hw';obtain ⟨pg,hw''⟩:=hw';subst hw'')
   go_wp2
   go_returns
   exact ⟨rfl,rdat_keep hAt.out (by (first | exact gwT | exact lzT)),by (first | exact gwT | exact lzT)⟩
  ·have hk2:(tk != 1) = false:=by rw [bne,hk];rfl
   rw [hk] at *
   cases mb
   ·go_enter Tryz.func269,Tryz.ntmps269
    go_wp2_with fail
    (refine wp_region_G (by kernel_rfl) (by kernel_rfl) ?_;(repeat (go_big_quiet_step (exact quietGW ((M.out _).out))));refine wpQuiet_nil ?_;intro _ hw';obtain ⟨pg,hw''⟩:=hw';subst hw'')
    go_wp2_with fail
    go_still_tail 14,(by kernel_rfl)
    change wpList _ _ _ _ _ (G pg w).drew
    go_wp2_with fail
    refine ((Ad.out _ (rdat_keep hAt.out (by (first | exact gwT | exact lzT)))).out).mono ?_
    intro e w1 hr
    obtain ⟨rfl,⟨nv1,pv1,wv1,h1⟩,hb1⟩:=hr
    obtain ⟨b0,b1,_,_,_,_,brb,bfr⟩:=rd_cells h1
    replace b1:w1.cell? ⟨rb,1,none⟩ = some (.int .i64 (r.at_:Int)):=b1
    have g1:=bfr 1
    have j1:InW rb w1:=⟨brb⟩
    have hq:=Lib.hid (rd_at h1 (r.at_ + 1) (x:=(r.at_:Int) + 1) rfl)
    have hb2:Below B w w1:=Below.trans (by (first | exact gwT | exact lzT)) hb1
    clear h1 hb1 Ad M c0 c1 f1 a0 a1 bfr
    go_wp2
    go_returns
    exact ⟨rfl,⟨_,_,_,hq.out⟩,Below.setCell hb2 hbase _⟩
   ·go_enter Tryz.func269,Tryz.ntmps269
    go_wp2_with fail
    (refine wp_region_G (by kernel_rfl) (by kernel_rfl) ?_;(repeat (go_big_quiet_step (exact quietGW ((M.out _).out))));refine wpQuiet_nil ?_;intro _ hw';obtain ⟨pg,hw''⟩:=hw';subst hw'')
    go_wp2
    go_returns
    exact ⟨rfl,rdat_keep hAt.out (by (first | exact gwT | exact lzT)),by (first | exact gwT | exact lzT)⟩
theorem is2_any (k:Int) (s:ByteArray) (n a:Int) (x y:ByteArray) (b:Bool) (hb:((k == 1 || k == 5) && (s.data.toList == x.data.toList || s.data.toList == y.data.toList)) = b) (g:Nat) (w:World) (hc:w.cell? ⟨g,0,none⟩ = some (.string x)) (hd:w.cell? ⟨g,1,none⟩ = some (.string y)) :
  Calls Tryz.prog 176 #[.agg #[.int .i64 k,.string s,.int .i64 n,.int .i64 a],.slice (some ⟨g,0,none⟩) 2 2] w (Ret (.bool b) w):=by
 have hz:Txts w (some ⟨g,0,none⟩) [x,y]:=by
  intro i hi
  simp only [List.length_cons,List.length_nil] at hi
  rcases (by omega:i = 0 ∨ i = 1) with rfl | rfl
  ·exact ⟨_,rfl,by simpa [go_sem,Addr.add] using hc⟩
  ·exact ⟨_,rfl,by simpa [go_sem,Addr.add] using hd⟩
 refine (is_any k s n a (some ⟨g,0,none⟩) [x,y] 2 (by simp) _ hz).mono fun e w' h=>⟨?_,h.2⟩
 rw [h.1,← hb]
 have e:∀ z:ByteArray,(z.data.toList == s.data.toList) = (s.data.toList == z.data.toList):=fun z=>by rw [Bool.eq_iff_iff,beq_iff_eq,beq_iff_eq];exact ⟨Eq.symm,Eq.symm⟩
 simp only [hasB,List.any_cons,List.any_nil,Bool.or_false,Lib.toList_data,e]
def bT:ByteArray:=⟨#[116,114,117,101]⟩
def bF:ByteArray:=⟨#[102,97,108,115,101]⟩
theorem value_of {ts:List Tk} {r:Rd} (h:r.at_ < ts.length):rvalue ts r = (if ts[r.at_].k == 3 then some ⟨0,1,ts[r.at_].n,[],[],0,0⟩ else if ts[r.at_].k == 4 then some ⟨0,3,0,ts[r.at_].s,[],0,0⟩ else if wordB ts[r.at_] [116,114,117,101] then some ⟨0,2,1,[],[],0,0⟩ else if wordB ts[r.at_] [102,97,108,115,101] then some ⟨0,2,0,[],[],0,0⟩ else (none:Option Nd)).map fun n=>{ r.add n with at_:=r.at_ + 1 }:=by
 unfold rvalue valueAt
 rw [List.getElem?_eq_getElem h]
 simp only
 repeat' split
 all_goals first | rfl | simp_all
set_option maxRecDepth 100000 in
set_option maxHeartbeats 4000000 in
theorem rvalue_any {B rb:Nat} {ao:Option Addr} {cap:Nat} {ts:List Tk} {r:Rd} (hts:ts.length ≤ 1000) (hat:r.at_ ≤ ts.length) (hns:r.nodes.length ≤ 1000) (hps:r.parts.length ≤ 1000) (w:World) (h:RdAt B rb (.slice ao ts.length cap) r w) (hl:Sl w ao ts) :
  Calls Tryz.prog 270 #[.pointer (some ⟨rb,0,none⟩)] w (StepIs B rb (.slice ao ts.length cap) (rvalue ts r) r w):=by
 have hAt:=Lib.hid h
 obtain ⟨nv,pv,wv,h⟩:=h
 obtain ⟨c0,c1,c2,c3,c4,c5,hrb,hfr⟩:=rd_cells h
 have f1:=hfr 1
 have hbase:=h.base
 have i1:InW rb w:=⟨hrb⟩
 have hsz:B ≤ w.heap.size:=by omega
 clear c2 c3 c4 c5 hfr
 by_cases he:r.at_ = ts.length
 ·have hn:rvalue ts r = none:=by unfold rvalue valueAt;rw [List.getElem?_eq_none (by omega)]
  rw [hn]
  have hd:((r.at_:Int) == (ts.length:Int)) = true:=by rw [beq_iff_eq];omega
  clear hn h hl he
  go_enter Tryz.func270,Tryz.ntmps270
  go_wp2_with fail
  (refine wp_region_G (by kernel_rfl) (by kernel_rfl) ?_;(repeat (go_big_quiet_step (fail)));refine wpQuiet_nil ?_;intro _ hw';obtain ⟨pg,hw''⟩:=hw';subst hw'')
  go_wp2
  go_returns
  exact ⟨rfl,rdat_keep hAt.out (by (first | exact gwT | exact lzT)),by (first | exact gwT | exact lzT)⟩
 ·have hlt:r.at_ < ts.length:=by omega
  obtain ⟨g,rfl,hg,ht⟩:=hl (by omega)
  obtain ⟨a0,a1,a2,a3⟩:=ht r.at_ hlt
  have i2:InW g w:=⟨hg⟩
  have hd:((r.at_:Int) == (ts.length:Int)) = false:=by rw [beq_eq_false_iff_ne];omega
  rw [value_of hlt]
  have Ad:=fun n wx hk=>Lib.hid (radd_any (B:=B) (rb:=rb) (lv := .slice (some ⟨g,0,none⟩) ts.length cap) (r:=r) n hns hps wx hk)
  unfold ndV at Ad
  replace Ad:=Lib.hid Ad
  obtain ⟨b1,hb1⟩:∃ b,wordB ts[r.at_] [116,114,117,101] = b:=⟨_,rfl⟩
  obtain ⟨b2,hb2⟩:∃ b,wordB ts[r.at_] [102,97,108,115,101] = b:=⟨_,rfl⟩
  rw [hb1,hb2]
  have I1:=fun g wx hc=>Lib.hid (is1_any ts[r.at_].k ⟨ts[r.at_].s.toArray⟩ ts[r.at_].n (ts[r.at_].a:Int) bT b1 hb1 g wx hc)
  have I2:=fun g wx hc hd=>Lib.hid (is2_any ts[r.at_].k ⟨ts[r.at_].s.toArray⟩ ts[r.at_].n (ts[r.at_].a:Int) bT bF (b1 || b2) (by rw [← hb1,← hb2,wordB,wordB,← Bool.and_or_distrib_left];rfl) g wx hc hd)
  unfold bT at I1 I2
  unfold bF at I2
  replace I1:=Lib.hid I1
  replace I2:=Lib.hid I2
  clear hl ht he h hb1 hb2
  generalize ts[r.at_].k = tk at *
  generalize hn':ts[r.at_].n = tn at *
  have hAq:=Lib.hid (rfl:(⟨ts[r.at_].s.toArray⟩:ByteArray) = ⟨ts[r.at_].s.toArray⟩)
  generalize ts[r.at_].s = tx at *
  generalize (ts[r.at_].a:Int) = ta at *
  clear hn' hAq
  rcases h3:(tk == 3)
  ·rcases h4:(tk == 4)
   ·cases b1
    ·cases b2
     ·go_enter Tryz.func270,Tryz.ntmps270
      go_wp2_with fail
      (refine wp_region_G (by kernel_rfl) (by kernel_rfl) ?_;(repeat (go_big_quiet_step (fail)));refine wpQuiet_nil ?_;intro _ hw';obtain ⟨pg,hw''⟩:=hw';subst hw'')
      go_wp2_with fail
      go_region_held3 (fun w'=>w'.cell? ⟨rb,0,none⟩ = some (.slice (some ⟨g,0,none⟩) ts.length cap) ∧ w'.cell? ⟨rb,1,none⟩ = some (.int .i64 (r.at_:Int)) ∧ w'.cell? ⟨g,r.at_ * 4,none⟩ = some (.int .i64 tk) ∧ w'.cell? ⟨g,r.at_ * 4 + 1,none⟩ = some (.string ⟨tx.toArray⟩) ∧ w'.cell? ⟨g,r.at_ * 4 + 2,none⟩ = some (.int .i64 tn) ∧ w'.cell? ⟨g,r.at_ * 4 + 3,none⟩ = some (.int .i64 ta)) ((refine ⟨?_,?_,?_,?_,?_,?_⟩ <;> first | assumption | (simp [go_sem, *];done))) (fail)
      go_wp2_with (first | ((with_reducible refine (of_any _ _).mono ?_);intro e w1 hr;obtain ⟨rfl,p,rfl⟩:=hr.out;clear hr) | ((with_reducible refine (word_any _ _).mono ?_);intro e w1 hr;obtain ⟨rfl,p,rfl⟩:=hr.out;clear hr) | ((with_reducible refine (truth_any _ _).mono ?_);intro e w1 hr;obtain ⟨rfl,p,rfl⟩:=hr.out;clear hr) | ((with_reducible refine ((I2.out _ _ (by simp [go_sem]) (by simp [go_sem])).out).mono ?_);intro e w1 hr;obtain ⟨rfl,p,rfl⟩:=hr.out;clear hr) | ((with_reducible refine ((I1.out _ _ (by simp [go_sem])).out).mono ?_);intro e w1 hr;obtain ⟨rfl,p,rfl⟩:=hr.out;clear hr))
      go_returns
      exact ⟨rfl,rdat_keep hAt.out (by (first | exact gwT | exact lzT)),by (first | exact gwT | exact lzT)⟩
     ·go_enter Tryz.func270,Tryz.ntmps270
      go_wp2_with fail
      (refine wp_region_G (by kernel_rfl) (by kernel_rfl) ?_;(repeat (go_big_quiet_step (fail)));refine wpQuiet_nil ?_;intro _ hw';obtain ⟨pg,hw''⟩:=hw';subst hw'')
      go_wp2_with fail
      go_region_held3 (fun w'=>w'.cell? ⟨rb,0,none⟩ = some (.slice (some ⟨g,0,none⟩) ts.length cap) ∧ w'.cell? ⟨rb,1,none⟩ = some (.int .i64 (r.at_:Int)) ∧ w'.cell? ⟨g,r.at_ * 4,none⟩ = some (.int .i64 tk) ∧ w'.cell? ⟨g,r.at_ * 4 + 1,none⟩ = some (.string ⟨tx.toArray⟩) ∧ w'.cell? ⟨g,r.at_ * 4 + 2,none⟩ = some (.int .i64 tn) ∧ w'.cell? ⟨g,r.at_ * 4 + 3,none⟩ = some (.int .i64 ta)) ((refine ⟨?_,?_,?_,?_,?_,?_⟩ <;> first | assumption | (simp [go_sem, *];done))) (fail)
      go_wp2_with (first | ((with_reducible refine (of_any _ _).mono ?_);intro e w1 hr;obtain ⟨rfl,p,rfl⟩:=hr.out;clear hr) | ((with_reducible refine (word_any _ _).mono ?_);intro e w1 hr;obtain ⟨rfl,p,rfl⟩:=hr.out;clear hr) | ((with_reducible refine (truth_any _ _).mono ?_);intro e w1 hr;obtain ⟨rfl,p,rfl⟩:=hr.out;clear hr) | ((with_reducible refine ((I2.out _ _ (by simp [go_sem]) (by simp [go_sem])).out).mono ?_);intro e w1 hr;obtain ⟨rfl,p,rfl⟩:=hr.out;clear hr) | ((with_reducible refine ((I1.out _ _ (by simp [go_sem])).out).mono ?_);intro e w1 hr;obtain ⟨rfl,p,rfl⟩:=hr.out;clear hr))
      refine ((Ad.out ⟨0,2,0,[],[],0,0⟩ _ (rdat_keep hAt.out (by (first | exact gwT | exact lzT)))).out).mono ?_
      intro e w1 hr
      obtain ⟨rfl,⟨nv1,pv1,wv1,h1⟩,hb1⟩:=hr
      obtain ⟨b0,b1,_,_,_,_,brb,bfr⟩:=rd_cells h1
      replace b1:w1.cell? ⟨rb,1,none⟩ = some (.int .i64 (r.at_:Int)):=b1
      have g1:=bfr 1
      have j1:InW rb w1:=⟨brb⟩
      have hq:=Lib.hid (rd_at h1 (r.at_ + 1) (x:=(r.at_:Int) + 1) rfl)
      have hb2:Below B w w1:=Below.trans (by (first | exact gwT | exact lzT)) hb1
      clear h1 hb1 Ad I1 I2 c0 c1 f1 a0 a1 a2 a3 bfr
      go_wp2
      go_returns
      exact ⟨rfl,⟨_,_,_,hq.out⟩,Below.setCell hb2 hbase _⟩
    ·go_enter Tryz.func270,Tryz.ntmps270
     go_wp2_with fail
     (refine wp_region_G (by kernel_rfl) (by kernel_rfl) ?_;(repeat (go_big_quiet_step (fail)));refine wpQuiet_nil ?_;intro _ hw';obtain ⟨pg,hw''⟩:=hw';subst hw'')
     go_wp2_with fail
     go_region_held3 (fun w'=>w'.cell? ⟨rb,0,none⟩ = some (.slice (some ⟨g,0,none⟩) ts.length cap) ∧ w'.cell? ⟨rb,1,none⟩ = some (.int .i64 (r.at_:Int)) ∧ w'.cell? ⟨g,r.at_ * 4,none⟩ = some (.int .i64 tk) ∧ w'.cell? ⟨g,r.at_ * 4 + 1,none⟩ = some (.string ⟨tx.toArray⟩) ∧ w'.cell? ⟨g,r.at_ * 4 + 2,none⟩ = some (.int .i64 tn) ∧ w'.cell? ⟨g,r.at_ * 4 + 3,none⟩ = some (.int .i64 ta)) ((refine ⟨?_,?_,?_,?_,?_,?_⟩ <;> first | assumption | (simp [go_sem, *];done))) (fail)
     go_wp2_with (first | ((with_reducible refine (of_any _ _).mono ?_);intro e w1 hr;obtain ⟨rfl,p,rfl⟩:=hr.out;clear hr) | ((with_reducible refine (word_any _ _).mono ?_);intro e w1 hr;obtain ⟨rfl,p,rfl⟩:=hr.out;clear hr) | ((with_reducible refine (truth_any _ _).mono ?_);intro e w1 hr;obtain ⟨rfl,p,rfl⟩:=hr.out;clear hr) | ((with_reducible refine ((I2.out _ _ (by simp [go_sem]) (by simp [go_sem])).out).mono ?_);intro e w1 hr;obtain ⟨rfl,p,rfl⟩:=hr.out;clear hr) | ((with_reducible refine ((I1.out _ _ (by simp [go_sem])).out).mono ?_);intro e w1 hr;obtain ⟨rfl,p,rfl⟩:=hr.out;clear hr))
     refine ((Ad.out ⟨0,2,1,[],[],0,0⟩ _ (rdat_keep hAt.out (by (first | exact gwT | exact lzT)))).out).mono ?_
     intro e w1 hr
     obtain ⟨rfl,⟨nv1,pv1,wv1,h1⟩,hb1⟩:=hr
     obtain ⟨b0,b1,_,_,_,_,brb,bfr⟩:=rd_cells h1
     replace b1:w1.cell? ⟨rb,1,none⟩ = some (.int .i64 (r.at_:Int)):=b1
     have g1:=bfr 1
     have j1:InW rb w1:=⟨brb⟩
     have hq:=Lib.hid (rd_at h1 (r.at_ + 1) (x:=(r.at_:Int) + 1) rfl)
     have hb2:Below B w w1:=Below.trans (by (first | exact gwT | exact lzT)) hb1
     clear h1 hb1 Ad I1 I2 c0 c1 f1 a0 a1 a2 a3 bfr
     go_wp2
     go_returns
     exact ⟨rfl,⟨_,_,_,hq.out⟩,Below.setCell hb2 hbase _⟩
   ·go_enter Tryz.func270,Tryz.ntmps270
    go_wp2_with fail
    (refine wp_region_G (by kernel_rfl) (by kernel_rfl) ?_;(repeat (go_big_quiet_step (fail)));refine wpQuiet_nil ?_;intro _ hw';obtain ⟨pg,hw''⟩:=hw';subst hw'')
    go_wp2_with fail
    go_region_held3 (fun w'=>w'.cell? ⟨rb,0,none⟩ = some (.slice (some ⟨g,0,none⟩) ts.length cap) ∧ w'.cell? ⟨rb,1,none⟩ = some (.int .i64 (r.at_:Int)) ∧ w'.cell? ⟨g,r.at_ * 4,none⟩ = some (.int .i64 tk) ∧ w'.cell? ⟨g,r.at_ * 4 + 1,none⟩ = some (.string ⟨tx.toArray⟩) ∧ w'.cell? ⟨g,r.at_ * 4 + 2,none⟩ = some (.int .i64 tn) ∧ w'.cell? ⟨g,r.at_ * 4 + 3,none⟩ = some (.int .i64 ta)) ((refine ⟨?_,?_,?_,?_,?_,?_⟩ <;> first | assumption | (simp [go_sem, *];done))) (fail)
    go_wp2_with (first | ((with_reducible refine (of_any _ _).mono ?_);intro e w1 hr;obtain ⟨rfl,p,rfl⟩:=hr.out;clear hr) | ((with_reducible refine (word_any _ _).mono ?_);intro e w1 hr;obtain ⟨rfl,p,rfl⟩:=hr.out;clear hr) | ((with_reducible refine (truth_any _ _).mono ?_);intro e w1 hr;obtain ⟨rfl,p,rfl⟩:=hr.out;clear hr) | ((with_reducible refine ((I2.out _ _ (by simp [go_sem]) (by simp [go_sem])).out).mono ?_);intro e w1 hr;obtain ⟨rfl,p,rfl⟩:=hr.out;clear hr) | ((with_reducible refine ((I1.out _ _ (by simp [go_sem])).out).mono ?_);intro e w1 hr;obtain ⟨rfl,p,rfl⟩:=hr.out;clear hr))
    refine ((Ad.out ⟨0,3,0,tx,[],0,0⟩ _ (rdat_keep hAt.out (by (first | exact gwT | exact lzT)))).out).mono ?_
    intro e w1 hr
    obtain ⟨rfl,⟨nv1,pv1,wv1,h1⟩,hb1⟩:=hr
    obtain ⟨b0,b1,_,_,_,_,brb,bfr⟩:=rd_cells h1
    replace b1:w1.cell? ⟨rb,1,none⟩ = some (.int .i64 (r.at_:Int)):=b1
    have g1:=bfr 1
    have j1:InW rb w1:=⟨brb⟩
    have hq:=Lib.hid (rd_at h1 (r.at_ + 1) (x:=(r.at_:Int) + 1) rfl)
    have hb2:Below B w w1:=Below.trans (by (first | exact gwT | exact lzT)) hb1
    clear h1 hb1 Ad I1 I2 c0 c1 f1 a0 a1 a2 a3 bfr
    go_wp2
    go_returns
    exact ⟨rfl,⟨_,_,_,hq.out⟩,Below.setCell hb2 hbase _⟩
  ·go_enter Tryz.func270,Tryz.ntmps270
   go_wp2_with fail
   (refine wp_region_G (by kernel_rfl) (by kernel_rfl) ?_;(repeat (go_big_quiet_step (fail)));refine wpQuiet_nil ?_;intro _ hw';obtain ⟨pg,hw''⟩:=hw';subst hw'')
   go_wp2_with fail
   go_region_held3 (fun w'=>w'.cell? ⟨rb,0,none⟩ = some (.slice (some ⟨g,0,none⟩) ts.length cap) ∧ w'.cell? ⟨rb,1,none⟩ = some (.int .i64 (r.at_:Int)) ∧ w'.cell? ⟨g,r.at_ * 4,none⟩ = some (.int .i64 tk) ∧ w'.cell? ⟨g,r.at_ * 4 + 1,none⟩ = some (.string ⟨tx.toArray⟩) ∧ w'.cell? ⟨g,r.at_ * 4 + 2,none⟩ = some (.int .i64 tn) ∧ w'.cell? ⟨g,r.at_ * 4 + 3,none⟩ = some (.int .i64 ta)) ((refine ⟨?_,?_,?_,?_,?_,?_⟩ <;> first | assumption | (simp [go_sem, *];done))) (fail)
   go_wp2_with (first | ((with_reducible refine (of_any _ _).mono ?_);intro e w1 hr;obtain ⟨rfl,p,rfl⟩:=hr.out;clear hr) | ((with_reducible refine (word_any _ _).mono ?_);intro e w1 hr;obtain ⟨rfl,p,rfl⟩:=hr.out;clear hr) | ((with_reducible refine (truth_any _ _).mono ?_);intro e w1 hr;obtain ⟨rfl,p,rfl⟩:=hr.out;clear hr) | ((with_reducible refine ((I2.out _ _ (by simp [go_sem]) (by simp [go_sem])).out).mono ?_);intro e w1 hr;obtain ⟨rfl,p,rfl⟩:=hr.out;clear hr) | ((with_reducible refine ((I1.out _ _ (by simp [go_sem])).out).mono ?_);intro e w1 hr;obtain ⟨rfl,p,rfl⟩:=hr.out;clear hr))
   refine ((Ad.out ⟨0,1,tn,[],[],0,0⟩ _ (rdat_keep hAt.out (by (first | exact gwT | exact lzT)))).out).mono ?_
   intro e w1 hr
   obtain ⟨rfl,⟨nv1,pv1,wv1,h1⟩,hb1⟩:=hr
   obtain ⟨b0,b1,_,_,_,_,brb,bfr⟩:=rd_cells h1
   replace b1:w1.cell? ⟨rb,1,none⟩ = some (.int .i64 (r.at_:Int)):=b1
   have g1:=bfr 1
   have j1:InW rb w1:=⟨brb⟩
   have hq:=Lib.hid (rd_at h1 (r.at_ + 1) (x:=(r.at_:Int) + 1) rfl)
   have hb2:Below B w w1:=Below.trans (by (first | exact gwT | exact lzT)) hb1
   clear h1 hb1 Ad I1 I2 c0 c1 f1 a0 a1 a2 a3 bfr
   go_wp2
   go_returns
   exact ⟨rfl,⟨_,_,_,hq.out⟩,Below.setCell hb2 hbase _⟩
end Go.Proofs.YtfgpmcepppcmiaaGreatDoor
namespace Go.Proofs.YtfgpmcepppcmiaaGreatDoor
open Go.RowKit
def esignsV:Array Value:=(signL.map fun l=>Value.string ⟨l.toArray⟩).toArray
def Eg (w:World):Prop:=w.var? Tryz.prog "whirligig/expr.signs" = some esignsV
theorem eg_global:Tryz.prog.globalNamed "whirligig/expr.signs" = some 12:=by kernel_rfl
theorem eg_lt {w:World} (h:Eg w):12 < w.heap.size:=global_lt eg_global h
theorem eg_keep {B:Nat} {w w':World} (h:Eg w) (hB:12 < B) (hb:Below B w w'):Eg w':=var?_below hb eg_global hB h
theorem eg_cell {w:World} (h:Eg w) (i:Nat) (hi:i < 16):w.cell? ⟨12,i,none⟩ = some (.string ⟨(signL.getD i []).toArray⟩):=by
 rw [World.var?_cell eg_global h i]
 have h:∀ k,k < 16 → k = 0 ∨ k = 1 ∨ k = 2 ∨ k = 3 ∨ k = 4 ∨ k = 5 ∨ k = 6 ∨ k = 7 ∨ k = 8 ∨ k = 9 ∨ k = 10 ∨ k = 11 ∨ k = 12 ∨ k = 13 ∨ k = 14 ∨ k = 15:=by omega
 rcases h i hi with rfl | rfl | rfl | rfl | rfl | rfl | rfl | rfl | rfl | rfl | rfl | rfl | rfl | rfl | rfl | rfl <;> rfl
structure Env (B:Nat) (ao:Option Addr) (ts:List Tk) (w:World):Prop where
 sl:0 < ts.length → ∃ g,ao = some ⟨g,0,none⟩ ∧ g < B ∧ Toks w g ts
 gl:12 < B
 eg:Eg w
 few:ts.length ≤ 120
 size:B ≤ w.heap.size
theorem toks_belowB {B:Nat} {w w':World} {g:Nat} {ts:List Tk} (h:Toks w g ts) (hg:g < B) (hb:Below B w w'):Toks w' g ts:=by
 intro i hi
 obtain ⟨h1,h2,h3,h4⟩:=h i hi
 exact ⟨(hb.cell (p:=⟨g,_,none⟩) hg).trans h1,(hb.cell (p:=⟨g,_,none⟩) hg).trans h2,(hb.cell (p:=⟨g,_,none⟩) hg).trans h3,(hb.cell (p:=⟨g,_,none⟩) hg).trans h4⟩
theorem env_keep {B:Nat} {ao:Option Addr} {ts:List Tk} {w w':World} (h:Env B ao ts w) (hb:Below B w w'):Env B ao ts w' :=
 ⟨fun h0=>by obtain ⟨g,hg,hgB,ht⟩:=h.sl h0;exact ⟨g,hg,hgB,toks_belowB ht hgB hb⟩,h.gl,eg_keep h.eg h.gl hb,h.few,Nat.le_trans h.size hb.size⟩
theorem env_sl {B:Nat} {ao:Option Addr} {ts:List Tk} {w:World} (h:Env B ao ts w):Sl w ao ts:=fun h0=>by
 obtain ⟨g,hg,hgB,ht⟩:=h.sl h0
 exact ⟨g,hg,Nat.lt_of_lt_of_le hgB h.size,ht⟩
theorem etakes_any {B rb:Nat} {ao:Option Addr} {cap:Nat} {ts:List Tk} {r:Rd} (x:ByteArray) (hat:r.at_ ≤ ts.length) (w:World) (h:RdAt B rb (.slice ao ts.length cap) r w) (env:Env B ao ts w) :
  Calls Tryz.prog 257 #[.pointer (some ⟨rb,0,none⟩),.string x] w (StepIs B rb (.slice ao ts.length cap) (takes ts x.data.toList r) r w) :=
 rtakes_any x (by have:=env.few;omega) hat w h (env_sl env)
set_option maxRecDepth 100000 in
set_option maxHeartbeats 4000000 in
theorem rahead_any {B rb:Nat} {ao:Option Addr} {cap:Nat} {ts:List Tk} {r:Rd} (hat:r.at_ ≤ ts.length) (hws:r.wait.length ≤ 1000) (hwi:r.within ≤ 1000) (w:World) (h:RdAt B rb (.slice ao ts.length cap) r w) (env:Env B ao ts w) :
  Calls Tryz.prog 255 #[.pointer (some ⟨rb,0,none⟩)] w (StepIs B rb (.slice ao ts.length cap) (ahead ts r) r w):=by
 have hA:=Lib.hid h
 obtain ⟨i0,hi,hz1,hz2,hz3⟩:=info_parts Tryz.infoInt
 have sg1:=eg_cell env.eg 1 (by decide)
 simp only [signL,List.getD_cons_zero,List.getD_cons_succ] at sg1
 have hl:=eg_lt env.eg
 replace env:=Lib.hid env
 clear h
 unfold ahead
 rcases t0:tkAt ts r.at_ [110,111,116]
 ·rw [if_neg (by simp)]
  rcases t1:tkAt ts r.at_ [45]
  ·rw [if_neg (by simp)]
   rcases t2:tkAt ts r.at_ [40]
   ·rw [if_neg (by simp)]
    go_enter Tryz.func255,Tryz.ntmps255
    go_wp2_with fail
    refine (etakes_any ⟨#[110,111,116]⟩ hat _ hA.out env.out).mono ?_
    intro e w1 hr1
    rw [takes_none t0] at hr1
    obtain ⟨rfl,h1,hb1⟩:=hr1
    have hA1:=Lib.hid h1
    have env1:=Lib.hid (env_keep env.out hb1)
    have sg1_1:=eg_cell env1.out.eg 1 (by decide)
    have sg1_2:=eg_cell env1.out.eg 2 (by decide)
    simp only [signL,List.getD_cons_zero,List.getD_cons_succ] at sg1_1 sg1_2
    go_wp2_with fail
    refine (etakes_any ⟨#[45]⟩ hat _ hA1.out env1.out).mono ?_
    intro e w2 hr2
    rw [takes_none t1] at hr2
    obtain ⟨rfl,h2,hb2⟩:=hr2
    have hA2:=Lib.hid h2
    have env2:=Lib.hid (env_keep env1.out hb2)
    have hb2:=hb1.trans hb2
    have sg2_1:=eg_cell env2.out.eg 1 (by decide)
    have sg2_2:=eg_cell env2.out.eg 2 (by decide)
    simp only [signL,List.getD_cons_zero,List.getD_cons_succ] at sg2_1 sg2_2
    go_wp2_with fail
    refine (etakes_any ⟨#[40]⟩ hat _ hA2.out env2.out).mono ?_
    intro e w3 hr3
    rw [takes_none t2] at hr3
    obtain ⟨rfl,h3,hb3⟩:=hr3
    have hA3:=Lib.hid h3
    have env3:=Lib.hid (env_keep env2.out hb3)
    have hb3:=hb2.trans hb3
    go_wp2
    go_returns
    exact ⟨rfl,hA3.out,hb3⟩
   ·rw [if_pos rfl]
    go_enter Tryz.func255,Tryz.ntmps255
    go_wp2_with fail
    refine (etakes_any ⟨#[110,111,116]⟩ hat _ hA.out env.out).mono ?_
    intro e w1 hr1
    rw [takes_none t0] at hr1
    obtain ⟨rfl,h1,hb1⟩:=hr1
    have hA1:=Lib.hid h1
    have env1:=Lib.hid (env_keep env.out hb1)
    have sg1_1:=eg_cell env1.out.eg 1 (by decide)
    have sg1_2:=eg_cell env1.out.eg 2 (by decide)
    simp only [signL,List.getD_cons_zero,List.getD_cons_succ] at sg1_1 sg1_2
    go_wp2_with fail
    refine (etakes_any ⟨#[45]⟩ hat _ hA1.out env1.out).mono ?_
    intro e w2 hr2
    rw [takes_none t1] at hr2
    obtain ⟨rfl,h2,hb2⟩:=hr2
    have hA2:=Lib.hid h2
    have env2:=Lib.hid (env_keep env1.out hb2)
    have hb2:=hb1.trans hb2
    have sg2_1:=eg_cell env2.out.eg 1 (by decide)
    have sg2_2:=eg_cell env2.out.eg 2 (by decide)
    simp only [signL,List.getD_cons_zero,List.getD_cons_succ] at sg2_1 sg2_2
    go_wp2_with fail
    refine (etakes_any ⟨#[40]⟩ hat _ hA2.out env2.out).mono ?_
    intro e w3 hr3
    rw [takes_some t2] at hr3
    obtain ⟨rfl,h3,hb3⟩:=hr3
    have hA3:=Lib.hid h3
    have env3:=Lib.hid (env_keep env2.out hb3)
    have hb3:=hb2.trans hb3
    obtain ⟨nv,pv,wv,h3⟩:=h3
    obtain ⟨wa,wc,rfl⟩:=own_form h3.wait
    obtain ⟨c0,c1,c2,c3,c4,c5,hrb,hfr⟩:=rd_cells h3
    have hbase:=h3.base
    have f4:=hfr 4
    have f5:=hfr 5
    have i1:InW rb w3:=⟨hrb⟩
    have hsz:B ≤ w3.heap.size:=by omega
    have hq:=Lib.hid h3
    have hwt:=Lib.hid h3.wait
    clear h3 c0 c1 c2 c3 hfr
    go_wp2_with (at_builtin;refine wpList_append_lies _ rfl _ _ 40 rfl B 3 i0 _ 1 8 Tryz.underlying40 hi hz1 hz2 hz3 rfl (by decide) (.slice wa r.wait.length wc) r.wait.length (intsC r.wait.reverse) rfl (owns_below hwt.out (by (first | exact gwT | exact lzT))) ⟨_,0,none⟩ 1 1 [.int .i64 (-1)] rfl rfl (World.news_of_block (new_block _ _)) (by intro u hu;simp at hu;subst hu;rfl) (by decide) (by unfold maxLen;omega) (by omega) (by simp [go_sem];omega) _ rfl ?_)
    intro g cap' w9 hown1 hgrow hat1 hg1
    obtain ⟨k2,k3,k4,kf,kl⟩:=grown_cells hgrow hq.out hwt.out (by decide) (by (first | exact gwT | exact lzT))
    have kf4:=kf 4
    have kf5:=kf 5
    have k5:w9.cell? ⟨rb,5,none⟩ = some (.int .i64 (r.within:Int)):=by rw [cell_of_row _ rb 5 _ _ _ (grown_blk (owns_below hwt.out (by (first | exact gwT | exact lzT))) (rd_keep hq.out (by (first | exact gwT | exact lzT))).blk (by decide) hgrow)];rfl
    have i9:InW rb w9:=⟨kl⟩
    have hz:=Lib.hid (rd_wait (rd_keep hq.out (by (first | exact gwT | exact lzT))) hgrow hown1 rfl hat1 (by simp))
    have hbz:=grown_below hgrow hwt.out hb3 (by (first | exact gwT | exact lzT)) hsz
    clear hown1 hgrow hat1 hg1 kf
    go_wp2
    go_returns
    exact ⟨rfl,⟨_,_,_,rd_within hz.out (r.within + 1) (x:=(r.within:Int) + 1) rfl⟩,Below.setCell (Below.setCell hbz hbase _) hbase _⟩
  ·rw [if_pos rfl]
   go_enter Tryz.func255,Tryz.ntmps255
   go_wp2_with fail
   refine (etakes_any ⟨#[110,111,116]⟩ hat _ hA.out env.out).mono ?_
   intro e w1 hr1
   rw [takes_none t0] at hr1
   obtain ⟨rfl,h1,hb1⟩:=hr1
   have hA1:=Lib.hid h1
   have env1:=Lib.hid (env_keep env.out hb1)
   have sg1_1:=eg_cell env1.out.eg 1 (by decide)
   have sg1_2:=eg_cell env1.out.eg 2 (by decide)
   simp only [signL,List.getD_cons_zero,List.getD_cons_succ] at sg1_1 sg1_2
   go_wp2_with fail
   refine (etakes_any ⟨#[45]⟩ hat _ hA1.out env1.out).mono ?_
   intro e w2 hr2
   rw [takes_some t1] at hr2
   obtain ⟨rfl,h2,hb2⟩:=hr2
   have hA2:=Lib.hid h2
   have env2:=Lib.hid (env_keep env1.out hb2)
   have hb2:=hb1.trans hb2
   have sg2_1:=eg_cell env2.out.eg 1 (by decide)
   have sg2_2:=eg_cell env2.out.eg 2 (by decide)
   simp only [signL,List.getD_cons_zero,List.getD_cons_succ] at sg2_1 sg2_2
   obtain ⟨nv,pv,wv,h2⟩:=h2
   obtain ⟨wa,wc,rfl⟩:=own_form h2.wait
   obtain ⟨c0,c1,c2,c3,c4,c5,hrb,hfr⟩:=rd_cells h2
   have hbase:=h2.base
   have f4:=hfr 4
   have f5:=hfr 5
   have i1:InW rb w2:=⟨hrb⟩
   have hsz:B ≤ w2.heap.size:=by omega
   have hq:=Lib.hid h2
   have hwt:=Lib.hid h2.wait
   clear h2 c0 c1 c2 c3 hfr
   go_wp2_with (at_builtin;refine wpList_append_lies _ rfl _ _ 40 rfl B 3 i0 _ 1 8 Tryz.underlying40 hi hz1 hz2 hz3 rfl (by decide) (.slice wa r.wait.length wc) r.wait.length (intsC r.wait.reverse) rfl (owns_below hwt.out (by (first | exact gwT | exact lzT))) ⟨_,0,none⟩ 1 1 [.int .i64 (2)] rfl rfl (World.news_of_block (new_block _ _)) (by intro u hu;simp at hu;subst hu;rfl) (by decide) (by unfold maxLen;omega) (by omega) (by simp [go_sem];omega) _ rfl ?_)
   intro g cap' w9 hown1 hgrow hat1 hg1
   obtain ⟨k2,k3,k4,kf,kl⟩:=grown_cells hgrow hq.out hwt.out (by decide) (by (first | exact gwT | exact lzT))
   have kf4:=kf 4
   have i9:InW rb w9:=⟨kl⟩
   have hz:=Lib.hid (rd_wait (rd_keep hq.out (by (first | exact gwT | exact lzT))) hgrow hown1 rfl hat1 (by simp))
   have hbz:=grown_below hgrow hwt.out hb2 (by (first | exact gwT | exact lzT)) hsz
   clear hown1 hgrow hat1 hg1 kf
   go_wp2
   go_returns
   exact ⟨rfl,⟨_,_,_,hz.out⟩,Below.setCell hbz hbase _⟩
 ·rw [if_pos rfl]
  go_enter Tryz.func255,Tryz.ntmps255
  go_wp2_with fail
  refine (etakes_any ⟨#[110,111,116]⟩ hat _ hA.out env.out).mono ?_
  intro e w1 hr1
  rw [takes_some t0] at hr1
  obtain ⟨rfl,h1,hb1⟩:=hr1
  have hA1:=Lib.hid h1
  have env1:=Lib.hid (env_keep env.out hb1)
  have sg1_1:=eg_cell env1.out.eg 1 (by decide)
  have sg1_2:=eg_cell env1.out.eg 2 (by decide)
  simp only [signL,List.getD_cons_zero,List.getD_cons_succ] at sg1_1 sg1_2
  obtain ⟨nv,pv,wv,h1⟩:=h1
  obtain ⟨wa,wc,rfl⟩:=own_form h1.wait
  obtain ⟨c0,c1,c2,c3,c4,c5,hrb,hfr⟩:=rd_cells h1
  have hbase:=h1.base
  have f4:=hfr 4
  have f5:=hfr 5
  have i1:InW rb w1:=⟨hrb⟩
  have hsz:B ≤ w1.heap.size:=by omega
  have hq:=Lib.hid h1
  have hwt:=Lib.hid h1.wait
  clear h1 c0 c1 c2 c3 hfr
  go_wp2_with (at_builtin;refine wpList_append_lies _ rfl _ _ 40 rfl B 3 i0 _ 1 8 Tryz.underlying40 hi hz1 hz2 hz3 rfl (by decide) (.slice wa r.wait.length wc) r.wait.length (intsC r.wait.reverse) rfl (owns_below hwt.out (by (first | exact gwT | exact lzT))) ⟨_,0,none⟩ 1 1 [.int .i64 (1)] rfl rfl (World.news_of_block (new_block _ _)) (by intro u hu;simp at hu;subst hu;rfl) (by decide) (by unfold maxLen;omega) (by omega) (by simp [go_sem];omega) _ rfl ?_)
  intro g cap' w9 hown1 hgrow hat1 hg1
  obtain ⟨k2,k3,k4,kf,kl⟩:=grown_cells hgrow hq.out hwt.out (by decide) (by (first | exact gwT | exact lzT))
  have kf4:=kf 4
  have i9:InW rb w9:=⟨kl⟩
  have hz:=Lib.hid (rd_wait (rd_keep hq.out (by (first | exact gwT | exact lzT))) hgrow hown1 rfl hat1 (by simp))
  have hbz:=grown_below hgrow hwt.out hb1 (by (first | exact gwT | exact lzT)) hsz
  clear hown1 hgrow hat1 hg1 kf
  go_wp2
  go_returns
  exact ⟨rfl,⟨_,_,_,hz.out⟩,Below.setCell hbz hbase _⟩
end Go.Proofs.YtfgpmcepppcmiaaGreatDoor
namespace Go.Proofs.YtfgpmcepppcmiaaGreatDoor
open Go.RowKit
def BetwIs (B rb:Nat) (lv:Value) (op:Int) (r:Rd) (w:World) (e:Ending) (w':World):Prop:=e = .returned (.tuple #[.int .i64 op,.bool (!(op == 0))]) ∧ RdAt B rb lv r w' ∧ Below B w w'
theorem opFrom_hit (t:Tk) (i:Nat) (hi:i ≤ 15) (h:wordB t (signL.getD i []) = true):opFrom t (16 - i) (i:Int) = i:=by
 rw [show 16 - i = (15 - i) + 1 by omega,opFrom,show ((i:Int)).toNat = i from rfl,h];rfl
theorem opFrom_miss (t:Tk) (i:Nat) (hi:i ≤ 15) (h:wordB t (signL.getD i []) = false):opFrom t (16 - i) (i:Int) = opFrom t (16 - (i + 1)) ((i + 1:Nat):Int):=by
 rw [show 16 - i = (15 - i) + 1 by omega,opFrom,show ((i:Int)).toNat = i from rfl,h,show 16 - (i + 1) = 15 - i by omega];rfl
set_option maxRecDepth 100000 in
set_option maxHeartbeats 4000000 in
theorem rbetween_any {B rb:Nat} {ao:Option Addr} {cap:Nat} {ts:List Tk} {r:Rd} (hat:r.at_ ≤ ts.length) (w:World) (h:RdAt B rb (.slice ao ts.length cap) r w) (env:Env B ao ts w) :
  Calls Tryz.prog 258 #[.pointer (some ⟨rb,0,none⟩)] w (BetwIs B rb (.slice ao ts.length cap) (between ts r.at_) r w):=by
 have hAt:=Lib.hid h
 have hts:=env.few
 obtain ⟨nv,pv,wv,h⟩:=h
 obtain ⟨c0,c1,c2,c3,c4,c5,hrb,hfr⟩:=rd_cells h
 have hbase:=h.base
 have i1:InW rb w:=⟨hrb⟩
 have hsz:B ≤ w.heap.size:=by omega
 clear c2 c3 c4 c5 hfr
 by_cases he:r.at_ = ts.length
 ·have hn:between ts r.at_ = 0:=by unfold between;rw [List.getElem?_eq_none (by omega)]
  rw [hn]
  have hd:((r.at_:Int) == (ts.length:Int)) = true:=by rw [beq_iff_eq];omega
  clear hn h he env
  go_enter Tryz.func258,Tryz.ntmps258
  go_wp2_with fail
  (refine wp_region_G (by kernel_rfl) (by kernel_rfl) ?_;(repeat (go_big_quiet_step (fail)));refine wpQuiet_nil ?_;intro _ hw';obtain ⟨pg,hw''⟩:=hw';subst hw'')
  go_wp2
  go_returns
  exact ⟨rfl,rdat_keep hAt.out (by (first | exact gwT | exact lzT)),by (first | exact gwT | exact lzT)⟩
 ·have hlt:r.at_ < ts.length:=by omega
  obtain ⟨g,rfl,hgB,ht⟩:=env.sl (by omega)
  have hg:g < w.heap.size:=by omega
  have hd:((r.at_:Int) == (ts.length:Int)) = false:=by rw [beq_eq_false_iff_ne];omega
  have hb0:between ts r.at_ = opFrom ts[r.at_] (16 - 3) ((3:Nat):Int):=by unfold between;rw [List.getElem?_eq_getElem hlt];rfl
  rw [hb0]
  have I:=fun x b hb g wx hc=>Lib.hid (is1_any (ts[r.at_]'hlt).k ⟨(ts[r.at_]'hlt).s.toArray⟩ (ts[r.at_]'hlt).n ((ts[r.at_]'hlt).a:Int) x b hb g wx hc)
  replace I:=Lib.hid I
  have hw:=fun i=>(rfl:wordB ts[r.at_] (signL.getD i []) = _)
  have C:=fun wx hk=>toks_below (w':=wx) ht hg hk r.at_ hlt
  have D:=fun wx hk=>rd_cells (rd_keep (w':=wx) h hk)
  have E:=fun wx hk=>eg_cell (eg_keep (w':=wx) env.eg (eg_lt env.eg) hk)
  have hgl:=eg_lt env.eg
  replace C:=Lib.hid C
  replace D:=Lib.hid D
  replace E:=Lib.hid E
  have hit:=Lib.hid (opFrom_hit ts[r.at_])
  have miss:=Lib.hid (opFrom_miss ts[r.at_])
  have hend:opFrom ts[r.at_] (16 - 16) ((16:Nat):Int) = 0:=rfl
  replace hend:=Lib.hid hend
  clear hb0 he h ht env
  obtain ⟨a0,a1,a2,a3⟩:=C.out w (Below.refl _ _)
  have i2:InW g w:=⟨hg⟩
  obtain ⟨p,hp⟩:∃ p,opFrom ts[r.at_] (16 - 3) ((3:Nat):Int) = p:=⟨_,rfl⟩
  rw [hp]
  generalize ts[r.at_] = t at *
  clear hw
  go_enter Tryz.func258,Tryz.ntmps258
  go_wp2_with fail
  (refine wp_region_G (by kernel_rfl) (by kernel_rfl) ?_;(repeat (go_big_quiet_step (fail)));refine wpQuiet_nil ?_;intro _ hw';obtain ⟨pg,hw''⟩:=hw';subst hw'')
  go_wp2
  go_loopw [4] (fun v wr=>∃ i:Nat,3 ≤ i ∧ i ≤ 16 ∧ v = .int .i64 i ∧ p = opFrom t (16 - i) (i:Int) ∧ Below w.heap.size w wr) (fun v _=>16 - (intOf v).toNat)
  case atStart=>exact ⟨3,Nat.le_refl _,by omega,rfl,hp.symm,by (first | exact gwT | exact lzT)⟩
  case round =>
   obtain ⟨i,h3,h16,rfl,hop,hb⟩:=hrel
   rename World=>wr
   clear c0 c1 a0 a1 a2 a3 i1 i2
   obtain ⟨a0,a1,a2,a3⟩:=C.out wr hb
   obtain ⟨c0,c1,_,_,_,_,hrb1,_⟩:=D.out wr hb
   have hwz:=hb.size
   have hbB:Below B w wr:=hb.mono hsz
   have hsz2:B ≤ wr.heap.size:=by omega
   have i1:InW rb wr:=⟨hrb1⟩
   have i2:InW g wr:=⟨by omega⟩
   have i3:InW 12 wr:=⟨by omega⟩
   by_cases hl:i ≤ 15
   ·have s0:=E.out wr hb i (by omega)
    rcases hwd:wordB t (signL.getD i [])
    ·have hnext:=Lib.hid (hop.trans (miss.out i hl hwd))
     have hwd':((t.k == 1 || t.k == 5) && (⟨t.s.toArray⟩:ByteArray).data.toList == (⟨(signL.getD i []).toArray⟩:ByteArray).data.toList) = false:=hwd
     have I1:=fun g wx hc=>I.out _ _ hwd' g wx hc
     replace I1:=Lib.hid I1
     clear hwd hwd' hop
     generalize (⟨(signL.getD i []).toArray⟩:ByteArray) = x at *
     generalize t.k = tk at *
     generalize (⟨t.s.toArray⟩:ByteArray) = tx at *
     generalize t.n = tn at *
     generalize (t.a:Int) = ta at *
     have hli:(i:Int) < 16:=by omega
     go_wp2_with fail
     go_region_held3 (fun w'=>w'.cell? ⟨rb,0,none⟩ = some (.slice (some ⟨g,0,none⟩) ts.length cap) ∧ w'.cell? ⟨rb,1,none⟩ = some (.int .i64 (r.at_:Int)) ∧ w'.cell? ⟨g,r.at_ * 4,none⟩ = some (.int .i64 tk) ∧ w'.cell? ⟨g,r.at_ * 4 + 1,none⟩ = some (.string tx) ∧ w'.cell? ⟨g,r.at_ * 4 + 2,none⟩ = some (.int .i64 tn) ∧ w'.cell? ⟨g,r.at_ * 4 + 3,none⟩ = some (.int .i64 ta) ∧ w'.cell? ⟨12,i,none⟩ = some (.string x)) ((refine ⟨?_,?_,?_,?_,?_,?_,?_⟩ <;> first | assumption | (simp [go_sem, *];done))) (first | ((with_reducible refine ((I1.out _ _ (by simp [go_sem])).out).mono ?_);intro e w1 hr;obtain ⟨rfl,p,rfl⟩:=hr.out;clear hr))
     go_wp2
     go_roundw
     case rel=>exact ⟨i + 1,by omega,by omega,by go_num,hnext.out,by (first | exact gwT | exact lzT)⟩
     case measure=>simp [intOf];omega
    ·have hres:=Lib.hid (hop.trans (hit.out i hl hwd))
     have hwd':((t.k == 1 || t.k == 5) && (⟨t.s.toArray⟩:ByteArray).data.toList == (⟨(signL.getD i []).toArray⟩:ByteArray).data.toList) = true:=hwd
     have I1:=fun g wx hc=>I.out _ _ hwd' g wx hc
     replace I1:=Lib.hid I1
     clear hwd hwd' hop
     generalize (⟨(signL.getD i []).toArray⟩:ByteArray) = x at *
     generalize t.k = tk at *
     generalize (⟨t.s.toArray⟩:ByteArray) = tx at *
     generalize t.n = tn at *
     generalize (t.a:Int) = ta at *
     have hli:(i:Int) < 16:=by omega
     have hnz:((i:Int) == 0) = false:=by rw [beq_eq_false_iff_ne];omega
     go_wp2_with fail
     go_region_held3 (fun w'=>w'.cell? ⟨rb,0,none⟩ = some (.slice (some ⟨g,0,none⟩) ts.length cap) ∧ w'.cell? ⟨rb,1,none⟩ = some (.int .i64 (r.at_:Int)) ∧ w'.cell? ⟨g,r.at_ * 4,none⟩ = some (.int .i64 tk) ∧ w'.cell? ⟨g,r.at_ * 4 + 1,none⟩ = some (.string tx) ∧ w'.cell? ⟨g,r.at_ * 4 + 2,none⟩ = some (.int .i64 tn) ∧ w'.cell? ⟨g,r.at_ * 4 + 3,none⟩ = some (.int .i64 ta) ∧ w'.cell? ⟨12,i,none⟩ = some (.string x)) ((refine ⟨?_,?_,?_,?_,?_,?_,?_⟩ <;> first | assumption | (simp [go_sem, *];done))) (first | ((with_reducible refine ((I1.out _ _ (by simp [go_sem])).out).mono ?_);intro e w1 hr;obtain ⟨rfl,p,rfl⟩:=hr.out;clear hr))
     go_wp2
     go_returns
     exact ⟨by rw [hres.out,hnz];rfl,rdat_keep hAt.out (by (first | exact gwT | exact lzT)),by (first | exact gwT | exact lzT)⟩
   ·obtain rfl:i = 16:=by omega
    have hres:=Lib.hid (hop.trans hend.out)
    clear hop
    go_wp2
    go_returns
    exact ⟨by rw [hres.out];rfl,rdat_keep hAt.out (by (first | exact gwT | exact lzT)),by (first | exact gwT | exact lzT)⟩
end Go.Proofs.YtfgpmcepppcmiaaGreatDoor
namespace Go.Proofs.YtfgpmcepppcmiaaGreatDoor
open Go.RowKit
theorem nats_drop (l:List Nat) (c f:Nat) (h:f + c = l.length):(natsC l.reverse).take (f * 1) = natsC (l.drop c).reverse:=by
 have e:l.reverse = (l.drop c).reverse ++ (l.take c).reverse:=by rw [← List.reverse_append,List.take_append_drop]
 have hl:(natsC (l.drop c).reverse).length = f:=by unfold natsC;simp;omega
 rw [e,Nat.mul_one]
 show (natsC ((l.drop c).reverse ++ (l.take c).reverse)).take f = _
 unfold natsC at *
 rw [List.map_append,List.take_left' hl]
theorem ints_tail (op:Int) (ws:List Int):(intsC (op :: ws).reverse).take (ws.length * 1) = intsC ws.reverse:=by
 unfold intsC
 rw [List.reverse_cons,List.map_append,List.take_left' (by simp)]
theorem rd_pop {B rb gp gw pc wc f c:Nat} {lv nv:Value} {r:Rd} {op:Int} {ws:List Int} {w:World} (hw:r.wait = op :: ws) (h:RdIs B rb lv r nv (.slice (some ⟨gp,0,none⟩) r.parts.length pc) (.slice (some ⟨gw,0,none⟩) r.wait.length wc) w) (hf:f + c = r.parts.length) :
  RdIs B rb lv { r with wait:=ws,parts:=r.parts.drop c } nv (.slice (some ⟨gp,0,none⟩) f pc) (.slice (some ⟨gw,0,none⟩) ws.length wc) ((w.setCell ⟨rb,4,none⟩ (.slice (some ⟨gw,0,none⟩) ws.length wc)).setCell ⟨rb,3,none⟩ (.slice (some ⟨gp,0,none⟩) f pc)):=by
 have hp:=owns_take h.parts (k:=f) (by omega)
 have hwt:=owns_take h.wait (k:=ws.length) (by rw [hw];simp)
 rw [nats_drop _ c f hf] at hp
 rw [hw,ints_tail] at hwt
 have hb:=h.blk
 have hd:f = (r.parts.drop c).length:=by rw [List.length_drop];omega
 have h1:=blk_set (i:=4) (u := .slice (some ⟨gw,0,none⟩) ws.length wc) hb
 have a1:=ownsRow_setCell_other h.nodes (own_ne h.nodes hb (by decide)) (.slice (some ⟨gw,0,none⟩) ws.length wc) (a:=⟨rb,4,none⟩)
 have a2:=ownsRow_setCell_other hp (own_ne hp hb (by decide)) (.slice (some ⟨gw,0,none⟩) ws.length wc) (a:=⟨rb,4,none⟩)
 have a3:=ownsRow_setCell_other hwt (own_ne hwt hb (by decide)) (.slice (some ⟨gw,0,none⟩) ws.length wc) (a:=⟨rb,4,none⟩)
 refine ⟨blk_set h1,ownsRow_setCell_other a1 (own_ne a1 h1 (by decide)) _,?_,ownsRow_setCell_other a3 (own_ne a3 h1 (by decide)) _,h.apart,h.base⟩
 have:=ownsRow_setCell_other a2 (own_ne a2 h1 (by decide)) (.slice (some ⟨gp,0,none⟩) f pc) (a:=⟨rb,3,none⟩)
 show World.ownsRow _ _ _ _ _ (r.parts.drop c).length (natsC (r.parts.drop c).reverse)
 rw [← hd]
 exact this
theorem parts_lie {w:World} {g:Nat} {l:List Nat} {c f:Nat} (hf:f + c = l.length) (h:∀ j u,(natsC l.reverse)[j]? = some u → w.cell? ⟨g,j,none⟩ = some u) (hg:g < w.heap.size) :
  Ints w (some ⟨g,f,none⟩) ((l.take c).reverse.map fun (p:Nat)=>(p:Int)):=by
 intro i hi
 refine ⟨g,f,rfl,h _ _ ?_,hg⟩
 have e:l.reverse = (l.drop c).reverse ++ (l.take c).reverse:=by rw [← List.reverse_append,List.take_append_drop]
 have hl:(l.drop c).reverse.length = f:=by rw [List.length_reverse,List.length_drop];omega
 simp only [List.length_map] at hi
 unfold natsC
 rw [e,List.getElem?_map,List.getElem?_append_right (by omega),hl,Nat.add_sub_cancel_left,List.getElem?_eq_getElem hi]
 simp
theorem good_few {k:Nat} {ts:List Tk} {r:Rd} (g:Good k ts r) (h:ts.length ≤ 120):r.nodes.length ≤ 120 ∧ r.wait.length ≤ 120 ∧ r.parts.length ≤ 120 + k ∧ r.within ≤ 120:=by
 have h1:=g.sum
 have h2:=g.at_
 have h3:=g.par
 have h4:=g.wth
 have hb:∀ l:List Int,bins l ≤ l.length ∧ opens l ≤ l.length:=by
  intro l
  induction l with
  | nil=>exact ⟨Nat.le_refl _,Nat.le_refl _⟩
  | cons o l ih =>
   rw [bins,opens,List.length_cons]
   constructor <;> split <;> omega
 have:=hb r.wait
 omega
set_option maxRecDepth 100000 in
set_option maxHeartbeats 8000000 in
theorem rfinish_any {B rb:Nat} {lv:Value} {ts:List Tk} {r:Rd} (least:Int) (hl:1 ≤ least) (_hl6:least ≤ 1000) (hts:ts.length ≤ 120) (g:Good 1 ts r) (w:World) (h:RdAt B rb lv r w) (hsz:B ≤ w.heap.size) :
  Calls Tryz.prog 241 #[.pointer (some ⟨rb,0,none⟩),.int .i64 least] w (DoneIs B rb lv (finish least r) w):=by
 have hA:=Lib.hid h
 obtain ⟨nv,pv,wv,h⟩:=h
 obtain ⟨wa,wc,rfl⟩:=own_form h.wait
 obtain ⟨c0,c1,c2,c3,c4,c5,hrb,hfr⟩:=rd_cells h
 have i1:InW rb w:=⟨hrb⟩
 have hbase:=h.base
 have hws:=(good_few g hts).2.1
 have gh:=Lib.hid g
 clear h c0 c1 c2 c3 c5 hfr g
 go_enter Tryz.func241,Tryz.ntmps241
 go_wp2
 go_loopw [4] (fun v wr=>∃ r':Rd,v = .int .i64 (r'.wait.length:Int) ∧ RdAt B rb lv r' wr ∧ Good 1 ts r' ∧ finL least r'.wait r' = finish least r ∧ Below B w wr) (fun v _=>(intOf v).toNat)
 case atStart=>exact ⟨r,rfl,hA.out,gh.out,rfl,by (first | exact gwT | exact lzT)⟩
 case round =>
  obtain ⟨q,rfl,hq,gq,hfin,hb⟩:=hrel
  rename World=>wr
  clear c4 i1
  have hqA:=Lib.hid hq
  obtain ⟨nv1,pv1,wv1,h1⟩:=hq
  obtain ⟨qn,qw,qp,qi⟩:=good_few gq hts
  have hszr:B ≤ wr.heap.size:=Nat.le_trans hsz hb.size
  cases hw:q.wait with
  | nil =>
   have hres:=Lib.hid (show q = finish least r from by rw [← hfin,hw];obtain ⟨a,nodes,parts,wait,within⟩:=q;simp only at hw;subst hw;rfl)
   simp only [List.length_nil]
   clear h1 hfin gq gh hA
   go_wp2
   go_returns
   exact ⟨rfl,by rw [← hres.out];exact hqA.out,by (first | exact gwT | exact lzT)⟩
  | cons op ws =>
   obtain ⟨gw,wc1,e,hgw,hwcap,_,hwc⟩:=own_head h1.wait (by rw [hw];simp)
   subst e
   obtain ⟨gp,pc,e,hgp,hpc,hpm,hpcells⟩:=own_head h1.parts (by rw [gq.par];omega)
   subst e
   have wcell:wr.cell? ⟨gw,ws.length,none⟩ = some (.int .i64 op):=hwc _ _ (by rw [hw];simp [intsC])
   obtain ⟨d0,d1,d2,d3,d4,d5,drb,dfr⟩:=rd_cells h1
   have e3:=dfr 3
   have e4:=dfr 4
   have T:=fun wx=>Lib.hid (tight_any op wx)
   have hn1:q.wait.length = ws.length + 1:=by rw [hw];rfl
   rw [hn1] at d4
   rw [List.length_cons]
   rw [hn1] at qw
   have hn1':=hn1
   have j1:InW rb wr:=⟨drb⟩
   have j2:InW gw wr:=⟨hgw⟩
   have j3:InW gp wr:=⟨hgp⟩
   by_cases hlt:tightI op < least
   ·have hres:=Lib.hid (show q = finish least r from by rw [← hfin,hw,finL,if_pos hlt];obtain ⟨a,nodes,parts,wait,within⟩:=q;simp only at hw;subst hw;rfl)
    generalize tightI op = tt at *
    replace T:=Lib.hid T
    clear h1 hfin gq gh hA hwc hpcells dfr d0 d1 d2 d5 hw hn1
    generalize ws.length = m at *
    go_wp2_with (first | ((with_reducible refine ((T.out _).out).mono ?_);rintro e w1 ⟨rfl,rfl⟩))
    go_returns
    exact ⟨rfl,by rw [← hres.out];exact hqA.out,by (first | exact gwT | exact lzT)⟩
   ·have hop:¬ op = -1:=tight_open hl hlt
    have hpg:=pop_good hw hop gq
    have g2:=hpg.1
    have hcl:=hpg.2
    clear hpg
    have hnext:=Lib.hid (show finL least (popOp op ws q).wait (popOp op ws q) = finish least r from by rw [← hfin,hw,finL,if_neg hlt];rfl)
    obtain ⟨f,hf⟩:∃ f,f + cnt op = q.parts.length:=⟨q.parts.length - cnt op,by omega⟩
    have hc1:1 ≤ cnt op:=by rw [cnt_of ((gq.ops op (by rw [hw];simp)).resolve_left hop)];omega
    have hc2:cnt op ≤ 2:=by
     unfold cnt
     (repeat' split) <;> omega
    have C:=fun wx=>Lib.hid (count_any op wx)
    have hln:((q.parts.take (cnt op)).reverse.map fun (p:Nat)=>(p:Int)).length = cnt op:=by simp;omega
    have O:=fun wx (hk:Below wr.heap.size wr wx)=>Lib.hid (operation_any op (some ⟨gp,f,none⟩) (pc - f) ((q.parts.take (cnt op)).reverse.map fun (p:Nat)=>(p:Int)) (by rw [hln];omega) wx (fun i hi=>by
     obtain ⟨g',o',e',hc',hg'⟩:=parts_lie hf hpcells hgp i hi
     exact ⟨g',o',e',(hk.cell (p:=⟨g',_,none⟩) hg').trans hc',Nat.lt_of_lt_of_le hg' hk.size⟩))
    rw [hln,← opn_I] at O
    have D:=fun wx (hk:Below wr.heap.size wr wx)=>rd_cells (rd_keep h1 hk)
    rw [hn1] at D
    replace D:=Lib.hid D
    have P:=fun wx (hk:Below wr.heap.size wr wx)=>Lib.hid (rd_pop (w:=wx) hw (rd_keep h1 hk) hf)
    have Ad:=fun wx hk=>Lib.hid (radd_any (B:=B) (rb:=rb) (lv:=lv) (r:={ q with wait:=ws,parts:=q.parts.drop (cnt op) }) (opn op (q.parts.take (cnt op)).reverse) (by show q.nodes.length ≤ 1000;omega) (by show (q.parts.drop (cnt op)).length ≤ 1000;rw [List.length_drop];omega) wx hk)
    have hrel2:=Lib.hid (show popOp op ws q = Rd.add { q with wait:=ws,parts:=q.parts.drop (cnt op) } (opn op (q.parts.take (cnt op)).reverse) from rfl)
    have g3:=Lib.hid g2
    unfold ndV at O Ad
    generalize tightI op = tt at *
    replace T:=Lib.hid T
    replace O:=Lib.hid O
    replace P:=Lib.hid P
    replace Ad:=Lib.hid Ad
    replace C:=Lib.hid C
    clear h1 hfin gq gh hA hwc hpcells dfr d0 d1 d2 d5 hw hn1 hln g2 hqA
    generalize opn op (q.parts.take (cnt op)).reverse = nd at *
    generalize cnt op = c at *
    generalize q.parts.length = L at *
    subst hf
    have hmm:=Lib.hid (rfl:ws.length = ws.length)
    go_wp2_with (first | ((with_reducible refine ((T.out _).out).mono ?_);rintro e w1 ⟨rfl,rfl⟩))
    (refine wp_region_G (by kernel_rfl) (by kernel_rfl) ?_;(repeat (go_big_quiet_step (exact quietGW ((C.out _).out))));refine wpQuiet_nil ?_;intro _ hw';obtain ⟨pg,hw''⟩:=hw';subst hw'')
    go_wp2_with ((with_reducible refine ((O.out _ (by (first | exact gwT | exact lzT))).out).mono ?_);intro e w1 hr;obtain ⟨rfl,p,rfl⟩:=hr.out;clear hr)
    go_wp2_with fail
    generalize hW:(G (pq p pg) wr).alloc _ = W
    generalize hnb:(G (pq p pg) wr).heap.size = nb
    have hbW:Below wr.heap.size wr W:=by rw [← hW];(first | exact gwT | exact lzT)
    have hnW:W.heap[nb]? = some (.cells #[.int .i64 nd.op,.int .i64 nd.k,.int .i64 nd.n,.string ⟨nd.s.toArray⟩,.string ⟨nd.name.toArray⟩,.int .i64 nd.l,.int .i64 nd.r] 239 (0,0)):=by rw [← hW,← hnb];exact new_block _ _
    have hnr:¬ rb = nb:=by have:=(belowG0 (pq p pg) wr).size;omega
    clear hW hnb d3 d4 e3 e4 j1 j2 j3 wcell
    obtain ⟨_,_,_,d3,d4,_,drb2,dfr⟩:=D.out W hbW
    have e3:=dfr 3
    have e4:=dfr 4
    have j1:InW rb W:=⟨drb2⟩
    clear dfr
    have m1:IntKind.i64.wrap (ws.length:Int) = (ws.length:Int):=by rw [IntKind.wrap_i64];omega
    have m2:(ws.length:Int) ≤ (wc1:Int):=by rw [hn1'] at hwcap;omega
    have m3:IntKind.i64.wrap (f:Int) = (f:Int):=by rw [IntKind.wrap_i64];omega
    have m4:(f:Int) ≤ (pc:Int):=by omega
    go_region
    have hP:=P.out W hbW
    have hnz:((W.setCell ⟨rb,4,none⟩ (.slice (some ⟨gw,0,none⟩) ws.length wc1)).setCell ⟨rb,3,none⟩ (.slice (some ⟨gp,0,none⟩) f pc)).heap[nb]? = _:=(Below.heap_setCell _ _ _ _ (fun e=>hnr e.symm)).trans ((Below.heap_setCell _ _ _ _ (fun e=>hnr e.symm)).trans hnW)
    have hbz:Below B w ((W.setCell ⟨rb,4,none⟩ (.slice (some ⟨gw,0,none⟩) ws.length wc1)).setCell ⟨rb,3,none⟩ (.slice (some ⟨gp,0,none⟩) f pc)):=Below.setCell (Below.setCell (hb.trans (hbW.mono hszr)) hbase _) hbase _
    clear d3 d4 e3 e4 j1 hnW P D O C T m1 m2 m3 m4
    generalize (W.setCell ⟨rb,4,none⟩ (.slice (some ⟨gw,0,none⟩) ws.length wc1)).setCell ⟨rb,3,none⟩ (.slice (some ⟨gp,0,none⟩) f pc) = wz at *
    have n0:=cell_of_row wz nb 0 _ _ _ hnz
    have n1:=cell_of_row wz nb 1 _ _ _ hnz
    have n2:=cell_of_row wz nb 2 _ _ _ hnz
    have n3:=cell_of_row wz nb 3 _ _ _ hnz
    have n4:=cell_of_row wz nb 4 _ _ _ hnz
    have n5:=cell_of_row wz nb 5 _ _ _ hnz
    have n6:=cell_of_row wz nb 6 _ _ _ hnz
    simp only [List.getElem?_toArray,List.getElem?_cons_zero,List.getElem?_cons_succ] at n0 n1 n2 n3 n4 n5 n6
    go_wp2_with fail
    refine ((Ad.out _ (rdat_keep ⟨_,_,_,hP.out⟩ (by (first | exact gwT | exact lzT)))).out).mono ?_
    intro e w9 hr
    obtain ⟨rfl,h9,hb9⟩:=hr
    rw [← hrel2.out] at h9
    have hb10:Below B w w9:=Below.trans (by (first | exact gwT | exact lzT)) hb9
    clear n0 n1 n2 n3 n4 n5 n6 hnz hP Ad
    have hlen:=Lib.hid (show (popOp op ws q).wait.length = ws.length from rfl)
    go_wp2
    go_roundw
    case rel=>exact ⟨popOp op ws q,by rw [hlen.out],h9,g3.out,hnext.out,hb10⟩
    case measure=>simp [intOf]
end Go.Proofs.YtfgpmcepppcmiaaGreatDoor
