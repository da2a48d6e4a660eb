/- What is around some states, the document's way. -/
import Derived.Test.YtncmnhccmemagaaGreatDoorL4
import Derived.Test.YtncmnhccmemagaaGreatDoorDO
import Derived.WalkKit
import Derived.ProofKit
import Derived.OpenShut
import Derived.Handy
import Derived.BigQuiet
import Derived.OwnWalk
import Derived.Lib.Hide
import Derived.WalkSmall
import Derived.WalkLawsBesides
import Derived.StillTailTactics
namespace Go.Proofs.YtncmnhccmemagaaGreatDoor
open Go.RowKit
def rcmp (ss:List St) (i:Nat):Bool:=i == 0 || (ss.getD i st0).kind == 3 && decide (0 < (kidL ss i).length)
theorem rcmp_eq {c:Ch} (sh:∀ {i},i < c.states.length → (i = 0 → (c.states.getD i st0).kind = 1) ∧ (0 < i → 3 ≤ (c.states.getD i st0).kind ∧ (c.states.getD i st0).kind ≤ 7)) (hn:c.states.length ≤ 49) (h0:compS c.states 0 = true) {i:Nat} (hi:i < c.states.length):rcmp c.states i = compS c.states i:=by
 unfold rcmp
 by_cases e:i = 0
 ·subst e
  rw [h0]
  rfl
 ·have hk:=(sh hi).2 (by omega)
  unfold compS
  rw [nums_kid _ _ hn]
  have h1:((c.states.getD i st0).kind == 1) = false:=by rw [beq_eq_false_iff_ne];omega
  have h2:(i == 0) = false:=by simpa using e
  rw [h1,h2,Bool.false_or,Bool.false_or]
theorem all_more' {q:Nat → Bool} {b:Bool} {k:Nat} {l:List Nat} (hk:k < l.length):(b && (l.drop k).all q) = ((b && q l[k]) && (l.drop (k + 1)).all q):=by
 rw [List.drop_eq_getElem_cons hk,List.all_cons,Bool.and_assoc]
theorem all_end {q:Nat → Bool} {b:Bool} {k:Nat} {l:List Nat} (hk:l.length ≤ k):(b && (l.drop k).all q) = b:=by
 rw [List.drop_of_length_le hk,List.all_nil,Bool.and_true]
section
variable {B:Nat} {c:Ch} {rv:Nat → Value} {vv:Value} {w:World}
set_option maxRecDepth 100000 in
set_option maxHeartbeats 4000000 in
theorem raround_any {τ:CT} (so:Option Addr) (sc:Nat) (l:List Nat) (hne:0 < l.length) (hl:∀ k ∈ l,k < c.states.length) (hll:l.length ≤ 1000) (hn:c.states.length ≤ 49) (hp:Par c.states)
  (hcp:∀ i,i < c.states.length → rcmp c.states i = compS c.states i) (lo:Option Addr) (lc:Nat) (h:ChV τ B w c rv vv (.slice so c.states.length sc)) (hr:IntsRd w lo (intsN l)) :
  Calls Tryz.prog 9 #[.agg #[str c.name,vv,.slice so c.states.length sc],.slice lo l.length lc] w (Ret (.int .i64 (arndR c.states l:Int)) w):=by
 have hd:l.headD 0 = l[0]'hne:=by
  cases l with
  | nil=>cases hne
  | cons a r=>rfl
 have ha:=hl _ (List.getElem_mem hne)
 have U:=Lib.hid (fun wx (hb:Below w.heap.size w wx)=>rup_any (w:=wx) so sc (l[0]'hne) ha hn hp (chV_keep h hb))
 have W:=Lib.hid (fun wx (hb:Below w.heap.size w wx) (i outer:Int)=>rwithin_any so sc i outer hp wx (chV_keep h hb))
 have C:Hid (∀ wx,Below w.heap.size w wx → ∀ i,i < c.states.length → Calls Tryz.prog 26 #[.agg #[str c.name,vv,.slice so c.states.length sc],.int .i64 (i:Int)] wx (Ret (.bool (compS c.states i)) wx)):=Lib.hid (fun wx hb i hi=>by
  have:=rcomp_any (w:=wx) so sc i hi hn hp (chV_keep h hb)
  have e:=hcp i hi
  unfold rcmp at e
  rw [e] at this
  exact this)
 have hr':=Lib.hid (fun wx (hb:Below w.heap.size w wx)=>intsRd_keep hr hb)
 obtain ⟨g0,o0,e0,hg0,n0⟩:=ints_at hr 0 hne
 unfold arndR
 rw [hd]
 have hks:∀ k ∈ ancL c.states c.states.length (l[0]'hne),k < c.states.length:=fun k hk=>Nat.lt_trans (anc_lt hp _ _ ha k hk) ha
 have hkl:=anc_len c.states c.states.length (l[0]'hne)
 generalize ancL c.states c.states.length (l[0]'hne) = ks at *
 obtain ⟨P,hP⟩:∃ P:Nat → Bool,(fun u=>compS c.states u && l.all fun k=>wthC c.states (k:Int) (u:Int)) = P:=⟨_,rfl⟩
 rw [hP]
 obtain ⟨FO,hFO⟩:∃ FO,ks.find? P = FO:=⟨_,rfl⟩
 have hF0:Hid ((ks.drop 0).find? P = FO):=Lib.hid (by rw [List.drop_zero];exact hFO)
 rw [hFO]
 replace hP:=Lib.hid hP
 replace hks:=Lib.hid hks
 replace hl:=Lib.hid hl
 replace hcp:=Lib.hid hcp
 have hne':(0:Int) < (l.length:Int):=by omega
 generalize l[0]'hne = a0 at *
 subst e0
 have n0':w.cell? ⟨g0,o0,none⟩ = some (.int .i64 (a0:Int)):=n0
 clear n0
 have i0:InW g0 w:=⟨hg0⟩
 clear h hr hd hFO ha
 go_enter Tryz.func9,Tryz.ntmps9
 go_wp2_with fail
 obtain ⟨W0,hW0⟩:∃ W0,w.alloc (.cells #[str c.name,vv,.slice so c.states.length sc] 32) = W0:=⟨_,rfl⟩
 have hb0:Below w.heap.size w W0:=by rw [← hW0];(first | exact gwT | exact lzT)
 have q0:W0.heap[w.heap.size]? = some (.cells #[str c.name,vv,.slice so c.states.length sc] 32 (0,0)):=by rw [← hW0];exact heap_alloc_new w _
 rw [hW0]
 obtain ⟨z0,z1,z2,zl,-⟩:=cells3 q0
 have n1:=(hb0.cell (p:=⟨g0,o0,none⟩) hg0).trans n0'
 have i1:InW g0 W0:=⟨Nat.lt_of_lt_of_le hg0 hb0.size⟩
 have i2:InW w.heap.size W0:=⟨zl⟩
 clear hW0 i0 n0' hg0
 go_still_tail 4,(by kernel_rfl)
 change wpList _ _ _ _ _ W0.drew
 go_wp2_with fail
 refine (U.out _ (hb0.trans (Below.mono (show Below W0.heap.size W0 _ by (first | exact gwT | exact lzT)) hb0.size))).mono ?_
 rintro e w1 ⟨uo,uc,rfl,hur,hb1⟩
 have hw01:Below W0.heap.size W0 w1:=Below.trans (by (first | exact gwT | exact lzT)) (hb1.mono (by first | exact Nat.le_refl _ | (first | exact gwT | exact lzT)))
 have hw1:Below w.heap.size w w1:=hb0.trans (hw01.mono hb0.size)
 have hz1:=hw1.size
 have hu':=Lib.hid (fun wx (hb:Below w1.heap.size w1 wx)=>intsRd_keep hur hb)
 have q1:w1.heap[w.heap.size]? = some (.cells #[str c.name,vv,.slice so c.states.length sc] 32 (0,0)):=blk_keep q0 hw01
 have hcb:=Lib.hid (fun wx (hb:Below w1.heap.size w1 wx)=>blk_keep q1 hb)
 clear U hb1 hur q1 q0 z0 z1 z2 zl n1 i1 i2 hw01 hb0
 dsimp only
 go_wp2
 go_loopw [6] (fun x wr=>∃ (i:Nat),x = .int .i64 (i:Int) ∧ i ≤ ks.length ∧ Hid ((ks.drop i).find? P = FO) ∧ Below w1.heap.size w1 wr) (fun x _=>ks.length - (intOf x).toNat)
 case atStart=>exact ⟨0,rfl,Nat.zero_le _,hF0,Below.refl _ _⟩
 case round =>
  obtain ⟨i,rfl,hi,hf,hb⟩:=hrel
  rename World=>wr
  have hwz:=hb.size
  have hwr:=hw1.trans (hb.mono hz1)
  by_cases hlt:i < ks.length
  ·have hI:(i:Int) < (ks.length:Int):=by omega
   obtain ⟨g,o,eu,hg,n1⟩:=ints_at (hu'.out wr hb) i hlt
   have hun:=hks.out _ (List.getElem_mem hlt)
   have hm:=find_more (p:=P) hlt
   rw [hf.out] at hm
   generalize ks[i] = u at *
   subst eu
   have hPu:Hid (P u = (compS c.states u && (l.drop 0).all fun k=>wthC c.states (k:Int) (u:Int))):=Lib.hid (by rw [List.drop_zero,← hP.out])
   have hn1:=Lib.hid (fun wq (hq:Below wr.heap.size wr wq)=>(hq.cell (p:=⟨g,o + i,none⟩) hg).trans n1)
   have ig:InW g wr:=⟨hg⟩
   obtain ⟨z0,z1,z2,zl,-⟩:=cells3 (hcb.out wr hb)
   have iq:InW w.heap.size wr:=⟨zl⟩
   have hcb1:=Lib.hid (fun wx (hx:Below wr.heap.size wr wx)=>hcb.out wx (hb.trans (hx.mono hwz)))
   have hgi:=Lib.hid hg
   have C1:=Lib.hid (fun wx (hb:Below wr.heap.size wr wx)=>C.out wx (hwr.trans (hb.mono hwr.size)) u hun)
   have hW1:=Lib.hid (fun wx (hb:Below wr.heap.size wr wx)=>W.out wx (hwr.trans (hb.mono hwr.size)))
   have hR1:=Lib.hid (fun wx (hb:Below wr.heap.size wr wx)=>hr'.out wx (hwr.trans (hb.mono hwr.size)))
   have hbb:=Lib.hid hb
   replace hm:=Lib.hid hm
   clear hf hg hwr hb
   generalize compS c.states u = b0 at *
   go_wp2_with fail
   (refine wp_region_G (by kernel_rfl) (by kernel_rfl) ?_;(repeat (go_big_quiet_step (exact quietG (C1.out _ (by (first | exact gwT | exact lzT))))));refine wpQuiet_nil ?_;intro _ hw';obtain ⟨pg,hw''⟩:=hw';subst hw'')
   go_wp2
   clear z0 z1 z2 zl iq ig n1
   go_loopw [7,8] (fun v y wq=>∃ (b:Bool) (k:Nat),v = .bool b ∧ y = .int .i64 (k:Int) ∧ k ≤ l.length ∧ Hid (P u = (b && (l.drop k).all fun k=>wthC c.states (k:Int) (u:Int))) ∧ Below wr.heap.size wr wq) (fun _ y _=>l.length - (intOf y).toNat)
   case atStart=>exact ⟨b0,0,rfl,rfl,Nat.zero_le _,hPu,by (first | exact gwT | exact lzT)⟩
   case round =>
    obtain ⟨b,k,rfl,rfl,hk,hq,hbq⟩:=hrel
    rename World=>wq
    have hqz:=hbq.size
    have nu:=hn1.out wq hbq
    have igq:InW g wq:=⟨Nat.lt_of_lt_of_le hgi.out hqz⟩
    obtain ⟨z0,z1,z2,zl,-⟩:=cells3 (hcb1.out wq hbq)
    have iq:InW w.heap.size wq:=⟨zl⟩
    by_cases hlk:k < l.length
    ·have hK:(k:Int) < (l.length:Int):=by omega
     obtain ⟨gl,ol,el,hgl,nl⟩:=ints_at (hR1.out wq hbq) k hlk
     cases el
     have hme:=all_more' (q:=fun k=>wthC c.states (k:Int) (u:Int)) (b:=b) hlk
     rw [← hq.out] at hme
     have W1:=Lib.hid (fun wx (hx:Below wq.heap.size wq wx)=>hW1.out wx (hbq.trans (hx.mono hqz)) (l[k]:Int) (u:Int))
     generalize l[k] = lk at *
     have igl:InW g0 wq:=⟨hgl⟩
     generalize wthC c.states (lk:Int) (u:Int) = bw at *
     replace hme:=Lib.hid hme
     clear hq
     cases b
     ·go_wp2_with fail
      (refine wp_region_G (by kernel_rfl) (by kernel_rfl) ?_;(repeat (go_big_quiet_step (fail)));refine wpQuiet_nil ?_;intro _ hw';obtain ⟨pg,hw''⟩:=hw';subst hw'')
      go_wp2
      go_roundw
      case rel=>exact ⟨false,k + 1,rfl,by go_num,by omega,hme,by (first | exact gwT | exact lzT)⟩
      case measure=>simp [intOf];omega
     ·go_wp2_with fail
      (refine wp_region_G (by kernel_rfl) (by kernel_rfl) ?_;(repeat (go_big_quiet_step (exact quietG (W1.out _ (by (first | exact gwT | exact lzT))))));refine wpQuiet_nil ?_;intro _ hw';obtain ⟨pg,hw''⟩:=hw';subst hw'')
      go_wp2
      go_roundw
      case rel=>exact ⟨bw,k + 1,by simp,by go_num,by omega,by simpa using hme,by (first | exact gwT | exact lzT)⟩
      case measure=>simp [intOf];omega
    ·have hK:¬ (k:Int) < (l.length:Int):=by omega
     have hPb:P u = b:=by rw [hq.out,all_end (by omega)]
     have hm2:=hm.out
     rw [hPb] at hm2
     have hbw:=Lib.hid (hbb.out.trans (hbq.mono hbb.out.size))
     have hww:=Lib.hid (hw1.trans (hbw.out.mono hz1))
     clear hq hPb hm
     cases b
     ·have hm3:Hid ((ks.drop (i + 1)).find? P = FO):=Lib.hid (by rw [hm2,if_neg Bool.false_ne_true])
      clear hm2
      go_wp2
      go_roundw
      case rel=>exact ⟨i + 1,by go_num,by omega,hm3,by first | exact hbw.out | (first | exact gwT | exact lzT)⟩
      case measure=>simp [intOf];omega
     ·rw [if_pos rfl] at hm2
      subst hm2
      go_wp2
      go_returns
      exact ⟨rfl,by first | exact hww.out | (first | exact gwT | exact lzT)⟩
  ·have hI:¬ (i:Int) < (ks.length:Int):=by omega
   have hm:FO = none:=by rw [← hf.out,List.drop_of_length_le (by omega)];rfl
   subst hm
   clear hf
   go_wp2
   go_returns
   exact ⟨rfl,by (first | exact gwT | exact lzT)⟩
end
theorem compS_lt {ss:List St} {k:Nat} (h:compS ss k = true):k < ss.length:=by
 rcases Nat.lt_or_ge k ss.length with h1 | h1
 ·exact h1
 ·unfold compS at h
  rw [List.getD_eq_getElem?_getD,List.getElem?_eq_none h1] at h
  exact absurd h (by simp [st0])
theorem ints_nats {l:List Int} (h:∀ i (hi:i < l.length),0 ≤ l[i]):∃ L:List Nat,l = intsN L:=by
 refine ⟨l.map Int.toNat,List.ext_getElem (by simp [intsN]) fun i h1 h2=>?_⟩
 have:=h i h1
 simp only [intsN,List.getElem_map]
 exact (Int.toNat_of_nonneg this).symm
theorem ints_rest {w:World} {g o:Nat} {a:Nat} {L:List Nat} (h:IntsRd w (some ⟨g,o,none⟩) (intsN (a :: L))):IntsRd w (some ⟨g,o + 1,none⟩) (intsN L):=fun i hi=>by
 obtain ⟨g',o',e,hg,hc⟩:=h (i + 1) (by simpa [intsN] using hi)
 cases e
 refine ⟨g,o + 1,rfl,hg,?_⟩
 rw [Nat.add_assoc,Nat.add_comm 1 i,hc]
 simp [intsN]
set_option maxRecDepth 100000 in
set_option maxHeartbeats 8000000 in
theorem taround_walk (s:ByteArray) (lo:Option Addr) (lc:Nat) (l:List Int) (w:World) (hw:Al w) (hT:Db w) (hr:IntsRd w lo l) (hlc:l.length ≤ lc ∧ lc ≤ maxLen):Calls Tryz.prog 3 #[.string s,.slice lo l.length lc] w (Ret (.bool true) w):=by
 have A:=Lib.hid (anchor11_any w hw hT)
 have R:=Lib.hid (fun wx (hb:Below w.heap.size w wx)=>intsRd_keep hr hb)
 unfold maxLen at hlc
 by_cases h1:s.size ≤ 20000
 ·have H1:¬ (20000:Int) < (s.size:Int):=by omega
  by_cases hl0:l.length = 0
  ·have e0:((l.length:Int) == 0) = true:=by simpa using hl0
   replace hl0:=Lib.hid hl0
   clear hw hT hr R
   go_enter Tryz.func3,Tryz.ntmps3
   go_wp2_with (((with_reducible refine (A.out).mono ?_);intro e w1 hr;obtain ⟨rfl,p,rfl⟩:=hr.out;clear hr))
   go_returns
   exact ⟨rfl,by (first | exact gwT | exact lzT)⟩
  ·have e0:((l.length:Int) == 0) = false:=by simpa using hl0
   by_cases h10:10 < l.length
   ·have H10:(10:Int) < (l.length:Int):=by omega
    clear hw hT hr R
    go_enter Tryz.func3,Tryz.ntmps3
    go_wp2_with (((with_reducible refine (A.out).mono ?_);intro e w1 hr;obtain ⟨rfl,p,rfl⟩:=hr.out;clear hr))
    go_returns
    exact ⟨rfl,by (first | exact gwT | exact lzT)⟩
   ·have H10:¬ (10:Int) < (l.length:Int):=by omega
    by_cases hv:∃ c,chartT s.data.toList = .ok c ∧ (checkE c).1 = 0
    ·obtain ⟨c,hx,hk⟩:=hv
     have O:=okC_of hx
     have M:=Lib.hid (fun wx (hb:Below w.heap.size w wx)=>made_yes s (by omega) hx hk wx (al_below hw hb) (db_below hT hb))
     have hT':=Lib.hid (fun wx (hb:Below w.heap.size w wx)=>db_below hT hb)
     have hn:=O.few
     have h0:=O.some
     have hp:=Lib.hid O.par
     have hroot:=Lib.hid (valid_root h0 hn ((kinds_chart hx h0).1 rfl) hk)
     have hcp:=Lib.hid (fun i (hi:i < c.states.length)=>rcmp_eq (i:=i) (kinds_chart hx) hn hroot.out hi)
     clear hw hT hx hk O hr
     go_enter Tryz.func3,Tryz.ntmps3
     go_wp2_with (((with_reducible refine (A.out).mono ?_);intro e w1 hr;obtain ⟨rfl,p,rfl⟩:=hr.out;clear hr))
     go_wp2_with fail
     refine (M.out _ (by (first | exact gwT | exact lzT))).mono ?_
     rintro e w1 ⟨rv,rx,gi,va,vc,b,cap,ga,gc,xa,xc,ya,yc,rfl,hTC,hX,hb1⟩
     have hw1:Below w.heap.size w w1:=Below.trans (by (first | exact gwT | exact lzT)) (hb1.mono (by first | exact Nat.le_refl _ | (first | exact gwT | exact lzT)))
     have hz1:=hw1.size
     have TA:=Lib.hid (fun a (ha:a < c.states.length) L (hL:∀ k ∈ L,k < c.states.length) (hLl:L.length ≤ 1000) ao ac wx (hb:Below w1.heap.size w1 wx) hr=>tbaround_any (vv := .slice va c.vars.length vc) (gv := .slice ga (gosT c.states).length gc) (cap:=cap) (a:=a) ha L hL hLl ao ac (hT'.out wx (hw1.trans (hb.mono hz1))) (tbC_keep hTC hb) hr)
     have RA:=Lib.hid (fun L hne hL hLl ao ac wx (hb:Below w1.heap.size w1 wx) hr=>raround_any (vv := .slice xa c.vars.length xc) ya yc L hne hL hLl hn hp.out hcp.out ao ac (chV_keep hX hb) hr)
     have TCp:=Lib.hid (fun k (hk:k < c.states.length) wx (hb:Below w1.heap.size w1 wx)=>tcomp_any (vv := .slice va c.vars.length vc) (gv := .slice ga (gosT c.states).length gc) (cap:=cap) hk (tbC_keep hTC hb))
     have R1:=Lib.hid (fun wx (hb:Below w1.heap.size w1 wx)=>R.out wx (hw1.trans (hb.mono hz1)))
     clear M A hb1 hTC hX R hT'
     dsimp only
     go_wp2_with fail
     obtain ⟨W1,hW1⟩:∃ W1,((w1.alloc (.cells #[.slice va c.vars.length vc,.slice (some ⟨b,0,none⟩) c.states.length cap,.slice ga (gosT c.states).length gc] 28)).alloc (.cells #[.string ⟨c.name.toArray⟩,.slice xa c.vars.length xc,.slice ya c.states.length yc] 32)) = W1:=⟨_,rfl⟩
     have hb1:Below w1.heap.size w1 W1:=by rw [← hW1];(first | exact gwT | exact lzT)
     have q7:W1.heap[w1.heap.size]? = some (.cells #[.slice va c.vars.length vc,.slice (some ⟨b,0,none⟩) c.states.length cap,.slice ga (gosT c.states).length gc] 28 (0,0)):=by rw [← hW1];exact blk_old (heap_alloc_new w1 _)
     have q8:W1.heap[w1.heap.size + 1]? = some (.cells #[.string ⟨c.name.toArray⟩,.slice xa c.vars.length xc,.slice ya c.states.length yc] 32 (0,0)):=by rw [← hW1];exact new_at (by simp)
     rw [hW1]
     have hwW:=Lib.hid (hw1.trans (hb1.mono hw1.size))
     have TA':=Lib.hid (fun a ha L hL hLl ao ac wx (hb:Below W1.heap.size W1 wx) hr=>TA.out a ha L hL hLl ao ac wx (hb1.trans (hb.mono hb1.size)) hr)
     have RA':=Lib.hid (fun L hne hL hLl ao ac wx (hb:Below W1.heap.size W1 wx) hr=>RA.out L hne hL hLl ao ac wx (hb1.trans (hb.mono hb1.size)) hr)
     have TC':=Lib.hid (fun k hk wx (hb:Below W1.heap.size W1 wx)=>TCp.out k hk wx (hb1.trans (hb.mono hb1.size)))
     have R2:=Lib.hid (fun wx (hb:Below W1.heap.size W1 wx)=>R1.out wx (hb1.trans (hb.mono hb1.size)))
     clear hW1 TA RA TCp R1 hb1 hw1 hz1
     generalize w1.heap.size = qb at *
     replace hl0:=Lib.hid hl0
     go_loopw [36] (fun x wr=>∃ (j:Nat),x = .int .i64 (j:Int) ∧ j ≤ l.length ∧ Hid (∀ m (h:m < l.length),m < j → 1 ≤ l[m] ∧ l[m] < (c.states.length:Int)) ∧ Below W1.heap.size W1 wr) (fun x _=>l.length - (intOf x).toNat)
     case atStart=>exact ⟨0,rfl,Nat.zero_le _,Lib.hid (fun m h h2=>absurd h2 (Nat.not_lt_zero _)),Below.refl _ _⟩
     case round =>
      obtain ⟨j,rfl,hj,hin,hb⟩:=hrel
      rename World=>wr
      obtain ⟨t0,t1,t2,tl,-⟩:=cells3 (blk_keep q7 hb)
      have iq:InW qb wr:=⟨tl⟩
      have hfin:=Lib.hid (hwW.out.trans (hb.mono hwW.out.size))
      have hrI:=R2.out wr hb
      by_cases hlt:j < l.length
      ·have hI:(j:Int) < (l.length:Int):=by omega
       obtain ⟨g,o,el,hg,nj⟩:=hrI j hlt
       subst el
       have ig:InW g wr:=⟨hg⟩
       have hin2:1 ≤ l[j] → l[j] < (c.states.length:Int) → Hid (∀ m (h:m < l.length),m < j + 1 → 1 ≤ l[m] ∧ l[m] < (c.states.length:Int)):=fun h1 h2=>Lib.hid fun m h hm=>by
        by_cases e:m = j
        ·subst e;exact ⟨h1,h2⟩
        ·exact hin.out m h (by omega)
       generalize l[j] = x at *
       clear hrI hin
       by_cases ha:x < 1
       ·clear hin2
        go_wp2
        go_returns
        exact ⟨rfl,hfin.out.trans (Below.mono (show Below wr.heap.size wr _ by (first | exact gwT | exact lzT)) hfin.out.size)⟩
       ·by_cases hc:(c.states.length:Int) ≤ x
        ·clear hin2
         go_wp2
         go_returns
         exact ⟨rfl,hfin.out.trans (Below.mono (show Below wr.heap.size wr _ by (first | exact gwT | exact lzT)) hfin.out.size)⟩
        ·have hin3:=hin2 (by omega) (by omega)
         clear hin2
         go_wp2
         go_roundw
         case rel=>exact ⟨j + 1,by go_num,by omega,hin3,by (first | exact gwT | exact lzT)⟩
         case measure=>simp [intOf];omega
      ·have hI:¬ (j:Int) < (l.length:Int):=by omega
       have hall:∀ m (h:m < l.length),1 ≤ l[m] ∧ l[m] < (c.states.length:Int):=fun m h=>hin.out m h (by omega)
       obtain ⟨L',hL'⟩:=ints_nats (l:=l) (fun i hi=>by have:=(hall i hi).1;omega)
       cases L' with
       | nil=>exact absurd (by rw [hL'];rfl) hl0.out
       | cons a L =>
        have hlen:l.length = L.length + 1:=by rw [hL'];simp [intsN]
        have hin':∀ k ∈ a :: L,0 < k ∧ k < c.states.length:=fun k hk=>by
         have hm:(k:Int) ∈ l:=by rw [hL'];exact List.mem_map.2 ⟨k,hk,rfl⟩
         obtain ⟨m,h,e⟩:=List.getElem_of_mem hm
         have:=hall m h
         rw [e] at this
         omega
        have haa:=hin' a (by simp)
        have hLL:∀ k ∈ L,0 < k ∧ k < c.states.length:=fun k hk=>hin' k (by simp [hk])
        have he:=arnd_eq hp.out hn haa.2 (fun k hk=>(hLL k hk).2)
        have hcm:=arnd_comp hp.out hroot.out haa hLL
        have hal:=compS_lt hcm
        have T2:Hid (∀ (m:Nat),m = L.length → ∀ (ao:Option Addr) (ac:Nat) wx,Below W1.heap.size W1 wx → IntsRd wx ao (intsN L) → Calls Tryz.prog 8 #[.agg #[.slice va c.vars.length vc,.slice (some ⟨b,0,none⟩) c.states.length cap,.slice ga (gosT c.states).length gc],.int .i64 (a:Int),.slice ao m ac] wx (Ret (.int .i64 (arndS c.states a L:Int)) wx)):=Lib.hid (fun m hm ao ac wx hb hr'=>by
         subst hm
         exact TA'.out a haa.2 L (fun k hk=>(hLL k hk).2) (by omega) ao ac wx hb hr')
        have R3:Hid (∀ (m:Nat),m = L.length + 1 → ∀ (ao:Option Addr) (ac:Nat) wx,Below W1.heap.size W1 wx → IntsRd wx ao (intsN (a :: L)) → Calls Tryz.prog 9 #[.agg #[str c.name,.slice xa c.vars.length xc,.slice ya c.states.length yc],.slice ao m ac] wx (Ret (.int .i64 (arndR c.states (a :: L):Int)) wx)):=Lib.hid (fun m hm ao ac wx hb hr'=>by
         subst hm
         exact RA'.out (a :: L) (by simp) (fun k hk=>(hin' k hk).2) (by simp;omega) ao ac wx hb hr')
        have C2:=Lib.hid (fun wx (hb:Below W1.heap.size W1 wx)=>TC'.out _ hal wx hb)
        rw [he] at R3
        rw [hcm] at C2
        have hrd:=Lib.hid (fun wx (hb:Below W1.heap.size W1 wx)=>R2.out wx hb)
        rw [hL'] at hrd
        have hrI':=hrd.out wr hb
        obtain ⟨g,o,el,hg,na⟩:=hrI' 0 (by simp [intsN])
        subst el
        have na':wr.cell? ⟨g,o,none⟩ = some (.int .i64 (a:Int)):=na
        have ig:InW g wr:=⟨hg⟩
        have hbb:=Lib.hid hb
        obtain ⟨x0,x1,x2,xl,-⟩:=cells3 (blk_keep q8 hb)
        have i8:InW (qb + 1) wr:=⟨xl⟩
        have hl1:1 ≤ l.length:=by omega
        generalize arndS c.states a L = ar at *
        replace hL':=Lib.hid hL'
        replace hlen:=Lib.hid hlen
        have R4:=Lib.hid (fun wx (hx:Below wr.heap.size wr wx)=>R3.out l.length hlen.out (some ⟨g,o,none⟩) lc wx (hbb.out.trans (hx.mono hbb.out.size)) (hrd.out wx (hbb.out.trans (hx.mono hbb.out.size))))
        have C4:=Lib.hid (fun wx (hx:Below wr.heap.size wr wx)=>C2.out wx (hbb.out.trans (hx.mono hbb.out.size)))
        by_cases hc1:lc = 1
        ·have T4:=Lib.hid (fun wx (hx:Below wr.heap.size wr wx)=>T2.out 0 (by have:=hlen.out;omega) (some ⟨g,o,none⟩) 0 wx (hbb.out.trans (hx.mono hbb.out.size)) (fun i hi=>by
          have:=hlen.out
          have h2:i < L.length:=by simpa [intsN] using hi
          omega))
         subst hc1
         clear hin hall hin' hLL he hcm TA' RA' TC' R2 hrI hrI' na hb haa T2 R3 C2 hrd hlen
         have T5:=Lib.hid (fun p=>quietG (T4.out (G p wr) (by (first | exact gwT | exact lzT))))
         clear T4
         go_wp2_with fail
         (refine wp_region_G (by kernel_rfl) (by kernel_rfl) ?_;(repeat (go_big_quiet_step (exact T5.out _)));refine wpQuiet_nil ?_;intro _ hw';obtain ⟨pg,hw''⟩:=hw';subst hw'')
         go_wp2_with (first | ((with_reducible refine (R4.out _ (by (first | exact gwT | exact lzT))).mono ?_);intro e w1 hr;obtain ⟨rfl,p,rfl⟩:=hr.out;clear hr) | ((with_reducible refine (C4.out _ (by (first | exact gwT | exact lzT))).mono ?_);intro e w1 hr;obtain ⟨rfl,p,rfl⟩:=hr.out;clear hr))
         go_returns
         exact ⟨by simp,hfin.out.trans (Below.mono (show Below wr.heap.size wr _ by (first | exact gwT | exact lzT)) hfin.out.size)⟩
        ·have T4:=Lib.hid (fun wx (hx:Below wr.heap.size wr wx)=>T2.out (l.length - 1) (by have:=hlen.out;omega) (some ⟨g,o + 1,none⟩) (lc - 1) wx (hbb.out.trans (hx.mono hbb.out.size)) (ints_rest (hrd.out wx (hbb.out.trans (hx.mono hbb.out.size)))))
         clear hin hall hin' hLL he hcm TA' RA' TC' R2 hrI hrI' na hb haa T2 R3 C2 hrd hlen
         have T5:=Lib.hid (fun p=>quietG (T4.out (G p wr) (by (first | exact gwT | exact lzT))))
         clear T4
         go_wp2_with fail
         (refine wp_region_G (by kernel_rfl) (by kernel_rfl) ?_;(repeat (go_big_quiet_step (exact T5.out _)));refine wpQuiet_nil ?_;intro _ hw';obtain ⟨pg,hw''⟩:=hw';subst hw'')
         go_wp2_with (first | ((with_reducible refine (R4.out _ (by (first | exact gwT | exact lzT))).mono ?_);intro e w1 hr;obtain ⟨rfl,p,rfl⟩:=hr.out;clear hr) | ((with_reducible refine (C4.out _ (by (first | exact gwT | exact lzT))).mono ?_);intro e w1 hr;obtain ⟨rfl,p,rfl⟩:=hr.out;clear hr))
         go_returns
         exact ⟨by simp,hfin.out.trans (Below.mono (show Below wr.heap.size wr _ by (first | exact gwT | exact lzT)) hfin.out.size)⟩
    ·have M:=Lib.hid (fun wx (hb:Below w.heap.size w wx)=>made_no s (by omega) (fun c h1 h2=>hv ⟨c,h1,h2⟩) wx (al_below hw hb))
     replace hv:=Lib.hid hv
     clear hw hT hr R
     go_enter Tryz.func3,Tryz.ntmps3
     go_wp2_with (((with_reducible refine (A.out).mono ?_);intro e w1 hr;obtain ⟨rfl,p,rfl⟩:=hr.out;clear hr))
     go_wp2_with fail
     refine (M.out _ (by (first | exact gwT | exact lzT))).mono ?_
     rintro e w1 ⟨a1,a2,a3,a4,a5,j1,j2,j3,j4,j5,j6,j7,j8,j9,j10,t,rfl,hb1⟩
     have hw1:Below w.heap.size w w1:=Below.trans (by (first | exact gwT | exact lzT)) (hb1.mono (by first | exact Nat.le_refl _ | (first | exact gwT | exact lzT)))
     clear A M hb1
     dsimp only
     go_wp2
     go_returns
     exact ⟨rfl,hw1.trans (Below.mono (show Below w1.heap.size w1 _ by (first | exact gwT | exact lzT)) hw1.size)⟩
 ·have H1:(20000:Int) < (s.size:Int):=by omega
  clear hw hT hr R
  go_enter Tryz.func3,Tryz.ntmps3
  go_wp2_with (((with_reducible refine (A.out).mono ?_);intro e w1 hr;obtain ⟨rfl,p,rfl⟩:=hr.out;clear hr))
  go_returns
  exact ⟨rfl,by (first | exact gwT | exact lzT)⟩
end Go.Proofs.YtncmnhccmemagaaGreatDoor
