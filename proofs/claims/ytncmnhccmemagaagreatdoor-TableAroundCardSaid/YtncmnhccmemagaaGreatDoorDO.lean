/- The document's own answers about a chart's tree: histories, parents, children, what is around. -/
import Derived.Test.YtncmnhccmemagaaGreatDoorL1
import Derived.Test.YtncmnhccmemagaaGreatDoorV5
import Derived.Test.YtncmnhccmemagaaGreatDoorJ2
import Derived.WalkKit
import Derived.ProofKit
import Derived.OpenShut
import Derived.Handy
import Derived.BigQuiet
import Derived.OwnWalk
import Derived.Deep.AppendLies
import Derived.Lib.Hide
import Derived.WalkSmall
import Derived.WalkLawsBesides
namespace Go.Proofs.YtncmnhccmemagaaGreatDoor
open Go.RowKit
def kidL (ss:List St) (i:Nat):List Nat:=(kidsA (i:Int) ss 0).filter fun k => !pastS (ss.getD k st0)
theorem kidsA_rise (p:Int):∀ (ss:List St) (k:Nat),(kidsA p ss k).Pairwise (· < ·) ∧ ∀ j ∈ kidsA p ss k,k ≤ j
 | [],_=>⟨.nil,fun _ h=>by cases h⟩
 | s :: r,k=>by
  obtain ⟨h1,h2⟩:=kidsA_rise p r (k + 1)
  rw [kidsA]
  split
  ·refine ⟨.cons (fun j hj=>?_) h1,fun j hj=>?_⟩
   ·have:=h2 j hj
    omega
   ·rcases List.mem_cons.1 hj with e | e
    ·omega
    ·have:=h2 j e
     omega
  ·exact ⟨h1,fun j hj=>by have:=h2 j hj;omega⟩
theorem nums_kid (ss:List St) (i:Nat) (hn:ss.length ≤ 49):numsS (kidS ss i) = kidL ss i:=by
 have h:(numsS (kidS ss i)).reverse = (kidL ss i).reverse:=by
  refine falls_ext (nums_falls _) ?_ fun k=>?_
  ·rw [List.pairwise_reverse]
   exact List.Pairwise.filter _ (kidsA_rise _ _ _).1
  ·rw [List.mem_reverse,List.mem_reverse,nums_mem]
   unfold kidL
   rw [List.mem_filter]
   have hc:k ∈ kidsA (i:Int) ss 0 ↔ (kidsA (i:Int) ss 0).contains k = true:=by simp
   rw [hc,kids_at]
   constructor
   ·rintro ⟨h1,h2⟩
    rw [kid_bit h1,Bool.and_eq_true] at h2
    exact ⟨h2.2,h2.1⟩
   ·rintro ⟨h1,h2⟩
    have h3:=h1
    rw [Bool.and_eq_true,decide_eq_true_eq] at h3
    refine ⟨by omega,?_⟩
    rw [kid_bit (by omega),h1,h2]
    rfl
 rw [← List.reverse_reverse (numsS (kidS ss i)),h,List.reverse_reverse]
theorem anc_more {ss:List St} {f i:Nat} (h:i ≠ 0):ancL ss (f + 1) i = (ss.getD i st0).parent.toNat :: ancL ss f (ss.getD i st0).parent.toNat:=by rw [ancL,if_neg h]
theorem anc_zero (ss:List St):∀ f,ancL ss f 0 = []
 | 0=>rfl
 | _ + 1=>by rw [ancL,if_pos rfl]
theorem anc_len (ss:List St):∀ f i,(ancL ss f i).length ≤ f
 | 0,_=>Nat.le_refl _
 | f + 1,i=>by
  rw [ancL]
  split
  ·exact Nat.zero_le _
  ·have:=anc_len ss f (ss.getD i st0).parent.toNat
   rw [List.length_cons]
   omega
theorem nats_rd {w:World} {B:Nat} {ao:Option Addr} {n cap:Nat} {ks:List Nat} (h:w.ownsRow B 3 1 (.slice ao n cap) ks.length (natsC ks)):IntsRd w ao (intsN ks):=fun i hi=>by
 have hi':i < ks.length:=by simpa [intsN] using hi
 obtain ⟨g,e,hg,hc⟩:=nat_at h i hi'
 refine ⟨g,0,e,hg,?_⟩
 rw [Nat.zero_add,hc]
 simp [intsN]
theorem kidL_drop {ss:List St} {i:Nat} (h:0 < ss.length) (hr:(ss.getD 0 st0).parent = -1):kidL ss i = (kidsA (i:Int) (ss.drop 1) 1).filter fun k => !pastS (ss.getD k st0):=by
 unfold kidL
 cases ss with
 | nil=>cases h
 | cons s r =>
  have hr':s.parent = -1:=hr
  rw [kidsA,if_neg (by omega)]
  rfl
section
variable {B:Nat} {c:Ch} {rv:Nat → Value} {vv:Value} {w:World}
theorem rpast_any (s k p t e x r:Value) (n:Int) (hk:k = .int .i64 n) (w:World) :
  Calls Tryz.prog 13 #[.agg #[s,k,p,t,e,x,r]] w (Ret (.bool (n == 6 || n == 7)) w):=by
 subst hk
 cases h6:(n == 6)
 ·cases h7:(n == 7)
  all_goals
   go_enter Tryz.func13,Tryz.ntmps13
   go_wp2
   go_returns
   exact ⟨by simp,by (first | exact gwT | exact lzT)⟩
 ·go_enter Tryz.func13,Tryz.ntmps13
  go_wp2
  go_returns
  exact ⟨by simp,by (first | exact gwT | exact lzT)⟩
set_option maxRecDepth 100000 in
set_option maxHeartbeats 4000000 in
theorem rchain_any {τ:CT} (so:Option Addr) (sc:Nat) (a:Nat) (ha:a < c.states.length) (hn:c.states.length ≤ 49) (hp:Par c.states) (h:ChV τ B w c rv vv (.slice so c.states.length sc)) :
  Calls Tryz.prog 40 #[.agg #[str c.name,vv,.slice so c.states.length sc],.int .i64 (a:Int)] w (NatsIs (a :: ancL c.states c.states.length a) w):=by
 have H:=chV_hid h
 have hp':=Lib.hid hp
 obtain ⟨F,hF⟩:∃ F,a :: ancL c.states c.states.length a = F:=⟨_,rfl⟩
 have hF':Hid (F = [a] ++ ancL c.states c.states.length a):=Lib.hid hF.symm
 rw [hF]
 have hFl:F.length ≤ 100:=by
  rw [← hF]
  have:=anc_len c.states c.states.length a
  simp
  omega
 clear h hF hp
 obtain ⟨j0,hj,hy1,hy2,hy3⟩:=info_parts Tryz.infoInt
 have hcn:=Lib.hid ha
 go_enter Tryz.func40,Tryz.ntmps40
 go_wp2
 go_loopw [1,5] (fun u v wr=>∃ (p f:Nat) (ks:List Nat) (oa:Option Addr) (oc:Nat),u = .int .i64 (p:Int) ∧ p ≤ f ∧ p < c.states.length ∧ Hid (F = ks ++ ancL c.states f p) ∧ v = .slice oa ks.length oc ∧ wr.ownsRow w.heap.size 3 1 (.slice oa ks.length oc) ks.length (natsC ks) ∧ wr.heap[w.heap.size]? = some (.cells #[str c.name,vv,.slice so c.states.length sc] 32 (0,0)) ∧ Below w.heap.size w wr) (fun u _ _=>(intOf u).toNat)
 case atStart =>
  refine ⟨a,c.states.length,[a],_,1,rfl,by omega,ha,hF',rfl,?_,blk_old (heap_alloc_new w _),by (first | exact gwT | exact lzT)⟩
  have:=World.ownsRow_lit (base:=w.heap.size) (size:=1) (e:=3) (w.alloc (.cells #[str c.name,vv,.slice so c.states.length sc] 32)) #[.int .i64 (a:Int)] 1 (by simp) (by decide) rfl
  rw [World.size_alloc] at this
  exact this
 case round =>
  obtain ⟨p,f,ks,oa,oc,rfl,hpf,hpn,hf,rfl,hown,hbx,hb⟩:=hrel
  rename World=>wr
  have hwz:=hb.size
  have hownK:=Lib.hid hown
  have hkl:ks.length ≤ 100:=by
   have:=congrArg List.length hf.out
   rw [List.length_append] at this
   omega
  clear hown
  by_cases h0:p = 0
  ·subst h0
   have hf2:F = ks:=by rw [hf.out,anc_zero,List.append_nil]
   subst hf2
   clear hf hbx
   go_wp2
   go_returns
   exact ⟨_,rfl,owns_below hownK.out (by (first | exact gwT | exact lzT)),by (first | exact gwT | exact lzT)⟩
  ·obtain ⟨f',rfl⟩:∃ f',f = f' + 1:=⟨f - 1,by omega⟩
   obtain ⟨g,eo,ec,xo,xc,to',tc,rfl,hg,n1,n2,n3,n4,n5,n6,n7,_,_,_⟩:=st_at (H.out wr hb) p hpn
   obtain ⟨q1,q2⟩:=hp'.out.par p (by omega) hpn
   obtain ⟨q,hq⟩:∃ q:Nat,(c.states.getD p st0).parent = (q:Int):=⟨(c.states.getD p st0).parent.toNat,by omega⟩
   have hf2:Hid (F = (ks ++ [q]) ++ ancL c.states f' q):=Lib.hid (by rw [hf.out,anc_more h0,hq,Int.toNat_natCast,List.append_assoc];rfl)
   rw [← getD_at hpn,hq] at n3
   rw [hq] at q2
   have i1:InW g wr:=⟨hg⟩
   obtain ⟨z0,z1,z2,zl,zf⟩:=cells3 hbx
   have i2:InW w.heap.size wr:=⟨zl⟩
   have hI:(p:Int) < (c.states.length:Int):=by omega
   have hI0:(0:Int) < (p:Int):=by omega
   have hbk:=Lib.hid hbx
   replace h0:=Lib.hid h0
   replace hq:=Lib.hid hq
   clear hf hbx zf q1
   go_wp2_with (at_builtin;refine wpList_append_lies _ rfl _ _ 22 rfl w.heap.size 3 j0 _ 1 8 Tryz.underlying22 hj hy1 hy2 hy3 rfl (by decide) (.slice oa ks.length oc) ks.length (natsC ks) rfl (owns_below hownK.out (by (first | exact gwT | exact lzT))) ⟨_,0,none⟩ 1 1 [.int .i64 (q:Int)] rfl rfl (World.news_of_block (new_at (by simp))) (by intro u hu;simp at hu;subst hu;rfl) (by decide) (by unfold maxLen;omega) (by omega) (Nat.le_trans hwz (Below.size (B:=wr.heap.size) (w:=wr) (by (first | exact gwT | exact lzT)))) _ rfl ?_)
   intro g' cap' w1 hown1 hgrow hat1 hg1
   have hbx2:=grown_blk (owns_below hownK.out (by (first | exact gwT | exact lzT))) (blk_keep hbk.out (by (first | exact gwT | exact lzT))) (by decide) hgrow
   have hb1:Below w.heap.size w w1:=Below.grown (hb.trans (Below.mono (B:=wr.heap.size) (by (first | exact gwT | exact lzT)) hwz)) hgrow (Nat.le_trans hwz (Below.size (B:=wr.heap.size) (w:=wr) (by (first | exact gwT | exact lzT)))) (fun k hk=>(hownK.out.lt k hk).1)
   have hown2:=Lib.hid hown1
   clear hown1 hgrow hat1 hg1 hownK hb
   go_wp2
   go_roundw
   case rel=>exact ⟨q,f',ks ++ [q],_,cap',rfl,by omega,by omega,hf2,by rw [List.length_append];rfl,by rw [List.length_append,show natsC (ks ++ [q]) = natsC ks ++ [.int .i64 (q:Int)] by simp [natsC]];exact hown2.out,hbx2,hb1⟩
   case measure=>simp [intOf];omega
def NatsRd (ks:List Nat) (w:World) (e:Ending) (w':World):Prop:=∃ ao cap,e = .returned (.slice ao ks.length cap) ∧ IntsRd w' ao (intsN ks) ∧ Below w.heap.size w w'
set_option maxRecDepth 100000 in
set_option maxHeartbeats 4000000 in
theorem rup_any {τ:CT} (so:Option Addr) (sc:Nat) (a:Nat) (ha:a < c.states.length) (hn:c.states.length ≤ 49) (hp:Par c.states) (h:ChV τ B w c rv vv (.slice so c.states.length sc)) :
  Calls Tryz.prog 25 #[.agg #[str c.name,vv,.slice so c.states.length sc],.int .i64 (a:Int)] w (NatsRd (ancL c.states c.states.length a) w):=by
 have C:=Lib.hid (fun wx (hb:Below w.heap.size w wx)=>rchain_any (w:=wx) so sc a ha hn hp (chV_keep h hb))
 generalize ancL c.states c.states.length a = ks at *
 clear h
 go_enter Tryz.func25,Tryz.ntmps25
 go_wp2_with fail
 refine (C.out _ (by (first | exact gwT | exact lzT))).mono ?_
 rintro e w1 ⟨v,rfl,hown,hb1⟩
 obtain ⟨ko,kc,rfl⟩:=own_form hown
 have hw1:Below w.heap.size w w1:=Below.trans (by (first | exact gwT | exact lzT)) (hb1.mono (by simp))
 obtain ⟨g,cap',e,hg,hle,_,hc⟩:=own_head hown (by simp)
 cases e
 have hR:IntsRd w1 (some ⟨g,1,none⟩) (intsN ks):=fun i hi=>by
  have hi':i < ks.length:=by simpa [intsN] using hi
  refine ⟨g,1,rfl,hg,?_⟩
  have:=hc (1 + i) (.int .i64 (ks[i]:Int)) (by rw [Nat.add_comm];simp [natsC,hi'])
  rw [this]
  simp [intsN]
 have hl2:(a :: ks).length = ks.length + 1:=rfl
 rw [hl2] at hle ⊢
 have e1:(1:Int) ≤ ((ks.length + 1:Nat):Int):=by omega
 clear C hown hc hb1
 dsimp only
 go_wp2
 ·rename_i h
  have h0:ks.length = 0:=by omega
  go_returns
  refine ⟨_,_,rfl,fun i hi=>?_,hw1⟩
  have:i < ks.length:=by simpa [intsN] using hi
  omega
 ·go_returns
  exact ⟨_,_,rfl,hR,hw1⟩
set_option maxRecDepth 100000 in
set_option maxHeartbeats 4000000 in
theorem rkids_any {τ:CT} (so:Option Addr) (sc:Nat) (i:Nat) (h0:0 < c.states.length) (hn:c.states.length ≤ 49) (hp:Par c.states) (h:ChV τ B w c rv vv (.slice so c.states.length sc)) :
  Calls Tryz.prog 41 #[.agg #[str c.name,vv,.slice so c.states.length sc],.int .i64 (i:Int)] w (NatsIs (kidL c.states i) w):=by
 have H:=chV_hid h
 have hF:=kidL_drop (i:=i) h0 hp.root
 have hF':Hid (kidL c.states i = [] ++ (kidsA (i:Int) (c.states.drop 1) 1).filter fun k => !pastS (c.states.getD k st0)):=Lib.hid (by rw [hF];rfl)
 have hFl:(kidL c.states i).length ≤ 49:=by
  unfold kidL
  have:=List.length_filter_le (fun k => !pastS (c.states.getD k st0)) (kidsA (i:Int) c.states 0)
  have:=kidsA_len (i:Int) c.states 0
  omega
 clear h hF
 generalize kidL c.states i = F at *
 obtain ⟨j0,hj,hy1,hy2,hy3⟩:=info_parts Tryz.infoInt
 go_enter Tryz.func41,Tryz.ntmps41
 go_wp2
 go_loopw [5,6] (fun v x wr=>∃ (k:Nat) (ks:List Nat) (oa:Option Addr) (oc:Nat),x = .int .i64 (k:Int) ∧ 1 ≤ k ∧ k ≤ c.states.length ∧ Hid (F = ks ++ (kidsA (i:Int) (c.states.drop k) k).filter fun k => !pastS (c.states.getD k st0)) ∧ v = .slice oa ks.length oc ∧ wr.ownsRow w.heap.size 3 1 (.slice oa ks.length oc) ks.length (natsC ks) ∧ wr.heap[w.heap.size]? = some (.cells #[str c.name,vv,.slice so c.states.length sc] 32 (0,0)) ∧ Below w.heap.size w wr) (fun _ x _=>c.states.length - (intOf x).toNat)
 case atStart=>exact ⟨1,[],none,0,rfl,Nat.le_refl _,h0,hF',rfl,World.ownsRow_nil _ _ _ _,heap_alloc_new w _,by (first | exact gwT | exact lzT)⟩
 case round =>
  obtain ⟨k,ks,oa,oc,rfl,hk1,hk,hf,rfl,hown,hbx,hb⟩:=hrel
  rename World=>wr
  have hwz:=hb.size
  have hkl:ks.length ≤ 49:=by
   have:=congrArg List.length hf.out
   rw [List.length_append] at this
   omega
  have hownK:=Lib.hid hown
  have hbk:=Lib.hid hbx
  obtain ⟨z0,z1,z2,zl,-⟩:=cells3 hbx
  have ic:InW w.heap.size wr:=⟨zl⟩
  clear hown hbx
  have hbn:Hid (∀ W,Below wr.heap.size wr W → W.heap[w.heap.size]? = some (.cells #[str c.name,vv,.slice so c.states.length sc] 32 (0,0))):=Lib.hid fun W h=>blk_keep hbk.out h
  by_cases hlt:k < c.states.length
  ·obtain ⟨g,eo,ec,xo,xc,to',tc,rfl,hg,n1,n2,n3,n4,n5,n6,n7,-,-,-⟩:=st_at (H.out wr hb) k hlt
   have hm:=kidsA_more (p:=(i:Int)) hlt
   have hps:pastS (c.states.getD k st0) = (c.states[k].kind == 6 || c.states[k].kind == 7):=by rw [getD_at hlt];rfl
   have hI:(k:Int) < (c.states.length:Int):=by omega
   have i1:InW g wr:=⟨hg⟩
   have S6:=Lib.hid (fun wx=>rpast_any (str c.states[k].name) (.int .i64 c.states[k].kind) (.int .i64 c.states[k].parent) (str c.states[k].start) (.slice eo c.states[k].enter.length ec) (.slice xo c.states[k].exit.length xc) (.slice to' c.states[k].trans.length tc) c.states[k].kind rfl wx)
   rw [← hps] at S6
   generalize c.states[k] = s at *
   by_cases hh:s.parent = (i:Int)
   ·have e1:(s.parent == (i:Int)) = true:=by simpa using hh
    rw [if_pos hh] at hm
    cases hq:pastS (c.states.getD k st0) with
    | true =>
     have hf2:Hid (F = ks ++ (kidsA (i:Int) (c.states.drop (k + 1)) (k + 1)).filter fun k => !pastS (c.states.getD k st0)):=Lib.hid (by rw [hf.out,hm,List.filter_cons_of_neg (by rw [hq];exact Bool.false_ne_true)])
     rw [hq] at S6
     replace hh:=Lib.hid hh
     clear hf hm hps hq
     go_wp2_with (((with_reducible refine (S6.out _).mono ?_);intro e w1 hr;obtain ⟨rfl,p,rfl⟩:=hr.out;clear hr))
     go_roundw
     case rel=>exact ⟨k + 1,ks,oa,oc,by go_num,by omega,by omega,hf2,rfl,owns_below hownK.out (by (first | exact gwT | exact lzT)),hbn.out _ (by (first | exact gwT | exact lzT)),by (first | exact gwT | exact lzT)⟩
     case measure=>simp [intOf];omega
    | false =>
     have hf2:Hid (F = (ks ++ [k]) ++ (kidsA (i:Int) (c.states.drop (k + 1)) (k + 1)).filter fun k => !pastS (c.states.getD k st0)):=Lib.hid (by rw [hf.out,hm,List.filter_cons_of_pos (by rw [hq];rfl),List.append_assoc];rfl)
     rw [hq] at S6
     replace hh:=Lib.hid hh
     clear hf hm hps hq
     go_wp2_with fail
     refine (S6.out _).mono ?_
     intro e w1 hr
     obtain ⟨rfl,p,rfl⟩:=hr.out
     clear hr
     go_wp2_with (at_builtin;refine wpList_append_lies _ rfl _ _ 22 rfl w.heap.size 3 j0 _ 1 8 Tryz.underlying22 hj hy1 hy2 hy3 rfl (by decide) (.slice oa ks.length oc) ks.length (natsC ks) rfl (owns_below hownK.out (by (first | exact gwT | exact lzT))) ⟨_,0,none⟩ 1 1 [.int .i64 (k:Int)] rfl rfl (World.news_of_block (new_at (by simp))) (by intro u hu;simp at hu;subst hu;rfl) (by decide) (by unfold maxLen;omega) (by omega) (Nat.le_trans hwz (Below.size (B:=wr.heap.size) (w:=wr) (by (first | exact gwT | exact lzT)))) _ rfl ?_)
     intro g' cap' w1 hown1 hgrow hat1 hg1
     have hbx2:=grown_blk (owns_below hownK.out (by (first | exact gwT | exact lzT))) (blk_keep hbk.out (by (first | exact gwT | exact lzT))) (by decide) hgrow
     have hb1:Below w.heap.size w w1:=Below.grown (hb.trans (Below.mono (B:=wr.heap.size) (by (first | exact gwT | exact lzT)) hwz)) hgrow (Nat.le_trans hwz (Below.size (B:=wr.heap.size) (w:=wr) (by (first | exact gwT | exact lzT)))) (fun k hk=>(hownK.out.lt k hk).1)
     have hown2:=Lib.hid hown1
     clear hown1 hgrow hat1 hg1 hownK hb
     go_wp2
     go_roundw
     case rel=>exact ⟨k + 1,ks ++ [k],_,cap',by go_num,by omega,by omega,hf2,by rw [List.length_append];rfl,by rw [List.length_append,show natsC (ks ++ [k]) = natsC ks ++ [.int .i64 (k:Int)] by simp [natsC]];exact hown2.out,hbx2,hb1⟩
     case measure=>simp [intOf];omega
   ·have e1:(s.parent == (i:Int)) = false:=by simpa using hh
    rw [if_neg hh] at hm
    have hf2:Hid (F = ks ++ (kidsA (i:Int) (c.states.drop (k + 1)) (k + 1)).filter fun k => !pastS (c.states.getD k st0)):=Lib.hid (by rw [hf.out,hm])
    replace hh:=Lib.hid hh
    clear hf hm hps S6
    go_wp2
    go_roundw
    case rel=>exact ⟨k + 1,ks,oa,oc,by go_num,by omega,by omega,hf2,rfl,owns_below hownK.out (by (first | exact gwT | exact lzT)),hbn.out _ (by (first | exact gwT | exact lzT)),by (first | exact gwT | exact lzT)⟩
    case measure=>simp [intOf];omega
  ·have hI:¬ (k:Int) < (c.states.length:Int):=by omega
   have hm:=kidsA_end (p:=(i:Int)) (show c.states.length ≤ k by omega)
   have hf2:F = ks:=by rw [hf.out,hm];simp
   subst hf2
   clear hf hm
   go_wp2
   go_returns
   exact ⟨_,rfl,owns_below hownK.out (by (first | exact gwT | exact lzT)),by (first | exact gwT | exact lzT)⟩
set_option maxRecDepth 100000 in
set_option maxHeartbeats 4000000 in
theorem rcomp_any {τ:CT} (so:Option Addr) (sc:Nat) (i:Nat) (hi:i < c.states.length) (hn:c.states.length ≤ 49) (hp:Par c.states) (h:ChV τ B w c rv vv (.slice so c.states.length sc)) :
  Calls Tryz.prog 26 #[.agg #[str c.name,vv,.slice so c.states.length sc],.int .i64 (i:Int)] w (Ret (.bool (i == 0 || (c.states.getD i st0).kind == 3 && decide (0 < (kidL c.states i).length))) w):=by
 have K:=Lib.hid (fun wx (hb:Below w.heap.size w wx)=>rkids_any (w:=wx) so sc i (by omega) hn hp (chV_keep h hb))
 obtain ⟨g,eo,ec,xo,xc,to',tc,rfl,hg,n1,n2,n3,n4,n5,n6,n7,-,-,-⟩:=st_at h i hi
 rw [getD_at hi]
 have i1:InW g w:=⟨hg⟩
 have hI:(i:Int) < (c.states.length:Int):=by omega
 generalize kidL c.states i = F at *
 generalize c.states[i] = s at *
 clear h
 have e0:((i:Int) == 0) = (i == 0):=by rw [Bool.eq_iff_iff];simp
 cases h0:(i == 0)
 ·rw [h0] at e0
  replace h0:=Lib.hid h0
  cases h3:(s.kind == 3)
  ·go_enter Tryz.func26,Tryz.ntmps26
   go_wp2
   go_returns
   exact ⟨by simp,by (first | exact gwT | exact lzT)⟩
  ·go_enter Tryz.func26,Tryz.ntmps26
   go_wp2_with fail
   refine (K.out _ (by (first | exact gwT | exact lzT))).mono ?_
   rintro e w1 ⟨v,rfl,hown,hb1⟩
   obtain ⟨ko,kc,rfl⟩:=own_form hown
   have hw1:Below w.heap.size w w1:=Below.trans (by (first | exact gwT | exact lzT)) (hb1.mono (by simp))
   have e2:decide (0 < F.length) = decide ((0:Int) < (F.length:Int)):=by rw [decide_eq_decide];omega
   clear K hown hb1
   dsimp only
   go_wp2
   go_returns
   exact ⟨by simp [e2],hw1⟩
 ·rw [h0] at e0
  replace h0:=Lib.hid h0
  go_enter Tryz.func26,Tryz.ntmps26
  go_wp2
  go_returns
  exact ⟨by simp,by (first | exact gwT | exact lzT)⟩
end
end Go.Proofs.YtncmnhccmemagaaGreatDoor
