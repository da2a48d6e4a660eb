/- TableFinds: the walk. -/
import Derived.Test.YtncmnhccmemagaaGreatDoorL4
import Derived.Test.YtncmnhccmemagaaGreatDoorL5
import Derived.Test.YtncmnhccmemagaaGreatDoorDO
import Derived.WalkKit
import Derived.ProofKit
import Derived.OpenShut
import Derived.Handy
import Derived.BigQuiet
import Derived.OwnWalk
import Derived.Lib.Hide
import Derived.WalkSmall
import Derived.WalkLawsBesides
namespace Go.Proofs.YtncmnhccmemagaaGreatDoor
open Go.RowKit
theorem nmsL_rise {ss:List St}:∀ {l:List Nat},l.Pairwise (· < ·) → ∀ j,j < l.length → ss.length ≤ l.getD j 0 → nmsL ss l = nmsL ss (l.take j)
 | [],_,_,h,_=>by cases h
 | a :: l,hp,0,_,h=>by
  rw [List.pairwise_cons] at hp
  unfold nmsL
  have:(a :: l).filter (fun k=>decide (k < ss.length)) = []:=by
   rw [List.filter_eq_nil_iff]
   intro x hx
   have hax:a ≤ x:=by
    rcases List.mem_cons.1 hx with e | e
    ·omega
    ·exact Nat.le_of_lt (hp.1 x e)
   have h':ss.length ≤ a:=h
   simp
   omega
  rw [this]
  rfl
 | a :: l,hp,j + 1,hj,h=>by
  rw [List.pairwise_cons] at hp
  have ih:=nmsL_rise hp.2 j (by simpa using hj) h
  rw [List.take_succ_cons]
  unfold nmsL at ih ⊢
  by_cases ha:a < ss.length
  ·rw [List.filter_cons_of_pos (by simpa using ha),List.filter_cons_of_pos (by simpa using ha),List.map_cons,List.map_cons,ih]
  ·rw [List.filter_cons_of_neg (by simpa using ha),List.filter_cons_of_neg (by simpa using ha),ih]
theorem nums_rise (s:Nat):(numsS s).Pairwise (· < ·):=by
 rw [numsS_eq]
 exact List.Pairwise.filter _ List.pairwise_lt_range
theorem nmsL_app {ss:List St} (l r:List Nat):nmsL ss (l ++ r) = nmsL ss l ++ nmsL ss r:=by
 unfold nmsL
 rw [List.filter_append,List.map_append]
theorem nms_at {ss:List St} {ks:List Nat} {j:Nat} (hj:j < ks.length) (hk:ks.getD j 0 < ss.length):(nmsL ss (ks.take j)).length < (nmsL ss ks).length ∧ (nmsL ss ks)[(nmsL ss (ks.take j)).length]? = some (ss.getD (ks.getD j 0) st0).name ∧ (nmsL ss (ks.take (j + 1))).length = (nmsL ss (ks.take j)).length + 1:=by
 have e:ks = ks.take (j + 1) ++ ks.drop (j + 1):=(List.take_append_drop _ _).symm
 have e1:ks.take (j + 1) = ks.take j ++ [ks.getD j 0]:=by
  rw [List.take_add_one,List.getElem?_eq_getElem hj,show ks.getD j 0 = ks[j] by simp [List.getD,hj]]
  rfl
 have e2:nmsL ss (ks.take (j + 1)) = nmsL ss (ks.take j) ++ [(ss.getD (ks.getD j 0) st0).name]:=by rw [e1,nmsL_in hk]
 have e3:nmsL ss ks = nmsL ss (ks.take j) ++ ((ss.getD (ks.getD j 0) st0).name :: nmsL ss (ks.drop (j + 1))):=by
  rw [show nmsL ss ks = nmsL ss (ks.take (j + 1) ++ ks.drop (j + 1)) by rw [← e],nmsL_app,e2,List.append_assoc]
  rfl
 refine ⟨?_,?_,?_⟩
 ·rw [e3,List.length_append,List.length_cons];omega
 ·rw [e3,List.getElem?_append_right (Nat.le_refl _),Nat.sub_self];rfl
 ·rw [e2,List.length_append];rfl
theorem u64_natF {n:Int} (h:U64 n):∃ x:Nat,n = (x:Int) ∧ x < 2 ^ 64:=⟨n.toNat,by unfold U64 at h;omega,by unfold U64 at h;omega⟩
set_option maxRecDepth 100000 in
set_option maxHeartbeats 8000000 in
theorem tfinds_walk (s q:ByteArray) (n:Int) (hn0:U64 n) (w:World) (hw:Al w) (hT:Db w):Calls Tryz.prog 4 #[.string s,.string q,.int .u64 n] w (Ret (.bool true) w):=by
 obtain ⟨sx,rfl,hsx⟩:=u64_natF hn0
 have A:=Lib.hid (anchor11_any w hw hT)
 by_cases h1:s.size ≤ 20000
 ·have H1:¬ (20000:Int) < (s.size:Int):=by omega
  by_cases hv:∃ c,chartT s.data.toList = .ok c ∧ (checkE c).1 = 0
  ·obtain ⟨c,hx,hk⟩:=hv
   have O:=okC_of hx
   have M:=Lib.hid (fun wx (hb:Below w.heap.size w wx)=>made_yes s (by omega) hx hk wx (al_below hw hb) (db_below hT hb))
   have hT':=Lib.hid (fun wx (hb:Below w.heap.size w wx)=>db_below hT hb)
   have hn:=O.few
   have h0:=O.some
   have hsame:=find_same (valid_once h0 hk) q.data.toList
   have hfd:∀ k,findA q.data.toList c.states 0 = some k → k < c.states.length:=fun k h=>by
    obtain ⟨_,h2,_⟩:=findA_some h
    omega
   have hrs:=nums_rise sx
   have hln:=nums_len sx
   replace hsame:=Lib.hid hsame
   clear hw hT hx hk O
   go_enter Tryz.func4,Tryz.ntmps4
   go_wp2_with (((with_reducible refine (A.out).mono ?_);intro e w1 hr;obtain ⟨rfl,p,rfl⟩:=hr.out;clear hr))
   go_wp2_with fail
   refine (M.out _ (by (first | exact gwT | exact lzT))).mono ?_
   rintro e w1 ⟨rv,rx,gi,va,vc,b,cap,ga,gc,xa,xc,ya,yc,rfl,hTC,hX,hb1⟩
   have hw1:Below w.heap.size w w1:=Below.trans (by (first | exact gwT | exact lzT)) (hb1.mono (by first | exact Nat.le_refl _ | (first | exact gwT | exact lzT)))
   have hz1:=hw1.size
   have F1:=Lib.hid (fun wx (hb:Below w1.heap.size w1 wx)=>tbfind_any (vv := .slice va c.vars.length vc) (gv := .slice ga (gosT c.states).length gc) (cap:=cap) hn q (tbC_keep hTC hb))
   have F2:=Lib.hid (fun wx (hb:Below w1.heap.size w1 wx)=>rfind_any (vv := .slice xa c.vars.length xc) ya yc q (by omega) wx (chV_keep hX hb))
   have N1:=Lib.hid (fun wx (hb:Below w1.heap.size w1 wx)=>tbnames_any (vv := .slice va c.vars.length vc) (gv := .slice ga (gosT c.states).length gc) (cap:=cap) sx hsx (hT'.out wx (hw1.trans (hb.mono hz1))) (tbC_keep hTC hb))
   have N2:=Lib.hid (fun wx=>rlist_any sx hsx wx)
   have hX':=Lib.hid (fun wx (hb:Below w1.heap.size w1 wx)=>chV_keep hX hb)
   rw [hsame.out] at F1
   clear M A hb1 hTC hX
   dsimp only
   go_wp2_with fail
   obtain ⟨W1,hW1⟩:∃ W1,((w1.alloc (.cells #[.slice va c.vars.length vc,.slice (some ⟨b,0,none⟩) c.states.length cap,.slice ga (gosT c.states).length gc] 28)).alloc (.cells #[.string ⟨c.name.toArray⟩,.slice xa c.vars.length xc,.slice ya c.states.length yc] 32)) = W1:=⟨_,rfl⟩
   have hb1:Below w1.heap.size w1 W1:=by rw [← hW1];(first | exact gwT | exact lzT)
   have q7:W1.heap[w1.heap.size]? = some (.cells #[.slice va c.vars.length vc,.slice (some ⟨b,0,none⟩) c.states.length cap,.slice ga (gosT c.states).length gc] 28 (0,0)):=by rw [← hW1];exact blk_old (heap_alloc_new w1 _)
   have q8:W1.heap[w1.heap.size + 1]? = some (.cells #[.string ⟨c.name.toArray⟩,.slice xa c.vars.length xc,.slice ya c.states.length yc] 32 (0,0)):=by rw [← hW1];exact new_at (by simp)
   rw [hW1]
   have hwW:=Lib.hid (hw1.trans (hb1.mono hw1.size))
   have G1:=Lib.hid (fun wx (hb:Below W1.heap.size W1 wx)=>F1.out wx (hb1.trans (hb.mono hb1.size)))
   have G2:=Lib.hid (fun wx (hb:Below W1.heap.size W1 wx)=>F2.out wx (hb1.trans (hb.mono hb1.size)))
   have G3:=Lib.hid (fun wx (hb:Below W1.heap.size W1 wx)=>N1.out wx (hb1.trans (hb.mono hb1.size)))
   have G4:=Lib.hid (fun wx (hb:Below W1.heap.size W1 wx)=>hX'.out wx (hb1.trans (hb.mono hb1.size)))
   clear hW1 F1 F2 N1 hX' hb1 hw1 hz1 hT'
   generalize w1.heap.size = qb at *
   generalize numsS sx = ks at *
   cases hf:findA q.data.toList c.states 0 with
   | none =>
    rw [hf] at G1 G2
    dsimp only [Option.getD_none,Option.isSome_none] at G1 G2
    refine (G1.out _ (Below.refl _ _)).mono ?_
    rintro e w2 ⟨rfl,hb2⟩
    obtain ⟨t0,t1,t2,tl,-⟩:=cells3 (blk_keep q7 hb2)
    obtain ⟨x0,x1,x2,xl,-⟩:=cells3 (blk_keep q8 hb2)
    have i7:InW qb w2:=⟨tl⟩
    have i8:InW (qb + 1) w2:=⟨xl⟩
    dsimp only
    go_wp2_with fail
    refine (G2.out _ (by first | exact hb2 | exact hb2.trans (Below.mono (B:=w2.heap.size) (by (first | exact gwT | exact lzT)) hb2.size))).mono ?_
    rintro e w3 ⟨rfl,hb3⟩
    have hb13:Below W1.heap.size W1 w3:=hb2.trans (hb3.mono hb2.size)
    clear t0 t1 t2 tl x0 x1 x2 xl i7 i8 hb3 hb2 G1 G2
    obtain ⟨t0,t1,t2,tl,-⟩:=cells3 (blk_keep q7 hb13)
    obtain ⟨x0,x1,x2,xl,-⟩:=cells3 (blk_keep q8 hb13)
    have i7:InW qb w3:=⟨tl⟩
    have i8:InW (qb + 1) w3:=⟨xl⟩
    dsimp only
    have hb13':=Lib.hid hb13
    clear hb13
    go_wp2_with fail
    refine (G3.out _ (by first | exact hb13'.out | exact hb13'.out.trans (Below.mono (B:=w3.heap.size) (by (first | exact gwT | exact lzT)) hb13'.out.size))).mono ?_
    rintro e w4 ⟨v4,rfl,hg4,hb4⟩
    obtain ⟨na,nc,rfl⟩:=own_form hg4
    have hb34:Below w3.heap.size w3 w4:=by first | exact hb4 | exact Below.trans (by (first | exact gwT | exact lzT)) (hb4.mono (by (first | exact gwT | exact lzT)))
    have hb14:Below W1.heap.size W1 w4:=hb13'.out.trans (hb34.mono hb13'.out.size)
    clear t0 t1 t2 tl x0 x1 x2 xl i7 i8 hb4 hb34 hb13' G3
    dsimp only
    go_wp2_with fail
    refine (N2.out _).mono ?_
    rintro e w5 ⟨ao,cap5,rfl,hn5,hb5⟩
    have hb45:Below w4.heap.size w4 w5:=by first | exact hb5 | exact Below.trans (by (first | exact gwT | exact lzT)) (hb5.mono (by (first | exact gwT | exact lzT)))
    have hb15:=Lib.hid (hb14.trans (hb45.mono hb14.size))
    have hg5:=Lib.hid (owns_below hg4 hb45)
    replace hn5:=Lib.hid hn5
    clear hg4 hb45 hb5 hb14 N2
    dsimp only
    go_wp2
    go_loopw [14,65] (fun u x wr=>∃ (j:Nat),u = .int .i64 ((nmsL c.states (ks.take j)).length:Int) ∧ x = .int .i64 (j:Int) ∧ j ≤ ks.length ∧ Below w5.heap.size w5 wr) (fun _ x _=>ks.length - (intOf x).toNat)
    case atStart=>exact ⟨0,rfl,rfl,Nat.zero_le _,Below.refl _ _⟩
    case round =>
     obtain ⟨j,rfl,rfl,hj,hb⟩:=hrel
     rename World=>wr
     have hbr:=hb15.out.trans (hb.mono hb15.out.size)
     obtain ⟨x0,x1,x2,xl,-⟩:=cells3 (blk_keep q8 hbr)
     have i8:InW (qb + 1) wr:=⟨xl⟩
     have hfin:=Lib.hid (hwW.out.trans (hbr.mono hwW.out.size))
     by_cases hlj:j < ks.length
     ·have hJ:(j:Int) < (ks.length:Int):=by omega
      obtain ⟨kg,kcap,ke,hkg,hkle,_,hkc⟩:=own_head (owns_below hn5.out hb) (by omega)
      cases ke
      have nk:=hkc j (.int .i64 (ks.getD j 0:Int)) (by simp [natsI,List.getD,hlj])
      have ik:InW kg wr:=⟨hkg⟩
      have hna:=nms_at (ss:=c.states) hlj
      have hri:=nmsL_rise (ss:=c.states) hrs j hlj
      generalize ks.getD j 0 = k2 at *
      clear hkc
      by_cases hk2:k2 < c.states.length
      ·obtain ⟨m1,m2,m3⟩:=hna hk2
       have hK2:(k2:Int) < (c.states.length:Int):=by omega
       obtain ⟨sg,eo',ec',xo',xc2,to2,tc2,se,hsg,n1',-⟩:=st_at (G4.out wr hbr) k2 hk2
       cases se
       rw [← getD_at hk2] at n1'
       have is':InW _ wr:=⟨hsg⟩
       obtain ⟨ng,ncap,ne,hng,hnle,_,hnc⟩:=own_head (owns_below hg5.out hb) (by omega)
       cases ne
       have nn:=hnc _ (str (c.states.getD k2 st0).name) (by rw [strsC,List.getElem?_map,m2];rfl)
       have in':InW ng wr:=⟨hng⟩
       have hM:((nmsL c.states (ks.take j)).length:Int) < ((nmsL c.states ks).length:Int):=by omega
       have hD:decide ((((nmsL c.states ks).length:Nat):Int) ≤ (((nmsL c.states (ks.take j)).length:Nat):Int)) = false:=decide_eq_false (by omega)
       have hm64:(nmsL c.states (ks.take j)).length ≤ 64:=Nat.le_trans (nmsL_len _ _) (by rw [List.length_take];omega)
       have hb':=Lib.hid hb
       generalize (nmsL c.states (ks.take j)).length = m at *
       generalize (c.states.getD k2 st0).name = nm at *
       clear hnc hb hri m2 hbr
       replace m3:=Lib.hid m3
       go_wp2
       have hD2:¬ (((nmsL c.states ks).length:Nat):Int) ≤ (m:Int):=by omega
       have hD3:¬ ((m:Int) ≥ (((nmsL c.states ks).length:Nat):Int)):=by omega
       (refine wp_region_G (by kernel_rfl) (by kernel_rfl) ?_;(repeat (go_big_quiet_step (fail)));refine wpQuiet_nil ?_;intro _ hw';obtain ⟨pg,hw''⟩:=hw';subst hw'')
       go_wp2
       go_roundw
       case rel=>exact ⟨j + 1,by rw [m3.out];go_num,by go_num,by omega,hb'.out.trans (Below.mono (show Below wr.heap.size wr _ by (first | exact gwT | exact lzT)) hb'.out.size)⟩
       case measure=>simp [intOf];omega
      ·have hK2:¬ (k2:Int) < (c.states.length:Int):=by omega
       have hK3:(c.states.length:Int) ≤ (k2:Int):=by omega
       rw [← hri (by omega)]
       clear hri hna hb hbr
       go_wp2
       go_returns
       exact ⟨by simp,hfin.out.trans (Below.mono (show Below wr.heap.size wr _ by (first | exact gwT | exact lzT)) hfin.out.size)⟩
     ·have hJ:¬ (j:Int) < (ks.length:Int):=by omega
      have ht:ks.take j = ks:=List.take_of_length_le (by omega)
      rw [ht]
      clear hb hbr ht
      go_wp2
      go_returns
      exact ⟨by simp,hfin.out.trans (Below.mono (show Below wr.heap.size wr _ by (first | exact gwT | exact lzT)) hfin.out.size)⟩
   | some k =>
    have hkl:=hfd k hf
    have hK:(k:Int) < (c.states.length:Int):=by omega
    have hK0:(0:Int) ≤ (k:Int):=by omega
    have hK1:max (k:Int) 0 = (k:Int):=by omega
    obtain ⟨kd,hkd⟩:∃ kd,c.states[k].kind = kd:=⟨_,rfl⟩
    have hpk:pastS (c.states.getD k st0) = (kd == 6 || kd == 7):=by rw [getD_at hkl,← hkd];rfl
    have P:=Lib.hid (fun s p t e x r wx=>rpast_any s _ p t e x r kd rfl wx)
    rw [hf] at G1 G2
    dsimp only at G1 G2
    rw [hpk] at G1
    cases hp:(kd == 6 || kd == 7)
    ·rw [hp] at P G1
     simp only [Bool.false_eq_true,if_false,Option.getD_some,Option.isSome_some] at G1
     replace hp:=Lib.hid hp
     clear hpk
     refine (G1.out _ (Below.refl _ _)).mono ?_
     rintro e w2 ⟨rfl,hb2⟩
     obtain ⟨t0,t1,t2,tl,-⟩:=cells3 (blk_keep q7 hb2)
     obtain ⟨x0,x1,x2,xl,-⟩:=cells3 (blk_keep q8 hb2)
     have i7:InW qb w2:=⟨tl⟩
     have i8:InW (qb + 1) w2:=⟨xl⟩
     dsimp only
     go_wp2_with fail
     refine (G2.out _ (by first | exact hb2 | exact hb2.trans (Below.mono (B:=w2.heap.size) (by (first | exact gwT | exact lzT)) hb2.size))).mono ?_
     rintro e w3 ⟨rfl,hb3⟩
     have hb13:Below W1.heap.size W1 w3:=hb2.trans (hb3.mono hb2.size)
     clear t0 t1 t2 tl x0 x1 x2 xl i7 i8 hb3 hb2 G1 G2
     obtain ⟨t0,t1,t2,tl,-⟩:=cells3 (blk_keep q7 hb13)
     obtain ⟨x0,x1,x2,xl,-⟩:=cells3 (blk_keep q8 hb13)
     have i7:InW qb w3:=⟨tl⟩
     have i8:InW (qb + 1) w3:=⟨xl⟩
     dsimp only
     obtain ⟨g,eo,ec,xo,xc',to',tc,rfl,hg,n1,n2,n3,n4,n5,n6,n7,_,_,_⟩:=st_at (G4.out w3 hb13) k hkl
     rw [hkd] at n2
     have ig:InW g w3:=⟨hg⟩
     have hb13':=Lib.hid hb13
     clear hb13
     go_wp2_with (((with_reducible refine (P.out _ _ _ _ _ _ _).mono ?_);intro e w1 hr;obtain ⟨rfl,p,rfl⟩:=hr.out;clear hr))
     clear n1 n2 n3 n4 n5 n6 n7 ig P
     refine (G3.out _ (by first | exact hb13'.out | exact hb13'.out.trans (Below.mono (B:=w3.heap.size) (by (first | exact gwT | exact lzT)) hb13'.out.size))).mono ?_
     rintro e w4 ⟨v4,rfl,hg4,hb4⟩
     obtain ⟨na,nc,rfl⟩:=own_form hg4
     have hb34:Below w3.heap.size w3 w4:=by first | exact hb4 | exact Below.trans (by (first | exact gwT | exact lzT)) (hb4.mono (by (first | exact gwT | exact lzT)))
     have hb14:Below W1.heap.size W1 w4:=hb13'.out.trans (hb34.mono hb13'.out.size)
     clear t0 t1 t2 tl x0 x1 x2 xl i7 i8 hb4 hb34 hb13' G3
     dsimp only
     go_wp2_with fail
     refine (N2.out _).mono ?_
     rintro e w5 ⟨ao,cap5,rfl,hn5,hb5⟩
     have hb45:Below w4.heap.size w4 w5:=by first | exact hb5 | exact Below.trans (by (first | exact gwT | exact lzT)) (hb5.mono (by (first | exact gwT | exact lzT)))
     have hb15:=Lib.hid (hb14.trans (hb45.mono hb14.size))
     have hg5:=Lib.hid (owns_below hg4 hb45)
     replace hn5:=Lib.hid hn5
     clear hg4 hb45 hb5 hb14 N2
     dsimp only
     go_wp2
     go_loopw [14,65] (fun u x wr=>∃ (j:Nat),u = .int .i64 ((nmsL c.states (ks.take j)).length:Int) ∧ x = .int .i64 (j:Int) ∧ j ≤ ks.length ∧ Below w5.heap.size w5 wr) (fun _ x _=>ks.length - (intOf x).toNat)
     case atStart=>exact ⟨0,rfl,rfl,Nat.zero_le _,Below.refl _ _⟩
     case round =>
      obtain ⟨j,rfl,rfl,hj,hb⟩:=hrel
      rename World=>wr
      have hbr:=hb15.out.trans (hb.mono hb15.out.size)
      obtain ⟨x0,x1,x2,xl,-⟩:=cells3 (blk_keep q8 hbr)
      have i8:InW (qb + 1) wr:=⟨xl⟩
      have hfin:=Lib.hid (hwW.out.trans (hbr.mono hwW.out.size))
      by_cases hlj:j < ks.length
      ·have hJ:(j:Int) < (ks.length:Int):=by omega
       obtain ⟨kg,kcap,ke,hkg,hkle,_,hkc⟩:=own_head (owns_below hn5.out hb) (by omega)
       cases ke
       have nk:=hkc j (.int .i64 (ks.getD j 0:Int)) (by simp [natsI,List.getD,hlj])
       have ik:InW kg wr:=⟨hkg⟩
       have hna:=nms_at (ss:=c.states) hlj
       have hri:=nmsL_rise (ss:=c.states) hrs j hlj
       generalize ks.getD j 0 = k2 at *
       clear hkc
       by_cases hk2:k2 < c.states.length
       ·obtain ⟨m1,m2,m3⟩:=hna hk2
        have hK2:(k2:Int) < (c.states.length:Int):=by omega
        obtain ⟨sg,eo',ec',xo',xc2,to2,tc2,se,hsg,n1',-⟩:=st_at (G4.out wr hbr) k2 hk2
        cases se
        rw [← getD_at hk2] at n1'
        have is':InW _ wr:=⟨hsg⟩
        obtain ⟨ng,ncap,ne,hng,hnle,_,hnc⟩:=own_head (owns_below hg5.out hb) (by omega)
        cases ne
        have nn:=hnc _ (str (c.states.getD k2 st0).name) (by rw [strsC,List.getElem?_map,m2];rfl)
        have in':InW ng wr:=⟨hng⟩
        have hM:((nmsL c.states (ks.take j)).length:Int) < ((nmsL c.states ks).length:Int):=by omega
        have hD:decide ((((nmsL c.states ks).length:Nat):Int) ≤ (((nmsL c.states (ks.take j)).length:Nat):Int)) = false:=decide_eq_false (by omega)
        have hm64:(nmsL c.states (ks.take j)).length ≤ 64:=Nat.le_trans (nmsL_len _ _) (by rw [List.length_take];omega)
        have hb':=Lib.hid hb
        generalize (nmsL c.states (ks.take j)).length = m at *
        generalize (c.states.getD k2 st0).name = nm at *
        clear hnc hb hri m2 hbr
        replace m3:=Lib.hid m3
        go_wp2
        have hD2:¬ (((nmsL c.states ks).length:Nat):Int) ≤ (m:Int):=by omega
        have hD3:¬ ((m:Int) ≥ (((nmsL c.states ks).length:Nat):Int)):=by omega
        (refine wp_region_G (by kernel_rfl) (by kernel_rfl) ?_;(repeat (go_big_quiet_step (fail)));refine wpQuiet_nil ?_;intro _ hw';obtain ⟨pg,hw''⟩:=hw';subst hw'')
        go_wp2
        go_roundw
        case rel=>exact ⟨j + 1,by rw [m3.out];go_num,by go_num,by omega,hb'.out.trans (Below.mono (show Below wr.heap.size wr _ by (first | exact gwT | exact lzT)) hb'.out.size)⟩
        case measure=>simp [intOf];omega
       ·have hK2:¬ (k2:Int) < (c.states.length:Int):=by omega
        have hK3:(c.states.length:Int) ≤ (k2:Int):=by omega
        rw [← hri (by omega)]
        clear hri hna hb hbr
        go_wp2
        go_returns
        exact ⟨by simp,hfin.out.trans (Below.mono (show Below wr.heap.size wr _ by (first | exact gwT | exact lzT)) hfin.out.size)⟩
      ·have hJ:¬ (j:Int) < (ks.length:Int):=by omega
       have ht:ks.take j = ks:=List.take_of_length_le (by omega)
       rw [ht]
       clear hb hbr ht
       go_wp2
       go_returns
       exact ⟨by simp,hfin.out.trans (Below.mono (show Below wr.heap.size wr _ by (first | exact gwT | exact lzT)) hfin.out.size)⟩
    ·rw [hp] at P G1
     simp only [if_true,Option.getD_none,Option.isSome_none] at G1
     replace hp:=Lib.hid hp
     clear hpk
     refine (G1.out _ (Below.refl _ _)).mono ?_
     rintro e w2 ⟨rfl,hb2⟩
     obtain ⟨t0,t1,t2,tl,-⟩:=cells3 (blk_keep q7 hb2)
     obtain ⟨x0,x1,x2,xl,-⟩:=cells3 (blk_keep q8 hb2)
     have i7:InW qb w2:=⟨tl⟩
     have i8:InW (qb + 1) w2:=⟨xl⟩
     dsimp only
     go_wp2_with fail
     refine (G2.out _ (by first | exact hb2 | exact hb2.trans (Below.mono (B:=w2.heap.size) (by (first | exact gwT | exact lzT)) hb2.size))).mono ?_
     rintro e w3 ⟨rfl,hb3⟩
     have hb13:Below W1.heap.size W1 w3:=hb2.trans (hb3.mono hb2.size)
     clear t0 t1 t2 tl x0 x1 x2 xl i7 i8 hb3 hb2 G1 G2
     obtain ⟨t0,t1,t2,tl,-⟩:=cells3 (blk_keep q7 hb13)
     obtain ⟨x0,x1,x2,xl,-⟩:=cells3 (blk_keep q8 hb13)
     have i7:InW qb w3:=⟨tl⟩
     have i8:InW (qb + 1) w3:=⟨xl⟩
     dsimp only
     obtain ⟨g,eo,ec,xo,xc',to',tc,rfl,hg,n1,n2,n3,n4,n5,n6,n7,_,_,_⟩:=st_at (G4.out w3 hb13) k hkl
     rw [hkd] at n2
     have ig:InW g w3:=⟨hg⟩
     have hb13':=Lib.hid hb13
     clear hb13
     go_wp2_with (((with_reducible refine (P.out _ _ _ _ _ _ _).mono ?_);intro e w1 hr;obtain ⟨rfl,p,rfl⟩:=hr.out;clear hr))
     clear n1 n2 n3 n4 n5 n6 n7 ig P
     refine (G3.out _ (by first | exact hb13'.out | exact hb13'.out.trans (Below.mono (B:=w3.heap.size) (by (first | exact gwT | exact lzT)) hb13'.out.size))).mono ?_
     rintro e w4 ⟨v4,rfl,hg4,hb4⟩
     obtain ⟨na,nc,rfl⟩:=own_form hg4
     have hb34:Below w3.heap.size w3 w4:=by first | exact hb4 | exact Below.trans (by (first | exact gwT | exact lzT)) (hb4.mono (by (first | exact gwT | exact lzT)))
     have hb14:Below W1.heap.size W1 w4:=hb13'.out.trans (hb34.mono hb13'.out.size)
     clear t0 t1 t2 tl x0 x1 x2 xl i7 i8 hb4 hb34 hb13' G3
     dsimp only
     go_wp2_with fail
     refine (N2.out _).mono ?_
     rintro e w5 ⟨ao,cap5,rfl,hn5,hb5⟩
     have hb45:Below w4.heap.size w4 w5:=by first | exact hb5 | exact Below.trans (by (first | exact gwT | exact lzT)) (hb5.mono (by (first | exact gwT | exact lzT)))
     have hb15:=Lib.hid (hb14.trans (hb45.mono hb14.size))
     have hg5:=Lib.hid (owns_below hg4 hb45)
     replace hn5:=Lib.hid hn5
     clear hg4 hb45 hb5 hb14 N2
     dsimp only
     go_wp2
     go_loopw [14,65] (fun u x wr=>∃ (j:Nat),u = .int .i64 ((nmsL c.states (ks.take j)).length:Int) ∧ x = .int .i64 (j:Int) ∧ j ≤ ks.length ∧ Below w5.heap.size w5 wr) (fun _ x _=>ks.length - (intOf x).toNat)
     case atStart=>exact ⟨0,rfl,rfl,Nat.zero_le _,Below.refl _ _⟩
     case round =>
      obtain ⟨j,rfl,rfl,hj,hb⟩:=hrel
      rename World=>wr
      have hbr:=hb15.out.trans (hb.mono hb15.out.size)
      obtain ⟨x0,x1,x2,xl,-⟩:=cells3 (blk_keep q8 hbr)
      have i8:InW (qb + 1) wr:=⟨xl⟩
      have hfin:=Lib.hid (hwW.out.trans (hbr.mono hwW.out.size))
      by_cases hlj:j < ks.length
      ·have hJ:(j:Int) < (ks.length:Int):=by omega
       obtain ⟨kg,kcap,ke,hkg,hkle,_,hkc⟩:=own_head (owns_below hn5.out hb) (by omega)
       cases ke
       have nk:=hkc j (.int .i64 (ks.getD j 0:Int)) (by simp [natsI,List.getD,hlj])
       have ik:InW kg wr:=⟨hkg⟩
       have hna:=nms_at (ss:=c.states) hlj
       have hri:=nmsL_rise (ss:=c.states) hrs j hlj
       generalize ks.getD j 0 = k2 at *
       clear hkc
       by_cases hk2:k2 < c.states.length
       ·obtain ⟨m1,m2,m3⟩:=hna hk2
        have hK2:(k2:Int) < (c.states.length:Int):=by omega
        obtain ⟨sg,eo',ec',xo',xc2,to2,tc2,se,hsg,n1',-⟩:=st_at (G4.out wr hbr) k2 hk2
        cases se
        rw [← getD_at hk2] at n1'
        have is':InW _ wr:=⟨hsg⟩
        obtain ⟨ng,ncap,ne,hng,hnle,_,hnc⟩:=own_head (owns_below hg5.out hb) (by omega)
        cases ne
        have nn:=hnc _ (str (c.states.getD k2 st0).name) (by rw [strsC,List.getElem?_map,m2];rfl)
        have in':InW ng wr:=⟨hng⟩
        have hM:((nmsL c.states (ks.take j)).length:Int) < ((nmsL c.states ks).length:Int):=by omega
        have hD:decide ((((nmsL c.states ks).length:Nat):Int) ≤ (((nmsL c.states (ks.take j)).length:Nat):Int)) = false:=decide_eq_false (by omega)
        have hm64:(nmsL c.states (ks.take j)).length ≤ 64:=Nat.le_trans (nmsL_len _ _) (by rw [List.length_take];omega)
        have hb':=Lib.hid hb
        generalize (nmsL c.states (ks.take j)).length = m at *
        generalize (c.states.getD k2 st0).name = nm at *
        clear hnc hb hri m2 hbr
        replace m3:=Lib.hid m3
        go_wp2
        have hD2:¬ (((nmsL c.states ks).length:Nat):Int) ≤ (m:Int):=by omega
        have hD3:¬ ((m:Int) ≥ (((nmsL c.states ks).length:Nat):Int)):=by omega
        (refine wp_region_G (by kernel_rfl) (by kernel_rfl) ?_;(repeat (go_big_quiet_step (fail)));refine wpQuiet_nil ?_;intro _ hw';obtain ⟨pg,hw''⟩:=hw';subst hw'')
        go_wp2
        go_roundw
        case rel=>exact ⟨j + 1,by rw [m3.out];go_num,by go_num,by omega,hb'.out.trans (Below.mono (show Below wr.heap.size wr _ by (first | exact gwT | exact lzT)) hb'.out.size)⟩
        case measure=>simp [intOf];omega
       ·have hK2:¬ (k2:Int) < (c.states.length:Int):=by omega
        have hK3:(c.states.length:Int) ≤ (k2:Int):=by omega
        rw [← hri (by omega)]
        clear hri hna hb hbr
        go_wp2
        go_returns
        exact ⟨by simp,hfin.out.trans (Below.mono (show Below wr.heap.size wr _ by (first | exact gwT | exact lzT)) hfin.out.size)⟩
      ·have hJ:¬ (j:Int) < (ks.length:Int):=by omega
       have ht:ks.take j = ks:=List.take_of_length_le (by omega)
       rw [ht]
       clear hb hbr ht
       go_wp2
       go_returns
       exact ⟨by simp,hfin.out.trans (Below.mono (show Below wr.heap.size wr _ by (first | exact gwT | exact lzT)) hfin.out.size)⟩
  ·have M:=Lib.hid (fun wx (hb:Below w.heap.size w wx)=>made_no s (by omega) (fun c h1 h2=>hv ⟨c,h1,h2⟩) wx (al_below hw hb))
   replace hv:=Lib.hid hv
   clear hw hT
   go_enter Tryz.func4,Tryz.ntmps4
   go_wp2_with (((with_reducible refine (A.out).mono ?_);intro e w1 hr;obtain ⟨rfl,p,rfl⟩:=hr.out;clear hr))
   go_wp2_with fail
   refine (M.out _ (by (first | exact gwT | exact lzT))).mono ?_
   rintro e w1 ⟨a1,a2,a3,a4,a5,j1,j2,j3,j4,j5,j6,j7,j8,j9,j10,t,rfl,hb1⟩
   have hw1:Below w.heap.size w w1:=Below.trans (by (first | exact gwT | exact lzT)) (hb1.mono (by first | exact Nat.le_refl _ | (first | exact gwT | exact lzT)))
   clear A M hb1
   dsimp only
   go_wp2
   go_returns
   exact ⟨rfl,hw1.trans (Below.mono (show Below w1.heap.size w1 _ by (first | exact gwT | exact lzT)) hw1.size)⟩
 ·have H1:(20000:Int) < (s.size:Int):=by omega
  clear hw hT
  go_enter Tryz.func4,Tryz.ntmps4
  go_wp2_with (((with_reducible refine (A.out).mono ?_);intro e w1 hr;obtain ⟨rfl,p,rfl⟩:=hr.out;clear hr))
  go_returns
  exact ⟨rfl,by (first | exact gwT | exact lzT)⟩
end Go.Proofs.YtncmnhccmemagaaGreatDoor
