/- Several texts of this proof, joined: SR1, SR2, SR3. -/
import Derived.Test.YtacnlghljmgdiaaGreatDoorL6
import Derived.Test.YtacnlghljmgdiaaGreatDoorO7
import Derived.Test.YtacnlghljmgdiaaGreatDoorL3
import Derived.Test.YtacnlghljmgdiaaGreatDoorJ2
import Derived.Test.YtacnlghljmgdiaaGreatDoorZ1
import Derived.WalkKit
import Derived.ProofKit
import Derived.OpenShut
import Derived.Handy
import Derived.BigQuiet
import Derived.OwnWalk
import Derived.Lib.Hide
import Derived.WalkSmall
import Derived.WalkLawsBesides
import Derived.Test.YtacnlghljmgdiaaGreatDoorQ7
import Derived.StillTailTactics
namespace Go.Proofs.YtacnlghljmgdiaaGreatDoor
open Go.RowKit
theorem v2e {w:World} {ao:Option Addr} {c:Nat} {xs:List ByteArray} (h:z2d w ao c (xs.flatMap z3j)) (i:Nat) (hi:i < xs.length):∃ g o,ao = some ⟨g,o,none⟩ ∧ g < w.heap.size ∧ w.cell? ⟨g,o + i,none⟩ = some (.string xs[i]):=by
 obtain ⟨g,o,e,hg,hc⟩:=z8g z3j 1 q0h h i hi deT
 have:=hc 0 _ deT rfl
 rw [Nat.mul_one,Nat.add_zero] at this
 exact ⟨g,o,e,hg,this⟩
set_option maxRecDepth 100000 in
set_option maxHeartbeats 4000000 in
theorem v6m (ao bo:Option Addr) (c1 c2:Nat) (xs:List ByteArray) (h4:xs.length ≤ 400) (w:World) (h:z2d w ao c1 (xs.flatMap z3j)) (k:z2d w bo c2 (xs.flatMap z3j)) :
  Calls Tryz.prog 10 #[.slice ao xs.length c1,.slice bo xs.length c2] w (Ret (.bool true) w):=by
 have H:=hiT (fun wx (hb:Below w.heap.size w wx)=>z0k h hb)
 have K:=hiT (fun wx (hb:Below w.heap.size w wx)=>z0k k hb)
 clear h k
 go_enter Tryz.func10,Tryz.ntmps10
 go_wp2
 go_loopw [13] (fun v wr=>∃ i:Nat,v = .int .i64 (i:Int) ∧ i ≤ xs.length ∧ Below w.heap.size w wr) (fun v _=>xs.length - (intOf v).toNat)
 case atStart=>exact ⟨0,rfl,Nat.zero_le _,gzT⟩
 case round =>
  obtain ⟨i,rfl,hi,hb⟩:=hrel
  rename World=>wr
  have hwz:=hb.size
  by_cases hlt:i < xs.length
  ·obtain ⟨g,o,rfl,hg,n1⟩:=v2e (H.out wr hb) i hlt
   obtain ⟨g2,o2,rfl,hg2,m1⟩:=v2e (K.out wr hb) i hlt
   have hI:(i:Int) < (xs.length:Int):=by omega
   have i1:InW g wr:=⟨hg⟩
   have i2:InW g2 wr:=⟨hg2⟩
   generalize xs[i] = x at *
   clear H K
   go_wp2
   (refine z0d krT krT ?_;(repeat (go_big_quiet_step (fail)));refine wpQuiet_nil ?_;intro _ hw';obtain ⟨pg,hw''⟩:=hw';subst hw'')
   go_wp2
   go_roundw
   case rel=>exact ⟨i + 1,by go_num,by omega,gzT⟩
   case measure=>simp [intOf];omega
  ·obtain rfl:i = xs.length:=by omega
   have hI:¬ ((xs.length:Nat):Int) < (xs.length:Int):=by omega
   clear H K
   go_wp2
   go_returns
   exact ⟨rfl,gzT⟩
theorem k6w (z:Int) (h0:0 ≤ z) (h1:z < 18446744073709551616) (wx:World):Calls Tryz.prog 21 #[.int .u64 0,.int .u64 z] wx (z6k (.bool true) wx):=by
 have h:=v8k 0 z.toNat deT omT wx
 have e:(z6r 0 z.toNat == 0) = true:=by unfold z6r;simp
 have e2:((z.toNat:Nat):Int) = z:=by omega
 rw [e,e2] at h
 exact h
theorem y1h (e:Int):0 ≤ IntKind.u64.wrap e ∧ IntKind.u64.wrap e < 18446744073709551616:=by
 rw [IntKind.wrap_u64]
 omega
theorem q0p (x y:Int):0 ≤ bits .andNot .u64 x y ∧ bits .andNot .u64 x y < 18446744073709551616:=y1h _
set_option maxRecDepth 100000 in
set_option maxHeartbeats 8000000 in
theorem x0p {c:Ch} {rv gi:Nat → Value} {b cap:Nat} {ga:Option Addr} {gn gc:Nat} (hm:c.states.length ≤ 49) (hv16:c.vars.length ≤ 16) (hok:∀ v ∈ c.vars,VrOk v) (pb:Nat) (da:Option Addr) (dc:Nat) (va:Option Addr) (vc:Nat) (w:World) (h:TbC c rv gi b w) (hs:SnRd w (sn0 c) (some ⟨pb,0,none⟩) c.states.length da dc none 0 none 0 none 0 none 0 none 0) :
  Calls Tryz.prog 9 #[.agg #[.slice va c.vars.length vc,.slice (some ⟨b,0,none⟩) c.states.length cap,.slice ga gn gc],snV (sn0 c) (some ⟨pb,0,none⟩) c.states.length da dc none 0 none 0 none 0 none 0 none 0] w (Ret (.bool true) w):=by
 have I0:=hiT (fun z h0 h1 wx=>k6w z h0 h1 wx)
 have R:=hiT (fun wx (hb:Below w.heap.size w wx)=>z7n h hb)
 have P:=hiT (fun wx (hb:Below w.heap.size w wx) i (hi:i < c.states.length)=>show wx.cell? ⟨pb,i,none⟩ = some (.int .u64 0) ∧ pb < wx.heap.size from by
  obtain ⟨g,o,e,hg,hc⟩:=z8g sbC 1 q8r (z0k hs.past hb) i (by show i < (List.replicate _ _).length;rw [List.length_replicate];exact hi) deT
  cases e
  have:=hc 0 _ deT rfl
  have e0:(sn0 c).past[i]'(by show i < (List.replicate _ _).length;rw [List.length_replicate];exact hi) = 0:=List.getElem_replicate ..
  rw [e0] at this
  rw [Nat.zero_add,Nat.mul_one,Nat.add_zero] at this
  exact ⟨this,hg⟩)
 have D:=hiT (fun wx (hb:Below w.heap.size w wx) i (hi:i < c.vars.length)=>show ∃ g o,da = some ⟨g,o,none⟩ ∧ g < wx.heap.size ∧ wx.cell? ⟨g,o + i * 3,none⟩ = some (.int .i64 c.vars[i].vk) ∧ wx.cell? ⟨g,o + i * 3 + 1,none⟩ = some (.int .i64 c.vars[i].vn) ∧ wx.cell? ⟨g,o + i * 3 + 2,none⟩ = some (.string ⟨c.vars[i].vs.toArray⟩) from by
  have hl:i < (c.vars.map z9i).length:=by rw [List.length_map];exact hi
  obtain ⟨g,o,e,hg,hc⟩:=z8g vlC 3 q5s (show z2d wx da dc ((c.vars.map z9i).flatMap vlC) from z0k hs.data hb) i hl deT
  have e0:(c.vars.map z9i)[i] = z9i c.vars[i]:=List.getElem_map ..
  rw [e0] at hc
  exact ⟨g,o,e,hg,hc 0 _ deT rfl,hc 1 _ deT rfl,hc 2 _ deT rfl⟩)
 have Rt:=hiT (fun i (hi:i < c.vars.length) wx=>show Calls Tryz.prog 22 #[.agg #[.int .i64 c.vars[i].vk,.int .i64 c.vars[i].vn,.string ⟨c.vars[i].vs.toArray⟩]] wx (Ret (.bool true) wx) from by
  have k:=hok _ (List.getElem_mem hi)
  have h4:=k.text
  have r:=y7b c.vars[i].vk c.vars[i].vn ⟨c.vars[i].vs.toArray⟩ wx (by show c.vars[i].vs.toArray.size ≤ _;rw [List.size_toArray];unfold maxLen;omega)
  rw [k.right] at r
  exact r)
 have eP:Hid ((sn0 c).past.length = c.states.length):=hiT (List.length_replicate ..)
 have eD:Hid ((sn0 c).data.length = c.vars.length):=hiT (List.length_map ..)
 clear h hs hok
 unfold snV
 rw [eP.out,eD.out]
 dsimp only [sn0]
 clear eP eD
 go_enter Tryz.func9,Tryz.ntmps9
 go_wp2
 obtain ⟨W1,hW1⟩:∃ X,(w.alloc (.cells #[.slice va c.vars.length vc,.slice (some ⟨b,0,none⟩) c.states.length cap,.slice ga gn gc] 27)).alloc (.cells #[.int .i64 1,.int .i64 0,.int .i64 0,.int .i64 0,.int .u64 0,.slice (some ⟨pb,0,none⟩) c.states.length c.states.length,.slice da c.vars.length dc,.slice none 0 0,.slice none 0 0,.slice none 0 0,.string ⟨#[]⟩,.slice none 0 0,.int .u64 0,.slice none 0 0] 44) = X:=⟨_,rfl⟩
 have bW:Below w.heap.size w W1:=by rw [← hW1];exact gzT
 have tx:W1.heap[w.heap.size]? = some (.cells #[.slice va c.vars.length vc,.slice (some ⟨b,0,none⟩) c.states.length cap,.slice ga gn gc] 27 (0,0)):=by rw [← hW1];exact z0j (heap_alloc_new w _)
 have sx:W1.heap[w.heap.size + 1]? = some (.cells #[.int .i64 1,.int .i64 0,.int .i64 0,.int .i64 0,.int .u64 0,.slice (some ⟨pb,0,none⟩) c.states.length c.states.length,.slice da c.vars.length dc,.slice none 0 0,.slice none 0 0,.slice none 0 0,.string ⟨#[]⟩,.slice none 0 0,.int .u64 0,.slice none 0 0] 44 (0,0)):=by rw [← hW1];exact z0s (by simp)
 rw [hW1]
 clear hW1
 have tx':=hiT tx
 have sx':=hiT sx
 have bW':=hiT bW
 have hzW:=bW.size
 have hG:Hid (∀ wx,Below W1.heap.size W1 wx → Below w.heap.size w wx):=hiT fun wx hx=>bW'.out.trans (hx.mono bW'.out.size)
 clear tx sx bW
 go_loopw [6,22] (fun x v wr=>∃ (z:Int) (i:Nat),x = .int .u64 z ∧ 0 ≤ z ∧ z < 18446744073709551616 ∧ v = .int .i64 (i:Int) ∧ i ≤ c.states.length ∧ Below W1.heap.size W1 wr) (fun _ v _=>c.states.length - (intOf v).toNat)
 case atStart=>exact ⟨_,0,rfl,(y1h _).1,(y1h _).2,rfl,Nat.zero_le _,Below.refl _ _⟩
 case round =>
  obtain ⟨z,i,rfl,hz0,hz1,rfl,hi,hb⟩:=hrel
  rename World=>wr
  have hwz:=hb.size
  have tb:=z0c tx'.out hb
  have k1:wr.cell? ⟨w.heap.size,1,none⟩ = some (.slice (some ⟨b,0,none⟩) c.states.length cap):=by rw [cell_of_row _ _ _ _ _ _ tb];rfl
  have i1:InW w.heap.size wr:=⟨lt_of_block tb⟩
  by_cases hlt:i < c.states.length
  ·obtain ⟨-,n1,-⟩:=y1a (R.out wr (hG.out _ hb)) hlt
   have i0:InW b wr:=⟨(R.out wr (hG.out _ hb)).lt⟩
   have hI:(i:Int) < (c.states.length:Int):=by omega
   generalize (c.states.getD i st0).kind = kd at *
   clear R P D Rt I0 tb
   by_cases h0:i = 0
   ·have e0:((i:Int) == 0) = true:=by rw [h0];rfl
    go_wp2
    go_roundw
    case rel=>exact ⟨_,i + 1,rfl,(q0p _ _).1,(q0p _ _).2,by go_num,by omega,gzT⟩
    case measure=>simp [intOf];omega
   ·have e0:((i:Int) == 0) = false:=by rw [beq_eq_false_iff_ne];omega
    have e0':¬ i = 0:=h0
    by_cases h5:5 < kd
    ·go_wp2
     go_roundw
     case rel=>exact ⟨_,i + 1,rfl,(q0p _ _).1,(q0p _ _).2,by go_num,by omega,gzT⟩
     case measure=>simp [intOf];omega
    ·go_wp2
     go_roundw
     case rel=>exact ⟨_,i + 1,rfl,hz0,hz1,by go_num,by omega,gzT⟩
     case measure=>simp [intOf];omega
  ·obtain rfl:i = c.states.length:=by omega
   have hI:¬ ((c.states.length:Nat):Int) < (c.states.length:Int):=by omega
   have sb:=z0c sx'.out hb
   obtain ⟨s0,s1,s2,s3,s4,s5,s6,s7,s8,s9,s10,s11,s12,s13,sl,-⟩:=z1p sb
   have i2:InW (w.heap.size + 1) wr:=⟨sl⟩
   have k0:wr.cell? ⟨w.heap.size,0,none⟩ = some (.slice va c.vars.length vc):=by rw [cell_of_row _ _ _ _ _ _ tb];rfl
   have I1:=hiT (I0.out z hz0 hz1)
   have hb':=hiT hb
   clear tb sb I0
   go_wp2_with (((with_reducible refine (I1.out _).mono ?_);rintro e w1 ⟨rfl,rfl⟩))
   go_loopw [108] (fun v wq=>∃ i:Nat,v = .int .i64 (i:Int) ∧ i ≤ c.states.length ∧ Below W1.heap.size W1 wq) (fun v _=>c.states.length - (intOf v).toNat)
   case atStart=>exact ⟨0,rfl,Nat.zero_le _,gzT⟩
   case round =>
    obtain ⟨i,rfl,hi,hb⟩:=hrel
    rename World=>wq
    have hwq:=hb.size
    clear s0 s1 s2 s3 s4 s5 s6 s7 s8 s9 s10 s11 s12 s13 sl i1 i2 k0 k1
    by_cases hlt:i < c.states.length
    ·obtain ⟨p0,pl⟩:=P.out wq (hG.out _ hb) i hlt
     have i0:InW pb wq:=⟨pl⟩
     have hI:(i:Int) < (c.states.length:Int):=by omega
     clear R P D Rt
     go_wp2_with (((with_reducible refine (I1.out _).mono ?_);rintro e w1 ⟨rfl,rfl⟩))
     go_roundw
     case rel=>exact ⟨i + 1,by go_num,by omega,gzT⟩
     case measure=>simp [intOf];omega
    ·obtain rfl:i = c.states.length:=by omega
     have hI:¬ ((c.states.length:Nat):Int) < (c.states.length:Int):=by omega
     have sb:=z0c sx'.out hb
     have s6:wq.cell? ⟨w.heap.size + 1,6,none⟩ = some (.slice da c.vars.length dc):=by rw [cell_of_row _ _ _ _ _ _ sb];rfl
     have i2:InW (w.heap.size + 1) wq:=⟨lt_of_block sb⟩
     clear sb P R I1
     go_wp2
     go_loopw [134] (fun v wq=>∃ i:Nat,v = .int .i64 (i:Int) ∧ i ≤ c.vars.length ∧ Below W1.heap.size W1 wq) (fun v _=>c.vars.length - (intOf v).toNat)
     case atStart=>exact ⟨0,rfl,Nat.zero_le _,gzT⟩
     case round =>
      obtain ⟨i,rfl,hi,hb⟩:=hrel
      rename World=>wp
      have hwp:=hb.size
      clear s6 i2
      by_cases hlt:i < c.vars.length
      ·obtain ⟨g,o,rfl,hg,d0,d1,d2⟩:=D.out wp (hG.out _ hb) i hlt
       have i0:InW g wp:=⟨hg⟩
       have hI:(i:Int) < (c.vars.length:Int):=by omega
       have R1:=hiT (Rt.out i hlt)
       generalize c.vars[i] = x at *
       clear D Rt
       go_wp2_with (((with_reducible refine (R1.out _).mono ?_);intro e w1 hr;obtain ⟨rfl,p,rfl⟩:=hr.out;clear hr))
       go_roundw
       case rel=>exact ⟨i + 1,by go_num,by omega,gzT⟩
       case measure=>simp [intOf];omega
      ·obtain rfl:i = c.vars.length:=by omega
       have hI:¬ ((c.vars.length:Nat):Int) < (c.vars.length:Int):=by omega
       have hfin:=hiT (hG.out _ hb)
       clear D Rt
       go_wp2
       go_returns
       exact ⟨rfl,hfin.out⟩
theorem Tryz.infoRv:(Tryz.prog.info? 87).map (fun i=>(i.zero,i.size,i.bytes)) = some (some (.agg #[.int .i64 0,.int .i64 0,.string ⟨#[]⟩]),3,32):=by kernel_rfl
theorem Tryz.infoRi:(Tryz.prog.info? 40).map (fun i=>(i.zero,i.size,i.bytes)) = some (some (.slice none 0 0),1,24):=by kernel_rfl
theorem Tryz.infoRc:(Tryz.prog.info? 104).map (fun i=>(i.zero,i.size,i.bytes)) = some (some (.agg #[.string ⟨#[]⟩,.int .i64 0,.int .i64 0,.string ⟨#[]⟩]),4,48):=by kernel_rfl
set_option maxRecDepth 100000 in
theorem k3i (f:ByteArray) (w:World):Calls Tryz.prog 32 #[.string f,.slice none 0 0] w (Ret (.string f) w):=by
 go_enter Tryz.func32,Tryz.ntmps32
 go_wp2
 go_loopw [0,5] (fun x v wr=>x = .string f ∧ v = .int .i64 0 ∧ Below w.heap.size w wr) (fun _ _ _=>0)
 case atStart=>exact ⟨rfl,rfl,gzT⟩
 case round =>
  obtain ⟨rfl,rfl,hb⟩:=hrel
  rename World=>wr
  go_wp2
  go_returns
  exact ⟨rfl,gzT⟩
set_option maxRecDepth 100000 in
theorem y0q (x y z:Value) (w:World):Calls Tryz.prog 33 #[.agg #[x,y,z],.slice none 0 0] w (Ret (.slice none 0 0) w):=by
 go_enter Tryz.func33,Tryz.ntmps33
 go_wp2
 go_loopw [5,6] (fun x v wr=>x = .slice none 0 0 ∧ v = .int .i64 0 ∧ Below w.heap.size w wr) (fun _ _ _=>0)
 case atStart=>exact ⟨rfl,rfl,gzT⟩
 case round =>
  obtain ⟨rfl,rfl,hb⟩:=hrel
  rename World=>wr
  go_wp2
  go_returns
  exact ⟨rfl,gzT⟩
def z9x (n:Nat):Array Value:=(List.replicate n (Value.slice none 0 0)).toArray
set_option maxRecDepth 100000 in
theorem k1t (n:Nat) (hn:n ≤ 64) (wx:World):(Instr.makeSlice 50 (.int .i64 (n:Int)) (.int .i64 (n:Int))).run Tryz.prog wx = .ok (.slice (some ⟨wx.heap.size,0,none⟩) n n) (wx.alloc (.cells (z9x n) 40)):=by
 obtain ⟨i0,hi,hz1,hz2,hz3⟩:=info_parts Tryz.infoRi
 have:=run_make (P:=Tryz.prog) wx 50 40 i0 (.slice none 0 0) Tryz.underlying50 hi hz1 .i64 .i64 (n:Int) (n:Int) omT (Int.le_refl _) (by rw [hz3];omega) omT
 rw [this,hz2]
 simp [z9x,Value.cells,q3g]
abbrev rsB (m i:Nat) (pb:Nat) (da:Option Addr) (dc:Nat):Array Value:=#[.int .i64 1,.int .i64 0,.int .i64 0,.int .i64 0,.slice none 0 0,.slice (some ⟨pb,0,none⟩) m m,.slice da i dc,.slice none 0 0,.slice none 0 0,.slice none 0 0,.string ⟨#[]⟩,.slice none 0 0,.slice none 0 0,.slice none 0 0]
abbrev rsZ:Array Value:=#[.int .i64 0,.int .i64 0,.int .i64 0,.int .i64 0,.slice none 0 0,.slice none 0 0,.slice none 0 0,.slice none 0 0,.slice none 0 0,.slice none 0 0,.string ⟨#[]⟩,.slice none 0 0,.slice none 0 0,.slice none 0 0]
structure RsRd (w:World) (c:Ch) (pb:Nat) (da:Option Addr) (dc:Nat):Prop where
 past:∃ B,w.ownsRow B 40 1 (.slice (some ⟨pb,0,none⟩) c.states.length c.states.length) c.states.length (z9x c.states.length).toList
 data:z2d w da dc ((c.vars.map z9i).flatMap vlC)
theorem y7c {w w':World} {c:Ch} {pb:Nat} {da:Option Addr} {dc:Nat} (h:RsRd w c pb da dc) (hb:Below w.heap.size w w'):RsRd w' c pb da dc:=⟨h.past.imp fun _ k=>z0a k hb,z0k h.data hb⟩
set_option maxRecDepth 100000 in
set_option maxHeartbeats 8000000 in
theorem v1y (c:Ch) (rx:Nat → Value) (xa ya:Option Addr) (xc yc:Nat) (hm:c.states.length ≤ 49) (hv:c.vars.length ≤ 16) (w:World) (h:ChV ct1 0 w c rx (.slice xa c.vars.length xc) (.slice ya c.states.length yc)) :
  Calls Tryz.prog 13 #[.agg #[str c.name,.slice xa c.vars.length xc,.slice ya c.states.length yc]] w (fun e w'=>∃ (pb:Nat) (da:Option Addr) (dc:Nat),e = .returned (.agg (rsB c.states.length c.vars.length pb da dc)) ∧ RsRd w' c pb da dc ∧ Below w.heap.size w w'):=by
 have V:=hiT (fun wx (hb:Below w.heap.size w wx) i hi=>j8f (z1u h hb) i hi)
 have hmk:=fun wx=>k1t c.states.length omT wx
 obtain ⟨j0,hj,hy1,hy2,hy3⟩:=info_parts Tryz.infoRv
 have T1:=hiT (fun i (hi:i < c.vars.length)=>show ((c.vars.map z9i).take (i + 1)).flatMap vlC = ((c.vars.map z9i).take i).flatMap vlC ++ vlC (z9i c.vars[i]) by rw [List.take_succ_eq_append_getElem (by rw [List.length_map];exact hi),List.flatMap_append,List.getElem_map];simp)
 clear h
 go_enter Tryz.func13,Tryz.ntmps13
 go_wp2
 obtain ⟨W0,hW0⟩:∃ X,(((w.alloc (.cells #[str c.name,.slice xa c.vars.length xc,.slice ya c.states.length yc] 31)).alloc (.cells rsZ 54)).alloc (.cells (z9x c.states.length) 40)).alloc (.cells (rsB c.states.length 0 (w.heap.size + 1 + 1) none 0) 54) = X:=⟨_,rfl⟩
 have b0:Below w.heap.size w W0:=by rw [← hW0];exact gzT
 have x0:W0.heap[w.heap.size + 1 + 1 + 1]? = some (.cells (rsB c.states.length 0 (w.heap.size + 1 + 1) none 0) 54 (0,0)):=by rw [← hW0];exact z0s (by simp)
 have y0:W0.heap[w.heap.size + 1]? = some (.cells rsZ 54 (0,0)):=by rw [← hW0];exact z0j (z0j (z0s (by simp)))
 have z0:W0.heap[w.heap.size + 1 + 1]? = some (.cells (z9x c.states.length) 40 (0,0)):=by rw [← hW0];exact z0j (z0s (by simp))
 have u0:W0.heap[w.heap.size]? = some (.cells #[str c.name,.slice xa c.vars.length xc,.slice ya c.states.length yc] 31 (0,0)):=by rw [← hW0];exact z0j (z0j (z0j (heap_alloc_new w _)))
 rw [hW0]
 clear hW0 hmk
 generalize hsb:w.heap.size + 1 + 1 + 1 = sb at *
 generalize hpb:w.heap.size + 1 + 1 = pb at *
 generalize hrb:w.heap.size + 1 = rb at *
 have hne:rb ≠ sb:=by omega
 have hnp:pb ≠ sb:=by omega
 have hnu:w.heap.size ≠ sb:=by omega
 have hle:w.heap.size ≤ sb:=by omega
 go_loopw [4] (fun v wr=>∃ (i:Nat) (da:Option Addr) (dc:Nat),v = .int .i64 (i:Int) ∧ i ≤ c.vars.length ∧ wr.heap[sb]? = some (.cells (rsB c.states.length i pb da dc) 54 (0,0)) ∧ wr.ownsRow w.heap.size 87 3 (.slice da i dc) i (((c.vars.map z9i).take i).flatMap vlC) ∧ wr.heap[pb]? = some (.cells (z9x c.states.length) 40 (0,0)) ∧ wr.heap[rb]? = some (.cells rsZ 54 (0,0)) ∧ wr.heap[w.heap.size]? = some (.cells #[str c.name,.slice xa c.vars.length xc,.slice ya c.states.length yc] 31 (0,0)) ∧ Below w.heap.size w wr) (fun v _=>c.vars.length - (intOf v).toNat)
 case atStart=>exact ⟨0,none,0,rfl,Nat.zero_le _,x0,World.ownsRow_nil _ _ _ _,z0,y0,u0,b0⟩
 case round =>
  obtain ⟨i,da,dc,rfl,hi,hx,hO,hz,hy,hu,hb⟩:=hrel
  rename World=>wr
  have hwz:=hb.size
  clear x0 y0 z0 b0 u0
  have k1:wr.cell? ⟨w.heap.size,1,none⟩ = some (.slice xa c.vars.length xc):=by rw [cell_of_row _ _ _ _ _ _ hu];rfl
  have i4:InW w.heap.size wr:=⟨lt_of_block hu⟩
  by_cases hlt:i < c.vars.length
  ·obtain ⟨g,rfl,hg,-,n1,n2,n3⟩:=V.out wr hb i hlt
   obtain ⟨g0,hg0,hgw,-⟩:=V.out w (Below.refl _ _) i hlt
   obtain rfl:g = g0:=by cases hg0;rfl
   clear hg0
   have t1:=hiT (T1.out i hlt)
   have hI:(i:Int) < (c.vars.length:Int):=by omega
   have i1:InW g wr:=⟨hg⟩
   have i2:InW sb wr:=⟨lt_of_block hx⟩
   have c6:wr.cell? ⟨sb,6,none⟩ = some (.slice da i dc):=by rw [cell_of_row _ _ _ _ _ _ hx];rfl
   generalize c.vars[i] = x at *
   have hO':=hiT hO
   have hx':=hiT hx
   have hz':=hiT hz
   have hy':=hiT hy
   have hu':=hiT hu
   have KS:Hid (∀ X,Below wr.heap.size wr X → X.cell? ⟨sb,6,none⟩ = some (.slice da i dc) ∧ X.cell? ⟨w.heap.size,1,none⟩ = some (.slice (some ⟨g,0,none⟩) c.vars.length xc) ∧ X.cell? ⟨g,i * 4 + 1,none⟩ = some (.int .i64 x.vk) ∧ X.cell? ⟨g,i * 4 + 2,none⟩ = some (.int .i64 x.vn) ∧ X.cell? ⟨g,i * 4 + 3,none⟩ = some (str x.vs)):=hiT fun X hx=>⟨(hx.cell (p:=⟨_,6,none⟩) i2.lt).trans c6,(hx.cell (p:=⟨_,1,none⟩) i4.lt).trans k1,(hx.cell (p:=⟨_,_,none⟩) i1.lt).trans n1,(hx.cell (p:=⟨_,_,none⟩) i1.lt).trans n2,(hx.cell (p:=⟨_,_,none⟩) i1.lt).trans n3⟩
   have V1:Hid (∀ X,Below w.heap.size wr X → X.cell? ⟨g,i * 4 + 1,none⟩ = some (.int .i64 x.vk) ∧ X.cell? ⟨g,i * 4 + 2,none⟩ = some (.int .i64 x.vn) ∧ X.cell? ⟨g,i * 4 + 3,none⟩ = some (str x.vs)):=hiT fun X hx=>⟨(hx.cell (p:=⟨_,_,none⟩) hgw).trans n1,(hx.cell (p:=⟨_,_,none⟩) hgw).trans n2,(hx.cell (p:=⟨_,_,none⟩) hgw).trans n3⟩
   clear V T1 hO hx hz hy hu
   go_wp2_with fail
   refine z1n (S:=fun w'=>w'.cell? ⟨sb,6,none⟩ = some (.slice da i dc) ∧ w'.cell? ⟨w.heap.size,1,none⟩ = some (.slice (some ⟨g,0,none⟩) c.vars.length xc) ∧ w'.cell? ⟨g,i * 4 + 1,none⟩ = some (.int .i64 x.vk) ∧ w'.cell? ⟨g,i * 4 + 2,none⟩ = some (.int .i64 x.vn) ∧ w'.cell? ⟨g,i * 4 + 3,none⟩ = some (str x.vs)) 11 krT (by exact ⟨c6,k1,n1,n2,n3⟩) (fun hS=>?_)
   clear c6 k1 n1 n2 n3
   (refine mT 0 rfl rfl (v:=?_) (Or.inl ⟨by rfl,?_⟩) ?_;rotate_left;(focus (intro w hSw;(try dsimp only at hSw);go_simp;all_goals (with_reducible rfl)));simp only [List.setIfInBounds_toArray,List.set_cons_zero,List.set_cons_succ])
   (refine mT 1 rfl rfl (v:=?_) (Or.inl ⟨by rfl,?_⟩) ?_;rotate_left;(focus (intro w hSw;(try dsimp only at hSw);go_simp;all_goals (with_reducible rfl)));simp only [List.setIfInBounds_toArray,List.set_cons_zero,List.set_cons_succ])
   (refine mT 2 rfl rfl (v:=?_) (Or.inl ⟨by rfl,?_⟩) ?_;rotate_left;(focus (intro w hSw;(try dsimp only at hSw);go_simp;all_goals (with_reducible rfl)));simp only [List.setIfInBounds_toArray,List.set_cons_zero,List.set_cons_succ])
   (refine mT 3 rfl rfl (v:=?_) (Or.inl ⟨by rfl,?_⟩) ?_;rotate_left;(focus (intro w hSw;(try dsimp only at hSw);go_simp;all_goals (with_reducible rfl)));simp only [List.setIfInBounds_toArray,List.set_cons_zero,List.set_cons_succ])
   (refine mT 4 rfl rfl (v:=?_) (Or.inl ⟨by rfl,?_⟩) ?_;rotate_left;(focus (intro w hSw;(try dsimp only at hSw);go_simp;all_goals (with_reducible rfl)));simp only [List.setIfInBounds_toArray,List.set_cons_zero,List.set_cons_succ])
   (refine mT 5 rfl rfl (v:=?_) (Or.inl ⟨by rfl,?_⟩) ?_;rotate_left;(focus (intro w hSw;(try dsimp only at hSw);go_simp;all_goals (with_reducible rfl)));simp only [List.setIfInBounds_toArray,List.set_cons_zero,List.set_cons_succ])
   (refine mT 6 rfl rfl (v:=?_) (Or.inl ⟨by rfl,?_⟩) ?_;rotate_left;(focus (intro w hSw;(try dsimp only at hSw);go_simp;all_goals (with_reducible rfl)));simp only [List.setIfInBounds_toArray,List.set_cons_zero,List.set_cons_succ])
   (refine mT 7 rfl rfl (v:=?_) (Or.inl ⟨by rfl,?_⟩) ?_;rotate_left;(focus (intro w hSw;(try dsimp only at hSw);go_simp;all_goals (with_reducible rfl)));simp only [List.setIfInBounds_toArray,List.set_cons_zero,List.set_cons_succ])
   refine z0f (t:=8) krT rfl rfl (fun K' hK=>?_)
   go_simp
   refine hK.out _ _ (fun _=>KS.out _ gzT) (fun hS=>?_)
   clear hK K'
   replace hS:=hS deT
   refine z2w (t:=9) krT rfl rfl rfl (fun K' hK=>?_)
   refine wp_append_lies _ (.tmp 18) (.tmp 25) 51 rfl w.heap.size 87 j0 _ 3 32 Tryz.underlying51 hj hy1 hy2 hy3 rfl deT (.slice da i dc) i _ (by simp [Act.eval]) (z0a hO'.out gzT) ⟨_,0,none⟩ 1 1 (vlC (z9i x)) rfl rfl (World.news_of_block (z0s (by simp))) (k4s _) deT (by unfold maxLen;omega) omT gzT _ rfl ?_
   intro g' cap' w2 hown2 hgrow hat1 hg1
   have hb2:Below w.heap.size w w2:=Below.grown gzT hgrow gzT (fun k hk=>(hO'.out.lt k hk).1)
   have hx2:=z0h (z0a hO'.out gzT) (z0c hx'.out gzT) deT hgrow
   have hy2':=z0h (z0a hO'.out gzT) (z0c hy'.out gzT) deT hgrow
   have hz2:=z0h (z0a hO'.out gzT) (z0c hz'.out gzT) deT hgrow
   have hu2:=z0h (z0a hO'.out gzT) (z0c hu'.out gzT) deT hgrow
   have i3:InW sb w2:=⟨lt_of_block hx2⟩
   have c6':w2.cell? ⟨sb,6,none⟩ = some (.slice da i dc):=by rw [cell_of_row _ _ _ _ _ _ hx2];rfl
   have f6:=frozen_of_row w2 sb 6 _ _ hx2
   have h6:=z0b c6'
   have hown3:(w2.setCell ⟨sb,6,none⟩ (.slice (some ⟨g',0,none⟩) (i + 1) cap')).ownsRow w.heap.size 87 3 (.slice (some ⟨g',0,none⟩) (i + 1) cap') (i + 1) (((c.vars.map z9i).take (i + 1)).flatMap vlC):=by
    rw [t1.out]
    exact ownsRow_setCell_other (a:=⟨sb,6,none⟩) hown2 (z0n hown2 hx2 deT) _
   have hx3:(w2.setCell ⟨sb,6,none⟩ (.slice (some ⟨g',0,none⟩) (i + 1) cap')).heap[sb]? = some (.cells (rsB c.states.length (i + 1) pb (some ⟨g',0,none⟩) cap') 54 (0,0)):=z0l hx2
   have hy3':=z0i (i:=6) (v := .slice (some ⟨g',0,none⟩) (i + 1) cap') hy2' hne
   have hz3:=z0i (i:=6) (v := .slice (some ⟨g',0,none⟩) (i + 1) cap') hz2 hnp
   have hu3:=z0i (i:=6) (v := .slice (some ⟨g',0,none⟩) (i + 1) cap') hu2 hnu
   have hb3:=hb2.setCell (p:=⟨sb,6,none⟩) hle (.slice (some ⟨g',0,none⟩) (i + 1) cap')
   have hall:=hiT (And.intro hown3 (And.intro hx3 (And.intro hy3' (And.intro hz3 (And.intro hu3 hb3)))))
   have k1':w2.cell? ⟨w.heap.size,1,none⟩ = some (.slice (some ⟨g,0,none⟩) c.vars.length xc):=by rw [cell_of_row _ _ _ _ _ _ hu2];rfl
   have S1:w2.cell? ⟨g,i * 4 + 1,none⟩ = some (.int .i64 x.vk) ∧ w2.cell? ⟨g,i * 4 + 2,none⟩ = some (.int .i64 x.vn) ∧ w2.cell? ⟨g,i * 4 + 3,none⟩ = some (str x.vs):=by
    have hB2:Below w.heap.size wr w2:=Below.grown gzT hgrow gzT (fun k hk=>(hO'.out.lt k hk).1)
    exact V1.out w2 hB2
   have S2:=hiT S1
   refine hK.out _ _ (fun _=>⟨c6',k1',S1⟩) (fun hS=>?_)
   clear hK K' S1 hS hown2 hgrow hat1 hg1 hx2 hy2' hz2 hu2 hown3 hx3 hy3' hz3 hu3 hb2 hb3 KS hO' hx' hz' hy' hu' t1 hj hy1 hy2 hy3
   refine z0f (t:=10) krT rfl rfl (fun K' hK=>?_)
   go_simp
   refine hK.out _ _ (fun _=>⟨c6',k1',S2.out⟩) (fun hS=>?_)
   clear hK K' hS
   refine z0f (t:=11) krT rfl rfl (fun K' hK=>?_)
   go_simp
   refine hK.out _ _ (fun h=>absurd rfl h) (fun _=>z1j krT ?_)
   clear hK K'
   go_wp2
   go_roundw
   case rel=>exact ⟨i + 1,some ⟨g',0,none⟩,cap',by go_num,by omega,hall.out.2.1,hall.out.1,hall.out.2.2.2.1,hall.out.2.2.1,hall.out.2.2.2.2.1,hall.out.2.2.2.2.2⟩
   case measure=>simp [intOf];omega
  ·obtain rfl:i = c.vars.length:=by omega
   have hI:¬ ((c.vars.length:Nat):Int) < (c.vars.length:Int):=by omega
   rw [List.take_of_length_le (by rw [List.length_map];exact Nat.le_refl _)] at hO
   obtain ⟨s0,s1,s2,s3,s4,s5,s6,s7,s8,s9,s10,s11,s12,s13,sl,-⟩:=z1p hx
   obtain ⟨r0,r1,r2,r3,r4,r5,r6,r7,r8,r9,r10,r11,r12,r13,rl,rf⟩:=z1p hy
   have i1:InW sb wr:=⟨sl⟩
   have i2:InW rb wr:=⟨rl⟩
   have e0:=z0b r0
   have q0:=rf 0
   have e1:=z0b r1
   have q1:=rf 1
   have e2:=z0b r2
   have q2:=rf 2
   have e3:=z0b r3
   have q3:=rf 3
   have e4:=z0b r4
   have q4:=rf 4
   have e5:=z0b r5
   have q5:=rf 5
   have e6:=z0b r6
   have q6:=rf 6
   have e7:=z0b r7
   have q7:=rf 7
   have e8:=z0b r8
   have q8:=rf 8
   have e9:=z0b r9
   have q9:=rf 9
   have e10:=z0b r10
   have q10:=rf 10
   have e11:=z0b r11
   have q11:=rf 11
   have e12:=z0b r12
   have q12:=rf 12
   have e13:=z0b r13
   have q13:=rf 13
   have h1:=hiT (z2s (z2g (v0 := .int .i64 1) (v1 := .int .i64 0) (v2 := .int .i64 0) (v3 := .int .i64 0) (v4 := .slice none 0 0) (v5 := .slice (some ⟨pb,0,none⟩) c.states.length c.states.length) (v6 := .slice da c.vars.length dc) (v7 := .slice none 0 0) (v8 := .slice none 0 0) (v9 := .slice none 0 0) (v10 := .string ⟨#[]⟩) (v11 := .slice none 0 0) (v12 := .slice none 0 0) (v13 := .slice none 0 0) hO hy deT))
   have h2:=hiT (z2g (v0 := .int .i64 1) (v1 := .int .i64 0) (v2 := .int .i64 0) (v3 := .int .i64 0) (v4 := .slice none 0 0) (v5 := .slice (some ⟨pb,0,none⟩) c.states.length c.states.length) (v6 := .slice da c.vars.length dc) (v7 := .slice none 0 0) (v8 := .slice none 0 0) (v9 := .slice none 0 0) (v10 := .string ⟨#[]⟩) (v11 := .slice none 0 0) (v12 := .slice none 0 0) (v13 := .slice none 0 0) (q3m (n:=c.states.length) (s:=1) (show w.heap.size ≤ pb by omega) hz (by simp [z9x]) (by unfold maxLen;omega)) hy deT)
   have hfin:=hiT (z8s (b:=rb) (v0 := .int .i64 1) (v1 := .int .i64 0) (v2 := .int .i64 0) (v3 := .int .i64 0) (v4 := .slice none 0 0) (v5 := .slice (some ⟨pb,0,none⟩) c.states.length c.states.length) (v6 := .slice da c.vars.length dc) (v7 := .slice none 0 0) (v8 := .slice none 0 0) (v9 := .slice none 0 0) (v10 := .string ⟨#[]⟩) (v11 := .slice none 0 0) (v12 := .slice none 0 0) (v13 := .slice none 0 0) hb (show w.heap.size ≤ rb by omega))
   clear hx hy hz hO rf V T1 hb hwz hj hy1 hy2 hy3 hu
   go_wp2
   go_returns
   exact ⟨pb,da,dc,rfl,⟨⟨_,h2.out⟩,h1.out⟩,hfin.out⟩
abbrev rC (c:Ch) (xa ya:Option Addr) (xc yc:Nat):Array Value:=#[str c.name,.slice xa c.vars.length xc,.slice ya c.states.length yc]
abbrev ev0 (c:Ch):List (List UInt8 × Vl):=c.vars.map fun v=>(v.name,z9i v)
theorem x0i {w:World} {da:Option Addr} {dc:Nat} {vs:List Vr} (h:z2d w da dc ((vs.map z9i).flatMap vlC)) (i:Nat) (hi:i < vs.length):∃ g o,da = some ⟨g,o,none⟩ ∧ g < w.heap.size ∧ w.cell? ⟨g,o + i * 3,none⟩ = some (.int .i64 vs[i].vk) ∧ w.cell? ⟨g,o + i * 3 + 1,none⟩ = some (.int .i64 vs[i].vn) ∧ w.cell? ⟨g,o + i * 3 + 2,none⟩ = some (str vs[i].vs):=by
 have hl:i < (vs.map z9i).length:=by rw [List.length_map];exact hi
 obtain ⟨g,o,e,hg,hc⟩:=z8g vlC 3 q5s h i hl deT
 have e0:(vs.map z9i)[i] = z9i vs[i]:=List.getElem_map ..
 rw [e0] at hc
 exact ⟨g,o,e,hg,hc 0 _ deT rfl,hc 1 _ deT rfl,hc 2 _ deT rfl⟩
set_option maxRecDepth 100000 in
set_option maxHeartbeats 8000000 in
theorem j7i (c:Ch) (rx:Nat → Value) (xa ya:Option Addr) (xc yc:Nat) (hv:c.vars.length ≤ 16) (pb:Nat) (da:Option Addr) (dc:Nat) (w:World) (h:ChV ct1 0 w c rx (.slice xa c.vars.length xc) (.slice ya c.states.length yc)) (hs:RsRd w c pb da dc) :
  Calls Tryz.prog 34 #[.agg (rC c xa ya xc yc),.agg (rsB c.states.length c.vars.length pb da dc)] w (fun e w'=>∃ (ea:Option Addr) (ec:Nat),e = .returned (.slice ea c.vars.length ec) ∧ w'.ownsRow w.heap.size 104 4 (.slice ea c.vars.length ec) c.vars.length ((ev0 c).flatMap evC) ∧ Below w.heap.size w w'):=by
 have V:=hiT (fun wx (hb:Below w.heap.size w wx) i hi=>j8f (z1u h hb) i hi)
 have D:=hiT (fun wx (hb:Below w.heap.size w wx) i hi=>x0i (z0k hs.data hb) i hi)
 obtain ⟨j0,hj,hy1,hy2,hy3⟩:=info_parts Tryz.infoRc
 have T1:=hiT (fun i (hi:i < c.vars.length)=>show ((ev0 c).take (i + 1)).flatMap evC = ((ev0 c).take i).flatMap evC ++ evC (c.vars[i].name,z9i c.vars[i]) by rw [List.take_succ_eq_append_getElem (by rw [List.length_map];exact hi),List.flatMap_append,List.getElem_map];simp)
 clear h hs
 go_enter Tryz.func34,Tryz.ntmps34
 go_wp2
 obtain ⟨W1,hW1⟩:∃ X,(w.alloc (.cells (rC c xa ya xc yc) 31)).alloc (.cells (rsB c.states.length c.vars.length pb da dc) 54) = X:=⟨_,rfl⟩
 have bW:Below w.heap.size w W1:=by rw [← hW1];exact gzT
 have tx:W1.heap[w.heap.size]? = some (.cells (rC c xa ya xc yc) 31 (0,0)):=by rw [← hW1];exact z0j (heap_alloc_new w _)
 have sx:W1.heap[w.heap.size + 1]? = some (.cells (rsB c.states.length c.vars.length pb da dc) 54 (0,0)):=by rw [← hW1];exact z0s (by simp)
 rw [hW1]
 clear hW1
 have tx':=hiT tx
 have sx':=hiT sx
 have hzW:=bW.size
 have hG:Hid (∀ wx,Below W1.heap.size W1 wx → Below w.heap.size w wx):=hiT fun wx hx=>bW.trans (hx.mono bW.size)
 clear tx sx bW
 go_loopw [5,6] (fun x v wr=>∃ (i:Nat) (ea:Option Addr) (ec:Nat),x = .slice ea i ec ∧ v = .int .i64 (i:Int) ∧ i ≤ c.vars.length ∧ wr.ownsRow W1.heap.size 104 4 (.slice ea i ec) i (((ev0 c).take i).flatMap evC) ∧ Below W1.heap.size W1 wr) (fun _ v _=>c.vars.length - (intOf v).toNat)
 case atStart=>exact ⟨0,none,0,rfl,rfl,Nat.zero_le _,World.ownsRow_nil _ _ _ _,Below.refl _ _⟩
 case round =>
  obtain ⟨i,ea,ec,rfl,rfl,hi,hO,hb⟩:=hrel
  rename World=>wr
  have hwz:=hb.size
  have tb:=z0c tx'.out hb
  have sb:=z0c sx'.out hb
  have k1:wr.cell? ⟨w.heap.size,1,none⟩ = some (.slice xa c.vars.length xc):=by rw [cell_of_row _ _ _ _ _ _ tb];rfl
  have k6:wr.cell? ⟨w.heap.size + 1,6,none⟩ = some (.slice da c.vars.length dc):=by rw [cell_of_row _ _ _ _ _ _ sb];rfl
  have i1:InW w.heap.size wr:=⟨lt_of_block tb⟩
  have i2:InW (w.heap.size + 1) wr:=⟨lt_of_block sb⟩
  clear tb sb
  by_cases hlt:i < c.vars.length
  ·obtain ⟨g,rfl,hgw,m0,-,-,-⟩:=V.out w (Below.refl _ _) i hlt
   obtain ⟨g2,o2,rfl,hgw2,e0,e1,e2⟩:=D.out w (Below.refl _ _) i hlt
   have q:=hG.out _ hb
   have hg:=Nat.lt_of_lt_of_le hgw q.size
   have hg2:=Nat.lt_of_lt_of_le hgw2 q.size
   have n0:=(q.cell (p:=⟨_,_,none⟩) hgw).trans m0
   have d0:=(q.cell (p:=⟨_,_,none⟩) hgw2).trans e0
   have d1:=(q.cell (p:=⟨_,_,none⟩) hgw2).trans e1
   have d2:=(q.cell (p:=⟨_,_,none⟩) hgw2).trans e2
   clear q
   have t1:=hiT (T1.out i hlt)
   have hI:(i:Int) < (c.vars.length:Int):=by omega
   have i3:InW g wr:=⟨hg⟩
   have i4:InW g2 wr:=⟨hg2⟩
   generalize c.vars[i] = x at *
   have hO':=hiT hO
   have hb':=hiT hb
   have KS:Hid (∀ X,Below wr.heap.size wr X → X.cell? ⟨w.heap.size,1,none⟩ = some (.slice (some ⟨g,0,none⟩) c.vars.length xc) ∧ X.cell? ⟨w.heap.size + 1,6,none⟩ = some (.slice (some ⟨g2,o2,none⟩) c.vars.length dc) ∧ X.cell? ⟨g,i * 4,none⟩ = some (str x.name) ∧ X.cell? ⟨g2,o2 + i * 3,none⟩ = some (.int .i64 x.vk) ∧ X.cell? ⟨g2,o2 + i * 3 + 1,none⟩ = some (.int .i64 x.vn) ∧ X.cell? ⟨g2,o2 + i * 3 + 2,none⟩ = some (str x.vs)):=hiT fun X hx=>⟨(hx.cell (p:=⟨_,_,none⟩) i1.lt).trans k1,(hx.cell (p:=⟨_,_,none⟩) i2.lt).trans k6,(hx.cell (p:=⟨_,_,none⟩) i3.lt).trans n0,(hx.cell (p:=⟨_,_,none⟩) i4.lt).trans d0,(hx.cell (p:=⟨_,_,none⟩) i4.lt).trans d1,(hx.cell (p:=⟨_,_,none⟩) i4.lt).trans d2⟩
   clear V D T1 hO hb
   go_wp2_with fail
   refine z1n (S:=fun w'=>w'.cell? ⟨w.heap.size,1,none⟩ = some (.slice (some ⟨g,0,none⟩) c.vars.length xc) ∧ w'.cell? ⟨w.heap.size + 1,6,none⟩ = some (.slice (some ⟨g2,o2,none⟩) c.vars.length dc) ∧ w'.cell? ⟨g,i * 4,none⟩ = some (str x.name) ∧ w'.cell? ⟨g2,o2 + i * 3,none⟩ = some (.int .i64 x.vk) ∧ w'.cell? ⟨g2,o2 + i * 3 + 1,none⟩ = some (.int .i64 x.vn) ∧ w'.cell? ⟨g2,o2 + i * 3 + 2,none⟩ = some (str x.vs)) 15 krT (by exact ⟨k1,k6,n0,d0,d1,d2⟩) (fun hS=>?_)
   (refine mT 0 rfl rfl (v:=?_) (Or.inl ⟨by rfl,?_⟩) ?_;rotate_left;(focus (intro w hSw;(try dsimp only at hSw);go_simp;all_goals (with_reducible rfl)));simp only [List.setIfInBounds_toArray,List.set_cons_zero,List.set_cons_succ])
   (refine mT 1 rfl rfl (v:=?_) (Or.inl ⟨by rfl,?_⟩) ?_;rotate_left;(focus (intro w hSw;(try dsimp only at hSw);go_simp;all_goals (with_reducible rfl)));simp only [List.setIfInBounds_toArray,List.set_cons_zero,List.set_cons_succ])
   (refine mT 2 rfl rfl (v:=?_) (Or.inl ⟨by rfl,?_⟩) ?_;rotate_left;(focus (intro w hSw;(try dsimp only at hSw);go_simp;all_goals (with_reducible rfl)));simp only [List.setIfInBounds_toArray,List.set_cons_zero,List.set_cons_succ])
   (refine mT 3 rfl rfl (v:=?_) (Or.inl ⟨by rfl,?_⟩) ?_;rotate_left;(focus (intro w hSw;(try dsimp only at hSw);go_simp;all_goals (with_reducible rfl)));simp only [List.setIfInBounds_toArray,List.set_cons_zero,List.set_cons_succ])
   (refine mT 4 rfl rfl (v:=?_) (Or.inl ⟨by rfl,?_⟩) ?_;rotate_left;(focus (intro w hSw;(try dsimp only at hSw);go_simp;all_goals (with_reducible rfl)));simp only [List.setIfInBounds_toArray,List.set_cons_zero,List.set_cons_succ])
   (refine mT 5 rfl rfl (v:=?_) (Or.inl ⟨by rfl,?_⟩) ?_;rotate_left;(focus (intro w hSw;(try dsimp only at hSw);go_simp;all_goals (with_reducible rfl)));simp only [List.setIfInBounds_toArray,List.set_cons_zero,List.set_cons_succ])
   (refine mT 6 rfl rfl (v:=?_) (Or.inl ⟨by rfl,?_⟩) ?_;rotate_left;(focus (intro w hSw;(try dsimp only at hSw);go_simp;all_goals (with_reducible rfl)));simp only [List.setIfInBounds_toArray,List.set_cons_zero,List.set_cons_succ])
   (refine mT 7 rfl rfl (v:=?_) (Or.inl ⟨by rfl,?_⟩) ?_;rotate_left;(focus (intro w hSw;(try dsimp only at hSw);go_simp;all_goals (with_reducible rfl)));simp only [List.setIfInBounds_toArray,List.set_cons_zero,List.set_cons_succ])
   (refine mT 8 rfl rfl (v:=?_) (Or.inl ⟨by rfl,?_⟩) ?_;rotate_left;(focus (intro w hSw;(try dsimp only at hSw);go_simp;all_goals (with_reducible rfl)));simp only [List.setIfInBounds_toArray,List.set_cons_zero,List.set_cons_succ])
   (refine mT 9 rfl rfl (v:=?_) (Or.inl ⟨by rfl,?_⟩) ?_;rotate_left;(focus (intro w hSw;(try dsimp only at hSw);go_simp;all_goals (with_reducible rfl)));simp only [List.setIfInBounds_toArray,List.set_cons_zero,List.set_cons_succ])
   (refine mT 10 rfl rfl (v:=?_) (Or.inl ⟨by rfl,?_⟩) ?_;rotate_left;(focus (intro w hSw;(try dsimp only at hSw);go_simp;all_goals (with_reducible rfl)));simp only [List.setIfInBounds_toArray,List.set_cons_zero,List.set_cons_succ])
   (refine mT 11 rfl rfl (v:=?_) (Or.inl ⟨by rfl,?_⟩) ?_;rotate_left;(focus (intro w hSw;(try dsimp only at hSw);go_simp;all_goals (with_reducible rfl)));simp only [List.setIfInBounds_toArray,List.set_cons_zero,List.set_cons_succ])
   (refine mT 12 rfl rfl (v:=?_) (Or.inl ⟨by rfl,?_⟩) ?_;rotate_left;(focus (intro w hSw;(try dsimp only at hSw);go_simp;all_goals (with_reducible rfl)));simp only [List.setIfInBounds_toArray,List.set_cons_zero,List.set_cons_succ])
   refine z0f (t:=13) krT rfl rfl (fun K' hK=>?_)
   go_simp
   refine hK.out _ _ (fun _=>KS.out _ gzT) (fun hS=>?_)
   clear hK K'
   replace hS:=hS deT
   refine z2w (t:=14) krT rfl rfl rfl (fun K' hK=>?_)
   refine wp_append_lies _ (.tmp 21) (.tmp 34) 101 rfl W1.heap.size 104 j0 _ 4 48 Tryz.underlying101 hj hy1 hy2 hy3 rfl deT (.slice ea i ec) i _ (by simp [Act.eval]) (z0a hO'.out gzT) ⟨_,0,none⟩ 1 1 (evC (x.name,z9i x)) rfl rfl (World.news_of_block (z0s (by simp))) (y9x _) deT (by unfold maxLen;omega) omT gzT _ rfl ?_
   intro g' cap' w2 hown2 hgrow hat1 hg1
   have hb2:Below W1.heap.size W1 w2:=Below.grown (show Below W1.heap.size W1 _ from hb'.out.trans (Below.mono (B:=wr.heap.size) gzT hwz)) hgrow gzT (fun k hk=>(hO'.out.lt k hk).1)
   have hx2:w2.cell? ⟨w.heap.size,1,none⟩ = some (.slice (some ⟨g,0,none⟩) c.vars.length xc) ∧ w2.cell? ⟨w.heap.size + 1,6,none⟩ = some (.slice (some ⟨g2,o2,none⟩) c.vars.length dc) ∧ w2.cell? ⟨g,i * 4,none⟩ = some (str x.name) ∧ w2.cell? ⟨g2,o2 + i * 3,none⟩ = some (.int .i64 x.vk) ∧ w2.cell? ⟨g2,o2 + i * 3 + 1,none⟩ = some (.int .i64 x.vn) ∧ w2.cell? ⟨g2,o2 + i * 3 + 2,none⟩ = some (str x.vs):=by
    have q:Below w.heap.size w w2:=hG.out _ hb2
    have tb:=z0c tx'.out hb2
    have sb:=z0c sx'.out hb2
    exact ⟨by rw [cell_of_row _ _ _ _ _ _ tb];rfl,by rw [cell_of_row _ _ _ _ _ _ sb];rfl,(q.cell (p:=⟨_,_,none⟩) hgw).trans m0,(q.cell (p:=⟨_,_,none⟩) hgw2).trans e0,(q.cell (p:=⟨_,_,none⟩) hgw2).trans e1,(q.cell (p:=⟨_,_,none⟩) hgw2).trans e2⟩
   have hx3:=hiT hx2
   have hall:=hiT (And.intro (t1.out ▸ hown2:w2.ownsRow W1.heap.size 104 4 (.slice (some ⟨g',0,none⟩) (i + 1) cap') (i + 1) (((ev0 c).take (i + 1)).flatMap evC)) hb2)
   refine hK.out _ _ (fun _=>hx3.out) (fun hS=>?_)
   clear hK K' hS hown2 hgrow hb2 hO' t1 n0 d0 d1 d2 k1 k6 i1 i2 i3 i4 hx2 hat1 hg1 KS m0 e0 e1 e2
   refine z0f (t:=15) krT rfl rfl (fun K' hK=>?_)
   go_simp
   refine hK.out _ _ (fun h=>absurd rfl h) (fun _=>z1j krT ?_)
   go_wp2
   go_roundw
   case rel=>exact ⟨i + 1,some ⟨g',0,none⟩,cap',rfl,by go_num,by omega,hall.out.1,hall.out.2⟩
   case measure=>simp [intOf];omega
  ·obtain rfl:i = c.vars.length:=by omega
   have hI:¬ ((c.vars.length:Nat):Int) < (c.vars.length:Int):=by omega
   rw [List.take_of_length_le (by rw [List.length_map];exact Nat.le_refl _)] at hO
   have hfin:=hiT (And.intro (z0m hO hzW) (hG.out _ hb))
   clear V D T1 hO hb
   go_wp2
   go_returns
   exact ⟨ea,ec,rfl,hfin.out.1,hfin.out.2⟩
end Go.Proofs.YtacnlghljmgdiaaGreatDoor
