/- Several texts of this proof, joined: XE, XT, XR. -/
import Derived.Test.YtfgpmcepppcmiaaGreatDoorY5
import Derived.WalkKit
import Derived.ProofKit
import Derived.OpenShut
import Derived.Handy
import Derived.BigQuiet
import Derived.OwnWalk
import Derived.Deep.AppendLies
import Derived.Lib.Hide
import Derived.WalkSmall
import Derived.WalkLawsBesides
import Derived.Test.YtfgpmcepppcmiaaGreatDoorY3
import Derived.Test.YtfgpmcepppcmiaaGreatDoorZ4
namespace Go.Proofs.YtfgpmcepppcmiaaGreatDoor
open Go.RowKit
theorem new_atx {w:World} {o:Obj} {b:Nat} (h:b = w.heap.size):(w.alloc o).heap[b]? = some o:=by rw [h];exact heap_alloc_new w o
theorem ints_keep {w w':World} {ao:Option Addr} {ps:List Int} (h:Ints w ao ps) (hb:Below w.heap.size w w'):Ints w' ao ps:=by
 intro i hi
 obtain ⟨g,o,e,hc,hg⟩:=h i hi
 exact ⟨g,o,e,(hb.cell (p:=⟨g,_,none⟩) hg).trans hc,Nat.lt_of_lt_of_le hg hb.size⟩
set_option maxRecDepth 100000 in
set_option maxHeartbeats 8000000 in
theorem xright_any (ao:Option Addr) (cap:Nat) (ns:List Nd) (hn:ns.length ≤ 2000000) (hs:∀ n ∈ ns,n.s.length ≤ 140737488351232 ∧ n.name.length ≤ 140737488351232) (w:World) (h:NdsAt w ao ns) (hw:Lb w) :
  Calls Tryz.prog 226 #[.slice ao ns.length cap] w (Ret (.bool (rightT ns)) w):=by
 have S:=Lib.hid (size_any ao cap ns hn w h)
 have H:=fun wx hb=>nds_below (w':=wx) h hb
 replace H:=Lib.hid H
 obtain ⟨i0,hi0,hz1,hz2,hz3⟩:=info_parts Tryz.infoInt
 have hLb:=Lib.hid (fun wx hb=>lb_below (w':=wx) hw hb)
 clear hw h
 by_cases hsz:sizeT ns = 0
 ·have e:rightT ns = rightL 0 [] ns:=by unfold rightT;rw [if_neg (by rw [hsz];decide)]
  rw [e]
  rw [hsz] at S
  clear e hsz
  have eR:=Lib.hid (rfl:rightL 0 [] ns = rightL 0 [] ns)
  obtain ⟨R,hR⟩:∃ R,rightL 0 [] ns = R:=⟨_,rfl⟩
  rw [hR]
  have hR0:=Lib.hid (show R = rightL 0 [] (ns.drop 0) by rw [← hR];rfl)
  clear hR eR
  go_enter Tryz.func226,Tryz.ntmps226
  go_wp2_with ((with_reducible refine (S.out).mono ?_);intro e w1 hr;obtain ⟨rfl,p,rfl⟩:=hr.out;clear hr)
  go_loopw [3,12] (fun v x wr=>∃ (i:Nat) (op:List Nat) (oa:Option Addr) (oc:Nat),x = .int .i64 (i:Int) ∧ i ≤ ns.length ∧ op.length ≤ i ∧ v = .slice oa op.length oc ∧ wr.ownsRow w.heap.size 3 1 (.slice oa op.length oc) op.length (natsC op.reverse) ∧ R = rightL i op (ns.drop i) ∧ Below w.heap.size w wr) (fun _ x _=>ns.length - (intOf x).toNat)
  case atStart=>exact ⟨0,[],none,0,rfl,Nat.zero_le _,Nat.le_refl _,rfl,World.ownsRow_nil _ _ _ _,hR0.out,by (first | exact gwT | exact lzT)⟩
  case round =>
   obtain ⟨i,op,oa,oc,rfl,hi,hoi,rfl,hown,hR,hb⟩:=hrel
   rename World=>wr
   have hwz:=hb.size
   clear S hR0
   by_cases hlt:i < ns.length
   ·obtain ⟨g,o,rfl,hg,hc⟩:=H.out wr hb (by omega)
    obtain ⟨n1,n2,n3,n4,n5,n6,n7⟩:=hc i hlt
    rw [List.drop_eq_getElem_cons hlt] at hR
    obtain ⟨hns,hnm⟩:=hs _ (List.getElem_mem hlt)
    generalize ns[i] = n at *
    have i1:InW g wr:=⟨hg⟩
    have hI:(i:Int) < (ns.length:Int):=by omega
    have C:=fun wx=>Lib.hid (count_any n.op wx)
    have hc2:cnt n.op ≤ 2:=by
     unfold cnt
     (repeat' split) <;> omega
    by_cases hcl:op.length < cnt n.op
    ·have hres:=Lib.hid (hR.trans (rightL_len hcl))
     generalize cnt n.op = c at *
     have hcl2:(op.length:Int) - (c:Int) < 0:=by omega
     have hcd:decide ((op.length:Int) - (c:Int) < 0) = true:=decide_eq_true hcl2
     have hwr:wrap64 ((op.length:Int) - (c:Int)) = (op.length:Int) - (c:Int):=by unfold wrap64;omega
     replace C:=Lib.hid C
     clear hR hown hc
     go_wp2_with ((with_reducible refine ((C.out _).out).mono ?_);rintro e w1 ⟨rfl,rfl⟩)
     (refine wp_region_G (by kernel_rfl) (by kernel_rfl) ?_;(repeat (go_big_quiet_step (fail)));refine wpQuiet_nil ?_;intro _ hw';obtain ⟨pg,hw''⟩:=hw';subst hw'')
     go_wp2
     go_returns
     exact ⟨by rw [hres.out];rfl,by (first | exact gwT | exact lzT)⟩
    ·obtain ⟨ps,hps⟩:∃ ps,ps = (op.take (cnt n.op)).reverse.map fun (p:Nat)=>(p:Int):=⟨_,rfl⟩
     have hpl:ps.length = cnt n.op:=by rw [hps];simp;omega
     obtain ⟨f,hf⟩:∃ f,f + cnt n.op = op.length:=⟨op.length - cnt n.op,by omega⟩
     have N:=fun ao cap wx hi (hk:Below w.heap.size w wx)=>Lib.hid (nright_any n ao cap ps hpl hns hnm wx hi (hLb.out wx hk))
     rw [hpl] at N
     obtain ⟨b,hb2⟩:∃ b,nright n ps = b:=⟨_,rfl⟩
     rw [hb2] at N
     rw [hps] at hb2
     have hno:=Lib.hid (fun (h:b = false)=>hR.trans (rightL_no hcl (hb2.trans h)))
     have hgo:=Lib.hid (fun (h:b = true)=>hR.trans (rightL_go hcl (hb2.trans h)))
     have htake:=owns_takeV hown (k:=f) (by omega)
     rw [nats_drop op (cnt n.op) f hf] at htake
     have hdl:(op.drop (cnt n.op)).length = f:=by rw [List.length_drop];omega
     have hdlK:=Lib.hid hdl
     have hT:=Lib.hid htake
     have hPL:=fun h0=>parts_lieV hf hown h0
     rw [← hps] at hPL
     replace hPL:=Lib.hid hPL
     have hcases:(oa = none ∧ op.length = 0 ∧ oc = 0) ∨ ∃ g,oa = some ⟨g,0,none⟩ ∧ op.length ≤ oc:=by
      rcases hown.2 with ⟨hv,hn0⟩ | ⟨g',cap',cur,hv,_,_,hcp,_⟩
      ·simp only [Value.slice.injEq] at hv;exact .inl ⟨hv.1,hn0,hv.2.2⟩
      ·cases hv;exact .inr ⟨g',rfl,hcp⟩
     have hps0:cnt n.op = 0 → ps = []:=fun h=>List.eq_nil_of_length_eq_zero (by rw [hpl,h])
     unfold ndV at N
     clear hR hc hps hown htake hdl hb2 hcl
     have hold:=Lib.hid (rfl:op.drop (cnt n.op) = op.drop (cnt n.op))
     obtain ⟨od,hod⟩:∃ od,od = op.drop (cnt n.op):=⟨_,rfl⟩
     rw [← hod] at hdlK hT hgo
     clear hold hod
     generalize cnt n.op = c at *
     generalize op.length = L at *
     subst hf
     replace C:=Lib.hid C
     replace N:=Lib.hid N
     have hfl:¬ ((f:Int) < 0):=by omega
     have hfd:decide ((f:Int) < 0) = false:=decide_eq_false hfl
     have hfw:IntKind.i64.wrap (f:Int) = (f:Int):=by rw [IntKind.wrap_i64];omega
     by_cases hc0:c = 0
     ·have hpn:=hps0 hc0
      subst hpn
      subst hc0
      rcases hcases with ⟨rfl,hL0,rfl⟩ | ⟨gq,rfl,hoc⟩
      ·obtain rfl:f = 0:=by omega
       cases b
       ·have hres:=Lib.hid (hno.out rfl)
        clear hgo hno
        go_wp2_with ((with_reducible refine ((C.out _).out).mono ?_);rintro e w1 ⟨rfl,rfl⟩)
        (refine wp_region_G (by kernel_rfl) (by kernel_rfl) ?_;(repeat (go_big_quiet_step (exact quietG ((N.out _ _ _ (fun i hi=>absurd hi (Nat.not_lt_zero _)) (by (first | exact gwT | exact lzT))).out))));refine wpQuiet_nil ?_;intro _ hw';obtain ⟨pg,hw''⟩:=hw';subst hw'')
        go_wp2
        go_returns
        exact ⟨by rw [hres.out];rfl,by (first | exact gwT | exact lzT)⟩
       ·have hnext:=Lib.hid (hgo.out rfl)
        clear hgo hno
        go_wp2_with ((with_reducible refine ((C.out _).out).mono ?_);rintro e w1 ⟨rfl,rfl⟩)
        (refine wp_region_G (by kernel_rfl) (by kernel_rfl) ?_;(repeat (go_big_quiet_step (exact quietG ((N.out _ _ _ (fun i hi=>absurd hi (Nat.not_lt_zero _)) (by (first | exact gwT | exact lzT))).out))));refine wpQuiet_nil ?_;intro _ hw';obtain ⟨pg,hw''⟩:=hw';subst hw'')
        go_wp2_with (at_builtin;refine wpList_append_lies _ rfl _ _ 40 rfl w.heap.size 3 i0 _ 1 8 Tryz.underlying40 hi0 hz1 hz2 hz3 rfl (by decide) (.slice none 0 0) 0 (natsC od.reverse) rfl (owns_below hT.out (by (first | exact gwT | exact lzT))) ⟨_,0,none⟩ 1 1 [.int .i64 (i:Int)] rfl rfl (World.news_of_block (new_atx (by simp))) (by intro u hu;simp at hu;subst hu;rfl) (by decide) (by unfold maxLen;omega) (by omega) (Below.size (B:=w.heap.size) (w:=w) (by (first | exact gwT | exact lzT))) _ rfl ?_)
        intro g' cap' w1 hown1 hgrow hat1 hg1
        have hb1:Below w.heap.size w w1:=Below.grown (by (first | exact gwT | exact lzT)) hgrow (Below.size (B:=w.heap.size) (w:=w) (by (first | exact gwT | exact lzT))) (fun k hk=>(hT.out.lt k hk).1)
        have hown2:=Lib.hid hown1
        clear hown1 hgrow hat1 hg1 hb
        go_wp2
        have hll:=Lib.hid (show (i :: od).length = 1 by rw [List.length_cons,hdlK.out])
        have hrv:=Lib.hid (show natsC (i :: od).reverse = natsC od.reverse ++ [.int .i64 (i:Int)] by simp [natsC])
        go_roundw
        case rel=>exact ⟨i + 1,i :: od,_,cap',by go_num,by omega,by rw [hll.out];omega,by rw [hll.out],by rw [hll.out,hrv.out];exact hown2.out,hnext.out,hb1⟩
        case measure=>simp [intOf];omega
      ·by_cases hof:oc = f
       ·subst hof
        cases b
        ·have hres:=Lib.hid (hno.out rfl)
         clear hgo hno
         go_wp2_with ((with_reducible refine ((C.out _).out).mono ?_);rintro e w1 ⟨rfl,rfl⟩)
         (refine wp_region_G (by kernel_rfl) (by kernel_rfl) ?_;(repeat (go_big_quiet_step (exact quietG ((N.out _ _ _ (fun i hi=>absurd hi (Nat.not_lt_zero _)) (by (first | exact gwT | exact lzT))).out))));refine wpQuiet_nil ?_;intro _ hw';obtain ⟨pg,hw''⟩:=hw';subst hw'')
         go_wp2
         go_returns
         exact ⟨by rw [hres.out];rfl,by (first | exact gwT | exact lzT)⟩
        ·have hnext:=Lib.hid (hgo.out rfl)
         clear hgo hno
         go_wp2_with ((with_reducible refine ((C.out _).out).mono ?_);rintro e w1 ⟨rfl,rfl⟩)
         (refine wp_region_G (by kernel_rfl) (by kernel_rfl) ?_;(repeat (go_big_quiet_step (exact quietG ((N.out _ _ _ (fun i hi=>absurd hi (Nat.not_lt_zero _)) (by (first | exact gwT | exact lzT))).out))));refine wpQuiet_nil ?_;intro _ hw';obtain ⟨pg,hw''⟩:=hw';subst hw'')
         go_wp2_with (at_builtin;refine wpList_append_lies _ rfl _ _ 40 rfl w.heap.size 3 i0 _ 1 8 Tryz.underlying40 hi0 hz1 hz2 hz3 rfl (by decide) (.slice (some ⟨gq,0,none⟩) oc oc) oc (natsC od.reverse) rfl (owns_below hT.out (by (first | exact gwT | exact lzT))) ⟨_,0,none⟩ 1 1 [.int .i64 (i:Int)] rfl rfl (World.news_of_block (new_atx (by simp))) (by intro u hu;simp at hu;subst hu;rfl) (by decide) (by unfold maxLen;omega) (by omega) (Below.size (B:=w.heap.size) (w:=w) (by (first | exact gwT | exact lzT))) _ rfl ?_)
         intro g' cap' w1 hown1 hgrow hat1 hg1
         have hb1:Below w.heap.size w w1:=Below.grown (by (first | exact gwT | exact lzT)) hgrow (Below.size (B:=w.heap.size) (w:=w) (by (first | exact gwT | exact lzT))) (fun k hk=>(hT.out.lt k hk).1)
         have hown2:=Lib.hid hown1
         clear hown1 hgrow hat1 hg1 hb
         go_wp2
         have hll:=Lib.hid (show (i :: od).length = oc + 1 by rw [List.length_cons,hdlK.out])
         have hrv:=Lib.hid (show natsC (i :: od).reverse = natsC od.reverse ++ [.int .i64 (i:Int)] by simp [natsC])
         go_roundw
         case rel=>exact ⟨i + 1,i :: od,_,cap',by go_num,by omega,by rw [hll.out];omega,by rw [hll.out],by rw [hll.out,hrv.out];exact hown2.out,hnext.out,hb1⟩
         case measure=>simp [intOf];omega
       ·have hofI:(f:Int) ≤ (oc:Int):=by omega
        cases b
        ·have hres:=Lib.hid (hno.out rfl)
         clear hgo hno
         go_wp2_with ((with_reducible refine ((C.out _).out).mono ?_);rintro e w1 ⟨rfl,rfl⟩)
         (refine wp_region_G (by kernel_rfl) (by kernel_rfl) ?_;(repeat (go_big_quiet_step (exact quietG ((N.out _ _ _ (fun i hi=>absurd hi (Nat.not_lt_zero _)) (by (first | exact gwT | exact lzT))).out))));refine wpQuiet_nil ?_;intro _ hw';obtain ⟨pg,hw''⟩:=hw';subst hw'')
         go_wp2
         go_returns
         exact ⟨by rw [hres.out];rfl,by (first | exact gwT | exact lzT)⟩
        ·have hnext:=Lib.hid (hgo.out rfl)
         clear hgo hno
         go_wp2_with ((with_reducible refine ((C.out _).out).mono ?_);rintro e w1 ⟨rfl,rfl⟩)
         (refine wp_region_G (by kernel_rfl) (by kernel_rfl) ?_;(repeat (go_big_quiet_step (exact quietG ((N.out _ _ _ (fun i hi=>absurd hi (Nat.not_lt_zero _)) (by (first | exact gwT | exact lzT))).out))));refine wpQuiet_nil ?_;intro _ hw';obtain ⟨pg,hw''⟩:=hw';subst hw'')
         go_wp2_with (at_builtin;refine wpList_append_lies _ rfl _ _ 40 rfl w.heap.size 3 i0 _ 1 8 Tryz.underlying40 hi0 hz1 hz2 hz3 rfl (by decide) (.slice (some ⟨gq,0,none⟩) f oc) f (natsC od.reverse) rfl (owns_below hT.out (by (first | exact gwT | exact lzT))) ⟨_,0,none⟩ 1 1 [.int .i64 (i:Int)] rfl rfl (World.news_of_block (new_atx (by simp))) (by intro u hu;simp at hu;subst hu;rfl) (by decide) (by unfold maxLen;omega) (by omega) (Below.size (B:=w.heap.size) (w:=w) (by (first | exact gwT | exact lzT))) _ rfl ?_)
         intro g' cap' w1 hown1 hgrow hat1 hg1
         have hb1:Below w.heap.size w w1:=Below.grown (by (first | exact gwT | exact lzT)) hgrow (Below.size (B:=w.heap.size) (w:=w) (by (first | exact gwT | exact lzT))) (fun k hk=>(hT.out.lt k hk).1)
         have hown2:=Lib.hid hown1
         clear hown1 hgrow hat1 hg1 hb
         go_wp2
         have hll:=Lib.hid (show (i :: od).length = f + 1 by rw [List.length_cons,hdlK.out])
         have hrv:=Lib.hid (show natsC (i :: od).reverse = natsC od.reverse ++ [.int .i64 (i:Int)] by simp [natsC])
         go_roundw
         case rel=>exact ⟨i + 1,i :: od,_,cap',by go_num,by omega,by rw [hll.out];omega,by rw [hll.out],by rw [hll.out,hrv.out];exact hown2.out,hnext.out,hb1⟩
         case measure=>simp [intOf];omega
     ·obtain ⟨gq,hoa,hoc,hints⟩:=hPL.out (by omega)
      subst hoa
      have hof:¬ oc = f:=by omega
      have hofI:(f:Int) ≤ (oc:Int):=by omega
      have hintsK:=fun wx (hk:Below wr.heap.size wr wx)=>ints_keep hints hk
      replace hintsK:=Lib.hid hintsK
      clear hints hPL hcases
      cases b
      ·have hres:=Lib.hid (hno.out rfl)
       clear hgo hno
       go_wp2_with ((with_reducible refine ((C.out _).out).mono ?_);rintro e w1 ⟨rfl,rfl⟩)
       (refine wp_region_G (by kernel_rfl) (by kernel_rfl) ?_;(repeat (go_big_quiet_step (exact quietG ((N.out _ _ _ (hintsK.out _ (by (first | exact gwT | exact lzT))) (by (first | exact gwT | exact lzT))).out))));refine wpQuiet_nil ?_;intro _ hw';obtain ⟨pg,hw''⟩:=hw';subst hw'')
       go_wp2
       go_returns
       exact ⟨by rw [hres.out];rfl,by (first | exact gwT | exact lzT)⟩
      ·have hnext:=Lib.hid (hgo.out rfl)
       clear hgo hno
       go_wp2_with ((with_reducible refine ((C.out _).out).mono ?_);rintro e w1 ⟨rfl,rfl⟩)
       (refine wp_region_G (by kernel_rfl) (by kernel_rfl) ?_;(repeat (go_big_quiet_step (exact quietG ((N.out _ _ _ (hintsK.out _ (by (first | exact gwT | exact lzT))) (by (first | exact gwT | exact lzT))).out))));refine wpQuiet_nil ?_;intro _ hw';obtain ⟨pg,hw''⟩:=hw';subst hw'')
       go_wp2_with (at_builtin;refine wpList_append_lies _ rfl _ _ 40 rfl w.heap.size 3 i0 _ 1 8 Tryz.underlying40 hi0 hz1 hz2 hz3 rfl (by decide) (.slice (some ⟨gq,0,none⟩) f oc) f (natsC od.reverse) rfl (owns_below hT.out (by (first | exact gwT | exact lzT))) ⟨_,0,none⟩ 1 1 [.int .i64 (i:Int)] rfl rfl (World.news_of_block (new_atx (by simp))) (by intro u hu;simp at hu;subst hu;rfl) (by decide) (by unfold maxLen;omega) (by omega) (Below.size (B:=w.heap.size) (w:=w) (by (first | exact gwT | exact lzT))) _ rfl ?_)
       intro g' cap' w1 hown1 hgrow hat1 hg1
       have hb1:Below w.heap.size w w1:=Below.grown (by (first | exact gwT | exact lzT)) hgrow (Below.size (B:=w.heap.size) (w:=w) (by (first | exact gwT | exact lzT))) (fun k hk=>(hT.out.lt k hk).1)
       have hown2:=Lib.hid hown1
       clear hown1 hgrow hat1 hg1 hb
       go_wp2
       have hll:=Lib.hid (show (i :: od).length = f + 1 by rw [List.length_cons,hdlK.out])
       have hrv:=Lib.hid (show natsC (i :: od).reverse = natsC od.reverse ++ [.int .i64 (i:Int)] by simp [natsC])
       go_roundw
       case rel=>exact ⟨i + 1,i :: od,_,cap',by go_num,by omega,by rw [hll.out];omega,by rw [hll.out],by rw [hll.out,hrv.out];exact hown2.out,hnext.out,hb1⟩
       case measure=>simp [intOf];omega
   ·obtain rfl:i = ns.length:=by omega
    rw [List.drop_length,rightL] at hR
    have hres:=Lib.hid hR
    clear hR hown
    have hI:¬ ((ns.length:Int) < (ns.length:Int)):=by omega
    have hlen:(op.length == 1) = ((op.length:Int) == 1):=by rw [Bool.eq_iff_iff,beq_iff_eq,beq_iff_eq];omega
    rw [hlen] at hres
    replace hlen:=Lib.hid hlen
    go_wp2
    go_returns
    exact ⟨by rw [hres.out];rfl,hb⟩
 ·have e:rightT ns = false:=by unfold rightT;rw [if_pos hsz]
  rw [e]
  have h0:(sizeT ns != 0) = true:=by rw [bne_iff_ne];exact hsz
  generalize sizeT ns = z at *
  clear e hsz
  go_enter Tryz.func226,Tryz.ntmps226
  go_wp2_with ((with_reducible refine (S.out).mono ?_);intro e w1 hr;obtain ⟨rfl,p,rfl⟩:=hr.out;clear hr)
  go_returns
  exact ⟨rfl,by (first | exact gwT | exact lzT)⟩
end Go.Proofs.YtfgpmcepppcmiaaGreatDoor
namespace Go.Proofs.YtfgpmcepppcmiaaGreatDoor
open Go.RowKit
theorem Tryz.infoStr:(Tryz.prog.info? 9).map (fun i=>(i.zero,i.size,i.bytes)) = some (some (.string ⟨#[]⟩),1,16):=by kernel_rfl
end Go.Proofs.YtfgpmcepppcmiaaGreatDoor
namespace Go.Proofs.YtfgpmcepppcmiaaGreatDoor
open Go.RowKit
theorem Tryz.infoN:(Tryz.prog.info? 241).map (fun i=>(i.zero,i.size,i.bytes)) = some (some (.agg #[.int .i64 0,.int .i64 0,.int .i64 0,.string ⟨#[]⟩,.string ⟨#[]⟩,.int .i64 0,.int .i64 0]),7,72):=by kernel_rfl
theorem new_at {w:World} {o:Obj} {b:Nat} (h:b = w.heap.size):(w.alloc o).heap[b]? = some o:=by rw [h];exact heap_alloc_new w o
theorem ndsC_take (ns:List Nd) (i:Nat) (h:i < ns.length):ndsC (ns.take (i + 1)) = ndsC (ns.take i) ++ ndC ns[i]:=by
 rw [List.take_succ_eq_append_getElem h,ndsC_snoc]
theorem ndsL_at:∀ (ns:List Nd) (i:Nat) (h:i < ns.length) (j:Nat),j < 7 → (ndsC ns)[i * 7 + j]? = (ndC ns[i])[j]?
 | [],i,h,_,_=>absurd h (Nat.not_lt_zero _)
 | t :: r,0,_,j,hj=>by
  unfold ndsC
  rw [List.flatMap_cons,Nat.zero_mul,Nat.zero_add,List.getElem?_append_left (by simpa [ndC] using hj)]
  rfl
 | t :: r,i + 1,h,j,hj=>by
  have ih:=ndsL_at r i (by simpa using h) j hj
  unfold ndsC at *
  rw [List.flatMap_cons,List.getElem?_append_right (by simp [ndC];omega),show (i + 1) * 7 + j - (ndC t).length = i * 7 + j by simp [ndC];omega,ih]
  rfl
theorem ndsL_own {w:World} {B cap:Nat} {e:TypeId} {na:Option Addr} {ns:List Nd} (h:w.ownsRow B e 7 (.slice na ns.length cap) ns.length (ndsC ns)):NdsAt w na ns:=by
 intro h0
 rcases h.2 with ⟨_,hn⟩ | ⟨g,cap',cur,hv,hb,hg,_⟩
 ·omega
 ·cases hv
  have hc:=h.cells (g:=g) rfl
  have hadd:∀ j,(⟨g,0,none⟩:Addr).add j = ⟨g,j,none⟩:=fun j=>by unfold Addr.add;split <;> simp_all
  refine ⟨g,0,rfl,(Array.getElem?_eq_some_iff.1 hg).1,fun i hi=>?_⟩
  rw [Nat.zero_add]
  refine ⟨?_,?_,?_,?_,?_,?_,?_⟩
  ·rw [← hadd];exact hc _ _ ((ndsL_at ns i hi 0 (by decide)).trans rfl)
  ·rw [← hadd];exact hc _ _ ((ndsL_at ns i hi 1 (by decide)).trans rfl)
  ·rw [← hadd];exact hc _ _ ((ndsL_at ns i hi 2 (by decide)).trans rfl)
  ·rw [← hadd];exact hc _ _ ((ndsL_at ns i hi 3 (by decide)).trans rfl)
  ·rw [← hadd];exact hc _ _ ((ndsL_at ns i hi 4 (by decide)).trans rfl)
  ·rw [← hadd];exact hc _ _ ((ndsL_at ns i hi 5 (by decide)).trans rfl)
  ·rw [← hadd];exact hc _ _ ((ndsL_at ns i hi 6 (by decide)).trans rfl)
end Go.Proofs.YtfgpmcepppcmiaaGreatDoor
