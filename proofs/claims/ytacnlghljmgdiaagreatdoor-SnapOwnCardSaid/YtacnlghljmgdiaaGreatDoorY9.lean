/- Several texts of this proof, joined: XE, XT, XR. -/
import Derived.Test.YtacnlghljmgdiaaGreatDoorY5
import Derived.WalkKit
import Derived.ProofKit
import Derived.OpenShut
import Derived.Handy
import Derived.BigQuiet
import Derived.OwnWalk
import Derived.Deep.AppendLies
import Derived.Lib.Hide
import Derived.WalkSmall
import Derived.WalkLawsBesides
import Derived.Test.YtacnlghljmgdiaaGreatDoorY3
import Derived.Test.YtacnlghljmgdiaaGreatDoorZ4
namespace Go.Proofs.YtacnlghljmgdiaaGreatDoor
open Go.RowKit
theorem j3v {w:World} {o:Obj} {b:Nat} (h:b = w.heap.size):(w.alloc o).heap[b]? = some o:=by rw [h];exact heap_alloc_new w o
theorem k0v {w w':World} {ao:Option Addr} {ps:List Int} (h:Ints w ao ps) (hb:Below w.heap.size w w'):Ints w' ao ps:=by
 intro i hi
 obtain ⟨g,o,e,hc,hg⟩:=h i hi
 exact ⟨g,o,e,(hb.cell (p:=⟨g,_,none⟩) hg).trans hc,Nat.lt_of_lt_of_le hg hb.size⟩
set_option maxRecDepth 100000 in
set_option maxHeartbeats 8000000 in
theorem y8j (ao:Option Addr) (cap:Nat) (ns:List Nd) (hn:ns.length ≤ 2000000) (hs:∀ n ∈ ns,n.s.length ≤ 140737488351232 ∧ n.name.length ≤ 140737488351232) (w:World) (h:q1i w ao ns) (hw:Lb w) :
  Calls Tryz.prog 225 #[.slice ao ns.length cap] w (Ret (.bool (z5t ns)) w):=by
 have S:=hiT (y3h ao cap ns hn w h)
 have H:=fun wx hb=>z1t (w':=wx) h hb
 replace H:=hiT H
 obtain ⟨i0,hi0,hz1,hz2,hz3⟩:=info_parts Tryz.infoInt
 have hLb:=hiT (fun wx hb=>z1v (w':=wx) hw hb)
 clear hw h
 by_cases hsz:z7d ns = 0
 ·have e:z5t ns = z5d 0 [] ns:=by unfold z5t;rw [if_neg (by rw [hsz];decide)]
  rw [e]
  rw [hsz] at S
  clear e hsz
  have eR:=hiT (rfl:z5d 0 [] ns = z5d 0 [] ns)
  obtain ⟨R,hR⟩:∃ R,z5d 0 [] ns = R:=⟨_,rfl⟩
  rw [hR]
  have hR0:=hiT (show R = z5d 0 [] (ns.drop 0) by rw [← hR];rfl)
  clear hR eR
  go_enter Tryz.func225,Tryz.ntmps225
  go_wp2_with ((with_reducible refine (S.out).mono ?_);intro e w1 hr;obtain ⟨rfl,p,rfl⟩:=hr.out;clear hr)
  go_loopw [3,12] (fun v x wr=>∃ (i:Nat) (op:List Nat) (oa:Option Addr) (oc:Nat),x = .int .i64 (i:Int) ∧ i ≤ ns.length ∧ op.length ≤ i ∧ v = .slice oa op.length oc ∧ wr.ownsRow w.heap.size 3 1 (.slice oa op.length oc) op.length (z1h op.reverse) ∧ R = z5d i op (ns.drop i) ∧ Below w.heap.size w wr) (fun _ x _=>ns.length - (intOf x).toNat)
  case atStart=>exact ⟨0,[],none,0,rfl,Nat.zero_le _,Nat.le_refl _,rfl,World.ownsRow_nil _ _ _ _,hR0.out,gzT⟩
  case round =>
   obtain ⟨i,op,oa,oc,rfl,hi,hoi,rfl,hown,hR,hb⟩:=hrel
   rename World=>wr
   have hwz:=hb.size
   clear S hR0
   by_cases hlt:i < ns.length
   ·obtain ⟨g,o,rfl,hg,hc⟩:=H.out wr hb omT
    obtain ⟨n1,n2,n3,n4,n5,n6,n7⟩:=hc i hlt
    rw [List.drop_eq_getElem_cons hlt] at hR
    obtain ⟨hns,hnm⟩:=hs _ (List.getElem_mem hlt)
    generalize ns[i] = n at *
    have i1:InW g wr:=⟨hg⟩
    have hI:(i:Int) < (ns.length:Int):=by omega
    have C:=fun wx=>hiT (q7h n.op wx)
    have hc2:cnt n.op ≤ 2:=by
     unfold cnt
     (repeat' split) <;> omega
    by_cases hcl:op.length < cnt n.op
    ·have hres:=hiT (hR.trans (y6u hcl))
     generalize cnt n.op = c at *
     have hcl2:(op.length:Int) - (c:Int) < 0:=by omega
     have hcd:decide ((op.length:Int) - (c:Int) < 0) = true:=decide_eq_true hcl2
     have hwr:wrap64 ((op.length:Int) - (c:Int)) = (op.length:Int) - (c:Int):=by unfold wrap64;omega
     replace C:=hiT C
     clear hR hown hc
     go_wp2_with ((with_reducible refine ((C.out _).out).mono ?_);rintro e w1 ⟨rfl,rfl⟩)
     (refine z0d krT krT ?_;(repeat (go_big_quiet_step (fail)));refine wpQuiet_nil ?_;intro _ hw';obtain ⟨pg,hw''⟩:=hw';subst hw'')
     go_wp2
     go_returns
     exact ⟨by rw [hres.out];rfl,gzT⟩
    ·obtain ⟨ps,hps⟩:∃ ps,ps = (op.take (cnt n.op)).reverse.map fun (p:Nat)=>(p:Int):=⟨_,rfl⟩
     have hpl:ps.length = cnt n.op:=by rw [hps];simp;omega
     obtain ⟨f,hf⟩:∃ f,f + cnt n.op = op.length:=⟨op.length - cnt n.op,by omega⟩
     have N:=fun ao cap wx hi (hk:Below w.heap.size w wx)=>hiT (y6a n ao cap ps hpl hns hnm wx hi (hLb.out wx hk))
     rw [hpl] at N
     obtain ⟨b,hb2⟩:∃ b,nright n ps = b:=⟨_,rfl⟩
     rw [hb2] at N
     rw [hps] at hb2
     have hno:=hiT (fun (h:b = false)=>hR.trans (k2z hcl (hb2.trans h)))
     have hgo:=hiT (fun (h:b = true)=>hR.trans (k2y hcl (hb2.trans h)))
     have htake:=j1n hown (k:=f) omT
     rw [j6t op (cnt n.op) f hf] at htake
     have hdl:(op.drop (cnt n.op)).length = f:=by rw [List.length_drop];omega
     have hdlK:=hiT hdl
     have hT:=hiT htake
     have hPL:=fun h0=>y6i hf hown h0
     rw [← hps] at hPL
     replace hPL:=hiT hPL
     have hcases:(oa = none ∧ op.length = 0 ∧ oc = 0) ∨ ∃ g,oa = some ⟨g,0,none⟩ ∧ op.length ≤ oc:=by
      rcases hown.2 with ⟨hv,hn0⟩ | ⟨g',cap',cur,hv,_,_,hcp,_⟩
      ·simp only [Value.slice.injEq] at hv;exact .inl ⟨hv.1,hn0,hv.2.2⟩
      ·cases hv;exact .inr ⟨g',rfl,hcp⟩
     have hps0:cnt n.op = 0 → ps = []:=fun h=>List.eq_nil_of_length_eq_zero (by rw [hpl,h])
     unfold ndV at N
     clear hR hc hps hown htake hdl hb2 hcl
     have hold:=hiT (rfl:op.drop (cnt n.op) = op.drop (cnt n.op))
     obtain ⟨od,hod⟩:∃ od,od = op.drop (cnt n.op):=⟨_,rfl⟩
     rw [← hod] at hdlK hT hgo
     clear hold hod
     generalize cnt n.op = c at *
     generalize op.length = L at *
     subst hf
     replace C:=hiT C
     replace N:=hiT N
     have hfl:¬ ((f:Int) < 0):=by omega
     have hfd:decide ((f:Int) < 0) = false:=decide_eq_false hfl
     have hfw:IntKind.i64.wrap (f:Int) = (f:Int):=by rw [IntKind.wrap_i64];omega
     by_cases hc0:c = 0
     ·have hpn:=hps0 hc0
      subst hpn
      subst hc0
      rcases hcases with ⟨rfl,hL0,rfl⟩ | ⟨gq,rfl,hoc⟩
      ·obtain rfl:f = 0:=by omega
       cases b
       ·have hres:=hiT (hno.out rfl)
        clear hgo hno
        go_wp2_with ((with_reducible refine ((C.out _).out).mono ?_);rintro e w1 ⟨rfl,rfl⟩)
        (refine z0d krT krT ?_;(repeat (go_big_quiet_step (exact z1i ((N.out _ _ _ (fun i hi=>absurd hi (Nat.not_lt_zero _)) gzT).out))));refine wpQuiet_nil ?_;intro _ hw';obtain ⟨pg,hw''⟩:=hw';subst hw'')
        go_wp2
        go_returns
        exact ⟨by rw [hres.out];rfl,gzT⟩
       ·have hnext:=hiT (hgo.out rfl)
        clear hgo hno
        go_wp2_with ((with_reducible refine ((C.out _).out).mono ?_);rintro e w1 ⟨rfl,rfl⟩)
        (refine z0d krT krT ?_;(repeat (go_big_quiet_step (exact z1i ((N.out _ _ _ (fun i hi=>absurd hi (Nat.not_lt_zero _)) gzT).out))));refine wpQuiet_nil ?_;intro _ hw';obtain ⟨pg,hw''⟩:=hw';subst hw'')
        go_wp2_with (at_builtin;refine wpList_append_lies _ rfl _ _ 40 rfl w.heap.size 3 i0 _ 1 8 Tryz.underlying40 hi0 hz1 hz2 hz3 rfl deT (.slice none 0 0) 0 (z1h od.reverse) rfl (z0a hT.out gzT) ⟨_,0,none⟩ 1 1 [.int .i64 (i:Int)] rfl rfl (World.news_of_block (j3v (by simp))) (by intro u hu;simp at hu;subst hu;rfl) deT (by unfold maxLen;omega) omT (Below.size (B:=w.heap.size) (w:=w) gzT) _ rfl ?_)
        intro g' cap' w1 hown1 hgrow hat1 hg1
        have hb1:Below w.heap.size w w1:=Below.grown gzT hgrow (Below.size (B:=w.heap.size) (w:=w) gzT) (fun k hk=>(hT.out.lt k hk).1)
        have hown2:=hiT hown1
        clear hown1 hgrow hat1 hg1 hb
        go_wp2
        have hll:=hiT (show (i :: od).length = 1 by rw [List.length_cons,hdlK.out])
        have hrv:=hiT (show z1h (i :: od).reverse = z1h od.reverse ++ [.int .i64 (i:Int)] by simp [z1h])
        go_roundw
        case rel=>exact ⟨i + 1,i :: od,_,cap',by go_num,by omega,by rw [hll.out];omega,by rw [hll.out],by rw [hll.out,hrv.out];exact hown2.out,hnext.out,hb1⟩
        case measure=>simp [intOf];omega
      ·by_cases hof:oc = f
       ·subst hof
        cases b
        ·have hres:=hiT (hno.out rfl)
         clear hgo hno
         go_wp2_with ((with_reducible refine ((C.out _).out).mono ?_);rintro e w1 ⟨rfl,rfl⟩)
         (refine z0d krT krT ?_;(repeat (go_big_quiet_step (exact z1i ((N.out _ _ _ (fun i hi=>absurd hi (Nat.not_lt_zero _)) gzT).out))));refine wpQuiet_nil ?_;intro _ hw';obtain ⟨pg,hw''⟩:=hw';subst hw'')
         go_wp2
         go_returns
         exact ⟨by rw [hres.out];rfl,gzT⟩
        ·have hnext:=hiT (hgo.out rfl)
         clear hgo hno
         go_wp2_with ((with_reducible refine ((C.out _).out).mono ?_);rintro e w1 ⟨rfl,rfl⟩)
         (refine z0d krT krT ?_;(repeat (go_big_quiet_step (exact z1i ((N.out _ _ _ (fun i hi=>absurd hi (Nat.not_lt_zero _)) gzT).out))));refine wpQuiet_nil ?_;intro _ hw';obtain ⟨pg,hw''⟩:=hw';subst hw'')
         go_wp2_with (at_builtin;refine wpList_append_lies _ rfl _ _ 40 rfl w.heap.size 3 i0 _ 1 8 Tryz.underlying40 hi0 hz1 hz2 hz3 rfl deT (.slice (some ⟨gq,0,none⟩) oc oc) oc (z1h od.reverse) rfl (z0a hT.out gzT) ⟨_,0,none⟩ 1 1 [.int .i64 (i:Int)] rfl rfl (World.news_of_block (j3v (by simp))) (by intro u hu;simp at hu;subst hu;rfl) deT (by unfold maxLen;omega) omT (Below.size (B:=w.heap.size) (w:=w) gzT) _ rfl ?_)
         intro g' cap' w1 hown1 hgrow hat1 hg1
         have hb1:Below w.heap.size w w1:=Below.grown gzT hgrow (Below.size (B:=w.heap.size) (w:=w) gzT) (fun k hk=>(hT.out.lt k hk).1)
         have hown2:=hiT hown1
         clear hown1 hgrow hat1 hg1 hb
         go_wp2
         have hll:=hiT (show (i :: od).length = oc + 1 by rw [List.length_cons,hdlK.out])
         have hrv:=hiT (show z1h (i :: od).reverse = z1h od.reverse ++ [.int .i64 (i:Int)] by simp [z1h])
         go_roundw
         case rel=>exact ⟨i + 1,i :: od,_,cap',by go_num,by omega,by rw [hll.out];omega,by rw [hll.out],by rw [hll.out,hrv.out];exact hown2.out,hnext.out,hb1⟩
         case measure=>simp [intOf];omega
       ·have hofI:(f:Int) ≤ (oc:Int):=by omega
        cases b
        ·have hres:=hiT (hno.out rfl)
         clear hgo hno
         go_wp2_with ((with_reducible refine ((C.out _).out).mono ?_);rintro e w1 ⟨rfl,rfl⟩)
         (refine z0d krT krT ?_;(repeat (go_big_quiet_step (exact z1i ((N.out _ _ _ (fun i hi=>absurd hi (Nat.not_lt_zero _)) gzT).out))));refine wpQuiet_nil ?_;intro _ hw';obtain ⟨pg,hw''⟩:=hw';subst hw'')
         go_wp2
         go_returns
         exact ⟨by rw [hres.out];rfl,gzT⟩
        ·have hnext:=hiT (hgo.out rfl)
         clear hgo hno
         go_wp2_with ((with_reducible refine ((C.out _).out).mono ?_);rintro e w1 ⟨rfl,rfl⟩)
         (refine z0d krT krT ?_;(repeat (go_big_quiet_step (exact z1i ((N.out _ _ _ (fun i hi=>absurd hi (Nat.not_lt_zero _)) gzT).out))));refine wpQuiet_nil ?_;intro _ hw';obtain ⟨pg,hw''⟩:=hw';subst hw'')
         go_wp2_with (at_builtin;refine wpList_append_lies _ rfl _ _ 40 rfl w.heap.size 3 i0 _ 1 8 Tryz.underlying40 hi0 hz1 hz2 hz3 rfl deT (.slice (some ⟨gq,0,none⟩) f oc) f (z1h od.reverse) rfl (z0a hT.out gzT) ⟨_,0,none⟩ 1 1 [.int .i64 (i:Int)] rfl rfl (World.news_of_block (j3v (by simp))) (by intro u hu;simp at hu;subst hu;rfl) deT (by unfold maxLen;omega) omT (Below.size (B:=w.heap.size) (w:=w) gzT) _ rfl ?_)
         intro g' cap' w1 hown1 hgrow hat1 hg1
         have hb1:Below w.heap.size w w1:=Below.grown gzT hgrow (Below.size (B:=w.heap.size) (w:=w) gzT) (fun k hk=>(hT.out.lt k hk).1)
         have hown2:=hiT hown1
         clear hown1 hgrow hat1 hg1 hb
         go_wp2
         have hll:=hiT (show (i :: od).length = f + 1 by rw [List.length_cons,hdlK.out])
         have hrv:=hiT (show z1h (i :: od).reverse = z1h od.reverse ++ [.int .i64 (i:Int)] by simp [z1h])
         go_roundw
         case rel=>exact ⟨i + 1,i :: od,_,cap',by go_num,by omega,by rw [hll.out];omega,by rw [hll.out],by rw [hll.out,hrv.out];exact hown2.out,hnext.out,hb1⟩
         case measure=>simp [intOf];omega
     ·obtain ⟨gq,hoa,hoc,hints⟩:=hPL.out omT
      subst hoa
      have hof:¬ oc = f:=by omega
      have hofI:(f:Int) ≤ (oc:Int):=by omega
      have hintsK:=fun wx (hk:Below wr.heap.size wr wx)=>k0v hints hk
      replace hintsK:=hiT hintsK
      clear hints hPL hcases
      cases b
      ·have hres:=hiT (hno.out rfl)
       clear hgo hno
       go_wp2_with ((with_reducible refine ((C.out _).out).mono ?_);rintro e w1 ⟨rfl,rfl⟩)
       (refine z0d krT krT ?_;(repeat (go_big_quiet_step (exact z1i ((N.out _ _ _ (hintsK.out _ gzT) gzT).out))));refine wpQuiet_nil ?_;intro _ hw';obtain ⟨pg,hw''⟩:=hw';subst hw'')
       go_wp2
       go_returns
       exact ⟨by rw [hres.out];rfl,gzT⟩
      ·have hnext:=hiT (hgo.out rfl)
       clear hgo hno
       go_wp2_with ((with_reducible refine ((C.out _).out).mono ?_);rintro e w1 ⟨rfl,rfl⟩)
       (refine z0d krT krT ?_;(repeat (go_big_quiet_step (exact z1i ((N.out _ _ _ (hintsK.out _ gzT) gzT).out))));refine wpQuiet_nil ?_;intro _ hw';obtain ⟨pg,hw''⟩:=hw';subst hw'')
       go_wp2_with (at_builtin;refine wpList_append_lies _ rfl _ _ 40 rfl w.heap.size 3 i0 _ 1 8 Tryz.underlying40 hi0 hz1 hz2 hz3 rfl deT (.slice (some ⟨gq,0,none⟩) f oc) f (z1h od.reverse) rfl (z0a hT.out gzT) ⟨_,0,none⟩ 1 1 [.int .i64 (i:Int)] rfl rfl (World.news_of_block (j3v (by simp))) (by intro u hu;simp at hu;subst hu;rfl) deT (by unfold maxLen;omega) omT (Below.size (B:=w.heap.size) (w:=w) gzT) _ rfl ?_)
       intro g' cap' w1 hown1 hgrow hat1 hg1
       have hb1:Below w.heap.size w w1:=Below.grown gzT hgrow (Below.size (B:=w.heap.size) (w:=w) gzT) (fun k hk=>(hT.out.lt k hk).1)
       have hown2:=hiT hown1
       clear hown1 hgrow hat1 hg1 hb
       go_wp2
       have hll:=hiT (show (i :: od).length = f + 1 by rw [List.length_cons,hdlK.out])
       have hrv:=hiT (show z1h (i :: od).reverse = z1h od.reverse ++ [.int .i64 (i:Int)] by simp [z1h])
       go_roundw
       case rel=>exact ⟨i + 1,i :: od,_,cap',by go_num,by omega,by rw [hll.out];omega,by rw [hll.out],by rw [hll.out,hrv.out];exact hown2.out,hnext.out,hb1⟩
       case measure=>simp [intOf];omega
   ·obtain rfl:i = ns.length:=by omega
    rw [List.drop_length,z5d] at hR
    have hres:=hiT hR
    clear hR hown
    have hI:¬ ((ns.length:Int) < (ns.length:Int)):=by omega
    have hlen:(op.length == 1) = ((op.length:Int) == 1):=by rw [Bool.eq_iff_iff,beq_iff_eq,beq_iff_eq];omega
    rw [hlen] at hres
    replace hlen:=hiT hlen
    go_wp2
    go_returns
    exact ⟨by rw [hres.out];rfl,hb⟩
 ·have e:z5t ns = false:=by unfold z5t;rw [if_pos hsz]
  rw [e]
  have h0:(z7d ns != 0) = true:=by rw [bne_iff_ne];exact hsz
  generalize z7d ns = z at *
  clear e hsz
  go_enter Tryz.func225,Tryz.ntmps225
  go_wp2_with ((with_reducible refine (S.out).mono ?_);intro e w1 hr;obtain ⟨rfl,p,rfl⟩:=hr.out;clear hr)
  go_returns
  exact ⟨rfl,gzT⟩
theorem Tryz.infoStr:(Tryz.prog.info? 9).map (fun i=>(i.zero,i.size,i.bytes)) = some (some (.string ⟨#[]⟩),1,16):=by kernel_rfl
theorem Tryz.infoN:(Tryz.prog.info? 241).map (fun i=>(i.zero,i.size,i.bytes)) = some (some (.agg #[.int .i64 0,.int .i64 0,.int .i64 0,.string ⟨#[]⟩,.string ⟨#[]⟩,.int .i64 0,.int .i64 0]),7,72):=by kernel_rfl
theorem z0s {w:World} {o:Obj} {b:Nat} (h:b = w.heap.size):(w.alloc o).heap[b]? = some o:=by rw [h];exact heap_alloc_new w o
theorem k1v (ns:List Nd) (i:Nat) (h:i < ns.length):z9j (ns.take (i + 1)) = z9j (ns.take i) ++ ndC ns[i]:=by
 rw [List.take_succ_eq_append_getElem h,j6u]
theorem z9w:∀ (ns:List Nd) (i:Nat) (h:i < ns.length) (j:Nat),j < 7 → (z9j ns)[i * 7 + j]? = (ndC ns[i])[j]?
 | [],i,h,_,_=>absurd h (Nat.not_lt_zero _)
 | t :: r,0,_,j,hj=>by
  unfold z9j
  rw [List.flatMap_cons,Nat.zero_mul,Nat.zero_add,List.getElem?_append_left (by simpa [ndC] using hj)]
  rfl
 | t :: r,i + 1,h,j,hj=>by
  have ih:=z9w r i (by simpa using h) j hj
  unfold z9j at *
  rw [List.flatMap_cons,List.getElem?_append_right (by simp [ndC];omega),show (i + 1) * 7 + j - (ndC t).length = i * 7 + j by simp [ndC];omega,ih]
  rfl
theorem j3u {w:World} {B cap:Nat} {e:TypeId} {na:Option Addr} {ns:List Nd} (h:w.ownsRow B e 7 (.slice na ns.length cap) ns.length (z9j ns)):q1i w na ns:=by
 intro h0
 rcases h.2 with ⟨_,hn⟩ | ⟨g,cap',cur,hv,hb,hg,_⟩
 ·omega
 ·cases hv
  have hc:=h.cells (g:=g) rfl
  have hadd:∀ j,(⟨g,0,none⟩:Addr).add j = ⟨g,j,none⟩:=fun j=>by unfold Addr.add;split <;> simp_all
  refine ⟨g,0,rfl,(Array.getElem?_eq_some_iff.1 hg).1,fun i hi=>?_⟩
  rw [Nat.zero_add]
  refine ⟨?_,?_,?_,?_,?_,?_,?_⟩
  ·rw [← hadd];exact hc _ _ ((z9w ns i hi 0 deT).trans rfl)
  ·rw [← hadd];exact hc _ _ ((z9w ns i hi 1 deT).trans rfl)
  ·rw [← hadd];exact hc _ _ ((z9w ns i hi 2 deT).trans rfl)
  ·rw [← hadd];exact hc _ _ ((z9w ns i hi 3 deT).trans rfl)
  ·rw [← hadd];exact hc _ _ ((z9w ns i hi 4 deT).trans rfl)
  ·rw [← hadd];exact hc _ _ ((z9w ns i hi 5 deT).trans rfl)
  ·rw [← hadd];exact hc _ _ ((z9w ns i hi 6 deT).trans rfl)
end Go.Proofs.YtacnlghljmgdiaaGreatDoor
