/- Several texts of this proof, joined: XE, XS, XT, XR. -/
import Derived.Test.YtfmaomoifkplbaaGreatDoorY5
import Derived.WalkKit
import Derived.ProofKit
import Derived.OpenShut
import Derived.Handy
import Derived.BigQuiet
import Derived.OwnWalk
import Derived.Deep.AppendLies
import Derived.Lib.Hide
import Derived.WalkSmall
import Derived.WalkLawsBesides
import Derived.Test.YtfmaomoifkplbaaGreatDoorY3
import Derived.Test.YtfmaomoifkplbaaGreatDoorZ4
namespace Go.Proofs.YtfmaomoifkplbaaGreatDoor
open Go.RowKit
theorem new_atx {w : World} {o : Obj} {b : Nat} (h : b = w.heap.size) : (w.alloc o).heap[b]? = some o := by rw [h];exact heap_alloc_new w o
theorem ints_keep {w w' : World} {ao : Option Addr} {ps : List Int} (h : Ints w ao ps) (hb : Below w.heap.size w w') : Ints w' ao ps := by
 intro i hi
 obtain ⟨g,o,e,hc,hg⟩ := h i hi
 exact ⟨g,o,e,(hb.cell (p := ⟨g,_,none⟩) hg).trans hc,Nat.lt_of_lt_of_le hg hb.size⟩
set_option maxRecDepth 100000 in
set_option maxHeartbeats 8000000 in
theorem xright_any (ao : Option Addr) (cap : Nat) (ns : List Nd) (hn : ns.length ≤ 2000000) (hs : ∀ n ∈ ns,n.s.length ≤ 140737488351232 ∧ n.name.length ≤ 140737488351232) (w : World) (h : NdsAt w ao ns) (hw : Lb w) :
  Calls Tryz.prog 138 #[.slice ao ns.length cap] w (Ret (.bool (rightT ns)) w) := by
 have S := Lib.hid (size_any ao cap ns hn w h)
 have H := fun wx hb => nds_below (w' := wx) h hb
 replace H := Lib.hid H
 obtain ⟨i0,hi0,hz1,hz2,hz3⟩ := info_parts Tryz.infoInt
 have hLb := Lib.hid (fun wx hb => lb_below (w' := wx) hw hb)
 clear hw h
 by_cases hsz : sizeT ns = 0
 ·have e : rightT ns = rightL 0 [] ns := by unfold rightT;rw [if_neg (by rw [hsz];decide)]
  rw [e]
  rw [hsz] at S
  clear e hsz
  have eR := Lib.hid (rfl : rightL 0 [] ns = rightL 0 [] ns)
  obtain ⟨R,hR⟩ : ∃ R,rightL 0 [] ns = R := ⟨_,rfl⟩
  rw [hR]
  have hR0 := Lib.hid (show R = rightL 0 [] (ns.drop 0) by rw [← hR];rfl)
  clear hR eR
  go_enter Tryz.func138,Tryz.ntmps138
  go_wp2_with ((with_reducible refine (S.out).mono ?_);intro e w1 hr;obtain ⟨rfl,p,rfl⟩ := hr.out;clear hr)
  go_loopw [3,12] (fun v x wr => ∃ (i : Nat) (op : List Nat) (oa : Option Addr) (oc : Nat),x = .int .i64 (i : Int) ∧ i ≤ ns.length ∧ op.length ≤ i ∧ v = .slice oa op.length oc ∧ wr.ownsRow w.heap.size 3 1 (.slice oa op.length oc) op.length (natsC op.reverse) ∧ R = rightL i op (ns.drop i) ∧ Below w.heap.size w wr) (fun _ x _ => ns.length - (intOf x).toNat)
  case atStart => exact ⟨0,[],none,0,rfl,Nat.zero_le _,Nat.le_refl _,rfl,World.ownsRow_nil _ _ _ _,hR0.out,by (first | exact gwT | exact lzT)⟩
  case round =>
   obtain ⟨i,op,oa,oc,rfl,hi,hoi,rfl,hown,hR,hb⟩ := hrel
   rename World => wr
   have hwz := hb.size
   clear S hR0
   by_cases hlt : i < ns.length
   ·obtain ⟨g,o,rfl,hg,hc⟩ := H.out wr hb (by omega)
    obtain ⟨n1,n2,n3,n4,n5,n6,n7⟩ := hc i hlt
    rw [List.drop_eq_getElem_cons hlt] at hR
    obtain ⟨hns,hnm⟩ := hs _ (List.getElem_mem hlt)
    generalize ns[i] = n at *
    have i1 : InW g wr := ⟨hg⟩
    have hI : (i : Int) < (ns.length : Int) := by omega
    have C := fun wx => Lib.hid (count_any n.op wx)
    have hc2 : cnt n.op ≤ 2 := by
     unfold cnt
     (repeat' split) <;> omega
    by_cases hcl : op.length < cnt n.op
    ·have hres := Lib.hid (hR.trans (rightL_len hcl))
     generalize cnt n.op = c at *
     have hcl2 : (op.length : Int) - (c : Int) < 0 := by omega
     have hcd : decide ((op.length : Int) - (c : Int) < 0) = true := decide_eq_true hcl2
     have hwr : wrap64 ((op.length : Int) - (c : Int)) = (op.length : Int) - (c : Int) := by unfold wrap64;omega
     replace C := Lib.hid C
     clear hR hown hc
     go_wp2_with ((with_reducible refine ((C.out _).out).mono ?_);rintro e w1 ⟨rfl,rfl⟩)
     (refine wp_region_G (by kernel_rfl) (by kernel_rfl) ?_;(repeat (go_big_quiet_step (fail)));refine wpQuiet_nil ?_;intro _ hw';obtain ⟨pg,hw''⟩ := hw';subst hw'')
     go_wp2
     go_returns
     exact ⟨by rw [hres.out];rfl,by (first | exact gwT | exact lzT)⟩
    ·obtain ⟨ps,hps⟩ : ∃ ps,ps = (op.take (cnt n.op)).reverse.map fun (p : Nat) => (p : Int) := ⟨_,rfl⟩
     have hpl : ps.length = cnt n.op := by rw [hps];simp;omega
     obtain ⟨f,hf⟩ : ∃ f,f + cnt n.op = op.length := ⟨op.length - cnt n.op,by omega⟩
     have N := fun ao cap wx hi (hk : Below w.heap.size w wx) => Lib.hid (nright_any n ao cap ps hpl hns hnm wx hi (hLb.out wx hk))
     rw [hpl] at N
     obtain ⟨b,hb2⟩ : ∃ b,nright n ps = b := ⟨_,rfl⟩
     rw [hb2] at N
     rw [hps] at hb2
     have hno := Lib.hid (fun (h : b = false) => hR.trans (rightL_no hcl (hb2.trans h)))
     have hgo := Lib.hid (fun (h : b = true) => hR.trans (rightL_go hcl (hb2.trans h)))
     have htake := owns_takeV hown (k := f) (by omega)
     rw [nats_drop op (cnt n.op) f hf] at htake
     have hdl : (op.drop (cnt n.op)).length = f := by rw [List.length_drop];omega
     have hdlK := Lib.hid hdl
     have hT := Lib.hid htake
     have hPL := fun h0 => parts_lieV hf hown h0
     rw [← hps] at hPL
     replace hPL := Lib.hid hPL
     have hcases : (oa = none ∧ op.length = 0 ∧ oc = 0) ∨ ∃ g,oa = some ⟨g,0,none⟩ ∧ op.length ≤ oc := by
      rcases hown.2 with ⟨hv,hn0⟩ | ⟨g',cap',cur,hv,_,_,hcp,_⟩
      ·simp only [Value.slice.injEq] at hv;exact .inl ⟨hv.1,hn0,hv.2.2⟩
      ·cases hv;exact .inr ⟨g',rfl,hcp⟩
     have hps0 : cnt n.op = 0 → ps = [] := fun h => List.eq_nil_of_length_eq_zero (by rw [hpl,h])
     unfold ndV at N
     clear hR hc hps hown htake hdl hb2 hcl
     have hold := Lib.hid (rfl : op.drop (cnt n.op) = op.drop (cnt n.op))
     obtain ⟨od,hod⟩ : ∃ od,od = op.drop (cnt n.op) := ⟨_,rfl⟩
     rw [← hod] at hdlK hT hgo
     clear hold hod
     generalize cnt n.op = c at *
     generalize op.length = L at *
     subst hf
     replace C := Lib.hid C
     replace N := Lib.hid N
     have hfl : ¬ ((f : Int) < 0) := by omega
     have hfd : decide ((f : Int) < 0) = false := decide_eq_false hfl
     have hfw : IntKind.i64.wrap (f : Int) = (f : Int) := by rw [IntKind.wrap_i64];omega
     by_cases hc0 : c = 0
     ·have hpn := hps0 hc0
      subst hpn
      subst hc0
      rcases hcases with ⟨rfl,hL0,rfl⟩ | ⟨gq,rfl,hoc⟩
      ·obtain rfl : f = 0 := by omega
       cases b
       ·have hres := Lib.hid (hno.out rfl)
        clear hgo hno
        go_wp2_with ((with_reducible refine ((C.out _).out).mono ?_);rintro e w1 ⟨rfl,rfl⟩)
        (refine wp_region_G (by kernel_rfl) (by kernel_rfl) ?_;(repeat (go_big_quiet_step (exact quietG ((N.out _ _ _ (fun i hi => absurd hi (Nat.not_lt_zero _)) (by (first | exact gwT | exact lzT))).out))));refine wpQuiet_nil ?_;intro _ hw';obtain ⟨pg,hw''⟩ := hw';subst hw'')
        go_wp2
        go_returns
        exact ⟨by rw [hres.out];rfl,by (first | exact gwT | exact lzT)⟩
       ·have hnext := Lib.hid (hgo.out rfl)
        clear hgo hno
        go_wp2_with ((with_reducible refine ((C.out _).out).mono ?_);rintro e w1 ⟨rfl,rfl⟩)
        (refine wp_region_G (by kernel_rfl) (by kernel_rfl) ?_;(repeat (go_big_quiet_step (exact quietG ((N.out _ _ _ (fun i hi => absurd hi (Nat.not_lt_zero _)) (by (first | exact gwT | exact lzT))).out))));refine wpQuiet_nil ?_;intro _ hw';obtain ⟨pg,hw''⟩ := hw';subst hw'')
        go_wp2_with (at_builtin;refine wpList_append_lies _ rfl _ _ 49 rfl w.heap.size 3 i0 _ 1 8 Tryz.underlying49 hi0 hz1 hz2 hz3 rfl (by decide) (.slice none 0 0) 0 (natsC od.reverse) rfl (owns_below hT.out (by (first | exact gwT | exact lzT))) ⟨_,0,none⟩ 1 1 [.int .i64 (i : Int)] rfl rfl (World.news_of_block (new_atx (by simp))) (by intro u hu;simp at hu;subst hu;rfl) (by decide) (by unfold maxLen;omega) (by omega) (Below.size (B := w.heap.size) (w := w) (by (first | exact gwT | exact lzT))) _ rfl ?_)
        intro g' cap' w1 hown1 hgrow hat1 hg1
        have hb1 : Below w.heap.size w w1 := Below.grown (by (first | exact gwT | exact lzT)) hgrow (Below.size (B := w.heap.size) (w := w) (by (first | exact gwT | exact lzT))) (fun k hk => (hT.out.lt k hk).1)
        have hown2 := Lib.hid hown1
        clear hown1 hgrow hat1 hg1 hb
        go_wp2
        have hll := Lib.hid (show (i :: od).length = 1 by rw [List.length_cons,hdlK.out])
        have hrv := Lib.hid (show natsC (i :: od).reverse = natsC od.reverse ++ [.int .i64 (i : Int)] by simp [natsC])
        go_roundw
        case rel => exact ⟨i + 1,i :: od,_,cap',by go_num,by omega,by rw [hll.out];omega,by rw [hll.out],by rw [hll.out,hrv.out];exact hown2.out,hnext.out,hb1⟩
        case measure => simp [intOf];omega
      ·by_cases hof : oc = f
       ·subst hof
        cases b
        ·have hres := Lib.hid (hno.out rfl)
         clear hgo hno
         go_wp2_with ((with_reducible refine ((C.out _).out).mono ?_);rintro e w1 ⟨rfl,rfl⟩)
         (refine wp_region_G (by kernel_rfl) (by kernel_rfl) ?_;(repeat (go_big_quiet_step (exact quietG ((N.out _ _ _ (fun i hi => absurd hi (Nat.not_lt_zero _)) (by (first | exact gwT | exact lzT))).out))));refine wpQuiet_nil ?_;intro _ hw';obtain ⟨pg,hw''⟩ := hw';subst hw'')
         go_wp2
         go_returns
         exact ⟨by rw [hres.out];rfl,by (first | exact gwT | exact lzT)⟩
        ·have hnext := Lib.hid (hgo.out rfl)
         clear hgo hno
         go_wp2_with ((with_reducible refine ((C.out _).out).mono ?_);rintro e w1 ⟨rfl,rfl⟩)
         (refine wp_region_G (by kernel_rfl) (by kernel_rfl) ?_;(repeat (go_big_quiet_step (exact quietG ((N.out _ _ _ (fun i hi => absurd hi (Nat.not_lt_zero _)) (by (first | exact gwT | exact lzT))).out))));refine wpQuiet_nil ?_;intro _ hw';obtain ⟨pg,hw''⟩ := hw';subst hw'')
         go_wp2_with (at_builtin;refine wpList_append_lies _ rfl _ _ 49 rfl w.heap.size 3 i0 _ 1 8 Tryz.underlying49 hi0 hz1 hz2 hz3 rfl (by decide) (.slice (some ⟨gq,0,none⟩) oc oc) oc (natsC od.reverse) rfl (owns_below hT.out (by (first | exact gwT | exact lzT))) ⟨_,0,none⟩ 1 1 [.int .i64 (i : Int)] rfl rfl (World.news_of_block (new_atx (by simp))) (by intro u hu;simp at hu;subst hu;rfl) (by decide) (by unfold maxLen;omega) (by omega) (Below.size (B := w.heap.size) (w := w) (by (first | exact gwT | exact lzT))) _ rfl ?_)
         intro g' cap' w1 hown1 hgrow hat1 hg1
         have hb1 : Below w.heap.size w w1 := Below.grown (by (first | exact gwT | exact lzT)) hgrow (Below.size (B := w.heap.size) (w := w) (by (first | exact gwT | exact lzT))) (fun k hk => (hT.out.lt k hk).1)
         have hown2 := Lib.hid hown1
         clear hown1 hgrow hat1 hg1 hb
         go_wp2
         have hll := Lib.hid (show (i :: od).length = oc + 1 by rw [List.length_cons,hdlK.out])
         have hrv := Lib.hid (show natsC (i :: od).reverse = natsC od.reverse ++ [.int .i64 (i : Int)] by simp [natsC])
         go_roundw
         case rel => exact ⟨i + 1,i :: od,_,cap',by go_num,by omega,by rw [hll.out];omega,by rw [hll.out],by rw [hll.out,hrv.out];exact hown2.out,hnext.out,hb1⟩
         case measure => simp [intOf];omega
       ·have hofI : (f : Int) ≤ (oc : Int) := by omega
        cases b
        ·have hres := Lib.hid (hno.out rfl)
         clear hgo hno
         go_wp2_with ((with_reducible refine ((C.out _).out).mono ?_);rintro e w1 ⟨rfl,rfl⟩)
         (refine wp_region_G (by kernel_rfl) (by kernel_rfl) ?_;(repeat (go_big_quiet_step (exact quietG ((N.out _ _ _ (fun i hi => absurd hi (Nat.not_lt_zero _)) (by (first | exact gwT | exact lzT))).out))));refine wpQuiet_nil ?_;intro _ hw';obtain ⟨pg,hw''⟩ := hw';subst hw'')
         go_wp2
         go_returns
         exact ⟨by rw [hres.out];rfl,by (first | exact gwT | exact lzT)⟩
        ·have hnext := Lib.hid (hgo.out rfl)
         clear hgo hno
         go_wp2_with ((with_reducible refine ((C.out _).out).mono ?_);rintro e w1 ⟨rfl,rfl⟩)
         (refine wp_region_G (by kernel_rfl) (by kernel_rfl) ?_;(repeat (go_big_quiet_step (exact quietG ((N.out _ _ _ (fun i hi => absurd hi (Nat.not_lt_zero _)) (by (first | exact gwT | exact lzT))).out))));refine wpQuiet_nil ?_;intro _ hw';obtain ⟨pg,hw''⟩ := hw';subst hw'')
         go_wp2_with (at_builtin;refine wpList_append_lies _ rfl _ _ 49 rfl w.heap.size 3 i0 _ 1 8 Tryz.underlying49 hi0 hz1 hz2 hz3 rfl (by decide) (.slice (some ⟨gq,0,none⟩) f oc) f (natsC od.reverse) rfl (owns_below hT.out (by (first | exact gwT | exact lzT))) ⟨_,0,none⟩ 1 1 [.int .i64 (i : Int)] rfl rfl (World.news_of_block (new_atx (by simp))) (by intro u hu;simp at hu;subst hu;rfl) (by decide) (by unfold maxLen;omega) (by omega) (Below.size (B := w.heap.size) (w := w) (by (first | exact gwT | exact lzT))) _ rfl ?_)
         intro g' cap' w1 hown1 hgrow hat1 hg1
         have hb1 : Below w.heap.size w w1 := Below.grown (by (first | exact gwT | exact lzT)) hgrow (Below.size (B := w.heap.size) (w := w) (by (first | exact gwT | exact lzT))) (fun k hk => (hT.out.lt k hk).1)
         have hown2 := Lib.hid hown1
         clear hown1 hgrow hat1 hg1 hb
         go_wp2
         have hll := Lib.hid (show (i :: od).length = f + 1 by rw [List.length_cons,hdlK.out])
         have hrv := Lib.hid (show natsC (i :: od).reverse = natsC od.reverse ++ [.int .i64 (i : Int)] by simp [natsC])
         go_roundw
         case rel => exact ⟨i + 1,i :: od,_,cap',by go_num,by omega,by rw [hll.out];omega,by rw [hll.out],by rw [hll.out,hrv.out];exact hown2.out,hnext.out,hb1⟩
         case measure => simp [intOf];omega
     ·obtain ⟨gq,hoa,hoc,hints⟩ := hPL.out (by omega)
      subst hoa
      have hof : ¬ oc = f := by omega
      have hofI : (f : Int) ≤ (oc : Int) := by omega
      have hintsK := fun wx (hk : Below wr.heap.size wr wx) => ints_keep hints hk
      replace hintsK := Lib.hid hintsK
      clear hints hPL hcases
      cases b
      ·have hres := Lib.hid (hno.out rfl)
       clear hgo hno
       go_wp2_with ((with_reducible refine ((C.out _).out).mono ?_);rintro e w1 ⟨rfl,rfl⟩)
       (refine wp_region_G (by kernel_rfl) (by kernel_rfl) ?_;(repeat (go_big_quiet_step (exact quietG ((N.out _ _ _ (hintsK.out _ (by (first | exact gwT | exact lzT))) (by (first | exact gwT | exact lzT))).out))));refine wpQuiet_nil ?_;intro _ hw';obtain ⟨pg,hw''⟩ := hw';subst hw'')
       go_wp2
       go_returns
       exact ⟨by rw [hres.out];rfl,by (first | exact gwT | exact lzT)⟩
      ·have hnext := Lib.hid (hgo.out rfl)
       clear hgo hno
       go_wp2_with ((with_reducible refine ((C.out _).out).mono ?_);rintro e w1 ⟨rfl,rfl⟩)
       (refine wp_region_G (by kernel_rfl) (by kernel_rfl) ?_;(repeat (go_big_quiet_step (exact quietG ((N.out _ _ _ (hintsK.out _ (by (first | exact gwT | exact lzT))) (by (first | exact gwT | exact lzT))).out))));refine wpQuiet_nil ?_;intro _ hw';obtain ⟨pg,hw''⟩ := hw';subst hw'')
       go_wp2_with (at_builtin;refine wpList_append_lies _ rfl _ _ 49 rfl w.heap.size 3 i0 _ 1 8 Tryz.underlying49 hi0 hz1 hz2 hz3 rfl (by decide) (.slice (some ⟨gq,0,none⟩) f oc) f (natsC od.reverse) rfl (owns_below hT.out (by (first | exact gwT | exact lzT))) ⟨_,0,none⟩ 1 1 [.int .i64 (i : Int)] rfl rfl (World.news_of_block (new_atx (by simp))) (by intro u hu;simp at hu;subst hu;rfl) (by decide) (by unfold maxLen;omega) (by omega) (Below.size (B := w.heap.size) (w := w) (by (first | exact gwT | exact lzT))) _ rfl ?_)
       intro g' cap' w1 hown1 hgrow hat1 hg1
       have hb1 : Below w.heap.size w w1 := Below.grown (by (first | exact gwT | exact lzT)) hgrow (Below.size (B := w.heap.size) (w := w) (by (first | exact gwT | exact lzT))) (fun k hk => (hT.out.lt k hk).1)
       have hown2 := Lib.hid hown1
       clear hown1 hgrow hat1 hg1 hb
       go_wp2
       have hll := Lib.hid (show (i :: od).length = f + 1 by rw [List.length_cons,hdlK.out])
       have hrv := Lib.hid (show natsC (i :: od).reverse = natsC od.reverse ++ [.int .i64 (i : Int)] by simp [natsC])
       go_roundw
       case rel => exact ⟨i + 1,i :: od,_,cap',by go_num,by omega,by rw [hll.out];omega,by rw [hll.out],by rw [hll.out,hrv.out];exact hown2.out,hnext.out,hb1⟩
       case measure => simp [intOf];omega
   ·obtain rfl : i = ns.length := by omega
    rw [List.drop_length,rightL] at hR
    have hres := Lib.hid hR
    clear hR hown
    have hI : ¬ ((ns.length : Int) < (ns.length : Int)) := by omega
    have hlen : (op.length == 1) = ((op.length : Int) == 1) := by rw [Bool.eq_iff_iff,beq_iff_eq,beq_iff_eq];omega
    rw [hlen] at hres
    replace hlen := Lib.hid hlen
    go_wp2
    go_returns
    exact ⟨by rw [hres.out];rfl,hb⟩
 ·have e : rightT ns = false := by unfold rightT;rw [if_pos hsz]
  rw [e]
  have h0 : (sizeT ns != 0) = true := by rw [bne_iff_ne];exact hsz
  generalize sizeT ns = z at *
  clear e hsz
  go_enter Tryz.func138,Tryz.ntmps138
  go_wp2_with ((with_reducible refine (S.out).mono ?_);intro e w1 hr;obtain ⟨rfl,p,rfl⟩ := hr.out;clear hr)
  go_returns
  exact ⟨rfl,by (first | exact gwT | exact lzT)⟩
end Go.Proofs.YtfmaomoifkplbaaGreatDoor
namespace Go.Proofs.YtfmaomoifkplbaaGreatDoor
open Go.RowKit
def nd0 : Nd := ⟨0,0,0,[],[],0,0⟩
def partB (ns : List Nd) (ts : List ByteArray) (a : Nat) (least : Int) : ByteArray := if tightI (ns.getD a nd0).op < least then ((⟨#[40]⟩ : ByteArray) ++ ts.getD a ⟨#[]⟩) ++ ⟨#[41]⟩ else ts.getD a ⟨#[]⟩
def showB (ns : List Nd) (ts : List ByteArray) (n : Nd) : ByteArray :=
 if n.op = 0 then showS n.k n.n ⟨n.s.toArray⟩ else if n.op = 16 then ⟨n.name.toArray⟩ else if n.op = 17 then ((⟨#[105,110,40]⟩ : ByteArray) ++ ⟨n.name.toArray⟩) ++ ⟨#[41]⟩
 else if n.op = 1 then (⟨#[110,111,116,32]⟩ : ByteArray) ++ partB ns ts n.l.toNat 6 else if n.op = 2 then (⟨#[45]⟩ : ByteArray) ++ partB ns ts n.l.toNat 6
 else (((partB ns ts n.l.toNat (leftI n.op) ++ ⟨#[32]⟩) ++ ⟨(signL.getD n.op.toNat []).toArray⟩) ++ ⟨#[32]⟩) ++ partB ns ts n.r.toNat (tightI n.op + 1)
def TxtAt (w : World) (tg : Nat) (ts : List ByteArray) : Prop := ∀ j (h : j < ts.length),w.cell? ⟨tg,j,none⟩ = some (.string ts[j])
theorem part_size {ns : List Nd} {ts : List ByteArray} {a : Nat} {least : Int} (ha : a < ts.length) (h : ∀ t ∈ ts,t.size ≤ 2000000) : (partB ns ts a least).size ≤ 2000002 := by
 have e : ts.getD a ⟨#[]⟩ = ts[a] := by rw [List.getD_eq_getElem?_getD,List.getElem?_eq_getElem ha,Option.getD_some]
 have := h _ (List.getElem_mem ha)
 unfold partB
 rw [e]
 split
 ·rw [ByteArray.size_append,ByteArray.size_append]
  show 1 + ts[a].size + 1 ≤ _
  omega
 ·omega
set_option maxRecDepth 100000 in
theorem part_any (ao : Option Addr) (cap : Nat) (ns : List Nd) (w : World) (hns : NdsAt w ao ns) (tg m tc : Nat) (ts : List ByteArray) (htg : TxtAt w tg ts) (htl : tg < w.heap.size) (b3 b5 : Nat) (h3 : b3 < w.heap.size) (h5 : b5 < w.heap.size)
  (c3 : w.cell? ⟨b3,0,none⟩ = some (.slice ao ns.length cap)) (c5 : w.cell? ⟨b5,0,none⟩ = some (.slice (some ⟨tg,0,none⟩) m tc)) (a : Nat) (ha : a < ts.length) (hal : a < ns.length) (ham : a < m) (hsz : ∀ t ∈ ts,t.size ≤ 2000000) (least : Int) :
  Calls Tryz.prog 183 #[.int .i64 (a : Int),.int .i64 least,.pointer (some ⟨b3,0,none⟩),.pointer (some ⟨b5,0,none⟩)] w (RetW (.string (partB ns ts a least)) w) := by
 obtain ⟨g,o,rfl,hg,hc⟩ := hns (by omega)
 obtain ⟨n1,_⟩ := hc a hal
 have t1 := htg a ha
 have hts := hsz _ (List.getElem_mem ha)
 have e1 : ts.getD a ⟨#[]⟩ = ts[a] := by rw [List.getD_eq_getElem?_getD,List.getElem?_eq_getElem ha,Option.getD_some]
 have e2 : (ns.getD a nd0).op = ns[a].op := by rw [List.getD_eq_getElem?_getD,List.getElem?_eq_getElem hal,Option.getD_some]
 unfold partB
 rw [e1,e2]
 generalize ts[a] = t at *
 generalize ns[a].op = op at *
 have T := fun wx => Lib.hid (tight_any op wx)
 generalize tightI op = tt at *
 replace T := Lib.hid T
 have i1 : InW b3 w := ⟨h3⟩
 have i2 : InW b5 w := ⟨h5⟩
 have i3 : InW g w := ⟨hg⟩
 have i4 : InW tg w := ⟨htl⟩
 have hI1 : (a : Int) < (ns.length : Int) := by omega
 have hI2 : (a : Int) < (m : Int) := by omega
 clear hc htg hsz e1 e2 hns
 by_cases hlt : tt < least
 ·rw [if_pos hlt]
  go_enter Tryz.func183,Tryz.ntmps183
  go_wp2_with ((with_reducible refine ((T.out _).out).mono ?_);rintro e w1 ⟨rfl,rfl⟩)
  go_returns
  exact ⟨rfl,rfl⟩
 ·rw [if_neg hlt]
  go_enter Tryz.func183,Tryz.ntmps183
  go_wp2_with ((with_reducible refine ((T.out _).out).mono ?_);rintro e w1 ⟨rfl,rfl⟩)
  go_returns
  exact ⟨rfl,rfl⟩
structure ShowOk (ns : List Nd) (ts : List ByteArray) (n : Nd) : Prop where
 range : n.op = 0 ∨ (1 ≤ n.op ∧ n.op ≤ 15) ∨ n.op = 16 ∨ n.op = 17
 lit : n.op = 0 → rightB n.k n.n ⟨n.s.toArray⟩ = true ∧ I64 n.n
 l : 1 ≤ n.op → n.op ≤ 15 → ∃ a : Nat,n.l = a ∧ a < ts.length
 r : 3 ≤ n.op → n.op ≤ 15 → ∃ a : Nat,n.r = a ∧ a < ts.length
 name : n.name.length ≤ 2000000
theorem sign_size (i : Nat) : (⟨(signL.getD i []).toArray⟩ : ByteArray).size ≤ 3 := by
 rw [Lib.size_eq]
 have h : i < 16 ∨ 16 ≤ i := by omega
 rcases h with h | h
 ·have h : ∀ k,k < 16 → k = 0 ∨ k = 1 ∨ k = 2 ∨ k = 3 ∨ k = 4 ∨ k = 5 ∨ k = 6 ∨ k = 7 ∨ k = 8 ∨ k = 9 ∨ k = 10 ∨ k = 11 ∨ k = 12 ∨ k = 13 ∨ k = 14 ∨ k = 15 := by omega
  rcases h i ‹_› with rfl | rfl | rfl | rfl | rfl | rfl | rfl | rfl | rfl | rfl | rfl | rfl | rfl | rfl | rfl | rfl <;> decide
 ·have : signL.getD i [] = [] := by rw [List.getD_eq_getElem?_getD,List.getElem?_eq_none (by simpa [signL] using h)];rfl
  rw [this]
  decide
set_option maxRecDepth 100000 in
set_option maxHeartbeats 2000000 in
theorem eshow_any (ao : Option Addr) (cap : Nat) (ns : List Nd) (n : Nd) (w : World) (hns : NdsAt w ao ns) (tg m tc : Nat) (ts : List ByteArray) (htg : TxtAt w tg ts) (htl : tg < w.heap.size) (hl1 : ts.length ≤ ns.length) (hl2 : ts.length ≤ m)
  (hsz : ∀ t ∈ ts,t.size ≤ 2000000) (ok : ShowOk ns ts n) (hT : Tab w) (hE : Eg w) :
  Calls Tryz.prog 139 #[.slice ao ns.length cap,ndV n,.slice (some ⟨tg,0,none⟩) m tc] w (Ret (.string (showB ns ts n)) w) := by
 have PP := fun wx (hk : Below w.heap.size w wx) b3 b5 (h3 : b3 < wx.heap.size) (h5 : b5 < wx.heap.size) c3 c5 a (ha : a < ts.length) least => Lib.hid (part_any ao cap ns wx (nds_below hns hk) tg m tc ts (fun j hj => (hk.cell (p := ⟨tg,j,none⟩) htl).trans (htg j hj)) (Nat.lt_of_lt_of_le htl hk.size) b3 b5 h3 h5 c3 c5 a ha (by omega) (by omega) hsz least)
 have hps := fun a (ha : a < ts.length) least => part_size (ns := ns) (least := least) ha hsz
 have hgl := eg_lt hE
 have SG := Lib.hid (fun i (hi : i < 16) => eg_cell hE i hi)
 have hmf : ∀ (fn : Fn) (first cap : Array Value) (w : World),(Instr.makeFunc fn first cap).run Tryz.prog w = .ok (.func fn first cap) w := fun _ _ _ _ => rfl
 replace PP := Lib.hid PP
 replace hps := Lib.hid hps
 have hnn := ok.name
 unfold ndV
 rcases ok.range with h0 | ⟨h1,h15⟩ | h16 | h17
 ·obtain ⟨hr,hi⟩ := ok.lit h0
  have V := fun wx (hk : Below w.heap.size w wx) => Lib.hid (show_any n.k n.n ⟨n.s.toArray⟩ hr hi wx (tab_below hT hk))
  have e : showB ns ts n = showS n.k n.n ⟨n.s.toArray⟩ := by unfold showB;rw [if_pos h0]
  rw [e,h0]
  generalize showS n.k n.n ⟨n.s.toArray⟩ = z at *
  replace V := Lib.hid V
  clear e hns htg hsz ok hT hE hps PP hr hi h0
  go_enter Tryz.func139,Tryz.ntmps139
  go_wp2_with ((with_reducible refine ((V.out _ (by (first | exact gwT | exact lzT))).out).mono ?_);intro e w1 hr;obtain ⟨rfl,p,rfl⟩ := hr.out;clear hr)
  go_returns
  exact ⟨rfl,by (first | exact gwT | exact lzT)⟩
 ·obtain ⟨la,hla,hlt⟩ := ok.l h1 h15
  obtain ⟨k,hk⟩ : ∃ k : Nat,n.op = (k : Int) := ⟨n.op.toNat,by omega⟩
  have hk15 : k ≤ 15 := by omega
  have hk1 : 1 ≤ k := by omega
  by_cases hk3 : 3 ≤ k
  ·obtain ⟨ra,hra,hrt⟩ := ok.r (by omega) h15
   have e : showB ns ts n = (((partB ns ts la (leftI (k : Int)) ++ ⟨#[32]⟩) ++ ⟨(signL.getD k []).toArray⟩) ++ ⟨#[32]⟩) ++ partB ns ts ra (tightI (k : Int) + 1) := by
    unfold showB
    rw [if_neg (by omega),if_neg (by omega),if_neg (by omega),if_neg (by omega),if_neg (by omega),hla,hra,hk]
    rfl
   rw [e,hk,hla,hra]
   have sg := SG.out k (by omega)
   have sz := sign_size k
   generalize (⟨(signL.getD k []).toArray⟩ : ByteArray) = x at *
   have Lf := fun wx => Lib.hid (left_any (k : Int) wx)
   have Tg := fun wx => Lib.hid (tight_any (k : Int) wx)
   have hti : tightI (k : Int) ≤ 6 ∧ 0 ≤ tightI (k : Int) := by
    unfold tightI
    (repeat' split) <;> omega
   obtain ⟨lf,hlf⟩ : ∃ x,leftI (k : Int) = x := ⟨_,rfl⟩
   obtain ⟨tt,htt⟩ : ∃ x,tightI (k : Int) = x := ⟨_,rfl⟩
   rw [hlf] at Lf ⊢
   rw [htt] at Tg hti ⊢
   replace Lf := Lib.hid Lf
   replace Tg := Lib.hid Tg
   have P1 := fun wx hb b3 b5 h3 h5 c3 c5 => PP.out wx hb b3 b5 h3 h5 c3 c5 la hlt lf
   have P2 := fun wx hb b3 b5 h3 h5 c3 c5 => PP.out wx hb b3 b5 h3 h5 c3 c5 ra hrt (tt + 1)
   have s1 := hps.out la hlt lf
   have s2 := hps.out ra hrt (tt + 1)
   generalize partB ns ts la lf = y1 at *
   generalize partB ns ts ra (tt + 1) = y2 at *
   replace P1 := Lib.hid P1
   replace P2 := Lib.hid P2
   have b0 : ((k : Int) == 0) = false := by rw [beq_eq_false_iff_ne];omega
   have b1 : ((k : Int) == 1) = false := by rw [beq_eq_false_iff_ne];omega
   have b2 : ((k : Int) == 2) = false := by rw [beq_eq_false_iff_ne];omega
   have b16 : ((k : Int) == 16) = false := by rw [beq_eq_false_iff_ne];omega
   have b17 : ((k : Int) == 17) = false := by rw [beq_eq_false_iff_ne];omega
   have hk16 : (k : Int) < 16 := by omega
   have i9 : InW 4 w := ⟨hgl⟩
   have Q1 := Lib.hid (fun p => P1.out (G p (((w.alloc (.cells #[.slice ao ns.length cap] 67)).alloc (.cells #[.int .i64 (k : Int),.int .i64 n.k,.int .i64 n.n,.string ⟨n.s.toArray⟩,.string ⟨n.name.toArray⟩,.int .i64 (la : Int),.int .i64 (ra : Int)] 201)).alloc (.cells #[.slice (some ⟨tg,0,none⟩) m tc] 68))) (by (first | exact gwT | exact lzT)) w.heap.size (w.heap.size + 1 + 1) (by simp [go_sem]) (by simp [go_sem]) (by simp [go_sem]) (by simp [go_sem]))
   have Q2 := Lib.hid (fun p => P2.out (G p (((w.alloc (.cells #[.slice ao ns.length cap] 67)).alloc (.cells #[.int .i64 (k : Int),.int .i64 n.k,.int .i64 n.n,.string ⟨n.s.toArray⟩,.string ⟨n.name.toArray⟩,.int .i64 (la : Int),.int .i64 (ra : Int)] 201)).alloc (.cells #[.slice (some ⟨tg,0,none⟩) m tc] 68))) (by (first | exact gwT | exact lzT)) w.heap.size (w.heap.size + 1 + 1) (by simp [go_sem]) (by simp [go_sem]) (by simp [go_sem]) (by simp [go_sem]))
   clear e hns htg hsz ok hT hE hps PP SG hlf htt hk P1 P2
   go_enter Tryz.func139,Tryz.ntmps139
   go_wp2_with fail
   (refine wp_region_G (by kernel_rfl) (by kernel_rfl) ?_;(repeat (go_big_quiet_step (first | (with_reducible exact quietGW ((Lf.out _).out)) | (with_reducible exact quietGW ((Tg.out _).out)) | (with_reducible exact quietGW ((Q1.out _).out)) | (with_reducible exact quietGW ((Q2.out _).out)))));refine wpQuiet_nil ?_;intro _ hw';obtain ⟨pg,hw''⟩ := hw';subst hw'')
   go_wp2
   go_returns
   exact ⟨rfl,by (first | exact gwT | exact lzT)⟩
  ·have s1 := hps.out la hlt 6
   have P1 := fun wx hb b3 b5 h3 h5 c3 c5 => PP.out wx hb b3 b5 h3 h5 c3 c5 la hlt 6
   rcases (by omega : k = 1 ∨ k = 2) with rfl | rfl
   ·have e : showB ns ts n = (⟨#[110,111,116,32]⟩ : ByteArray) ++ partB ns ts la 6 := by
     unfold showB
     rw [if_neg (by omega),if_neg (by omega),if_neg (by omega),if_pos (by omega),hla]
     rfl
    have hk' : n.op = 1 := hk
    rw [e,hk',hla]
    generalize partB ns ts la 6 = y1 at *
    replace P1 := Lib.hid P1
    have Q1 := Lib.hid (P1.out (((w.alloc (.cells #[.slice ao ns.length cap] 67)).alloc (.cells #[.int .i64 1,.int .i64 n.k,.int .i64 n.n,.string ⟨n.s.toArray⟩,.string ⟨n.name.toArray⟩,.int .i64 (la : Int),.int .i64 n.r] 201)).alloc (.cells #[.slice (some ⟨tg,0,none⟩) m tc] 68)) (by (first | exact gwT | exact lzT)) w.heap.size (w.heap.size + 1 + 1) (by simp [go_sem]) (by simp [go_sem]) (by simp [go_sem]) (by simp [go_sem]))
    clear e hns htg hsz ok hT hE hps PP SG hk hk' P1
    go_enter Tryz.func139,Tryz.ntmps139
    go_wp2_with ((with_reducible refine (Q1.out.out).mono ?_);rintro e w1 ⟨rfl,rfl⟩)
    go_returns
    exact ⟨rfl,by (first | exact gwT | exact lzT)⟩
   ·have e : showB ns ts n = (⟨#[45]⟩ : ByteArray) ++ partB ns ts la 6 := by
     unfold showB
     rw [if_neg (by omega),if_neg (by omega),if_neg (by omega),if_neg (by omega),if_pos (by omega),hla]
     rfl
    have hk' : n.op = 2 := hk
    rw [e,hk',hla]
    generalize partB ns ts la 6 = y1 at *
    replace P1 := Lib.hid P1
    have Q1 := Lib.hid (P1.out (((w.alloc (.cells #[.slice ao ns.length cap] 67)).alloc (.cells #[.int .i64 2,.int .i64 n.k,.int .i64 n.n,.string ⟨n.s.toArray⟩,.string ⟨n.name.toArray⟩,.int .i64 (la : Int),.int .i64 n.r] 201)).alloc (.cells #[.slice (some ⟨tg,0,none⟩) m tc] 68)) (by (first | exact gwT | exact lzT)) w.heap.size (w.heap.size + 1 + 1) (by simp [go_sem]) (by simp [go_sem]) (by simp [go_sem]) (by simp [go_sem]))
    clear e hns htg hsz ok hT hE hps PP SG hk hk' P1
    go_enter Tryz.func139,Tryz.ntmps139
    go_wp2_with ((with_reducible refine (Q1.out.out).mono ?_);rintro e w1 ⟨rfl,rfl⟩)
    go_returns
    exact ⟨rfl,by (first | exact gwT | exact lzT)⟩
 ·have e : showB ns ts n = ⟨n.name.toArray⟩ := by unfold showB;rw [if_neg (by omega),if_pos h16]
  rw [e,h16]
  clear e hns htg hsz ok hT hE hps PP h16
  go_enter Tryz.func139,Tryz.ntmps139
  go_wp2
  go_returns
  exact ⟨rfl,by (first | exact gwT | exact lzT)⟩
 ·have e : showB ns ts n = ((⟨#[105,110,40]⟩ : ByteArray) ++ ⟨n.name.toArray⟩) ++ ⟨#[41]⟩ := by unfold showB;rw [if_neg (by omega),if_neg (by omega),if_pos h17]
  rw [e,h17]
  have hz : (⟨n.name.toArray⟩ : ByteArray).size ≤ 2000000 := by rw [Lib.size_eq];simpa using hnn
  generalize (⟨n.name.toArray⟩ : ByteArray) = z at *
  clear e hns htg hsz ok hT hE hps PP h17
  go_enter Tryz.func139,Tryz.ntmps139
  go_wp2
  go_returns
  exact ⟨rfl,by (first | exact gwT | exact lzT)⟩
end Go.Proofs.YtfmaomoifkplbaaGreatDoor
namespace Go.Proofs.YtfmaomoifkplbaaGreatDoor
open Go.RowKit
theorem Tryz.infoStr : (Tryz.prog.info? 9).map (fun i => (i.zero,i.size,i.bytes)) = some (some (.string ⟨#[]⟩),1,16) := by kernel_rfl
def showsB (ns : List Nd) : Nat → List ByteArray
 | 0 => []
 | i + 1 => showsB ns i ++ [showB ns (showsB ns i) (ns.getD i nd0)]
theorem showsB_length (ns : List Nd) : ∀ i,(showsB ns i).length = i
 | 0 => rfl
 | i + 1 => by rw [showsB,List.length_append,showsB_length ns i];rfl
theorem showsB_mem (ns : List Nd) {t : ByteArray} {i : Nat} (h : t ∈ showsB ns i) : ∀ n,i ≤ n → t ∈ showsB ns n := by
 intro n hn
 induction n with
 | zero =>
  obtain rfl : i = 0 := by omega
  exact h
 | succ n ih =>
  by_cases he : i = n + 1
  ·subst he;exact h
  ·rw [showsB]
   exact List.mem_append_left _ (ih (by omega))
def TxtBlk (w : World) (tg n : Nat) (ts : List ByteArray) : Prop := ∃ cs : Array Value,w.heap[tg]? = some (.cells cs 9 (0,0)) ∧ cs.size = n ∧ (∀ j (h : j < ts.length),cs[j]? = some (.string ts[j])) ∧ ∀ j,j < n → ∃ z : ByteArray,cs[j]? = some (.string z)
theorem txt_of {w : World} {tg n : Nat} {ts : List ByteArray} (h : TxtBlk w tg n ts) : TxtAt w tg ts := by
 obtain ⟨cs,h1,_,h2,_⟩ := h
 intro j hj
 rw [cell_of_row w tg _ _ _ _ h1]
 exact h2 j hj
theorem txt_set {w : World} {tg n : Nat} {ts : List ByteArray} (h : TxtBlk w tg n ts) (hn : ts.length < n) (t : ByteArray) : TxtBlk (w.setCell ⟨tg,ts.length,none⟩ (.string t)) tg n (ts ++ [t]) := by
 obtain ⟨cs,h1,h2,h3,h4⟩ := h
 refine ⟨_,blk_set h1,by rw [Array.size_setIfInBounds];exact h2,fun j hj => ?_,fun j hj => ?_⟩
 ·rw [List.length_append,List.length_singleton] at hj
  by_cases he : ts.length = j
  ·subst he
   rw [Array.getElem?_setIfInBounds_self_of_lt (by omega)]
   simp
  ·rw [Array.getElem?_setIfInBounds_ne he,List.getElem_append_left (by omega)]
   exact h3 j (by omega)
 ·by_cases he : ts.length = j
  ·subst he
   exact ⟨t,Array.getElem?_setIfInBounds_self_of_lt (by omega)⟩
  ·rw [Array.getElem?_setIfInBounds_ne he]
   exact h4 j hj
theorem txt_keep {w w' : World} {tg n : Nat} {ts : List ByteArray} (h : TxtBlk w tg n ts) (hb : Below w.heap.size w w') : TxtBlk w' tg n ts := by
 obtain ⟨cs,h1,h2⟩ := h
 exact ⟨cs,(hb.block tg (lt_of_block h1)).trans h1,h2⟩
theorem txt_cell {w : World} {tg n : Nat} {ts : List ByteArray} (h : TxtBlk w tg n ts) (i : Nat) (hi : i < n) : ∃ z : ByteArray,w.cell? ⟨tg,i,none⟩ = some (.string z) ∧ w.frozen? ⟨tg,i,none⟩ = false ∧ tg < w.heap.size := by
 obtain ⟨cs,h1,_,_,h4⟩ := h
 obtain ⟨z,hz⟩ := h4 i hi
 exact ⟨z,by rw [cell_of_row w tg _ _ _ _ h1];exact hz,frozen_of_row w tg i _ _ h1,lt_of_block h1⟩
theorem txt_made {w : World} {B tg n : Nat} (h : w.ownsRow B 9 1 (.slice (some ⟨tg,0,none⟩) n n) n (madeCells #[Value.string ⟨#[]⟩] n).toList) : TxtBlk w tg n [] := by
 rcases h.2 with ⟨h0,_⟩ | ⟨g,cap,cur,hv,_,hg,_,_,hs,ht⟩
 ·cases h0
 ·cases hv
  refine ⟨cur,hg,by omega,fun j hj => absurd hj (Nat.not_lt_zero _),fun j hj => ?_⟩
  have h1 : cur.toList = (madeCells #[Value.string ⟨#[]⟩] n).toList := by rw [← ht,List.take_of_length_le (by simp;omega)]
  have h2 : cur = madeCells #[Value.string ⟨#[]⟩] n := Array.ext' h1
  rw [h2]
  refine ⟨⟨#[]⟩,?_⟩
  unfold madeCells
  rw [Array.getElem?_map,Array.getElem?_range,if_pos (by omega)]
  show some ((#[Value.string ⟨#[]⟩] : Array Value)[j % 1]!) = _
  rw [Nat.mod_one]
  rfl
set_option maxRecDepth 100000 in
set_option maxHeartbeats 2000000 in
theorem xshow_any (ao : Option Addr) (cap : Nat) (ns : List Nd) (hn : ns.length ≤ 2000000) (hn0 : 0 < ns.length) (hs : ∀ n ∈ ns,n.s.length ≤ 140737488351232 ∧ n.name.length ≤ 140737488351232) (w : World) (h : NdsAt w ao ns) (hw : Lb w) (hT : Tab w) (hE : Eg w) (hR : rightT ns = true)
  (ok : ∀ i,i < ns.length → ShowOk ns (showsB ns i) (ns.getD i nd0)) (hsz : ∀ t ∈ showsB ns ns.length,t.size ≤ 2000000) :
  Calls Tryz.prog 91 #[.slice ao ns.length cap] w (Ret (.string ((showsB ns ns.length).getD (ns.length - 1) ⟨#[]⟩)) w) := by
 have R := Lib.hid (xright_any ao cap ns hn hs w h hw)
 rw [hR] at R
 have H := fun wx hb => nds_below (w' := wx) h hb
 replace H := Lib.hid H
 obtain ⟨i0,hi0,hz1,hz2,hz3⟩ := info_parts Tryz.infoStr
 have hTK := Lib.hid (fun wx hb => tab_below (w' := wx) hT hb)
 have hEK := Lib.hid (fun wx hb => eg_keep (w' := wx) hE (eg_lt hE) hb)
 have hokK := Lib.hid ok
 have hszK := Lib.hid hsz
 clear hw h hT hE ok hsz hR hs
 have hnI : (0 : Int) ≤ (ns.length : Int) := by omega
 obtain ⟨res,hres⟩ : ∃ x,(showsB ns ns.length).getD (ns.length - 1) ⟨#[]⟩ = x := ⟨_,rfl⟩
 rw [hres]
 replace hres := Lib.hid hres
 go_enter Tryz.func91,Tryz.ntmps91
 go_wp2_with (first | ((with_reducible refine (R.out).mono ?_);intro e w1 hr;obtain ⟨rfl,p,rfl⟩ := hr.out;clear hr) | (at_make;refine wpList_make_full _ rfl _ _ 68 rfl w.heap.size 9 i0 _ 1 Tryz.underlying68 hi0 hz1 hz2 _ _ (ns.length : Int) (ns.length : Int) ns.length rfl rfl rfl rfl (by rw [hz3];omega) (by unfold maxLen;omega) (Below.size (B := w.heap.size) (w := w) (by (first | exact gwT | exact lzT))) ?_))
 intro w1 hown hgrow
 have hbw1 : Below w.heap.size w w1 := Below.grown (by (first | exact gwT | exact lzT)) hgrow (Below.size (B := w.heap.size) (w := w) (by (first | exact gwT | exact lzT))) (fun k hk => (by cases hk))
 have hX1 := Lib.hid (txt_made hown)
 have htgw : w.heap.size ≤ (G p w).heap.size := (belowG0 p w).size
 clear R hown hgrow
 generalize (G p w).heap.size = tg at *
 go_wp2
 go_loopw [14] (fun x wr => ∃ i : Nat,x = .int .i64 (i : Int) ∧ i ≤ ns.length ∧ TxtBlk wr tg ns.length (showsB ns i) ∧ Below w.heap.size w wr) (fun x _ => ns.length - (intOf x).toNat)
 case atStart => exact ⟨0,rfl,Nat.zero_le _,hX1.out,by (first | exact gwT | exact lzT)⟩
 case round =>
  obtain ⟨i,rfl,hi,hX,hb⟩ := hrel
  rename World => wr
  have hwz := hb.size
  clear hX1 hbw1
  by_cases hlt : i < ns.length
  ·have hNd := H.out wr hb
   obtain ⟨g,o,rfl,hg,hc⟩ := hNd (by omega)
   obtain ⟨n1,n2,n3,n4,n5,n6,n7⟩ := hc i hlt
   have hok := hokK.out i hlt
   have hget : ns.getD i nd0 = ns[i] := by rw [List.getD_eq_getElem?_getD,List.getElem?_eq_getElem hlt,Option.getD_some]
   have hnext := Lib.hid (show showsB ns (i + 1) = showsB ns i ++ [showB ns (showsB ns i) ns[i]] by rw [showsB,hget])
   rw [hget] at hok
   have hll := showsB_length ns i
   have E := fun wx hk => Lib.hid (eshow_any (some ⟨g,o,none⟩) cap ns ns[i] wx (nds_below hNd hk) tg ns.length ns.length (showsB ns i) (txt_of (txt_keep hX hk)) (Nat.lt_of_lt_of_le (txt_cell hX i hlt).choose_spec.2.2 hk.size) (by omega) (by omega) (fun t ht => hszK.out t (showsB_mem ns ht _ hi)) hok (hTK.out wx (hb.trans (hk.mono hwz))) (hEK.out wx (hb.trans (hk.mono hwz))))
   obtain ⟨z0,z1,z2,z3⟩ := txt_cell hX i hlt
   have hX2 := Lib.hid (fun wx (hk : Below wr.heap.size wr wx) (t : ByteArray) => txt_set (txt_keep hX hk) (by omega) t)
   rw [hll] at hX2
   obtain ⟨sb,hsb⟩ : ∃ x,showB ns (showsB ns i) ns[i] = x := ⟨_,rfl⟩
   rw [hsb] at E hnext
   unfold ndV at E
   generalize ns[i] = n at *
   replace E := Lib.hid E
   have i1 : InW g wr := ⟨hg⟩
   have i2 : InW tg wr := ⟨z3⟩
   have hI : (i : Int) < (ns.length : Int) := by omega
   clear hc hNd hok hget hX hsb hll
   go_wp2_with ((with_reducible refine ((E.out _ (by (first | exact gwT | exact lzT))).out).mono ?_);intro e w1 hr;obtain ⟨rfl,p,rfl⟩ := hr.out;clear hr)
   go_roundw
   case rel => exact ⟨i + 1,by go_num,by omega,by rw [hnext.out];exact txt_keep (hX2.out _ (by (first | exact gwT | exact lzT)) sb) (by (first | exact gwT | exact lzT)),by (first | exact gwT | exact lzT)⟩
   case measure => simp [intOf];omega
  ·obtain rfl : i = ns.length := by omega
   have hlast : (showsB ns ns.length).getD (ns.length - 1) ⟨#[]⟩ = (showsB ns ns.length)[ns.length - 1]'(by rw [showsB_length];omega) := by rw [List.getD_eq_getElem?_getD,List.getElem?_eq_getElem (by rw [showsB_length];omega),Option.getD_some]
   have hcell := txt_of hX (ns.length - 1) (by rw [showsB_length];omega)
   rw [← hlast,hres.out] at hcell
   obtain ⟨m,hm⟩ : ∃ m,m + 1 = ns.length := ⟨ns.length - 1,by omega⟩
   have hm1 : ns.length - 1 = m := by omega
   rw [hm1] at hcell
   have hmI : (ns.length : Int) - 1 = (m : Int) := by omega
   have hI : ¬ ((ns.length : Int) < (ns.length : Int)) := by omega
   have hmI2 : (m : Int) < (ns.length : Int) := by omega
   clear hlast hm1 hX
   replace hm := Lib.hid hm
   go_wp2
   go_returns
   exact ⟨rfl,hb⟩
end Go.Proofs.YtfmaomoifkplbaaGreatDoor
namespace Go.Proofs.YtfmaomoifkplbaaGreatDoor
open Go.RowKit
theorem new_at {w : World} {o : Obj} {b : Nat} (h : b = w.heap.size) : (w.alloc o).heap[b]? = some o := by rw [h];exact heap_alloc_new w o
theorem ndsL_at : ∀ (ns : List Nd) (i : Nat) (h : i < ns.length) (j : Nat),j < 7 → (ndsC ns)[i * 7 + j]? = (ndC ns[i])[j]?
 | [],i,h,_,_ => absurd h (Nat.not_lt_zero _)
 | t :: r,0,_,j,hj => by
  unfold ndsC
  rw [List.flatMap_cons,Nat.zero_mul,Nat.zero_add,List.getElem?_append_left (by simpa [ndC] using hj)]
  rfl
 | t :: r,i + 1,h,j,hj => by
  have ih := ndsL_at r i (by simpa using h) j hj
  unfold ndsC at *
  rw [List.flatMap_cons,List.getElem?_append_right (by simp [ndC];omega),show (i + 1) * 7 + j - (ndC t).length = i * 7 + j by simp [ndC];omega,ih]
  rfl
theorem ndsL_own {w : World} {B cap : Nat} {e : TypeId} {na : Option Addr} {ns : List Nd} (h : w.ownsRow B e 7 (.slice na ns.length cap) ns.length (ndsC ns)) : NdsAt w na ns := by
 intro h0
 rcases h.2 with ⟨_,hn⟩ | ⟨g,cap',cur,hv,hb,hg,_⟩
 ·omega
 ·cases hv
  have hc := h.cells (g := g) rfl
  have hadd : ∀ j,(⟨g,0,none⟩ : Addr).add j = ⟨g,j,none⟩ := fun j => by unfold Addr.add;split <;> simp_all
  refine ⟨g,0,rfl,(Array.getElem?_eq_some_iff.1 hg).1,fun i hi => ?_⟩
  rw [Nat.zero_add]
  refine ⟨?_,?_,?_,?_,?_,?_,?_⟩
  ·rw [← hadd];exact hc _ _ ((ndsL_at ns i hi 0 (by decide)).trans rfl)
  ·rw [← hadd];exact hc _ _ ((ndsL_at ns i hi 1 (by decide)).trans rfl)
  ·rw [← hadd];exact hc _ _ ((ndsL_at ns i hi 2 (by decide)).trans rfl)
  ·rw [← hadd];exact hc _ _ ((ndsL_at ns i hi 3 (by decide)).trans rfl)
  ·rw [← hadd];exact hc _ _ ((ndsL_at ns i hi 4 (by decide)).trans rfl)
  ·rw [← hadd];exact hc _ _ ((ndsL_at ns i hi 5 (by decide)).trans rfl)
  ·rw [← hadd];exact hc _ _ ((ndsL_at ns i hi 6 (by decide)).trans rfl)
end Go.Proofs.YtfmaomoifkplbaaGreatDoor
