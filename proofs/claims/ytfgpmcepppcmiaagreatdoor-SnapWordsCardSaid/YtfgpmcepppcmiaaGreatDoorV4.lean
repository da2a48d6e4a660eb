/- Several texts of this proof, joined: FO. -/
import Derived.Test.YtfgpmcepppcmiaaGreatDoorV2
import Derived.Test.YtfgpmcepppcmiaaGreatDoorV3
import Derived.Test.YtfgpmcepppcmiaaGreatDoorY9
import Derived.WalkKit
import Derived.ProofKit
import Derived.OpenShut
import Derived.Handy
import Derived.BigQuiet
import Derived.OwnWalk
import Derived.Deep.AppendLies
import Derived.Lib.Hide
import Derived.WalkSmall
import Derived.WalkLawsBesides
import Derived.Test.YtfgpmcepppcmiaaGreatDoorJ1
import Derived.Test.YtfgpmcepppcmiaaGreatDoorZ7
import Derived.Lib.LaidTab
import Derived.Lib.SmallJoins
namespace Go.Proofs.YtfgpmcepppcmiaaGreatDoor
open Go.RowKit Go.Lib Go.ChangeShapes Go.WideShapes Go.Joins
def formD {H:Type} (f:List UInt8 × Bool × Bool × Bool × Bool):DataW H := .agg [.lit (.string f.1),.lit (.bool f.2.1),.lit (.bool f.2.2.1),.lit (.bool f.2.2.2.1),.lit (.bool f.2.2.2.2)]
def formsD {H:Type} (ls:List (List UInt8 × Bool × Bool × Bool × Bool)):DataW H := .agg (ls.map formD)
set_option maxRecDepth 100000 in
theorem form_trod {H:Type} {enc:TypeId × Value → H} {w:World} {base fuel:Nat} {spare:Nat → Bool} {held:Bool} {cs:List Value} {x:DataW H × List MemPlace}
  (h:DataW.trod enc Tryz.prog w base spare held fuel 350 cs = some x):∃ f,cs = formC f ∧ x.1 = formD f:=by
 obtain ⟨xs,m,_,hxx,hl,hlen,hf⟩:=DataW.trod_struct Tryz.underlying350 h
 have hl5:cs.length = 5:=hl.trans (by kernel_rfl)
 have hx5:xs.length = 5:=hlen
 match cs,hl5 with
 | [c0,c1,c2,c3,c4],_ =>
  match xs,hx5 with
  | [y0,y1,y2,y3,y4],_ =>
   have k1:Tryz.prog.cellsOf 4 = 1:=by kernel_rfl
   have k3:Tryz.prog.cellsOf 9 = 1:=by kernel_rfl
   have h0:DataW.trod enc Tryz.prog w base spare held m 9 [c0] = some y0:=by simpa [k3] using hf 0 _ rfl
   have h1:DataW.trod enc Tryz.prog w base spare held m 4 [c1] = some y1:=by simpa [k1] using hf 1 _ rfl
   have h2:DataW.trod enc Tryz.prog w base spare held m 4 [c2] = some y2:=by simpa [k1] using hf 2 _ rfl
   have h3:DataW.trod enc Tryz.prog w base spare held m 4 [c3] = some y3:=by simpa [k1] using hf 3 _ rfl
   have h4:DataW.trod enc Tryz.prog w base spare held m 4 [c4] = some y4:=by simpa [k1] using hf 4 _ rfl
   obtain ⟨s,e0,a0,w0⟩:=DataW.trod_string Tryz.underlying9 h0
   obtain ⟨b1,e1,a1⟩:=DataW.trod_bool Tryz.underlying4 h1
   obtain ⟨b2,e2,a2⟩:=DataW.trod_bool Tryz.underlying4 h2
   obtain ⟨b3,e3,a3⟩:=DataW.trod_bool Tryz.underlying4 h3
   obtain ⟨b4,e4,a4⟩:=DataW.trod_bool Tryz.underlying4 h4
   simp only [List.cons.injEq,and_true] at e0 e1 e2 e3 e4
   subst e0 e1 e2 e3 e4
   refine ⟨(s.data.toList,b1,b2,b3,b4),rfl,?_⟩
   rw [hxx]
   subst a0 a1 a2 a3 a4
   rfl
theorem formD_inj {H:Type} {f g:List UInt8 × Bool × Bool × Bool × Bool} (h:(formD f:DataW H) = formD g):f = g:=by
 obtain ⟨a,b,c,d,e⟩:=f
 obtain ⟨a',b',c',d',e'⟩:=g
 simpa [formD] using h
theorem cells_of_forms {H:Type} {enc:TypeId × Value → H} {w:World} {base:Nat} {sp:Nat → Bool} {held:Bool} {fuel:Nat} {t:TypeId} {n:Nat} {cs:List Value} {ls:List (List UInt8 × Bool × Bool × Bool × Bool)} {p:List MemPlace}
  (ht:Tryz.prog.underlying t = some (.array n 350)) (hce:Tryz.prog.cellsOf 350 = 5) (hct:Tryz.prog.cellsOf t = n * 5)
  (h:DataW.trod enc Tryz.prog w base sp held fuel t cs = some (formsD ls,p)):cs = ls.flatMap formC:=by
 cases fuel with
 | zero=>simp [DataW.trod] at h
 | succ fuel =>
  simp only [DataW.trod,ht,hce,hct] at h
  split at h
  ·rename_i hl
   obtain ⟨xs,hm,hx⟩:=Option.map_eq_some_iff.1 h
   have hxs:xs.map (·.1) = ls.map (formD (H:=H)):=by
    have:=congrArg Prod.fst hx
    simpa [formsD] using this
   have hxl:xs.length = n:=by simpa using mapM_length hm
   have hll:ls.length = n:=by
    have:=congrArg List.length hxs
    simp at this
    omega
   have hat:∀ i (hi:i < ls.length),(cs.drop (i * 5)).take 5 = formC ls[i]:=fun i hi=>by
    obtain ⟨b,hb,hf⟩:=mapM_at hm i i (by simp [show i < n by omega])
    obtain ⟨f,hc,hd⟩:=form_trod hf
    have h2:(ls.map (formD (H:=H)))[i]? = some b.1:=by rw [← hxs];simp [hb]
    rw [List.getElem?_map,List.getElem?_eq_getElem hi,hd] at h2
    have h3:=formD_inj (Option.some.inj h2)
    rw [hc,h3]
   have hlen:cs.length = ls.length * 5:=by rw [hll];exact hl
   clear hm hx hxs hxl h hl
   clear hll ht hct
   induction ls generalizing cs with
   | nil =>
    have:cs.length = 0:=by rw [hlen];simp
    rw [List.length_eq_zero_iff.1 this]
    rfl
   | cons f ls ih =>
    have h0:=hat 0 (by simp)
    rw [Nat.zero_mul,List.drop_zero] at h0
    have h1:=ih (cs:=cs.drop 5) (fun i hi=>by
     have:=hat (i + 1) (by simpa using hi)
     rw [List.drop_drop,show 5 + i * 5 = (i + 1) * 5 by omega]
     exact this) (by rw [List.length_drop,hlen,List.length_cons];omega)
    rw [List.flatMap_cons,← h1]
    show cs = formC f ++ cs.drop 5
    rw [show formC f = cs.take 5 from h0.symm,List.take_append_drop]
  ·cases h
end Go.Proofs.YtfgpmcepppcmiaaGreatDoor
