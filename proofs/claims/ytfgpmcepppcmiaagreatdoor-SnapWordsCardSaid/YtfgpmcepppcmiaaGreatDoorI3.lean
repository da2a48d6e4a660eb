/- Several texts of this proof, joined: VI, VT. -/
import Derived.Test.YtfgpmcepppcmiaaGreatDoorQ1
import Derived.Test.YtfgpmcepppcmiaaGreatDoorV5
import Derived.Test.YtfgpmcepppcmiaaGreatDoorI2
import Derived.WalkKit
import Derived.ProofKit
import Derived.OpenShut
import Derived.Handy
import Derived.BigQuiet
import Derived.OwnWalk
import Derived.Lib.Hide
import Derived.WalkSmall
import Derived.WalkLawsBesides
namespace Go.Proofs.YtfgpmcepppcmiaaGreatDoor
theorem fit_n {ns:List Nd} (h:ns.length ≤ 32) (k:ShN ns):FitN ns :=
 ⟨Nat.le_trans h (by decide),fun n hn=>⟨Nat.le_trans (k n hn).1 (by decide),Nat.le_trans (k n hn).2 (by decide)⟩⟩
theorem fit_b {cs:List Ac} (h:SmallB cs) (k:ShB cs):FitB cs :=
 ⟨Nat.le_trans h.1 (by decide),fun a ha=>⟨fit_n (h.2 a ha).1 (k a ha).1,fit_n (h.2 a ha).2 (k a ha).2⟩⟩
theorem fit_chart {l:List UInt8} {c:Ch} (h:chartT l = .ok c):∀ i,i < c.states.length → FitS (c.states.getD i st0):=fun i _=>by
 have t:=small_getD (small_chart h) i
 exact ⟨fun b hb=>fit_b (t.enter b hb) (t.she b (List.mem_append_left _ hb)),fun b hb=>fit_b (t.exit b hb) (t.she b (List.mem_append_right _ hb)),
  fun r hr=>⟨fit_n (t.trans r hr).cond (t.sht r hr).1,Nat.le_trans (t.trans r hr).goes (by decide),fit_b (t.trans r hr).thn (t.sht r hr).2⟩⟩
end Go.Proofs.YtfgpmcepppcmiaaGreatDoor
namespace Go.Proofs.YtfgpmcepppcmiaaGreatDoor
open Go.RowKit
theorem okC_of {l:List UInt8} {c:Ch} (h:chartT l = .ok c):OkC c :=
 ⟨(good_chart h).some,(good_chart h).few,(good_chart h).vars,par_of (good_chart h),fit_chart h,lens_of (good_chart h)⟩
def PokIs (c:Ch) (w:World) (e:Ending) (w':World):Prop:=∃ rv va vc sa sc,e = .returned (.tuple #[.agg #[str c.name,.slice va c.vars.length vc,.slice sa c.states.length sc],.int .i64 0,.int .i64 0]) ∧ ChV ct0 w.heap.size w' c rv (.slice va c.vars.length vc) (.slice sa c.states.length sc) ∧ Below w.heap.size w w'
theorem cparse_ok {c:Ch} (s:ByteArray) (hs:s.size ≤ 140737488351232) (h:chartT s.data.toList = .ok c) (w:World) (hw:Al w):Calls Tryz.prog 20 #[.string s] w (PokIs c w) :=
 (cparse_all s hs w hw).mono fun e w' hr=>by
  obtain ⟨d,y,n,rv,va,vc,sa,sc,hc,rfl,hV,hb⟩:=hr
  obtain ⟨rfl,rfl,rfl⟩:=hc.ok c h
  exact ⟨rv,va,vc,sa,sc,rfl,hV,hb⟩
end Go.Proofs.YtfgpmcepppcmiaaGreatDoor
