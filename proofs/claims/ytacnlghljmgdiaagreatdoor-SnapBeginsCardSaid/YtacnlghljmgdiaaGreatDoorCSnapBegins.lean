/-
  SnapBegins, for every text: the valid chart that the text is has, ahead of its first move, the document's snapshot; nothing that was handed in turns. The row lists 12 package-level variables of the library's (the card ties them to the program's text).
-/
import Derived.Test.YtacnlghljmgdiaaGreatDoorCLiSnapBegins
import Derived.Test.YtacnlghljmgdiaaGreatDoorCLjSnapBegins
namespace Go.Proofs.YtacnlghljmgdiaaGreatDoor
namespace cardSnapBegins
open Go.ChangeShapes Go.WideShapes Go.ChangeAt Go.RowKit
open Go.ChangeMaps (open_string)
theorem said:Rows.SnapBeginsSaid :=
 OpenClaim.holds_of_cond 3 Tryz.f3 rfl rfl rfl rfl rfl rfl rfl ⟨rfl,rfl,rfl,rfl,rfl⟩ rfl rfl rfl rfl rfl krT Tryz.func3 facts
  (of_decide_eq_true krT) (by unfold Func.isWrapper;first | (rw [if_pos (by decide +kernel)];kernel_rfl) | (rw [if_neg (by decide +kernel)];exact ⟨rfl,rfl⟩))
  (fun os started H enc _ F=>by rw [OpenClaim.pre_eq_preRow];exact lifted os started H enc F)
theorem plain (f:FuncId) (fn:Func) (hf:Tryz.pinned.checked.prog.funcNamed Rows.snapBeginsRow.func = some f) (hfn:Tryz.pinned.checked.prog.funcs[f]? = some fn) :
  true = Tryz.pinned.checked.prog.looks [] ∧ ∀ (j:Nat) t,fn.params[j]? = some t → Tryz.pinned.checked.prog.wantsStandIn t = false:=by
 obtain rfl:f = 3:=Option.some.inj ((show Tryz.prog.funcNamed Rows.snapBeginsRow.func = some 3 by kernel_rfl).symm.trans hf) |>.symm
 obtain rfl:fn = Tryz.f3:=(Option.some.inj (Tryz.func3.symm.trans hfn)).symm
 refine ⟨by kernel_rfl,fun j t ht=>?_⟩
 have hall:Tryz.f3.params.all (fun t => !Tryz.prog.wantsStandIn t) = true:=by kernel_rfl
 have:=(Array.all_eq_true'.1 hall) t (Array.mem_of_getElem? ht)
 show Tryz.prog.wantsStandIn t = false
 simpa using this
theorem card:Rows.SnapBeginsCardSaid :=
 Claim7.holds_tied_plain_at .later [] _ _ _ _ said (fun _ h=>by cases h) krT (fun _ h=>by cases h) snapBegins_row_tie rfl ⟨rfl,rfl⟩ krT rfl plain krT
end cardSnapBegins
end Go.Proofs.YtacnlghljmgdiaaGreatDoor
