/-
  SnapSame, for every snapshot and every change: it is the same as its copy; one of which any part is another one isn't; nothing that was handed in turns. The row lists 12 package-level variables of the library's (the card ties them to the program's text).
-/
import Derived.Test.YtacnlghljmgdiaaGreatDoorCLiSnapSame
import Derived.Test.YtacnlghljmgdiaaGreatDoorCLjSnapSame
namespace Go.Proofs.YtacnlghljmgdiaaGreatDoor
namespace cardSnapSame
open Go.ChangeShapes Go.WideShapes Go.ChangeAt Go.RowKit
open Go.ChangeMaps (open_string)
theorem said:Rows.SnapSameSaid :=
 OpenClaim.holds_of_cond 4 Tryz.f4 rfl rfl rfl rfl rfl rfl rfl ⟨rfl,rfl,rfl,rfl,rfl⟩ rfl rfl rfl rfl rfl krT Tryz.func4 facts
  (of_decide_eq_true krT) (by unfold Func.isWrapper;first | (rw [if_pos (by decide +kernel)];kernel_rfl) | (rw [if_neg (by decide +kernel)];exact ⟨rfl,rfl⟩))
  (fun os started H enc _ F=>by rw [OpenClaim.pre_eq_preRow];exact lifted os started H enc F)
theorem plain (f:FuncId) (fn:Func) (hf:Tryz.pinned.checked.prog.funcNamed Rows.snapSameRow.func = some f) (hfn:Tryz.pinned.checked.prog.funcs[f]? = some fn) :
  true = Tryz.pinned.checked.prog.looks [] ∧ ∀ (j:Nat) t,fn.params[j]? = some t → Tryz.pinned.checked.prog.wantsStandIn t = false:=by
 obtain rfl:f = 4:=Option.some.inj ((show Tryz.prog.funcNamed Rows.snapSameRow.func = some 4 by kernel_rfl).symm.trans hf) |>.symm
 obtain rfl:fn = Tryz.f4:=(Option.some.inj (Tryz.func4.symm.trans hfn)).symm
 refine ⟨by kernel_rfl,fun j t ht=>?_⟩
 have hall:Tryz.f4.params.all (fun t => !Tryz.prog.wantsStandIn t) = true:=by kernel_rfl
 have:=(Array.all_eq_true'.1 hall) t (Array.mem_of_getElem? ht)
 show Tryz.prog.wantsStandIn t = false
 simpa using this
theorem card:Rows.SnapSameCardSaid :=
 Claim7.holds_tied_plain_at .later [] _ _ _ _ said (fun _ h=>by cases h) krT (fun _ h=>by cases h) snapSame_row_tie rfl ⟨rfl,rfl⟩ krT rfl plain krT
end cardSnapSame
end Go.Proofs.YtacnlghljmgdiaaGreatDoor
