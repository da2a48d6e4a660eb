/-
  SnapOwn, for every snapshot: what is written into a copy's lists changes nothing of the snapshot; nothing that was handed in turns. The row lists 12 package-level variables of the library's (the card ties them to the program's text).
-/
import Derived.Test.YtacnlghljmgdiaaGreatDoorCLiSnapOwn
import Derived.Test.YtacnlghljmgdiaaGreatDoorCLjSnapOwn
namespace Go.Proofs.YtacnlghljmgdiaaGreatDoor
namespace cardSnapOwn
open Go.ChangeShapes Go.WideShapes Go.ChangeAt Go.RowKit
open Go.ChangeMaps (open_string)
theorem said:Rows.SnapOwnSaid :=
 OpenClaim.holds_of_cond 5 Tryz.f5 rfl rfl rfl rfl rfl rfl rfl ⟨rfl,rfl,rfl,rfl,rfl⟩ rfl rfl rfl rfl rfl krT Tryz.func5 facts
  (of_decide_eq_true krT) (by unfold Func.isWrapper;first | (rw [if_pos (by decide +kernel)];kernel_rfl) | (rw [if_neg (by decide +kernel)];exact ⟨rfl,rfl⟩))
  (fun os started H enc _ F=>by rw [OpenClaim.pre_eq_preRow];exact lifted os started H enc F)
theorem plain (f:FuncId) (fn:Func) (hf:Tryz.pinned.checked.prog.funcNamed Rows.snapOwnRow.func = some f) (hfn:Tryz.pinned.checked.prog.funcs[f]? = some fn) :
  true = Tryz.pinned.checked.prog.looks [] ∧ ∀ (j:Nat) t,fn.params[j]? = some t → Tryz.pinned.checked.prog.wantsStandIn t = false:=by
 obtain rfl:f = 5:=Option.some.inj ((show Tryz.prog.funcNamed Rows.snapOwnRow.func = some 5 by kernel_rfl).symm.trans hf) |>.symm
 obtain rfl:fn = Tryz.f5:=(Option.some.inj (Tryz.func5.symm.trans hfn)).symm
 refine ⟨by kernel_rfl,fun j t ht=>?_⟩
 have hall:Tryz.f5.params.all (fun t => !Tryz.prog.wantsStandIn t) = true:=by kernel_rfl
 have:=(Array.all_eq_true'.1 hall) t (Array.mem_of_getElem? ht)
 show Tryz.prog.wantsStandIn t = false
 simpa using this
theorem card:Rows.SnapOwnCardSaid :=
 Claim7.holds_tied_plain_at .later [] _ _ _ _ said (fun _ h=>by cases h) krT (fun _ h=>by cases h) snapOwn_row_tie rfl ⟨rfl,rfl⟩ krT rfl plain krT
end cardSnapOwn
end Go.Proofs.YtacnlghljmgdiaaGreatDoor
