/-
  SnapOwn, for every snapshot: what is written into a copy's lists changes nothing of the snapshot; nothing that was handed in turns. The row lists 12 package-level variables of the library's (the card ties them to the program's text).
-/
import Derived.Test.YtacnlghljmgdiaaGreatDoorCards
import Derived.Test.YtacnlghljmgdiaaGreatDoorTie
import Derived.Test.YtacnlghljmgdiaaGreatDoorSY3
import Derived.Test.YtacnlghljmgdiaaGreatDoorZ1
import Derived.Test.YtacnlghljmgdiaaGreatDoorO1
import Derived.Test.YtacnlghljmgdiaaGreatDoorV3
import Derived.Test.YtacnlghljmgdiaaGreatDoorZ4
import Derived.Test.YtacnlghljmgdiaaGreatDoorZ7
import Derived.Test.YtacnlghljmgdiaaGreatDoorJ3
namespace Go.Proofs.YtacnlghljmgdiaaGreatDoor
namespace cardSnapOwn
open Go.ChangeShapes Go.WideShapes Go.ChangeAt Go.RowKit
open Go.ChangeMaps (open_string)
theorem tab_of {W:World} (hL:laidMetH Tryz.prog Rows.snapOwnRow.laid W):Tab W :=
 Lib.tabIs_of_head (g:=1) krT krT Tryz.underlying245 Tryz.underlying34 krT krT (laidMet.tail (laidMet.tail (hL)))
theorem db_of {W:World} (hL:laidMetH Tryz.prog Rows.snapOwnRow.laid W):Db W :=
 q7i (Lib.tabIs_of_head (g:=2) krT krT Tryz.underlying249 Tryz.underlying5 krT krT (laidMet.tail (hL)))
theorem errs_of {W:World} (hL:laidMetH Tryz.prog Rows.snapOwnRow.laid W):Errs W:=by
 obtain ⟨a,s,h,_⟩:=laid_sentinel (g:=11) (laidMet.tail (laidMet.tail (laidMet.tail (laidMet.tail (hL))))) krT krT Tryz.underlying197 q4g Tryz.underlying372 Tryz.underlying374 rfl rfl Tryz.underlying9 krT krT
 obtain ⟨b,t,k,_⟩:=laid_sentinel (g:=10) (laidMet.tail (laidMet.tail (laidMet.tail (laidMet.tail (laidMet.tail (hL)))))) krT krT Tryz.underlying197 q4g Tryz.underlying372 Tryz.underlying374 rfl rfl Tryz.underlying9 krT krT
 exact ⟨⟨_,_,k⟩,_,_,h⟩
theorem sg_of {W:World} (hL:laidMetH Tryz.prog Rows.snapOwnRow.laid W):Sg W:=by
 obtain ⟨ps,⟨g',t',cs,fuel,p,q,hg',ht',hvar,hd,_,_⟩,_⟩:=laidMet.tail (laidMet.tail (laidMet.tail (laidMet.tail (laidMet.tail (laidMet.tail (hL))))))
 obtain rfl:=Option.some.inj (z8f.symm.trans hg')
 obtain rfl:=Option.some.inj ((show (Tryz.prog.globals[8]?).map (·.type) = some 312 by kernel_rfl).symm.trans ht')
 unfold Sg
 rw [hvar]
 have:=z1o (ls:=z2r) Tryz.underlying312 Tryz.underlying9 krT krT hd
 congr 1
 apply Array.ext'
 rw [this]
 rfl
theorem lb_of {W:World} (hL:laidMetH Tryz.prog Rows.snapOwnRow.laid W) (hS:W.ShapedOpen Tryz.prog):Lb W:=⟨j9v hS,errs_of hL,sg_of hL⟩
theorem eg_of {W:World} (hL:laidMetH Tryz.prog Rows.snapOwnRow.laid W):Eg W:=by
 obtain ⟨ps,⟨g',t',cs,fuel,p,q,hg',ht',hvar,hd,_,_⟩,_⟩:=laidMet.tail (laidMet.tail (laidMet.tail (laidMet.tail (laidMet.tail (laidMet.tail (laidMet.tail (hL)))))))
 obtain rfl:=Option.some.inj (z7y.symm.trans hg')
 obtain rfl:=Option.some.inj ((show (Tryz.prog.globals[12]?).map (·.type) = some 375 by kernel_rfl).symm.trans ht')
 unfold Eg
 rw [hvar]
 have:=z1o (ls:=z7c) Tryz.underlying375 Tryz.underlying9 krT krT hd
 congr 1
 apply Array.ext'
 rw [this]
 rfl
theorem fg_of {W:World} (hL:laidMetH Tryz.prog Rows.snapOwnRow.laid W):Fg W:=by
 obtain ⟨ps,⟨g',t',cs,fuel,p,q,hg',ht',hvar,hd,_,_⟩,_⟩:=laidMet.tail (laidMet.tail (laidMet.tail (laidMet.tail (laidMet.tail (laidMet.tail (laidMet.tail (laidMet.tail (hL))))))))
 obtain rfl:=Option.some.inj (z8a.symm.trans hg')
 obtain rfl:=Option.some.inj ((show (Tryz.prog.globals[9]?).map (·.type) = some 351 by kernel_rfl).symm.trans ht')
 unfold Fg
 rw [hvar]
 have:=z7p (ls:=y4r) Tryz.underlying351 krT krT hd
 congr 1
 apply Array.ext'
 rw [this]
 rfl
theorem lw_of {W:World} (hL:laidMetH Tryz.prog Rows.snapOwnRow.laid W):Lw W:=by
 obtain ⟨ps,⟨g',t',cs,fuel,p,q,hg',ht',hvar,hd,_,_⟩,_⟩:=laidMet.tail (laidMet.tail (laidMet.tail (laidMet.tail (laidMet.tail (laidMet.tail (laidMet.tail (laidMet.tail (laidMet.tail (hL)))))))))
 obtain rfl:=Option.some.inj (z8c.symm.trans hg')
 obtain rfl:=Option.some.inj ((show (Tryz.prog.globals[3]?).map (·.type) = some 259 by kernel_rfl).symm.trans ht')
 unfold Lw
 rw [hvar]
 have:=z1o (ls:=j6i) Tryz.underlying259 Tryz.underlying9 krT krT hd
 congr 1
 apply Array.ext'
 rw [this]
 rfl
theorem al_of {W:World} (hL:laidMetH Tryz.prog Rows.snapOwnRow.laid W) (hS:W.ShapedOpen Tryz.prog):Al W:=⟨⟨lb_of hL hS,eg_of hL,fg_of hL⟩,lw_of hL⟩
theorem sw_of {W:World} (hL:laidMetH Tryz.prog Rows.snapOwnRow.laid W):Sw W:=by
 obtain ⟨ps,⟨g',t',cs,fuel,p,q,hg',ht',hvar,hd,_,_⟩,_⟩:=laidMet.tail (laidMet.tail (laidMet.tail (laidMet.tail (laidMet.tail (laidMet.tail (laidMet.tail (laidMet.tail (laidMet.tail (laidMet.tail (hL))))))))))
 obtain rfl:=Option.some.inj (z8i.symm.trans hg')
 obtain rfl:=Option.some.inj ((show (Tryz.prog.globals[0]?).map (·.type) = some 97 by kernel_rfl).symm.trans ht')
 unfold Sw
 rw [hvar]
 have:=z1o (ls:=q9d) Tryz.underlying97 Tryz.underlying9 krT krT hd
 congr 1
 apply Array.ext'
 rw [this]
 rfl
theorem ap_of {W:World} (hL:laidMetH Tryz.prog Rows.snapOwnRow.laid W) (hS:W.ShapedOpen Tryz.prog):Ap W:=⟨al_of hL hS,db_of hL,tab_of hL,sw_of hL⟩
theorem own:ownKnob Tryz.prog.godebug = none:=by kernel_rfl
set_option maxRecDepth 100000 in
theorem contract (H:Type) (enc:TypeId × Value → H) (W:World) (base:Nat) (args:Array Value) (ds gs:List (DataW H)) (before:List MemPlace)
  (hval:∀ (j:Nat) t v,Tryz.f5.params[j]? = some t → args[j]? = some v → Value.okWide Tryz.prog W .any base t v)
  (hW:DataW.Whole enc Tryz.prog Tryz.f5.params.toList Rows.snapOwnSpec.vars false W args.toList ds gs before)
  (hL:laidMetH Tryz.prog Rows.snapOwnRow.laid W)
  (hS:W.ShapedOpen Tryz.prog)
  (hz:(DataW.weightsEach Tryz.prog (Tryz.f5.params.toList ++ (OpenSpec.ofChange Rows.snapOwnSpec).bare.plain.varTypes Tryz.prog) (ds ++ gs)).all (· ≤ reachBytes) = true) :
  Calls Tryz.prog 5 args W fun e W'=>∃ v,e = .returned v ∧ Rows.snapOwnSpec.post enc Tryz.prog Tryz.f5 false true false false W args v W':=by
 have hW':=hW
 obtain ⟨p,q,hA0,hV,rfl,hfz,hnd⟩:=hW
 have hA:DataW.TrodAll enc Tryz.prog W 0 (fun _=>true) true Tryz.f5.params.toList args.toList ds p:=hA0
 rw [Tryz.params5] at hA hval
 obtain ⟨v0,vs0,d0,ds0,p0,q0,hargs,rfl,rfl,h0,r0⟩:=trodAll_cons hA
 obtain ⟨rfl,rfl,rfl⟩:=trodAll_nil r0
 obtain rfl:args = #[v0]:=by cases args;simp_all
 obtain ⟨sn0,pa0,pc0,da0,dc0,ia0,ic0,oa0,oc0,ta0,tc0,ka0,kc0,ua0,uc0,rfl,R0,I0,D0⟩:=j6w (hval 0 44 v0 rfl rfl) h0
 have Z:(DataW.weightsEach Tryz.prog ([44] ++ _) ([d0] ++ gs)).all (· ≤ reachBytes) = true:=hz
 simp only [List.cons_append,List.nil_append,DataW.weightsEach,List.all_append,Bool.and_eq_true] at Z
 clear hA0 hA
 refine (y7l sn0 pa0 pc0 da0 dc0 ia0 ic0 oa0 oc0 ta0 tc0 ka0 kc0 ua0 uc0 W R0 I0 (j1y D0 Z.1) (ap_of hL hS)).mono fun e W' hr=>?_
 obtain ⟨he,hb⟩:=hr
 subst he
 exact ⟨_,rfl,j3k (tb:=4) krT krT rfl krT Tryz.underlying4 (fun ds hd=>by
  match ds,hd with
  | [_],_=>rfl) hW' hb⟩
def layCells (cs:Array Value):Obj → Obj
 | .cells _ t frozen => .cells cs t frozen
 | o=>o
noncomputable def low:Nat:=(World.holding Tryz.prog default ⟨#[],#[],[]⟩).heap.size
noncomputable def laidWorld (os:Os):World :=
 { World.holding Tryz.prog os ⟨#[.cells #[.string ⟨#[118,97,108,117,101,32,111,117,116,32,111,102,32,114,97,110,103,101]⟩] 374,.cells #[.string ⟨#[105,110,118,97,108,105,100,32,115,121,110,116,97,120]⟩] 374],#[],[]⟩ with heap:=(((((((((((((World.holding Tryz.prog os ⟨#[.cells #[.string ⟨#[118,97,108,117,101,32,111,117,116,32,111,102,32,114,97,110,103,101]⟩] 374,.cells #[.string ⟨#[105,110,118,97,108,105,100,32,115,121,110,116,97,120]⟩] 374],#[],[]⟩).heap.modify 7 (layCells #[.int .u8 0,.int .u8 1,.int .u8 28,.int .u8 2,.int .u8 29,.int .u8 14,.int .u8 24,.int .u8 3,.int .u8 30,.int .u8 22,.int .u8 20,.int .u8 15,.int .u8 25,.int .u8 17,.int .u8 4,.int .u8 8,.int .u8 31,.int .u8 27,.int .u8 13,.int .u8 23,.int .u8 21,.int .u8 19,.int .u8 16,.int .u8 7,.int .u8 26,.int .u8 12,.int .u8 18,.int .u8 6,.int .u8 11,.int .u8 5,.int .u8 10,.int .u8 9])).modify 2 (layCells #[.int .u8 0,.int .u8 1,.int .u8 56,.int .u8 2,.int .u8 57,.int .u8 49,.int .u8 28,.int .u8 3,.int .u8 61,.int .u8 58,.int .u8 42,.int .u8 50,.int .u8 38,.int .u8 29,.int .u8 17,.int .u8 4,.int .u8 62,.int .u8 47,.int .u8 59,.int .u8 36,.int .u8 45,.int .u8 43,.int .u8 51,.int .u8 22,.int .u8 53,.int .u8 39,.int .u8 33,.int .u8 30,.int .u8 24,.int .u8 18,.int .u8 12,.int .u8 5,.int .u8 63,.int .u8 55,.int .u8 48,.int .u8 27,.int .u8 60,.int .u8 41,.int .u8 37,.int .u8 16,.int .u8 46,.int .u8 35,.int .u8 44,.int .u8 21,.int .u8 52,.int .u8 32,.int .u8 23,.int .u8 11,.int .u8 54,.int .u8 26,.int .u8 40,.int .u8 15,.int .u8 34,.int .u8 20,.int .u8 31,.int .u8 10,.int .u8 25,.int .u8 14,.int .u8 19,.int .u8 9,.int .u8 13,.int .u8 8,.int .u8 7,.int .u8 6])).modify 1 (layCells #[.int .u64 1,.int .u64 10,.int .u64 100,.int .u64 1000,.int .u64 10000,.int .u64 100000,.int .u64 1000000,.int .u64 10000000,.int .u64 100000000,.int .u64 1000000000,.int .u64 10000000000,.int .u64 100000000000,.int .u64 1000000000000,.int .u64 10000000000000,.int .u64 100000000000000,.int .u64 1000000000000000,.int .u64 10000000000000000,.int .u64 100000000000000000,.int .u64 1000000000000000000,.int .u64 10000000000000000000])).modify 5 (layCells #[.int .u8 128,.int .u8 191,.int .u8 160,.int .u8 191,.int .u8 128,.int .u8 159,.int .u8 144,.int .u8 191,.int .u8 128,.int .u8 143,.int .u8 0,.int .u8 0,.int .u8 0,.int .u8 0,.int .u8 0,.int .u8 0,.int .u8 0,.int .u8 0,.int .u8 0,.int .u8 0,.int .u8 0,.int .u8 0,.int .u8 0,.int .u8 0,.int .u8 0,.int .u8 0,.int .u8 0,.int .u8 0,.int .u8 0,.int .u8 0,.int .u8 0,.int .u8 0])).modify 11 (layCells #[.iface 372 (.pointer (some ⟨low + 0,0,none⟩))])).modify 10 (layCells #[.iface 372 (.pointer (some ⟨low + 1,0,none⟩))])).modify 8 (layCells #[.string ⟨#[60,61]⟩,.string ⟨#[62,61]⟩,.string ⟨#[33,61]⟩,.string ⟨#[40]⟩,.string ⟨#[41]⟩,.string ⟨#[59]⟩,.string ⟨#[58]⟩,.string ⟨#[43]⟩,.string ⟨#[45]⟩,.string ⟨#[42]⟩,.string ⟨#[47]⟩,.string ⟨#[37]⟩,.string ⟨#[60]⟩,.string ⟨#[62]⟩,.string ⟨#[61]⟩])).modify 12 (layCells #[.string ⟨#[]⟩,.string ⟨#[110,111,116]⟩,.string ⟨#[45]⟩,.string ⟨#[42]⟩,.string ⟨#[47]⟩,.string ⟨#[37]⟩,.string ⟨#[43]⟩,.string ⟨#[45]⟩,.string ⟨#[60]⟩,.string ⟨#[60,61]⟩,.string ⟨#[62]⟩,.string ⟨#[62,61]⟩,.string ⟨#[61]⟩,.string ⟨#[33,61]⟩,.string ⟨#[97,110,100]⟩,.string ⟨#[111,114]⟩])).modify 9 (layCells #[.string ⟨#[]⟩,.bool false,.bool false,.bool false,.bool false,.string ⟨#[115,101,116]⟩,.bool true,.bool false,.bool true,.bool false,.string ⟨#[114,97,105,115,101]⟩,.bool false,.bool true,.bool false,.bool false,.string ⟨#[115,101,110,100]⟩,.bool false,.bool true,.bool false,.bool true,.string ⟨#[99,97,110,99,101,108]⟩,.bool false,.bool true,.bool false,.bool false,.string ⟨#[108,111,103]⟩,.bool false,.bool false,.bool true,.bool false])).modify 3 (layCells #[.string ⟨#[]⟩,.string ⟨#[99,104,97,114,116]⟩,.string ⟨#[118,97,114]⟩,.string ⟨#[115,116,97,116,101]⟩,.string ⟨#[112,97,114,97,108,108,101,108]⟩,.string ⟨#[102,105,110,97,108]⟩,.string ⟨#[100,101,101,112]⟩,.string ⟨#[115,104,97,108,108,111,119]⟩,.string ⟨#[101,110,116,101,114]⟩,.string ⟨#[101,120,105,116]⟩,.string ⟨#[111,110]⟩,.string ⟨#[97,117,116,111]⟩,.string ⟨#[101,110,100]⟩])).modify 0 (layCells #[.string ⟨#[]⟩,.string ⟨#[102,114,101,115,104]⟩,.string ⟨#[114,117,110,110,105,110,103]⟩,.string ⟨#[100,111,110,101]⟩,.string ⟨#[104,97,108,116,101,100]⟩])).modify 4 (layCells (Go.Pinned.utf8FirstZ.map fun z:Nat=>Value.int .u8 (Int.ofNat z)).toArray)) }
theorem laid_met (os:Os):laidMet Tryz.prog Rows.snapOwnRow.laid ((laidWorld os).forCall (fun _ _=>0) ⟨#[],#[.agg #[.int .i64 0,.int .i64 0,.int .i64 0,.int .i64 0,.int .u64 0,.slice none 0 0,.slice none 0 0,.slice none 0 0,.slice none 0 0,.slice none 0 0,.string ⟨#[]⟩,.slice none 0 0,.int .u64 0,.slice none 0 0]],[]⟩).memory :=
 laidMet_of_run' 8 krT krT
theorem reads (os:Os) {H:Type} (enc:TypeId × Value → H):∃ places,DataW.whole enc Tryz.prog ((laidWorld os).forCall (fun _ _=>0) ⟨#[],#[.agg #[.int .i64 0,.int .i64 0,.int .i64 0,.int .i64 0,.int .u64 0,.slice none 0 0,.slice none 0 0,.slice none 0 0,.slice none 0 0,.slice none 0 0,.string ⟨#[]⟩,.slice none 0 0,.int .u64 0,.slice none 0 0]],[]⟩).memory Tryz.f5.params.toList Rows.snapOwnSpec.vars false #[Value.agg #[.int .i64 0,.int .i64 0,.int .i64 0,.int .i64 0,.int .u64 0,.slice none 0 0,.slice none 0 0,.slice none 0 0,.slice none 0 0,.slice none 0 0,.string ⟨#[]⟩,.slice none 0 0,.int .u64 0,.slice none 0 0]].toList 8 = some ([.agg [.lit (.int .i64 0),.lit (.int .i64 0),.lit (.int .i64 0),.lit (.int .i64 0),.lit (.int .u64 0),.nil,.nil,.nil,.nil,.nil,.agg [.lit (.string []),.nil,.lit (.int .u64 0),.nil]]],[],places) :=
 ⟨[],by kernel_rfl⟩
set_option maxRecDepth 100000 in
theorem lifted (os:Os) (started:os.Started) (H:Type) (enc:TypeId × Value → H) (F:Stop.Interp) :
  ReturnsInHanded {} Tryz.checked os 5 .any ((OpenSpec.ofChange Rows.snapOwnSpec).preRow enc Tryz.prog Tryz.f5 Rows.snapOwnRow.domain false Rows.snapOwnRow.laid) (((OpenSpec.ofChange Rows.snapOwnSpec).at F).post enc Tryz.prog Tryz.f5 false true false false):=by
 obtain ⟨places,hx⟩:=reads os enc
 refine returnsInHanded_of_row (C:=Tryz.checked) (s:=(OpenSpec.ofChange Rows.snapOwnSpec)) own started krT Tryz.func5
  (witness_row_at (enc:=enc) (C:=Tryz.checked) false (laidWorld os) #[.agg #[.int .i64 0,.int .i64 0,.int .i64 0,.int .i64 0,.int .u64 0,.slice none 0 0,.slice none 0 0,.slice none 0 0,.slice none 0 0,.slice none 0 0,.string ⟨#[]⟩,.slice none 0 0,.int .u64 0,.slice none 0 0]] rfl krT krT krT
   (OpenSpec.preRow_of_cond 8 hx krT (fun k hk=>by cases hk) krT (laid_met os))) ?_
 intro W base args ds gs before hval hW _ _ hz hL hS _
 exact contract H enc W base args ds gs before hval hW hL hS hz
end cardSnapOwn
end Go.Proofs.YtacnlghljmgdiaaGreatDoor
