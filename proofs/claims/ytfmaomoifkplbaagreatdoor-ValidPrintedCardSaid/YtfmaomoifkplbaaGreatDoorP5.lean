/- Several texts of this proof, joined: BE, BH. -/
import Derived.Test.YtfmaomoifkplbaaGreatDoorV4
import Derived.WalkKit
import Derived.ProofKit
import Derived.OpenShut
import Derived.Handy
import Derived.BigQuiet
import Derived.OwnWalk
import Derived.Deep.AppendLies
import Derived.Lib.Hide
import Derived.WalkSmall
import Derived.WalkLawsBesides
import Derived.Test.YtfmaomoifkplbaaGreatDoorP2
import Derived.Deep.RegionHeld3
namespace Go.Proofs.YtfmaomoifkplbaaGreatDoor
open Go.RowKit
def wordsC (il : Nat) (tc : ByteArray) : List ByteArray := if il = 0 then [] else [⟨#[105,102]⟩,tc,⟨#[58]⟩]
def wordsG (il : Nat) (fw name : ByteArray) (f1 f2 f3 f4 : Bool) (tc tx tn : ByteArray) : List ByteArray :=
 wordsC il tc ++ [fw] ++ (if f1 || f2 then [name] else []) ++ (if f3 then [tx] else []) ++ (if f4 then [tn] else [])
structure WordsBt (w : World) (a0 a1 a2 a3 a4 : Value) (v : Value) (n : Nat) (ts : List Value) (wx : World) : Prop where
 own : wx.ownsRow w.heap.size 9 1 v n ts
 act : wx.heap[w.heap.size]? = some (.cells #[a0,a1,a2,a3,a4] 176 (0,0))
 env : Below w.heap.size w wx
theorem wordsB_keep {w wx wy : World} {a0 a1 a2 a3 a4 v : Value} {n : Nat} {ts : List Value} (h : WordsBt w a0 a1 a2 a3 a4 v n ts wx) (hb : Below wx.heap.size wx wy) : WordsBt w a0 a1 a2 a3 a4 v n ts wy :=
 ⟨owns_below h.own hb,blk_keep h.act hb,h.env.trans (hb.mono h.env.size)⟩
theorem wordsB_grown {w wx wy : World} {a0 a1 a2 a3 a4 v v' : Value} {n n' : Nat} {ts us : List Value} (h : WordsBt w a0 a1 a2 a3 a4 v n ts wx) (hg : wx.grownBy wy v.ownBlock) (ho : wy.ownsRow w.heap.size 9 1 v' n' (ts ++ us)) : WordsBt w a0 a1 a2 a3 a4 v' n' (ts ++ us) wy :=
 ⟨ho,grown_blk h.own h.act (by decide) hg,Below.grown h.env hg h.env.size (fun k hk => (h.own.lt k hk).1)⟩
set_option maxRecDepth 100000 in
set_option maxHeartbeats 4000000 in
theorem words_T (k : Int) (name : ByteArray) (io : Option Addr) (il ic : Nat) (xo : Option Addr) (xl xc : Nat) (nn : Int) (fw : ByteArray) (f2 f3 f4 : Bool) (tc tx tn : ByteArray) (w : World)
  (F : ∀ wx,Below w.heap.size w wx → Calls Tryz.prog 140 #[.agg #[.int .i64 k,.slice io il ic,.string name,.slice xo xl xc,.int .i64 nn]] wx (Ret (.agg #[.string fw,.bool true,.bool f2,.bool f3,.bool f4]) wx))
  (hS : 0 < il → ∀ wx,Below w.heap.size w wx → Calls Tryz.prog 91 #[.slice io il ic] wx (Ret (.string tc) wx))
  (hX : f3 = true → ∀ wx,Below w.heap.size w wx → Calls Tryz.prog 91 #[.slice xo xl xc] wx (Ret (.string tx) wx))
  (hN : f4 = true → ∀ wx,Below w.heap.size w wx → Calls Tryz.prog 94 #[.int .i64 nn,.int .i64 10] wx (Ret (.string tn) wx)) :
  Calls Tryz.prog 93 #[.agg #[.int .i64 k,.slice io il ic,.string name,.slice xo xl xc,.int .i64 nn]] w (WordsIs (wordsG il fw name true f2 f3 f4 tc tx tn) w) := by
 obtain ⟨i0,hi0,hz1,hz2,hz3⟩ := info_parts Tryz.infoStr
 obtain ⟨W,hW⟩ : ∃ W,wordsG il fw name true f2 f3 f4 tc tx tn = W := ⟨_,rfl⟩
 rw [hW]
 replace hW := Lib.hid hW
 replace F := Lib.hid F
 replace hS := Lib.hid hS
 replace hX := Lib.hid hX
 replace hN := Lib.hid hN
 go_enter Tryz.func93,Tryz.ntmps93
 go_upto_region 1 with (fail)
 go_cut [3] (fun v3 wx => ∃ (oa : Option Addr) (oc : Nat),v3 = .slice oa 0 oc ∧ WordsBt w (.int .i64 k) (.slice io il ic) (.string name) (.slice xo xl xc) (.int .i64 nn) (.slice oa 0 oc) 0 [] wx)
 case first =>
  go_wp2
  go_meet
  exact ⟨none,0,rfl,World.ownsRow_nil _ _ _ _,heap_alloc_new w _,by (first | exact gwT | exact lzT)⟩
 case rest =>
  obtain ⟨oa,oc,rfl,S0⟩ := hcut
  rename World => wx0
  obtain ⟨d0,d1,d2,d3,d4,db⟩ := wcells S0.act
  have i2 := InW.mk db
  replace S0 := Lib.hid S0
  go_upto_if 8 with (fail)
  go_cut [3] (fun v3 wx => ∃ (oa : Option Addr) (oc : Nat),v3 = .slice oa (wordsC il tc).length oc ∧ WordsBt w (.int .i64 k) (.slice io il ic) (.string name) (.slice xo xl xc) (.int .i64 nn) (.slice oa (wordsC il tc).length oc) (wordsC il tc).length ((wordsC il tc).map Value.string) wx)
  case first =>
   clear hX hN F hW
   by_cases h0 : il = 0
   ·have hw : wordsC il tc = [] := if_pos h0
    replace hw := Lib.hid hw
    have hilI : ¬ (0 : Int) < (il : Int) := by omega
    clear h0 hS
    go_wp2
    go_meet
    rw [hw.out]
    exact ⟨oa,oc,rfl,wordsB_keep S0.out (by (first | exact gwT | exact lzT))⟩
   ·have hw : wordsC il tc = [⟨#[105,102]⟩,tc,⟨#[58]⟩] := if_neg h0
    replace hw := Lib.hid hw
    have hilI : (0 : Int) < (il : Int) := by omega
    have hS0 := Lib.hid (fun wx (hb : Below wx0.heap.size wx0 wx) => hS.out (by omega) wx (S0.out.env.trans (hb.mono S0.out.env.size)))
    clear h0 hS
    go_wp2_with (first | ((with_reducible refine ((hS0.out _ (by (first | exact gwT | exact lzT)))).mono ?_);intro e w1 hr;obtain ⟨rfl,p,rfl⟩ := hr.out;clear hr) | (at_builtin;refine wpList_append_lies _ rfl _ _ 68 rfl w.heap.size 9 i0 _ 1 16 Tryz.underlying68 hi0 hz1 hz2 hz3 rfl (by decide) (.slice oa 0 oc) 0 [] rfl (owns_below S0.out.own (by (first | exact gwT | exact lzT))) ⟨_,0,none⟩ 3 3 [.string ⟨#[105,102]⟩,.string tc,.string ⟨#[58]⟩] rfl rfl (World.news_of_block (new_at (by simp))) (by intro u hu;simp at hu;rcases hu with rfl | rfl | rfl <;> rfl) (by decide) (by unfold maxLen;omega) (by omega) (Nat.le_trans S0.out.env.size (Below.size (B := wx0.heap.size) (w := wx0) (by (first | exact gwT | exact lzT)))) _ rfl ?_))
    intro g0 cap0 wx1 hown1 hgrow1 hat1 hg1
    have S1 := Lib.hid (wordsB_grown (wordsB_keep S0.out (by (first | exact gwT | exact lzT))) hgrow1 hown1)
    clear S0 hown1 hgrow1 hat1 hg1 d0 d1 d2 d3 d4 db i2 hS0
    go_wp2
    go_meet
    rw [hw.out]
    exact ⟨_,_,rfl,wordsB_keep S1.out (by (first | exact gwT | exact lzT))⟩
  case rest =>
   clear S0 d0 d1 d2 d3 d4 db i2 hS
   obtain ⟨oa1,oc1,rfl,S1⟩ := hcut
   rename World => wx1
   have hl1 : (wordsC il tc).length ≤ 3 := by unfold wordsC;split <;> simp
   obtain ⟨T1,hT1⟩ : ∃ T,wordsC il tc = T := ⟨_,rfl⟩
   rw [hT1] at S1 hl1 ⊢
   obtain ⟨d0,d1,d2,d3,d4,db⟩ := wcells S1.act
   have i2 := InW.mk db
   have F1 := Lib.hid (fun wx (hb : Below wx1.heap.size wx1 wx) => F.out wx (S1.env.trans (hb.mono S1.env.size)))
   replace S1 := Lib.hid S1
   replace hT1 := Lib.hid hT1
   go_upto_region 4 with (fail)
   go_cut [4] (fun v4 wx => ∃ fb : Nat,v4 = .pointer (some ⟨fb,0,none⟩) ∧ WordsAt w fb (.string fw) (.bool true) (.bool f2) (.bool f3) (.bool f4) (.int .i64 k) (.slice io il ic) (.string name) (.slice xo xl xc) (.int .i64 nn) (.slice oa1 T1.length oc1) T1.length (T1.map Value.string) wx)
   case first =>
    clear hX hN F hW hT1
    go_wp2_with ((with_reducible refine ((F1.out _ (by (first | exact gwT | exact lzT)))).mono ?_);intro e w1 hr;obtain ⟨rfl,p,rfl⟩ := hr.out;clear hr)
    go_meet
    exact ⟨_,rfl,owns_below S1.out.own (by (first | exact gwT | exact lzT)),heap_alloc_new _ _,blk_keep S1.out.act (by (first | exact gwT | exact lzT)),S1.out.env.trans (Below.mono (by (first | exact gwT | exact lzT)) S1.out.env.size)⟩
   case rest =>
    clear S1 d0 d1 d2 d3 d4 db i2 F1 F
    obtain ⟨fb,rfl,S2⟩ := hcut
    rename World => wx2
    obtain ⟨c0,c1,c2,c3,c4,cb⟩ := wcells S2.form
    obtain ⟨d0,d1,d2,d3,d4,db⟩ := wcells S2.act
    have i1 := InW.mk cb
    have i2 := InW.mk db
    replace S2 := Lib.hid S2
    go_wp2_with (at_builtin;refine wpList_append_lies _ rfl _ _ 68 rfl w.heap.size 9 i0 _ 1 16 Tryz.underlying68 hi0 hz1 hz2 hz3 rfl (by decide) (.slice oa1 T1.length oc1) T1.length (T1.map Value.string) rfl (owns_below S2.out.own (by (first | exact gwT | exact lzT))) ⟨_,0,none⟩ 1 1 [.string fw] rfl rfl (World.news_of_block (new_at (by simp))) (by intro u hu;simp at hu;subst hu;rfl) (by decide) (by unfold maxLen;omega) (by omega) (Nat.le_trans S2.out.env.size (Below.size (B := wx2.heap.size) (w := wx2) (by (first | exact gwT | exact lzT)))) _ rfl ?_)
    intro g2 cap2 wx3 hown2 hgrow2 hat2 hg2
    have S3 := words_grown (words_keep S2.out (by (first | exact gwT | exact lzT))) hgrow2 hown2
    rw [show T1.map Value.string ++ [Value.string fw] = (T1 ++ [fw]).map Value.string by simp,show T1.length + 1 = (T1 ++ [fw]).length by simp] at S3
    have hl2 : (T1 ++ [fw]).length ≤ 4 := by simp;omega
    rw [show T1.length + 1 = (T1 ++ [fw]).length by simp]
    obtain ⟨T2,hT2⟩ : ∃ T,T1 ++ [fw] = T := ⟨_,rfl⟩
    rw [hT2] at S3 hl2 ⊢
    replace hT2 := Lib.hid hT2
    clear S2 c0 c1 c2 c3 c4 cb d0 d1 d2 d3 d4 db i1 i2 hown2 hgrow2 hat2 hg2
    obtain ⟨c0,c1,c2,c3,c4,cb⟩ := wcells S3.form
    obtain ⟨d0,d1,d2,d3,d4,db⟩ := wcells S3.act
    have i1 := InW.mk cb
    have i2 := InW.mk db
    replace S3 := Lib.hid S3
    go_wp2_with (at_builtin;refine wpList_append_lies _ rfl _ _ 68 rfl w.heap.size 9 i0 _ 1 16 Tryz.underlying68 hi0 hz1 hz2 hz3 rfl (by decide) (.slice (some ⟨g2,0,none⟩) T2.length cap2) T2.length (T2.map Value.string) rfl (owns_below S3.out.own (by (first | exact gwT | exact lzT))) ⟨_,0,none⟩ 1 1 [.string name] rfl rfl (World.news_of_block (new_at (by simp))) (by intro u hu;simp at hu;subst hu;rfl) (by decide) (by unfold maxLen;omega) (by omega) (Nat.le_trans S3.out.env.size (Below.size (B := wx3.heap.size) (w := wx3) (by (first | exact gwT | exact lzT)))) _ rfl ?_)
    intro g4 cap4 wx4 hown4 hgrow4 hat4 hg4
    have S4 := words_grown (words_keep S3.out (by (first | exact gwT | exact lzT))) hgrow4 hown4
    rw [show T2.map Value.string ++ [Value.string name] = (T2 ++ [name]).map Value.string by simp,show T2.length + 1 = (T2 ++ [name]).length by simp] at S4
    have hl4 : (T2 ++ [name]).length ≤ 5 := by simp;omega
    rw [show T2.length + 1 = (T2 ++ [name]).length by simp]
    obtain ⟨T4,hT4⟩ : ∃ T,T2 ++ [name] = T := ⟨_,rfl⟩
    rw [hT4] at S4 hl4 ⊢
    replace hT4 := Lib.hid hT4
    clear S3 c0 c1 c2 c3 c4 cb d0 d1 d2 d3 d4 db i1 i2 hown4 hgrow4 hat4 hg4
    obtain ⟨c0,c1,c2,c3,c4,cb⟩ := wcells S4.form
    obtain ⟨d0,d1,d2,d3,d4,db⟩ := wcells S4.act
    have i1 := InW.mk cb
    have i2 := InW.mk db
    replace S4 := Lib.hid S4
    go_upto_if 34 with (fail)
    go_cut [3] (fun v3 wx => ∃ (oa : Option Addr) (oc : Nat),v3 = .slice oa (T4 ++ (if f3 then [tx] else [])).length oc ∧ WordsAt w fb (.string fw) (.bool true) (.bool f2) (.bool f3) (.bool f4) (.int .i64 k) (.slice io il ic) (.string name) (.slice xo xl xc) (.int .i64 nn) (.slice oa (T4 ++ (if f3 then [tx] else [])).length oc) (T4 ++ (if f3 then [tx] else [])).length ((T4 ++ (if f3 then [tx] else [])).map Value.string) wx)
    case first =>
     clear hW
     cases f3
     ·clear hX hN
      go_wp2
      go_meet
      first | rw [if_neg (by decide),List.append_nil] | rw [if_neg (by simp),List.append_nil]
      exact ⟨_,_,rfl,words_keep S4.out (by (first | exact gwT | exact lzT))⟩
     ·skip
      have hX1 := Lib.hid (fun wx (hk : Below wx4.heap.size wx4 wx) => hX.out rfl wx (S4.out.env.trans (hk.mono S4.out.env.size)))
      clear hX hN
      go_wp2_with (first | ((with_reducible refine ((hX1.out _ (by (first | exact gwT | exact lzT)))).mono ?_);intro e w1 hr;obtain ⟨rfl,p,rfl⟩ := hr.out;clear hr) | (at_builtin;refine wpList_append_lies _ rfl _ _ 68 rfl w.heap.size 9 i0 _ 1 16 Tryz.underlying68 hi0 hz1 hz2 hz3 rfl (by decide) (.slice (some ⟨g4,0,none⟩) T4.length cap4) T4.length (T4.map Value.string) rfl (owns_below S4.out.own (by (first | exact gwT | exact lzT))) ⟨_,0,none⟩ 1 1 [.string tx] rfl rfl (World.news_of_block (new_at (by simp))) (by intro u hu;simp at hu;subst hu;rfl) (by decide) (by unfold maxLen;omega) (by omega) (Nat.le_trans S4.out.env.size (Below.size (B := wx4.heap.size) (w := wx4) (by (first | exact gwT | exact lzT)))) _ rfl ?_))
      intro g2 cap2 wx3 hown2 hgrow2 hat2 hg2
      have SN := words_grown (words_keep S4.out (by (first | exact gwT | exact lzT))) hgrow2 hown2
      rw [show T4.map Value.string ++ [Value.string tx] = (T4 ++ [tx]).map Value.string by simp,show T4.length + 1 = (T4 ++ [tx]).length by simp] at SN
      replace SN := Lib.hid SN
      clear S4 c0 c1 c2 c3 c4 cb d0 d1 d2 d3 d4 db i1 i2 hown2 hgrow2 hat2 hg2
      go_wp2
      go_meet
      first | rw [if_pos rfl] | rw [if_pos trivial]
      exact ⟨_,_,by rw [show T4.length + 1 = (T4 ++ [tx]).length by simp],words_keep SN.out (by (first | exact gwT | exact lzT))⟩
    case rest =>
    clear S4 c0 c1 c2 c3 c4 cb d0 d1 d2 d3 d4 db i1 i2
    obtain ⟨oa5,oc5,rfl,S5⟩ := hcut
    rename World => wx5
    have hl5 : (T4 ++ (if f3 then [tx] else [])).length ≤ 6 := by split <;> simp <;> omega
    obtain ⟨T5,hT5⟩ : ∃ T,T4 ++ (if f3 then [tx] else []) = T := ⟨_,rfl⟩
    rw [hT5] at S5 hl5 ⊢
    replace hT5 := Lib.hid hT5
    obtain ⟨c0,c1,c2,c3,c4,cb⟩ := wcells S5.form
    obtain ⟨d0,d1,d2,d3,d4,db⟩ := wcells S5.act
    have i1 := InW.mk cb
    have i2 := InW.mk db
    replace S5 := Lib.hid S5
    go_upto_if 42 with (fail)
    go_cut [3] (fun v3 wx => ∃ (oa : Option Addr) (oc : Nat),v3 = .slice oa (T5 ++ (if f4 then [tn] else [])).length oc ∧ WordsAt w fb (.string fw) (.bool true) (.bool f2) (.bool f3) (.bool f4) (.int .i64 k) (.slice io il ic) (.string name) (.slice xo xl xc) (.int .i64 nn) (.slice oa (T5 ++ (if f4 then [tn] else [])).length oc) (T5 ++ (if f4 then [tn] else [])).length ((T5 ++ (if f4 then [tn] else [])).map Value.string) wx)
    case first =>
     clear hW
     cases f4
     ·clear hX hN
      go_wp2
      go_meet
      first | rw [if_neg (by decide),List.append_nil] | rw [if_neg (by simp),List.append_nil]
      exact ⟨_,_,rfl,words_keep S5.out (by (first | exact gwT | exact lzT))⟩
     ·skip
      have hN1 := Lib.hid (fun wx (hk : Below wx5.heap.size wx5 wx) => hN.out rfl wx (S5.out.env.trans (hk.mono S5.out.env.size)))
      clear hX hN
      go_wp2_with (first | ((with_reducible refine ((hN1.out _ (by (first | exact gwT | exact lzT)))).mono ?_);intro e w1 hr;obtain ⟨rfl,p,rfl⟩ := hr.out;clear hr) | (at_builtin;refine wpList_append_lies _ rfl _ _ 68 rfl w.heap.size 9 i0 _ 1 16 Tryz.underlying68 hi0 hz1 hz2 hz3 rfl (by decide) (.slice oa5 T5.length oc5) T5.length (T5.map Value.string) rfl (owns_below S5.out.own (by (first | exact gwT | exact lzT))) ⟨_,0,none⟩ 1 1 [.string tn] rfl rfl (World.news_of_block (new_at (by simp))) (by intro u hu;simp at hu;subst hu;rfl) (by decide) (by unfold maxLen;omega) (by omega) (Nat.le_trans S5.out.env.size (Below.size (B := wx5.heap.size) (w := wx5) (by (first | exact gwT | exact lzT)))) _ rfl ?_))
      intro g2 cap2 wx3 hown2 hgrow2 hat2 hg2
      have SN := words_grown (words_keep S5.out (by (first | exact gwT | exact lzT))) hgrow2 hown2
      rw [show T5.map Value.string ++ [Value.string tn] = (T5 ++ [tn]).map Value.string by simp,show T5.length + 1 = (T5 ++ [tn]).length by simp] at SN
      replace SN := Lib.hid SN
      clear S5 c0 c1 c2 c3 c4 cb d0 d1 d2 d3 d4 db i1 i2 hown2 hgrow2 hat2 hg2
      go_wp2
      go_meet
      first | rw [if_pos rfl] | rw [if_pos trivial]
      exact ⟨_,_,by rw [show T5.length + 1 = (T5 ++ [tn]).length by simp],words_keep SN.out (by (first | exact gwT | exact lzT))⟩
    case rest =>
    clear S5 c0 c1 c2 c3 c4 cb d0 d1 d2 d3 d4 db i1 i2
    obtain ⟨oa6,oc6,rfl,S6⟩ := hcut
    rename World => wx6
    have hl6 : (T5 ++ (if f4 then [tn] else [])).length ≤ 7 := by split <;> simp <;> omega
    obtain ⟨T6,hT6⟩ : ∃ T,T5 ++ (if f4 then [tn] else []) = T := ⟨_,rfl⟩
    rw [hT6] at S6 hl6 ⊢
    replace hT6 := Lib.hid hT6
    have hfin := Lib.hid S6.own
    have hb := S6.env
    clear S6 hX hN
    go_wp2
    go_returns
    have e : W = T6 := by
     rw [← hW.out,← hT6.out,← hT5.out,← hT4.out,← hT2.out,← hT1.out]
     rfl
    rw [e]
    exact ⟨_,rfl,hfin.out,by (first | exact gwT | exact lzT)⟩
set_option maxRecDepth 100000 in
set_option maxHeartbeats 4000000 in
theorem words_F (k : Int) (name : ByteArray) (io : Option Addr) (il ic : Nat) (xo : Option Addr) (xl xc : Nat) (nn : Int) (fw : ByteArray) (f2 f3 f4 : Bool) (tc tx tn : ByteArray) (w : World)
  (F : ∀ wx,Below w.heap.size w wx → Calls Tryz.prog 140 #[.agg #[.int .i64 k,.slice io il ic,.string name,.slice xo xl xc,.int .i64 nn]] wx (Ret (.agg #[.string fw,.bool false,.bool f2,.bool f3,.bool f4]) wx))
  (hS : 0 < il → ∀ wx,Below w.heap.size w wx → Calls Tryz.prog 91 #[.slice io il ic] wx (Ret (.string tc) wx))
  (hX : f3 = true → ∀ wx,Below w.heap.size w wx → Calls Tryz.prog 91 #[.slice xo xl xc] wx (Ret (.string tx) wx))
  (hN : f4 = true → ∀ wx,Below w.heap.size w wx → Calls Tryz.prog 94 #[.int .i64 nn,.int .i64 10] wx (Ret (.string tn) wx)) :
  Calls Tryz.prog 93 #[.agg #[.int .i64 k,.slice io il ic,.string name,.slice xo xl xc,.int .i64 nn]] w (WordsIs (wordsG il fw name false f2 f3 f4 tc tx tn) w) := by
 obtain ⟨i0,hi0,hz1,hz2,hz3⟩ := info_parts Tryz.infoStr
 obtain ⟨W,hW⟩ : ∃ W,wordsG il fw name false f2 f3 f4 tc tx tn = W := ⟨_,rfl⟩
 rw [hW]
 replace hW := Lib.hid hW
 replace F := Lib.hid F
 replace hS := Lib.hid hS
 replace hX := Lib.hid hX
 replace hN := Lib.hid hN
 go_enter Tryz.func93,Tryz.ntmps93
 go_upto_region 1 with (fail)
 go_cut [3] (fun v3 wx => ∃ (oa : Option Addr) (oc : Nat),v3 = .slice oa 0 oc ∧ WordsBt w (.int .i64 k) (.slice io il ic) (.string name) (.slice xo xl xc) (.int .i64 nn) (.slice oa 0 oc) 0 [] wx)
 case first =>
  go_wp2
  go_meet
  exact ⟨none,0,rfl,World.ownsRow_nil _ _ _ _,heap_alloc_new w _,by (first | exact gwT | exact lzT)⟩
 case rest =>
  obtain ⟨oa,oc,rfl,S0⟩ := hcut
  rename World => wx0
  obtain ⟨d0,d1,d2,d3,d4,db⟩ := wcells S0.act
  have i2 := InW.mk db
  replace S0 := Lib.hid S0
  go_upto_if 8 with (fail)
  go_cut [3] (fun v3 wx => ∃ (oa : Option Addr) (oc : Nat),v3 = .slice oa (wordsC il tc).length oc ∧ WordsBt w (.int .i64 k) (.slice io il ic) (.string name) (.slice xo xl xc) (.int .i64 nn) (.slice oa (wordsC il tc).length oc) (wordsC il tc).length ((wordsC il tc).map Value.string) wx)
  case first =>
   clear hX hN F hW
   by_cases h0 : il = 0
   ·have hw : wordsC il tc = [] := if_pos h0
    replace hw := Lib.hid hw
    have hilI : ¬ (0 : Int) < (il : Int) := by omega
    clear h0 hS
    go_wp2
    go_meet
    rw [hw.out]
    exact ⟨oa,oc,rfl,wordsB_keep S0.out (by (first | exact gwT | exact lzT))⟩
   ·have hw : wordsC il tc = [⟨#[105,102]⟩,tc,⟨#[58]⟩] := if_neg h0
    replace hw := Lib.hid hw
    have hilI : (0 : Int) < (il : Int) := by omega
    have hS0 := Lib.hid (fun wx (hb : Below wx0.heap.size wx0 wx) => hS.out (by omega) wx (S0.out.env.trans (hb.mono S0.out.env.size)))
    clear h0 hS
    go_wp2_with (first | ((with_reducible refine ((hS0.out _ (by (first | exact gwT | exact lzT)))).mono ?_);intro e w1 hr;obtain ⟨rfl,p,rfl⟩ := hr.out;clear hr) | (at_builtin;refine wpList_append_lies _ rfl _ _ 68 rfl w.heap.size 9 i0 _ 1 16 Tryz.underlying68 hi0 hz1 hz2 hz3 rfl (by decide) (.slice oa 0 oc) 0 [] rfl (owns_below S0.out.own (by (first | exact gwT | exact lzT))) ⟨_,0,none⟩ 3 3 [.string ⟨#[105,102]⟩,.string tc,.string ⟨#[58]⟩] rfl rfl (World.news_of_block (new_at (by simp))) (by intro u hu;simp at hu;rcases hu with rfl | rfl | rfl <;> rfl) (by decide) (by unfold maxLen;omega) (by omega) (Nat.le_trans S0.out.env.size (Below.size (B := wx0.heap.size) (w := wx0) (by (first | exact gwT | exact lzT)))) _ rfl ?_))
    intro g0 cap0 wx1 hown1 hgrow1 hat1 hg1
    have S1 := Lib.hid (wordsB_grown (wordsB_keep S0.out (by (first | exact gwT | exact lzT))) hgrow1 hown1)
    clear S0 hown1 hgrow1 hat1 hg1 d0 d1 d2 d3 d4 db i2 hS0
    go_wp2
    go_meet
    rw [hw.out]
    exact ⟨_,_,rfl,wordsB_keep S1.out (by (first | exact gwT | exact lzT))⟩
  case rest =>
   clear S0 d0 d1 d2 d3 d4 db i2 hS
   obtain ⟨oa1,oc1,rfl,S1⟩ := hcut
   rename World => wx1
   have hl1 : (wordsC il tc).length ≤ 3 := by unfold wordsC;split <;> simp
   obtain ⟨T1,hT1⟩ : ∃ T,wordsC il tc = T := ⟨_,rfl⟩
   rw [hT1] at S1 hl1 ⊢
   obtain ⟨d0,d1,d2,d3,d4,db⟩ := wcells S1.act
   have i2 := InW.mk db
   have F1 := Lib.hid (fun wx (hb : Below wx1.heap.size wx1 wx) => F.out wx (S1.env.trans (hb.mono S1.env.size)))
   replace S1 := Lib.hid S1
   replace hT1 := Lib.hid hT1
   go_upto_region 4 with (fail)
   go_cut [4] (fun v4 wx => ∃ fb : Nat,v4 = .pointer (some ⟨fb,0,none⟩) ∧ WordsAt w fb (.string fw) (.bool false) (.bool f2) (.bool f3) (.bool f4) (.int .i64 k) (.slice io il ic) (.string name) (.slice xo xl xc) (.int .i64 nn) (.slice oa1 T1.length oc1) T1.length (T1.map Value.string) wx)
   case first =>
    clear hX hN F hW hT1
    go_wp2_with ((with_reducible refine ((F1.out _ (by (first | exact gwT | exact lzT)))).mono ?_);intro e w1 hr;obtain ⟨rfl,p,rfl⟩ := hr.out;clear hr)
    go_meet
    exact ⟨_,rfl,owns_below S1.out.own (by (first | exact gwT | exact lzT)),heap_alloc_new _ _,blk_keep S1.out.act (by (first | exact gwT | exact lzT)),S1.out.env.trans (Below.mono (by (first | exact gwT | exact lzT)) S1.out.env.size)⟩
   case rest =>
    clear S1 d0 d1 d2 d3 d4 db i2 F1 F
    obtain ⟨fb,rfl,S2⟩ := hcut
    rename World => wx2
    obtain ⟨c0,c1,c2,c3,c4,cb⟩ := wcells S2.form
    obtain ⟨d0,d1,d2,d3,d4,db⟩ := wcells S2.act
    have i1 := InW.mk cb
    have i2 := InW.mk db
    replace S2 := Lib.hid S2
    go_wp2_with (at_builtin;refine wpList_append_lies _ rfl _ _ 68 rfl w.heap.size 9 i0 _ 1 16 Tryz.underlying68 hi0 hz1 hz2 hz3 rfl (by decide) (.slice oa1 T1.length oc1) T1.length (T1.map Value.string) rfl (owns_below S2.out.own (by (first | exact gwT | exact lzT))) ⟨_,0,none⟩ 1 1 [.string fw] rfl rfl (World.news_of_block (new_at (by simp))) (by intro u hu;simp at hu;subst hu;rfl) (by decide) (by unfold maxLen;omega) (by omega) (Nat.le_trans S2.out.env.size (Below.size (B := wx2.heap.size) (w := wx2) (by (first | exact gwT | exact lzT)))) _ rfl ?_)
    intro g2 cap2 wx3 hown2 hgrow2 hat2 hg2
    have S3 := words_grown (words_keep S2.out (by (first | exact gwT | exact lzT))) hgrow2 hown2
    rw [show T1.map Value.string ++ [Value.string fw] = (T1 ++ [fw]).map Value.string by simp,show T1.length + 1 = (T1 ++ [fw]).length by simp] at S3
    have hl2 : (T1 ++ [fw]).length ≤ 4 := by simp;omega
    rw [show T1.length + 1 = (T1 ++ [fw]).length by simp]
    obtain ⟨T2,hT2⟩ : ∃ T,T1 ++ [fw] = T := ⟨_,rfl⟩
    rw [hT2] at S3 hl2 ⊢
    replace hT2 := Lib.hid hT2
    clear S2 c0 c1 c2 c3 c4 cb d0 d1 d2 d3 d4 db i1 i2 hown2 hgrow2 hat2 hg2
    obtain ⟨c0,c1,c2,c3,c4,cb⟩ := wcells S3.form
    obtain ⟨d0,d1,d2,d3,d4,db⟩ := wcells S3.act
    have i1 := InW.mk cb
    have i2 := InW.mk db
    replace S3 := Lib.hid S3
    go_upto_if 27 with (fail)
    go_cut [3] (fun v3 wx => ∃ (oa : Option Addr) (oc : Nat),v3 = .slice oa (T2 ++ (if f2 then [name] else [])).length oc ∧ WordsAt w fb (.string fw) (.bool false) (.bool f2) (.bool f3) (.bool f4) (.int .i64 k) (.slice io il ic) (.string name) (.slice xo xl xc) (.int .i64 nn) (.slice oa (T2 ++ (if f2 then [name] else [])).length oc) (T2 ++ (if f2 then [name] else [])).length ((T2 ++ (if f2 then [name] else [])).map Value.string) wx)
    case first =>
     clear hW
     cases f2
     ·clear hX hN
      go_wp2
      go_meet
      first | rw [if_neg (by decide),List.append_nil] | rw [if_neg (by simp),List.append_nil]
      exact ⟨_,_,rfl,words_keep S3.out (by (first | exact gwT | exact lzT))⟩
     ·skip
      clear hX hN
      go_wp2_with ((at_builtin;refine wpList_append_lies _ rfl _ _ 68 rfl w.heap.size 9 i0 _ 1 16 Tryz.underlying68 hi0 hz1 hz2 hz3 rfl (by decide) (.slice (some ⟨g2,0,none⟩) T2.length cap2) T2.length (T2.map Value.string) rfl (owns_below S3.out.own (by (first | exact gwT | exact lzT))) ⟨_,0,none⟩ 1 1 [.string name] rfl rfl (World.news_of_block (new_at (by simp))) (by intro u hu;simp at hu;subst hu;rfl) (by decide) (by unfold maxLen;omega) (by omega) (Nat.le_trans S3.out.env.size (Below.size (B := wx3.heap.size) (w := wx3) (by (first | exact gwT | exact lzT)))) _ rfl ?_))
      intro g2 cap2 wx3 hown2 hgrow2 hat2 hg2
      have SN := words_grown (words_keep S3.out (by (first | exact gwT | exact lzT))) hgrow2 hown2
      rw [show T2.map Value.string ++ [Value.string name] = (T2 ++ [name]).map Value.string by simp,show T2.length + 1 = (T2 ++ [name]).length by simp] at SN
      replace SN := Lib.hid SN
      clear S3 c0 c1 c2 c3 c4 cb d0 d1 d2 d3 d4 db i1 i2 hown2 hgrow2 hat2 hg2
      go_wp2
      go_meet
      first | rw [if_pos rfl] | rw [if_pos trivial]
      exact ⟨_,_,by rw [show T2.length + 1 = (T2 ++ [name]).length by simp],words_keep SN.out (by (first | exact gwT | exact lzT))⟩
    case rest =>
    clear S3 c0 c1 c2 c3 c4 cb d0 d1 d2 d3 d4 db i1 i2
    obtain ⟨oa4,oc4,rfl,S4⟩ := hcut
    rename World => wx4
    have hl4 : (T2 ++ (if f2 then [name] else [])).length ≤ 5 := by split <;> simp <;> omega
    obtain ⟨T4,hT4⟩ : ∃ T,T2 ++ (if f2 then [name] else []) = T := ⟨_,rfl⟩
    rw [hT4] at S4 hl4 ⊢
    replace hT4 := Lib.hid hT4
    obtain ⟨c0,c1,c2,c3,c4,cb⟩ := wcells S4.form
    obtain ⟨d0,d1,d2,d3,d4,db⟩ := wcells S4.act
    have i1 := InW.mk cb
    have i2 := InW.mk db
    replace S4 := Lib.hid S4
    go_upto_if 34 with (fail)
    go_cut [3] (fun v3 wx => ∃ (oa : Option Addr) (oc : Nat),v3 = .slice oa (T4 ++ (if f3 then [tx] else [])).length oc ∧ WordsAt w fb (.string fw) (.bool false) (.bool f2) (.bool f3) (.bool f4) (.int .i64 k) (.slice io il ic) (.string name) (.slice xo xl xc) (.int .i64 nn) (.slice oa (T4 ++ (if f3 then [tx] else [])).length oc) (T4 ++ (if f3 then [tx] else [])).length ((T4 ++ (if f3 then [tx] else [])).map Value.string) wx)
    case first =>
     clear hW
     cases f3
     ·clear hX hN
      go_wp2
      go_meet
      first | rw [if_neg (by decide),List.append_nil] | rw [if_neg (by simp),List.append_nil]
      exact ⟨_,_,rfl,words_keep S4.out (by (first | exact gwT | exact lzT))⟩
     ·skip
      have hX1 := Lib.hid (fun wx (hk : Below wx4.heap.size wx4 wx) => hX.out rfl wx (S4.out.env.trans (hk.mono S4.out.env.size)))
      clear hX hN
      go_wp2_with (first | ((with_reducible refine ((hX1.out _ (by (first | exact gwT | exact lzT)))).mono ?_);intro e w1 hr;obtain ⟨rfl,p,rfl⟩ := hr.out;clear hr) | (at_builtin;refine wpList_append_lies _ rfl _ _ 68 rfl w.heap.size 9 i0 _ 1 16 Tryz.underlying68 hi0 hz1 hz2 hz3 rfl (by decide) (.slice oa4 T4.length oc4) T4.length (T4.map Value.string) rfl (owns_below S4.out.own (by (first | exact gwT | exact lzT))) ⟨_,0,none⟩ 1 1 [.string tx] rfl rfl (World.news_of_block (new_at (by simp))) (by intro u hu;simp at hu;subst hu;rfl) (by decide) (by unfold maxLen;omega) (by omega) (Nat.le_trans S4.out.env.size (Below.size (B := wx4.heap.size) (w := wx4) (by (first | exact gwT | exact lzT)))) _ rfl ?_))
      intro g2 cap2 wx3 hown2 hgrow2 hat2 hg2
      have SN := words_grown (words_keep S4.out (by (first | exact gwT | exact lzT))) hgrow2 hown2
      rw [show T4.map Value.string ++ [Value.string tx] = (T4 ++ [tx]).map Value.string by simp,show T4.length + 1 = (T4 ++ [tx]).length by simp] at SN
      replace SN := Lib.hid SN
      clear S4 c0 c1 c2 c3 c4 cb d0 d1 d2 d3 d4 db i1 i2 hown2 hgrow2 hat2 hg2
      go_wp2
      go_meet
      first | rw [if_pos rfl] | rw [if_pos trivial]
      exact ⟨_,_,by rw [show T4.length + 1 = (T4 ++ [tx]).length by simp],words_keep SN.out (by (first | exact gwT | exact lzT))⟩
    case rest =>
    clear S4 c0 c1 c2 c3 c4 cb d0 d1 d2 d3 d4 db i1 i2
    obtain ⟨oa5,oc5,rfl,S5⟩ := hcut
    rename World => wx5
    have hl5 : (T4 ++ (if f3 then [tx] else [])).length ≤ 6 := by split <;> simp <;> omega
    obtain ⟨T5,hT5⟩ : ∃ T,T4 ++ (if f3 then [tx] else []) = T := ⟨_,rfl⟩
    rw [hT5] at S5 hl5 ⊢
    replace hT5 := Lib.hid hT5
    obtain ⟨c0,c1,c2,c3,c4,cb⟩ := wcells S5.form
    obtain ⟨d0,d1,d2,d3,d4,db⟩ := wcells S5.act
    have i1 := InW.mk cb
    have i2 := InW.mk db
    replace S5 := Lib.hid S5
    go_upto_if 42 with (fail)
    go_cut [3] (fun v3 wx => ∃ (oa : Option Addr) (oc : Nat),v3 = .slice oa (T5 ++ (if f4 then [tn] else [])).length oc ∧ WordsAt w fb (.string fw) (.bool false) (.bool f2) (.bool f3) (.bool f4) (.int .i64 k) (.slice io il ic) (.string name) (.slice xo xl xc) (.int .i64 nn) (.slice oa (T5 ++ (if f4 then [tn] else [])).length oc) (T5 ++ (if f4 then [tn] else [])).length ((T5 ++ (if f4 then [tn] else [])).map Value.string) wx)
    case first =>
     clear hW
     cases f4
     ·clear hX hN
      go_wp2
      go_meet
      first | rw [if_neg (by decide),List.append_nil] | rw [if_neg (by simp),List.append_nil]
      exact ⟨_,_,rfl,words_keep S5.out (by (first | exact gwT | exact lzT))⟩
     ·skip
      have hN1 := Lib.hid (fun wx (hk : Below wx5.heap.size wx5 wx) => hN.out rfl wx (S5.out.env.trans (hk.mono S5.out.env.size)))
      clear hX hN
      go_wp2_with (first | ((with_reducible refine ((hN1.out _ (by (first | exact gwT | exact lzT)))).mono ?_);intro e w1 hr;obtain ⟨rfl,p,rfl⟩ := hr.out;clear hr) | (at_builtin;refine wpList_append_lies _ rfl _ _ 68 rfl w.heap.size 9 i0 _ 1 16 Tryz.underlying68 hi0 hz1 hz2 hz3 rfl (by decide) (.slice oa5 T5.length oc5) T5.length (T5.map Value.string) rfl (owns_below S5.out.own (by (first | exact gwT | exact lzT))) ⟨_,0,none⟩ 1 1 [.string tn] rfl rfl (World.news_of_block (new_at (by simp))) (by intro u hu;simp at hu;subst hu;rfl) (by decide) (by unfold maxLen;omega) (by omega) (Nat.le_trans S5.out.env.size (Below.size (B := wx5.heap.size) (w := wx5) (by (first | exact gwT | exact lzT)))) _ rfl ?_))
      intro g2 cap2 wx3 hown2 hgrow2 hat2 hg2
      have SN := words_grown (words_keep S5.out (by (first | exact gwT | exact lzT))) hgrow2 hown2
      rw [show T5.map Value.string ++ [Value.string tn] = (T5 ++ [tn]).map Value.string by simp,show T5.length + 1 = (T5 ++ [tn]).length by simp] at SN
      replace SN := Lib.hid SN
      clear S5 c0 c1 c2 c3 c4 cb d0 d1 d2 d3 d4 db i1 i2 hown2 hgrow2 hat2 hg2
      go_wp2
      go_meet
      first | rw [if_pos rfl] | rw [if_pos trivial]
      exact ⟨_,_,by rw [show T5.length + 1 = (T5 ++ [tn]).length by simp],words_keep SN.out (by (first | exact gwT | exact lzT))⟩
    case rest =>
    clear S5 c0 c1 c2 c3 c4 cb d0 d1 d2 d3 d4 db i1 i2
    obtain ⟨oa6,oc6,rfl,S6⟩ := hcut
    rename World => wx6
    have hl6 : (T5 ++ (if f4 then [tn] else [])).length ≤ 7 := by split <;> simp <;> omega
    obtain ⟨T6,hT6⟩ : ∃ T,T5 ++ (if f4 then [tn] else []) = T := ⟨_,rfl⟩
    rw [hT6] at S6 hl6 ⊢
    replace hT6 := Lib.hid hT6
    have hfin := Lib.hid S6.own
    have hb := S6.env
    clear S6 hX hN
    go_wp2
    go_returns
    have e : W = T6 := by
     rw [← hW.out,← hT6.out,← hT5.out,← hT4.out,← hT2.out,← hT1.out]
     rfl
    rw [e]
    exact ⟨_,rfl,hfin.out,by (first | exact gwT | exact lzT)⟩
end Go.Proofs.YtfmaomoifkplbaaGreatDoor
namespace Go.Proofs.YtfmaomoifkplbaaGreatDoor
open Go.RowKit
def headT (ev : ByteArray) : List ByteArray := if ev = ⟨#[]⟩ then [⟨#[97,117,116,111]⟩] else [⟨#[111,110]⟩,ev]
def ifT (il : Nat) (tc : ByteArray) : List ByteArray := if il = 0 then [] else [⟨#[105,102]⟩,tc]
def goT (gs : List ByteArray) : List ByteArray := if gs.length = 0 then [] else ⟨#[103,111]⟩ :: gs
def inT (inn : Bool) : List ByteArray := if inn then [⟨#[105,110,110,101,114]⟩] else []
def doT (tl : Nat) (td : ByteArray) : List ByteArray := if tl = 0 then [] else [⟨#[100,111]⟩,td]
def transW (ev : ByteArray) (il : Nat) (tc : ByteArray) (gs : List ByteArray) (inn : Bool) (tl : Nat) (td : ByteArray) : List ByteArray :=
 headT ev ++ ifT il tc ++ goT gs ++ inT inn ++ doT tl td
structure TrAt (w : World) (a0 a1 a2 a3 a4 : Value) (v : Value) (n : Nat) (ts : List Value) (wx : World) : Prop where
 own : wx.ownsRow w.heap.size 9 1 v n ts
 box : wx.heap[w.heap.size]? = some (.cells #[a0,a1,a2,a3,a4] 70 (0,0))
 env : Below w.heap.size w wx
theorem tr_keep {w wx wy : World} {a0 a1 a2 a3 a4 v : Value} {n : Nat} {ts : List Value} (h : TrAt w a0 a1 a2 a3 a4 v n ts wx) (hb : Below wx.heap.size wx wy) : TrAt w a0 a1 a2 a3 a4 v n ts wy :=
 ⟨owns_below h.own hb,blk_keep h.box hb,h.env.trans (hb.mono h.env.size)⟩
theorem tr_grown {w wx wy : World} {a0 a1 a2 a3 a4 v v' : Value} {n n' : Nat} {ts us : List Value} (h : TrAt w a0 a1 a2 a3 a4 v n ts wx) (hg : wx.grownBy wy v.ownBlock) (ho : wy.ownsRow w.heap.size 9 1 v' n' (ts ++ us)) : TrAt w a0 a1 a2 a3 a4 v' n' (ts ++ us) wy :=
 ⟨ho,grown_blk h.own h.box (by decide) hg,Below.grown h.env hg h.env.size (fun k hk => (h.own.lt k hk).1)⟩
theorem emptyB (ev : ByteArray) : ev.toList.isEmpty = decide (ev = ⟨#[]⟩) := by
 rw [Lib.toList_data]
 obtain ⟨⟨l⟩⟩ := ev
 cases l with
 | nil => rfl
 | cons c r =>
  rw [decide_eq_false (by simp)]
  rfl
theorem texts_news {w : World} {g : Nat} {gs : List ByteArray} (h : ∀ j (hj : j < gs.length),w.cell? ⟨g,j,none⟩ = some (.string gs[j])) : ∀ j u,(gs.map Value.string)[j]? = some u → w.cell? ((⟨g,0,none⟩ : Addr).add j) = some u := fun j u hu => by
 have hadd : (⟨g,0,none⟩ : Addr).add j = ⟨g,j,none⟩ := by unfold Addr.add;split <;> simp_all
 rw [List.getElem?_map] at hu
 obtain ⟨t,ht,rfl⟩ := Option.map_eq_some_iff.1 hu
 obtain ⟨hj,rfl⟩ := List.getElem?_eq_some_iff.1 ht
 rw [hadd,h j hj]
theorem texts_one (gs : List ByteArray) : ∀ u ∈ gs.map Value.string,u.oneCell' = true := by
 intro u hu
 obtain ⟨t,_,rfl⟩ := List.mem_map.1 hu
 rfl
theorem own_new {w : World} {b base n : Nat} (cs : Array Value) (hb : b = w.heap.size) (hB : base ≤ w.heap.size) (hn : cs.size = n * 1) (hm : n ≤ maxLen) : (w.alloc (.cells cs 9 (0,0))).ownsRow base 9 1 (.slice (some ⟨b,0,none⟩) n n) n cs.toList := by
 rw [hb]
 exact World.ownsRow_lit w cs n hB hm hn
theorem headT_pos (ev : ByteArray) : 1 ≤ (headT ev).length ∧ (headT ev).length ≤ 2 := by unfold headT;split <;> simp
set_option maxRecDepth 100000 in
set_option maxHeartbeats 4000000 in
theorem ltshow_any (ev : ByteArray) (io : Option Addr) (il ic : Nat) (g gc : Nat) (go : Option Addr) (gs : List ByteArray) (inn : Bool) (to' : Option Addr) (tl tc' : Nat) (tc td : ByteArray) (w : World) (hw : Al w)
  (hgs : gs.length ≤ 100) (hgo : 0 < gs.length → go = some ⟨g,0,none⟩ ∧ g < w.heap.size ∧ ∀ j (h : j < gs.length),w.cell? ⟨g,j,none⟩ = some (.string gs[j]))
  (hS : 0 < il → ∀ wx,Below w.heap.size w wx → Calls Tryz.prog 91 #[.slice io il ic] wx (Ret (.string tc) wx))
  (hD : 0 < tl → ∀ wx,Below w.heap.size w wx → Calls Tryz.prog 44 #[.slice to' tl tc'] wx (Ret (.string td) wx))
  (hlen : (joinB (transW ev il tc gs inn tl td) spB).length ≤ 900000) :
  Calls Tryz.prog 43 #[.agg #[.string ev,.slice io il ic,.slice go gs.length gc,.bool inn,.slice to' tl tc']] w (Ret (.string ⟨(joinB (transW ev il tc gs inn tl td) spB).toArray⟩) w) := by
 obtain ⟨i0,hi0,hz1,hz2,hz3⟩ := info_parts Tryz.infoStr
 obtain ⟨W,hW⟩ : ∃ W,transW ev il tc gs inn tl td = W := ⟨_,rfl⟩
 rw [hW] at hlen ⊢
 replace hW := Lib.hid hW
 replace hS := Lib.hid hS
 replace hD := Lib.hid hD
 replace hgo := Lib.hid hgo
 obtain ⟨res,hres⟩ : ∃ x : ByteArray,(⟨(joinB W spB).toArray⟩ : ByteArray) = x := ⟨_,rfl⟩
 rw [hres]
 replace hres := Lib.hid hres
 have l10 := lw_word hw.lw 10 (by decide)
 have l11 := lw_word hw.lw 11 (by decide)
 have hgl := lw_lt hw.lw
 simp only [show (⟨(lwL 10).toArray⟩ : ByteArray) = ⟨#[111,110]⟩ from rfl,show (⟨(lwL 11).toArray⟩ : ByteArray) = ⟨#[97,117,116,111]⟩ from rfl] at l10 l11
 have ig : InW 0 w := ⟨hgl⟩
 clear hw
 go_enter Tryz.func43,Tryz.ntmps43
 go_upto_region 2 with (fail)
 go_upto_if 9 with (fail)
 go_cut [3] (fun v3 wx => ∃ (oa : Option Addr) (oc : Nat),v3 = .slice oa (headT ev).length oc ∧ TrAt w (.string ev) (.slice io il ic) (.slice go gs.length gc) (.bool inn) (.slice to' tl tc') (.slice oa (headT ev).length oc) (headT ev).length ((headT ev).map Value.string) wx)
 case first =>
  clear hW hS hD hgo hres hlen hgs
  by_cases he : ev = ⟨#[]⟩
  ·have hh : headT ev = [⟨#[97,117,116,111]⟩] := if_pos he
   have hb : (!ev.toList.isEmpty) = false := by rw [emptyB,he];rfl
   rw [hb]
   replace hh := Lib.hid hh
   replace he := Lib.hid he
   go_wp2
   go_meet
   rw [hh.out]
   exact ⟨_,_,rfl,own_new #[.string ⟨#[97,117,116,111]⟩] (by simp) (by simp) rfl (by decide),blk_keep (heap_alloc_new w _) (by (first | exact gwT | exact lzT)),by (first | exact gwT | exact lzT)⟩
  ·have hh : headT ev = [⟨#[111,110]⟩,ev] := if_neg he
   have hb : (!ev.toList.isEmpty) = true := by rw [emptyB,decide_eq_false he];rfl
   rw [hb]
   replace hh := Lib.hid hh
   replace he := Lib.hid he
   go_wp2
   go_meet
   rw [hh.out]
   exact ⟨_,_,rfl,own_new #[.string ⟨#[111,110]⟩,.string ev] (by simp) (by simp;omega) rfl (show (2 : Nat) ≤ maxLen by decide),blk_keep (heap_alloc_new w _) (by (first | exact gwT | exact lzT)),by (first | exact gwT | exact lzT)⟩
 case rest =>
  obtain ⟨oa0,oc0,rfl,S0⟩ := hcut
  rename World => wx0
  have hl0 := (headT_pos ev).2
  have hp0 := (headT_pos ev).1
  obtain ⟨T0,hT0⟩ : ∃ T,headT ev = T := ⟨_,rfl⟩
  rw [hT0] at S0 hl0 hp0 ⊢
  replace hT0 := Lib.hid hT0
  clear l10 l11 ig hgl
  obtain ⟨d0,d1,d2,d3,d4,db⟩ := wcells S0.box
  have i2 := InW.mk db
  replace S0 := Lib.hid S0
  go_upto_if 18 with (fail)
  go_cut [3] (fun v3 wx => ∃ (oa : Option Addr) (oc : Nat),v3 = .slice oa (T0 ++ ifT il tc).length oc ∧ TrAt w (.string ev) (.slice io il ic) (.slice go gs.length gc) (.bool inn) (.slice to' tl tc') (.slice oa (T0 ++ ifT il tc).length oc) (T0 ++ ifT il tc).length ((T0 ++ ifT il tc).map Value.string) wx)
  case first =>
   clear hW hres hlen
   by_cases h0 : il = 0
   ·have hp : ifT il tc = [] := if_pos h0
    replace hp := Lib.hid hp
    have hilI : ¬ (0 : Int) < (il : Int) := by omega
    clear hS hD hgo h0
    go_wp2
    go_meet
    rw [hp.out,List.append_nil]
    exact ⟨_,_,rfl,tr_keep S0.out (by (first | exact gwT | exact lzT))⟩
   ·have hp : ifT il tc = [⟨#[105,102]⟩,tc] := if_neg h0
    replace hp := Lib.hid hp
    have hilI : (0 : Int) < (il : Int) := by omega
    have hS0 := Lib.hid (fun wx (hb : Below wx0.heap.size wx0 wx) => hS.out (by omega) wx (S0.out.env.trans (hb.mono S0.out.env.size)))
    clear hS hD hgo h0
    go_wp2_with (first | ((with_reducible refine ((hS0.out _ (by (first | exact gwT | exact lzT)))).mono ?_);intro e w1 hr;obtain ⟨rfl,p,rfl⟩ := hr.out;clear hr) | (at_builtin;refine wpList_append_lies _ rfl _ _ 68 rfl w.heap.size 9 i0 _ 1 16 Tryz.underlying68 hi0 hz1 hz2 hz3 rfl (by decide) (.slice oa0 T0.length oc0) T0.length (T0.map Value.string) rfl (owns_below S0.out.own (by (first | exact gwT | exact lzT))) ⟨_,0,none⟩ 2 2 [.string ⟨#[105,102]⟩,.string tc] rfl rfl (World.news_of_block (new_at (by simp))) (by intro u hu;simp at hu;rcases hu with rfl | rfl <;> rfl) (by decide) (by unfold maxLen;omega) (by omega) (Nat.le_trans S0.out.env.size (Below.size (B := wx0.heap.size) (w := wx0) (by (first | exact gwT | exact lzT)))) _ rfl ?_))
    intro g2 cap2 wxn hown2 hgrow2 hat2 hg2
    have SN := tr_grown (tr_keep S0.out (by (first | exact gwT | exact lzT))) hgrow2 hown2
    rw [show T0.map Value.string ++ [.string ⟨#[105,102]⟩,.string tc] = (T0 ++ [⟨#[105,102]⟩,tc]).map Value.string by simp,show T0.length + 2 = (T0 ++ [⟨#[105,102]⟩,tc]).length by simp] at SN
    replace SN := Lib.hid SN
    clear S0 d0 d1 d2 d3 d4 db i2 hown2 hgrow2 hat2 hg2
    go_wp2
    go_meet
    rw [hp.out]
    exact ⟨_,_,by rw [show T0.length + 2 = (T0 ++ [⟨#[105,102]⟩,tc]).length by simp],tr_keep SN.out (by (first | exact gwT | exact lzT))⟩
  case rest =>
  clear hS
  clear S0 d0 d1 d2 d3 d4 db i2
  obtain ⟨oa1,oc1,rfl,S1⟩ := hcut
  rename World => wx1
  have hl1 : (T0 ++ ifT il tc).length ≤ 4 := by
   have := (show (ifT il tc).length ≤ 2 by unfold ifT;split <;> simp)
   rw [List.length_append]
   omega
  obtain ⟨T1,hT1⟩ : ∃ T,T0 ++ ifT il tc = T := ⟨_,rfl⟩
  rw [hT1] at S1 hl1 ⊢
  replace hT1 := Lib.hid hT1
  obtain ⟨d0,d1,d2,d3,d4,db⟩ := wcells S1.box
  have i2 := InW.mk db
  replace S1 := Lib.hid S1
  go_upto_if 28 with (fail)
  go_cut [3] (fun v3 wx => ∃ (oa : Option Addr) (oc : Nat),v3 = .slice oa (T1 ++ goT gs).length oc ∧ TrAt w (.string ev) (.slice io il ic) (.slice go gs.length gc) (.bool inn) (.slice to' tl tc') (.slice oa (T1 ++ goT gs).length oc) (T1 ++ goT gs).length ((T1 ++ goT gs).map Value.string) wx)
  case first =>
   clear hW hres hlen hD
   by_cases h0 : gs.length = 0
   ·have hp : goT gs = [] := if_pos h0
    replace hp := Lib.hid hp
    have hilI : ¬ (0 : Int) < (gs.length : Int) := by omega
    clear hgo h0
    go_wp2
    go_meet
    rw [hp.out,List.append_nil]
    exact ⟨_,_,rfl,tr_keep S1.out (by (first | exact gwT | exact lzT))⟩
   ·have hp : goT gs = ⟨#[103,111]⟩ :: gs := if_neg h0
    replace hp := Lib.hid hp
    have hilI : (0 : Int) < (gs.length : Int) := by omega
    obtain ⟨hg1,hg2,hg3⟩ := hgo.out (by omega)
    have hG := Lib.hid (fun wx (hb : Below w.heap.size w wx) j (h : j < gs.length) => (hb.cell (p := ⟨g,j,none⟩) hg2).trans (hg3 j h))
    subst hg1
    clear hgo
    go_wp2_with fail
    go_region_held3 (fun w' => w'.cell? ⟨w.heap.size,2,none⟩ = some (.slice (some ⟨g,0,none⟩) gs.length gc)) (first | assumption | (rw [cell_GI];assumption) | (simp [go_sem, *];done))
     (first
      | ((refine step_append_lies _ rfl (.tmp 29) (.tmp 30) 68 rfl w.heap.size 9 i0 _ 1 16 Tryz.underlying68 hi0 hz1 hz2 hz3 rfl (by decide) (.slice oa1 T1.length oc1) T1.length (T1.map Value.string) (by simp [Act.eval]) (owns_below S1.out.own (by (first | exact gwT | exact lzT))) ⟨_,0,none⟩ 1 1 [.string ⟨#[103,111]⟩] rfl rfl (World.news_of_block (new_at (by simp))) (by intro u hu;simp at hu;subst hu;rfl) (by decide) (by unfold maxLen;omega) (by omega) (Nat.le_trans S1.out.env.size (Below.size (B := wx1.heap.size) (w := wx1) (by (first | exact gwT | exact lzT)))) _ rfl ?_);intro g' cap' wxm hownm hgrowm hatm hgm;have SM := tr_grown (tr_keep S1.out (by (first | exact gwT | exact lzT))) hgrowm hownm;obtain ⟨e0,e1,e2,e3,e4,eb⟩ := wcells SM.box)
      | ((refine step_append_lies _ rfl (.tmp 31) (.tmp 33) 68 rfl w.heap.size 9 i0 _ 1 16 Tryz.underlying68 hi0 hz1 hz2 hz3 rfl (by decide) (.slice (some ⟨g',0,none⟩) (T1.length + 1) cap') (T1.length + 1) (T1.map Value.string ++ [.string ⟨#[103,111]⟩]) (by simp [Act.eval]) (owns_below SM.own (by (first | exact gwT | exact lzT))) ⟨g,0,none⟩ gs.length gc (gs.map Value.string) (by simp [Act.eval]) (by simp) (texts_news (hG.out _ (SM.env.trans (Below.mono (by (first | exact gwT | exact lzT)) SM.env.size)))) (texts_one gs) (by omega) (by unfold maxLen;omega) (by omega) (Nat.le_trans SM.env.size (Below.size (B := wxm.heap.size) (w := wxm) (by (first | exact gwT | exact lzT)))) _ rfl ?_);intro g2 cap2 wxn hown2 hgrow2 hat2 hg2;have SN := tr_grown (tr_keep SM (by (first | exact gwT | exact lzT))) hgrow2 hown2;obtain ⟨k0,k1,k2,k3,k4,kb⟩ := wcells SN.box))
    rw [show T1.map Value.string ++ [Value.string ⟨#[103,111]⟩] ++ gs.map Value.string = (T1 ++ ⟨#[103,111]⟩ :: gs).map Value.string by simp,show T1.length + 1 + gs.length = (T1 ++ ⟨#[103,111]⟩ :: gs).length by simp;omega] at SN
    replace SN := Lib.hid SN
    clear hown2 hgrow2 hat2 hg2 hownm hgrowm hatm hgm SM S1 d0 d1 d2 d3 d4 db i2 e0 e1 e2 e3 e4 eb k0 k1 k2 k3 k4 kb h0
    go_wp2
    go_meet
    rw [hp.out]
    exact ⟨_,_,by rw [show T1.length + 1 + gs.length = (T1 ++ ⟨#[103,111]⟩ :: gs).length by simp;omega],tr_keep SN.out (by (first | exact gwT | exact lzT))⟩
  case rest =>
  clear hgo
  clear S1 d0 d1 d2 d3 d4 db i2
  obtain ⟨oa2,oc2,rfl,S2⟩ := hcut
  rename World => wx2
  have hl2 : (T1 ++ goT gs).length ≤ 110 := by
   have := (show (goT gs).length ≤ gs.length + 1 by unfold goT;split <;> simp)
   rw [List.length_append]
   omega
  obtain ⟨T2,hT2⟩ : ∃ T,T1 ++ goT gs = T := ⟨_,rfl⟩
  rw [hT2] at S2 hl2 ⊢
  replace hT2 := Lib.hid hT2
  obtain ⟨d0,d1,d2,d3,d4,db⟩ := wcells S2.box
  have i2 := InW.mk db
  replace S2 := Lib.hid S2
  go_upto_if 36 with (fail)
  go_cut [3] (fun v3 wx => ∃ (oa : Option Addr) (oc : Nat),v3 = .slice oa (T2 ++ inT inn).length oc ∧ TrAt w (.string ev) (.slice io il ic) (.slice go gs.length gc) (.bool inn) (.slice to' tl tc') (.slice oa (T2 ++ inT inn).length oc) (T2 ++ inT inn).length ((T2 ++ inT inn).map Value.string) wx)
  case first =>
   clear hW hres hlen hD
   cases inn
   ·have hp : inT false = [] := rfl
    replace hp := Lib.hid hp
    go_wp2
    go_meet
    rw [hp.out,List.append_nil]
    exact ⟨_,_,rfl,tr_keep S2.out (by (first | exact gwT | exact lzT))⟩
   ·have hp : inT true = [⟨#[105,110,110,101,114]⟩] := rfl
    replace hp := Lib.hid hp
    go_wp2_with (at_builtin;refine wpList_append_lies _ rfl _ _ 68 rfl w.heap.size 9 i0 _ 1 16 Tryz.underlying68 hi0 hz1 hz2 hz3 rfl (by decide) (.slice oa2 T2.length oc2) T2.length (T2.map Value.string) rfl (owns_below S2.out.own (by (first | exact gwT | exact lzT))) ⟨_,0,none⟩ 1 1 [.string ⟨#[105,110,110,101,114]⟩] rfl rfl (World.news_of_block (new_at (by simp))) (by intro u hu;simp at hu;subst hu;rfl) (by decide) (by unfold maxLen;omega) (by omega) (Nat.le_trans S2.out.env.size (Below.size (B := wx2.heap.size) (w := wx2) (by (first | exact gwT | exact lzT)))) _ rfl ?_)
    intro g2 cap2 wxn hown2 hgrow2 hat2 hg2
    have SN := tr_grown (tr_keep S2.out (by (first | exact gwT | exact lzT))) hgrow2 hown2
    rw [show T2.map Value.string ++ [.string (⟨#[105,110,110,101,114]⟩ : ByteArray)] = (T2 ++ [(⟨#[105,110,110,101,114]⟩ : ByteArray)]).map Value.string by simp,show T2.length + 1 = (T2 ++ [(⟨#[105,110,110,101,114]⟩ : ByteArray)]).length by simp] at SN
    replace SN := Lib.hid SN
    clear S2 d0 d1 d2 d3 d4 db i2 hown2 hgrow2 hat2 hg2
    go_wp2
    go_meet
    rw [hp.out]
    exact ⟨_,_,by rw [show T2.length + 1 = (T2 ++ [(⟨#[105,110,110,101,114]⟩ : ByteArray)]).length by simp],tr_keep SN.out (by (first | exact gwT | exact lzT))⟩
  case rest =>
  clear S2 d0 d1 d2 d3 d4 db i2
  obtain ⟨oa3,oc3,rfl,S3⟩ := hcut
  rename World => wx3
  have hl3 : (T2 ++ inT inn).length ≤ 111 := by
   have := (show (inT inn).length ≤ 1 by unfold inT;split <;> simp)
   rw [List.length_append]
   omega
  obtain ⟨T3,hT3⟩ : ∃ T,T2 ++ inT inn = T := ⟨_,rfl⟩
  rw [hT3] at S3 hl3 ⊢
  replace hT3 := Lib.hid hT3
  obtain ⟨d0,d1,d2,d3,d4,db⟩ := wcells S3.box
  have i2 := InW.mk db
  replace S3 := Lib.hid S3
  go_upto_if 43 with (fail)
  go_cut [3] (fun v3 wx => ∃ (oa : Option Addr) (oc : Nat),v3 = .slice oa (T3 ++ doT tl td).length oc ∧ TrAt w (.string ev) (.slice io il ic) (.slice go gs.length gc) (.bool inn) (.slice to' tl tc') (.slice oa (T3 ++ doT tl td).length oc) (T3 ++ doT tl td).length ((T3 ++ doT tl td).map Value.string) wx)
  case first =>
   clear hW hres hlen
   by_cases h0 : tl = 0
   ·have hp : doT tl td = [] := if_pos h0
    replace hp := Lib.hid hp
    have hilI : ¬ (0 : Int) < (tl : Int) := by omega
    clear hD h0
    go_wp2
    go_meet
    rw [hp.out,List.append_nil]
    exact ⟨_,_,rfl,tr_keep S3.out (by (first | exact gwT | exact lzT))⟩
   ·have hp : doT tl td = [⟨#[100,111]⟩,td] := if_neg h0
    replace hp := Lib.hid hp
    have hilI : (0 : Int) < (tl : Int) := by omega
    have hS0 := Lib.hid (fun wx (hb : Below wx3.heap.size wx3 wx) => hD.out (by omega) wx (S3.out.env.trans (hb.mono S3.out.env.size)))
    clear hD h0
    go_wp2_with (first | ((with_reducible refine ((hS0.out _ (by (first | exact gwT | exact lzT)))).mono ?_);intro e w1 hr;obtain ⟨rfl,p,rfl⟩ := hr.out;clear hr) | (at_builtin;refine wpList_append_lies _ rfl _ _ 68 rfl w.heap.size 9 i0 _ 1 16 Tryz.underlying68 hi0 hz1 hz2 hz3 rfl (by decide) (.slice oa3 T3.length oc3) T3.length (T3.map Value.string) rfl (owns_below S3.out.own (by (first | exact gwT | exact lzT))) ⟨_,0,none⟩ 2 2 [.string ⟨#[100,111]⟩,.string td] rfl rfl (World.news_of_block (new_at (by simp))) (by intro u hu;simp at hu;rcases hu with rfl | rfl <;> rfl) (by decide) (by unfold maxLen;omega) (by omega) (Nat.le_trans S3.out.env.size (Below.size (B := wx3.heap.size) (w := wx3) (by (first | exact gwT | exact lzT)))) _ rfl ?_))
    intro g2 cap2 wxn hown2 hgrow2 hat2 hg2
    have SN := tr_grown (tr_keep S3.out (by (first | exact gwT | exact lzT))) hgrow2 hown2
    rw [show T3.map Value.string ++ [.string ⟨#[100,111]⟩,.string td] = (T3 ++ [⟨#[100,111]⟩,td]).map Value.string by simp,show T3.length + 2 = (T3 ++ [⟨#[100,111]⟩,td]).length by simp] at SN
    replace SN := Lib.hid SN
    clear S3 d0 d1 d2 d3 d4 db i2 hown2 hgrow2 hat2 hg2
    go_wp2
    go_meet
    rw [hp.out]
    exact ⟨_,_,by rw [show T3.length + 2 = (T3 ++ [⟨#[100,111]⟩,td]).length by simp],tr_keep SN.out (by (first | exact gwT | exact lzT))⟩
  case rest =>
  clear hD
  clear S3 d0 d1 d2 d3 d4 db i2
  obtain ⟨oa4,oc4,rfl,S4⟩ := hcut
  rename World => wx4
  have hl4 : (T3 ++ doT tl td).length ≤ 113 := by
   have := (show (doT tl td).length ≤ 2 by unfold doT;split <;> simp)
   rw [List.length_append]
   omega
  obtain ⟨T4,hT4⟩ : ∃ T,T3 ++ doT tl td = T := ⟨_,rfl⟩
  rw [hT4] at S4 hl4 ⊢
  replace hT4 := Lib.hid hT4
  have e : W = T4 := by
   rw [← hW.out,← hT4.out,← hT3.out,← hT2.out,← hT1.out,← hT0.out]
   rfl
  have hpos : 0 < T4.length := by
   rw [← hT4.out,← hT3.out,← hT2.out,← hT1.out]
   simp only [List.length_append]
   omega
  obtain ⟨tg,wc,hv,htg,hwc,_,hcell⟩ := own_head S4.own hpos
  cases hv
  have hb4 := S4.env
  have hz4 := hb4.size
  rw [e] at hlen
  have J := Lib.hid (fun wx (hk : Below wx4.heap.size wx4 wx) => sjoin_any tg oc4 T4 spB (by omega) hwc (by decide) (by decide) hlen wx (Nat.lt_of_lt_of_le htg hk.size) (fun j hj => (hk.cell (p := ⟨tg,j,none⟩) htg).trans (hcell j _ (by rw [List.getElem?_map,List.getElem?_eq_getElem hj];rfl))))
  unfold spB at J
  have hres2 := hres.out
  rw [e] at hres2
  unfold spB at hres2
  rw [hres2] at J
  clear S4 hcell hres hres2 hW e hT0 hT1 hT2 hT3 hT4 hlen
  go_wp2_with ((with_reducible refine ((J.out _ (by (first | exact gwT | exact lzT)))).mono ?_);intro e w1 hr;obtain ⟨rfl,p,rfl⟩ := hr.out;clear hr)
  go_returns
  exact ⟨rfl,by (first | exact gwT | exact lzT)⟩
end Go.Proofs.YtfmaomoifkplbaaGreatDoor
