/- Several texts of this proof, joined: BB, BC. -/
import Derived.Test.YtfmaomoifkplbaaGreatDoorV2
import Derived.Test.YtfmaomoifkplbaaGreatDoorV3
import Derived.Test.YtfmaomoifkplbaaGreatDoorY9
import Derived.WalkKit
import Derived.ProofKit
import Derived.OpenShut
import Derived.Handy
import Derived.BigQuiet
import Derived.OwnWalk
import Derived.Deep.AppendLies
import Derived.Lib.Hide
import Derived.WalkSmall
import Derived.WalkLawsBesides
import Derived.Test.YtfmaomoifkplbaaGreatDoorJ1
import Derived.Test.YtfmaomoifkplbaaGreatDoorZ7
namespace Go.Proofs.YtfmaomoifkplbaaGreatDoor
open Go.RowKit
def WordsIs (ts : List ByteArray) (w : World) (e : Ending) (w' : World) : Prop := ∃ v,e = .returned v ∧ w'.ownsRow w.heap.size 9 1 v ts.length (ts.map Value.string) ∧ Below w.heap.size w w'
structure WordsAt (w : World) (fb : Nat) (f0 f1 f2 f3 f4 a0 a1 a2 a3 a4 : Value) (v : Value) (n : Nat) (ts : List Value) (wx : World) : Prop where
 own : wx.ownsRow w.heap.size 9 1 v n ts
 form : wx.heap[fb]? = some (.cells #[f0,f1,f2,f3,f4] 236 (0,0))
 act : wx.heap[w.heap.size]? = some (.cells #[a0,a1,a2,a3,a4] 176 (0,0))
 env : Below w.heap.size w wx
section
variable {w wx wy : World} {fb : Nat} {f0 f1 f2 f3 f4 a0 a1 a2 a3 a4 : Value} {v v' : Value} {n n' : Nat} {ts us : List Value}
theorem words_keep (h : WordsAt w fb f0 f1 f2 f3 f4 a0 a1 a2 a3 a4 v n ts wx) (hb : Below wx.heap.size wx wy) : WordsAt w fb f0 f1 f2 f3 f4 a0 a1 a2 a3 a4 v n ts wy :=
 ⟨owns_below h.own hb,blk_keep h.form hb,blk_keep h.act hb,h.env.trans (hb.mono h.env.size)⟩
theorem words_grown (h : WordsAt w fb f0 f1 f2 f3 f4 a0 a1 a2 a3 a4 v n ts wx) (hg : wx.grownBy wy v.ownBlock) (ho : wy.ownsRow w.heap.size 9 1 v' n' (ts ++ us)) : WordsAt w fb f0 f1 f2 f3 f4 a0 a1 a2 a3 a4 v' n' (ts ++ us) wy :=
 ⟨ho,grown_blk h.own h.form (by decide) hg,grown_blk h.own h.act (by decide) hg,Below.grown h.env hg h.env.size (fun k hk => (h.own.lt k hk).1)⟩
theorem wcells {w : World} {b : Nat} {t : TypeId} {v0 v1 v2 v3 v4 : Value} (h : w.heap[b]? = some (.cells #[v0,v1,v2,v3,v4] t (0,0))) :
  w.cell? ⟨b,0,none⟩ = some v0 ∧ w.cell? ⟨b,1,none⟩ = some v1 ∧ w.cell? ⟨b,2,none⟩ = some v2 ∧ w.cell? ⟨b,3,none⟩ = some v3 ∧ w.cell? ⟨b,4,none⟩ = some v4 ∧ b < w.heap.size := by
 refine ⟨?_,?_,?_,?_,?_,lt_of_block h⟩
 all_goals
  rw [cell_of_row w b _ _ _ _ h]
  rfl
end
end Go.Proofs.YtfmaomoifkplbaaGreatDoor
namespace Go.Proofs.YtfmaomoifkplbaaGreatDoor
open Go.RowKit
def spB : ByteArray := ⟨#[32]⟩
def semiB : ByteArray := ⟨#[32,59,32]⟩
structure ShowsBy (cs : List Ac) (ws : Nat → List ByteArray) (ts : List ByteArray) : Prop where
 len : ts.length = cs.length
 few : cs.length ≤ 1000
 text : ∀ i (h : i < ts.length),ts[i] = ⟨(joinB (ws i) spB).toArray⟩
 pos : ∀ i,i < cs.length → 0 < (ws i).length ∧ (ws i).length ≤ 1000 ∧ (joinB (ws i) spB).length ≤ 900000
 all : (joinB ts semiB).length ≤ 900000
set_option maxRecDepth 100000 in
set_option maxHeartbeats 4000000 in
theorem ashow_any (ao : Option Addr) (cap : Nat) (cs : List Ac) (ws : Nat → List ByteArray) (ts : List ByteArray) (hs : ShowsBy cs ws ts) (w : World) (hA : ActsAt w ao cs)
  (W : ∀ i (hi : i < cs.length) io ic xo xc wx,Below w.heap.size w wx → NdsAt wx io cs[i].cond → NdsAt wx xo cs[i].x → Calls Tryz.prog 93 #[.agg #[.int .i64 cs[i].kind,.slice io cs[i].cond.length ic,.string ⟨cs[i].name.toArray⟩,.slice xo cs[i].x.length xc,.int .i64 cs[i].n]] wx (WordsIs (ws i) wx)) :
  Calls Tryz.prog 44 #[.slice ao cs.length cap] w (Ret (.string ⟨(joinB ts semiB).toArray⟩) w) := by
 have H := Lib.hid (fun wx hb => acts_below (w' := wx) hA hb)
 have hfew := hs.few
 have hlen := Lib.hid hs.len
 obtain ⟨i0,hi0,hz1,hz2,hz3⟩ := info_parts Tryz.infoStr
 replace hs := Lib.hid hs
 replace W := Lib.hid W
 clear hA
 have hnI : (0 : Int) ≤ (cs.length : Int) := by omega
 obtain ⟨res,hres⟩ : ∃ x : ByteArray,(⟨(joinB ts semiB).toArray⟩ : ByteArray) = x := ⟨_,rfl⟩
 rw [hres]
 replace hres := Lib.hid hres
 go_enter Tryz.func44,Tryz.ntmps44
 go_wp2_with (at_make;refine wpList_make_full _ rfl _ _ 68 rfl w.heap.size 9 i0 _ 1 Tryz.underlying68 hi0 hz1 hz2 _ _ (cs.length : Int) (cs.length : Int) cs.length rfl rfl rfl rfl (by rw [hz3];omega) (by unfold maxLen;omega) (Below.size (B := w.heap.size) (w := w) (by (first | exact gwT | exact lzT))) ?_)
 intro w1 hown hgrow
 have hbw1 : Below w.heap.size w w1 := Below.grown (by (first | exact gwT | exact lzT)) hgrow (Below.size (B := w.heap.size) (w := w) (by (first | exact gwT | exact lzT))) (fun k hk => (by cases hk))
 have hX1 := Lib.hid (txt_made hown)
 clear hown hgrow
 go_wp2
 go_loopw [11] (fun x wr => ∃ i : Nat,x = .int .i64 i ∧ i ≤ cs.length ∧ TxtBlk wr w.heap.size cs.length (ts.take i) ∧ Below w.heap.size w wr) (fun x _ => cs.length - (intOf x).toNat)
 case atStart => exact ⟨0,rfl,Nat.zero_le _,hX1.out,by (first | exact gwT | exact lzT)⟩
 case round =>
  obtain ⟨i,rfl,hi,hX,hb⟩ := hrel
  rename World => wr
  have hwz := hb.size
  clear hX1 hbw1
  by_cases hlt : i < cs.length
  ·obtain ⟨g,rfl,hg,hcs⟩ := H.out wr hb (by omega)
   obtain ⟨io,ic,xo,xc,n1,n2,n3,n4,n5,hN1,hN2⟩ := hcs i hlt
   have Wi := Lib.hid (fun wx (hk : Below wr.heap.size wr wx) => W.out i hlt io ic xo xc wx (hb.trans (hk.mono hwz)) (nds_below hN1 hk) (nds_below hN2 hk))
   obtain ⟨hp1,hp2,hp3⟩ := hs.out.pos i hlt
   have hti : i < ts.length := by rw [hlen.out];exact hlt
   have htx := hs.out.text i hti
   have htk : ts.take (i + 1) = ts.take i ++ [ts[i]] := by rw [List.take_add_one,List.getElem?_eq_getElem hti];rfl
   have hll : (ts.take i).length = i := by rw [List.length_take];omega
   rw [htx] at htk
   generalize cs[i] = c at *
   replace htk := Lib.hid htk
   have i1 : InW g wr := ⟨hg⟩
   have hI : (i : Int) < (cs.length : Int) := by omega
   clear hcs hN1 hN2 htx
   go_wp2_with fail
   refine (Wi.out _ (by (first | exact gwT | exact lzT))).mono ?_
   intro e w3 hr
   obtain ⟨v,rfl,hown,hb3⟩ := hr
   obtain ⟨gg,wc,rfl,hgg,hwc,_,hcell⟩ := own_head hown hp1
   have hb4 : Below wr.heap.size wr w3 := Below.trans (by (first | exact gwT | exact lzT)) (hb3.mono (by simp))
   have J := Lib.hid (fun wx (hk : Below w3.heap.size w3 wx) => sjoin_any gg wc (ws i) spB (by omega) hwc (by decide) (by decide) hp3 wx (Nat.lt_of_lt_of_le hgg hk.size) (fun j hj => (hk.cell (p := ⟨gg,j,none⟩) hgg).trans (hcell j _ (by rw [List.getElem?_map,List.getElem?_eq_getElem hj];rfl))))
   have hX3 := txt_keep hX hb4
   obtain ⟨z0,z1,z2,z3⟩ := txt_cell hX3 i hlt
   have i2 : InW w.heap.size w3 := ⟨z3⟩
   have hX2 := Lib.hid (fun wx (hk : Below w3.heap.size w3 wx) (t : ByteArray) => txt_set (txt_keep hX3 hk) (by omega) t)
   rw [hll] at hX2
   unfold spB at J
   have hb5 : Below w.heap.size w w3 := hb.trans (hb4.mono hwz)
   obtain ⟨sb,hsb⟩ : ∃ x : ByteArray,(⟨(joinB (ws i) spB).toArray⟩ : ByteArray) = x := ⟨_,rfl⟩
   rw [hsb] at htk
   unfold spB at hsb
   rw [hsb] at J
   clear hcell hown hX hX3 hb3 hb4 Wi hsb n1 n2 n3 n4 n5 i1
   dsimp only
   go_wp2_with ((with_reducible refine ((J.out _ (by (first | exact gwT | exact lzT)))).mono ?_);intro e w1 hr;obtain ⟨rfl,p,rfl⟩ := hr.out;clear hr)
   go_roundw
   case rel => exact ⟨i + 1,by go_num,by omega,by rw [htk.out];exact txt_keep (hX2.out _ (by (first | exact gwT | exact lzT)) sb) (by (first | exact gwT | exact lzT)),by (first | exact gwT | exact lzT)⟩
   case measure => simp [intOf];omega
  ·obtain rfl : i = cs.length := by omega
   have hall : ts.take cs.length = ts := by rw [← hlen.out,List.take_length]
   rw [hall] at hX
   have hI : ¬ (cs.length : Int) < (cs.length : Int) := by omega
   have htgl : w.heap.size < wr.heap.size := by
    obtain ⟨_,h1,_⟩ := hX
    exact lt_of_block h1
   have J : ∀ wx,Below wr.heap.size wr wx → Calls Tryz.prog 92 #[.slice (some ⟨w.heap.size,0,none⟩) cs.length cs.length,.string ⟨#[32,59,32]⟩] wx (Ret (.string res) wx) := fun wx hk => by
    have := sjoin_any w.heap.size ts.length ts semiB (by have := hlen.out;omega) (Nat.le_refl _) (by decide) (by decide) hs.out.all wx (Nat.lt_of_lt_of_le htgl hk.size) (fun j hj => (hk.cell (p := ⟨w.heap.size,j,none⟩) htgl).trans (txt_of hX j hj))
    rw [hres.out,hlen.out] at this
    exact this
   replace J := Lib.hid J
   clear hX H W
   go_wp2_with ((with_reducible refine ((J.out _ (by (first | exact gwT | exact lzT)))).mono ?_);intro e w1 hr;obtain ⟨rfl,p,rfl⟩ := hr.out;clear hr)
   go_returns
   exact ⟨rfl,by (first | exact gwT | exact lzT)⟩
structure Ay (w : World) : Prop where
 ax : Ax w
 tab : Tab w
end Go.Proofs.YtfmaomoifkplbaaGreatDoor
