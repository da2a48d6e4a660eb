/- Several texts of this proof, joined: QD, QF, SW1, SW2, SW3, SV, SW4, SW5. -/
import Derived.Test.YtacnlghljmgdiaaGreatDoorO2
import Derived.WalkKit
import Derived.ProofKit
import Derived.OpenShut
import Derived.Handy
import Derived.BigQuiet
import Derived.OwnWalk
import Derived.Deep.RegionHeld3
import Derived.Lib.Hide
import Derived.WalkSmall
import Derived.WalkLawsBesides
import Derived.Laws.IdiomCopy
import Derived.Lib.Strings
import Derived.Test.YtacnlghljmgdiaaGreatDoorO3
import Derived.Test.YtacnlghljmgdiaaGreatDoorJ1
import Derived.Test.YtacnlghljmgdiaaGreatDoorL5
import Derived.Test.YtacnlghljmgdiaaGreatDoorQ7
import Derived.Test.YtacnlghljmgdiaaGreatDoorQ1
import Derived.Test.YtacnlghljmgdiaaGreatDoorY6
import Derived.Test.YtacnlghljmgdiaaGreatDoorZ1
import Derived.Test.YtacnlghljmgdiaaGreatDoorL3
import Derived.Test.YtacnlghljmgdiaaGreatDoorJ2
import Derived.Test.YtacnlghljmgdiaaGreatDoorZ4
import Derived.Shelf.Strconv.Itoa3
import Derived.Lib.ItoaNum
namespace Go.Proofs.YtacnlghljmgdiaaGreatDoor
open Go.RowKit
theorem q2g {w:World} {b c:Nat} {T:TypeId} {fr:Nat × Nat} {cs:Array Value} {xs:List Value} (h:w.heap[b]? = some (.cells cs T fr)) (e:cs.toList = xs):z2d w (some ⟨b,0,none⟩) c xs:=by
 refine ⟨fun e=>(by cases e),fun _=>⟨b,0,rfl,(Array.getElem?_eq_some_iff.1 h).1,fun j u hu=>?_⟩⟩
 rw [Nat.zero_add,cell_of_row w b j cs T fr h,← hu,← e,Array.getElem?_toList]
theorem v3p {w:World} {b i:Nat} {cs:Array Value} {u:Value} {t:TypeId} (h:w.heap[b]? = some (.cells cs t (0,0))):(w.setCell ⟨b,i,none⟩ u).heap[b]? = some (.cells (cs.setIfInBounds i u) t (0,0)):=by
 have hlt:=(Array.getElem?_eq_some_iff.1 h).1
 have h':w.heap[b] = .cells cs t (0,0):=by simpa [Array.getElem?_eq_getElem hlt] using h
 show (w.heap.modify b _)[b]? = _
 rw [Array.getElem?_eq_getElem (by simpa using hlt),Array.getElem_modify_self,h']
 rfl
theorem j4d {w:World} {B e s n cap g j:Nat} {xs:List Value} {u:Value} (h:w.ownsRow B e s (.slice (some ⟨g,0,none⟩) n cap) n xs):(w.setCell ⟨g,j,none⟩ u).ownsRow B e s (.slice (some ⟨g,0,none⟩) n cap) n (xs.set j u):=by
 obtain ⟨h1,h2⟩:=h
 rcases h2 with ⟨h0,_⟩ | ⟨g',cap',cur,hv,hg,hh,hn,hcap,hsz,htake⟩
 ·cases h0
 ·cases hv
  refine ⟨by rw [List.length_set];exact h1,.inr ⟨g,cap,cur.setIfInBounds j u,rfl,hg,v3p hh,hn,hcap,by simpa using hsz,?_⟩⟩
  rw [Array.toList_setIfInBounds,List.take_set,htake]
theorem q5z (a b:ByteArray):(a.toList == b.toList) = decide (a = b):=by
 by_cases h:a = b
 ·subst h;simp
 ·rw [decide_eq_false h,beq_eq_false_iff_ne]
  intro e
  rw [Lib.toList_data,Lib.toList_data] at e
  exact h (ByteArray.ext (Array.toList_inj.1 e))
theorem q3m {w:World} {B g e s n:Nat} {cs:Array Value} (hB:B ≤ g) (h:w.heap[g]? = some (.cells cs e (0,0))) (hs:cs.size = n * s) (hm:n ≤ maxLen):w.ownsRow B e s (.slice (some ⟨g,0,none⟩) n n) n cs.toList :=
 ⟨by simpa using hs,.inr ⟨g,n,cs,rfl,hB,h,Nat.le_refl _,hm,hs,by rw [← hs,← Array.length_toList,List.take_length]⟩⟩
abbrev v2d:ByteArray:=⟨#[32]⟩
def q4s (f:ByteArray) (xs:List ByteArray):ByteArray:=⟨(z9s (f :: xs) v2d).toArray⟩
set_option maxRecDepth 100000 in
set_option maxHeartbeats 1000000 in
theorem v5y (f:ByteArray) (ao:Option Addr) (c:Nat) (xs:List ByteArray) (hn:xs.length ≤ 1000) (hj:(z9s (f :: xs) v2d).length ≤ 900000) (w:World) (h:z2d w ao c (xs.flatMap z3j)) :
  Calls Tryz.prog 24 #[.string f,.slice ao xs.length c] w (Ret (.string (q4s f xs)) w):=by
 have H:=hiT (fun wx (hb:Below w.heap.size w wx)=>z0k h hb)
 have J:=hiT (fun tg cap wx (hcap:(f :: xs).length ≤ cap) htg hT=>k3q tg cap (f :: xs) v2d (by simp;omega) hcap deT deT hj wx htg hT)
 have hl:=z4s z3j 1 q0h xs
 have h1:=hiT (z7f z3j y3j xs)
 have hR:Hid (q4s f xs = ⟨(z9s (f :: xs) v2d).toArray⟩):=hiT rfl
 obtain ⟨j0,hjj,hy1,hy2,hy3⟩:=info_parts Tryz.infoQs
 rw [hR.out]
 generalize (z9s (f :: xs) v2d).toArray = R at *
 clear h hj hR
 go_enter Tryz.func24,Tryz.ntmps24
 go_wp2_with (at_builtin;refine z0u rfl _ _ 38 rfl w.heap.size 9 j0 _ 1 16 Tryz.underlying38 hjj hy1 hy2 hy3 rfl deT (.slice (some ⟨w.heap.size,0,none⟩) 1 1) 1 [.string f] rfl (q3m (cs:=#[.string f]) (Nat.le_refl _) (heap_alloc_new w _) rfl deT) ao xs.length c (xs.flatMap z3j) rfl (H.out _ gzT) hl h1.out (by unfold maxLen;omega) omT (by simp) ?_)
 intro v' w2 hown2 hgrow
 have hb2:Below w.heap.size w w2:=Below.grown gzT hgrow (by simp) (fun k hk=>by cases hk;simp)
 obtain ⟨g,cap,rfl,hg,hcap,hm,hc⟩:=z1g hown2 omT
 have hlen:1 + xs.length = (f :: xs).length:=by simp;omega
 rw [hlen] at hcap ⊢
 have K:=hiT (J.out g cap w2 hcap hg (fun j hj=>hc j _ (by
  have:=z9o z3j 1 q0h (f :: xs) j hj 0 deT
  rw [Nat.mul_one,Nat.add_zero] at this
  exact this)))
 have hb3:=hiT hb2
 clear hown2 hgrow hc J H h1 hl hjj hy1 hy2 hy3 hb2 hlen hcap
 generalize (f :: xs).length = n at *
 go_wp2_with (((with_reducible refine (K.out).mono ?_);intro e w1 hr;obtain ⟨rfl,p,rfl⟩:=hr.out;clear hr))
 go_returns
 exact ⟨rfl,hb3.out.trans (Below.mono (z1e _ _) hb3.out.size)⟩
def q9d:List (List UInt8):=[[],[102,114,101,115,104],[114,117,110,110,105,110,103],[100,111,110,101],[104,97,108,116,101,100]]
def v6h:Array Value:=(q9d.map fun l=>Value.string ⟨l.toArray⟩).toArray
def Sw (w:World):Prop:=w.var? Tryz.prog "whirligig/snap.words" = some v6h
theorem z8i:Tryz.prog.globalNamed "whirligig/snap.words" = some 0:=by kernel_rfl
theorem v9w {w:World} (h:Sw w):0 < w.heap.size:=z6o z8i h
theorem k4a {w w':World} (h:Sw w) (hb:Below w.heap.size w w'):Sw w':=var?_below hb z8i (v9w h) h
def q5x (n:Int):ByteArray:=if 1 ≤ n ∧ n ≤ 4 then ⟨(q9d.getD n.toNat []).toArray⟩ else ⟨#[]⟩
theorem v6l {w:World} (h:Sw w) (n:Int) (h1:1 ≤ n) (h4:n ≤ 4):w.cell? ⟨0,n.toNat,none⟩ = some (.string (q5x n)):=by
 rw [World.var?_cell z8i h n.toNat,q5x,if_pos ⟨h1,h4⟩]
 rcases (by omega:n = 1 ∨ n = 2 ∨ n = 3 ∨ n = 4) with rfl | rfl | rfl | rfl <;> rfl
set_option maxRecDepth 100000 in
theorem k4b (n:Int) (w:World) (hs:Sw w):Calls Tryz.prog 25 #[.int .i64 n] w (Ret (.string (q5x n)) w):=by
 by_cases h1:n < 1
 ·have e:q5x n = ⟨#[]⟩:=if_neg omT
  rw [e]
  clear hs
  go_enter Tryz.func25,Tryz.ntmps25
  go_wp2
  go_returns
  exact ⟨rfl,gzT⟩
 ·by_cases h4:4 < n
  ·have e:q5x n = ⟨#[]⟩:=if_neg omT
   rw [e]
   clear hs
   go_enter Tryz.func25,Tryz.ntmps25
   go_wp2
   go_returns
   exact ⟨rfl,gzT⟩
  ·have c:=v6l hs n omT omT
   have i1:InW 0 w:=⟨v9w hs⟩
   have h5:n < 5:=by omega
   have h6:0 ≤ n:=by omega
   clear hs
   go_enter Tryz.func25,Tryz.ntmps25
   go_wp2
   go_returns
   exact ⟨rfl,gzT⟩
def z9i (v:Vr):Vl:=⟨v.vk,v.vn,⟨v.vs.toArray⟩⟩
def sn0 (c:Ch):Sn:=⟨1,0,0,0,0,List.replicate c.states.length 0,c.vars.map z9i,[],[],[],⟨#[]⟩,[],0,[]⟩
theorem q3g (v:Value) (n:Nat):madeCells #[v] n = Array.replicate n v:=by
 unfold madeCells
 apply Array.ext
 ·simp
 ·intro i h1 h2
  simp [Nat.mod_one]
def z7o (n:Nat):Array Value:=(List.replicate n (Value.int .u64 0)).toArray
set_option maxRecDepth 100000 in
theorem k1u (n:Nat) (hn:n ≤ 64) (wx:World):(Instr.makeSlice 36 (.int .i64 (n:Int)) (.int .i64 (n:Int))).run Tryz.prog wx = .ok (.slice (some ⟨wx.heap.size,0,none⟩) n n) (wx.alloc (.cells (z7o n) 35)):=by
 obtain ⟨i0,hi,hz1,hz2,hz3⟩:=info_parts Tryz.infoQb
 have:=run_make (P:=Tryz.prog) wx 36 35 i0 (.int .u64 0) Tryz.underlying36 hi hz1 .i64 .i64 (n:Int) (n:Int) omT (Int.le_refl _) (by rw [hz3];omega) omT
 rw [this,hz2]
 simp [z7o,Value.cells,q3g]
theorem y8k (n:Nat):(z7o n).toList = (List.replicate n (0:Int)).flatMap sbC:=by
 unfold z7o
 induction n with
 | zero=>rfl
 | succ n ih=>rw [List.replicate_succ,List.replicate_succ,List.flatMap_cons,← ih];rfl
theorem y3y (vs:List Vr) (i:Nat) (h:i < vs.length) (j:Nat) (hj:j < 4):(j0g vs)[i * 4 + j]? = (vrC vs[i])[j]?:=z9o vrC 4 (fun _=>rfl) vs i h j hj
theorem y3x {w:World} {A:Nat} {va:Option Addr} {vc:Nat} {vs:List Vr} (h:w.ownsRow A 80 4 (.slice va vs.length vc) vs.length (j0g vs)) (i:Nat) (hi:i < vs.length):∃ g,va = some ⟨g,0,none⟩ ∧ g < w.heap.size ∧ w.cell? ⟨g,i * 4,none⟩ = some (str vs[i].name) ∧ w.cell? ⟨g,i * 4 + 1,none⟩ = some (.int .i64 vs[i].vk) ∧ w.cell? ⟨g,i * 4 + 2,none⟩ = some (.int .i64 vs[i].vn) ∧ w.cell? ⟨g,i * 4 + 3,none⟩ = some (str vs[i].vs):=by
 obtain ⟨g,cap,e,hg,_,_,hc⟩:=z1g h omT
 cases e
 exact ⟨g,rfl,hg,hc _ _ (y3y vs i hi 0 deT),hc _ _ (y3y vs i hi 1 deT),hc _ _ (y3y vs i hi 2 deT),hc _ _ (y3y vs i hi 3 deT)⟩
theorem z1p {w:World} {b:Nat} {t:TypeId} {v0 v1 v2 v3 v4 v5 v6 v7 v8 v9 v10 v11 v12 v13:Value} (h:w.heap[b]? = some (.cells #[v0,v1,v2,v3,v4,v5,v6,v7,v8,v9,v10,v11,v12,v13] t (0,0))):w.cell? ⟨b,0,none⟩ = some v0 ∧ w.cell? ⟨b,1,none⟩ = some v1 ∧ w.cell? ⟨b,2,none⟩ = some v2 ∧ w.cell? ⟨b,3,none⟩ = some v3 ∧ w.cell? ⟨b,4,none⟩ = some v4 ∧ w.cell? ⟨b,5,none⟩ = some v5 ∧ w.cell? ⟨b,6,none⟩ = some v6 ∧ w.cell? ⟨b,7,none⟩ = some v7 ∧ w.cell? ⟨b,8,none⟩ = some v8 ∧ w.cell? ⟨b,9,none⟩ = some v9 ∧ w.cell? ⟨b,10,none⟩ = some v10 ∧ w.cell? ⟨b,11,none⟩ = some v11 ∧ w.cell? ⟨b,12,none⟩ = some v12 ∧ w.cell? ⟨b,13,none⟩ = some v13 ∧ b < w.heap.size ∧ ∀ i,w.frozen? ⟨b,i,none⟩ = false:=by
 refine ⟨?_,?_,?_,?_,?_,?_,?_,?_,?_,?_,?_,?_,?_,?_,lt_of_block h,fun i=>frozen_of_row w b i _ _ h⟩
 all_goals
  rw [cell_of_row w b _ _ _ _ h]
  rfl
abbrev snB (m i:Nat) (pb:Nat) (da:Option Addr) (dc:Nat):Array Value:=#[.int .i64 1,.int .i64 0,.int .i64 0,.int .i64 0,.int .u64 0,.slice (some ⟨pb,0,none⟩) m m,.slice da i dc,.slice none 0 0,.slice none 0 0,.slice none 0 0,.string ⟨#[]⟩,.slice none 0 0,.int .u64 0,.slice none 0 0]
set_option maxRecDepth 100000 in
set_option maxHeartbeats 4000000 in
theorem y7g (c:Ch) (A:Nat) (va sa ga:Option Addr) (vc sc gn gc:Nat) (hm:c.states.length ≤ 49) (hv:c.vars.length ≤ 16) (w:World) (h:w.ownsRow A 80 4 (.slice va c.vars.length vc) c.vars.length (j0g c.vars)) :
  Calls Tryz.prog 8 #[.agg #[.slice va c.vars.length vc,.slice sa c.states.length sc,.slice ga gn gc]] w (fun e w'=>∃ (pb:Nat) (da:Option Addr) (dc:Nat),e = .returned (snV (sn0 c) (some ⟨pb,0,none⟩) c.states.length da dc none 0 none 0 none 0 none 0 none 0) ∧ SnRd w' (sn0 c) (some ⟨pb,0,none⟩) c.states.length da dc none 0 none 0 none 0 none 0 none 0 ∧ Below w.heap.size w w'):=by
 have V:=hiT (fun wx (hb:Below w.heap.size w wx) i hi=>y3x (z0a h hb) i hi)
 have hmk:=fun wx=>k1u c.states.length omT wx
 obtain ⟨j0,hj,hy1,hy2,hy3⟩:=info_parts Tryz.infoQv
 have T1:=hiT (fun i (hi:i < c.vars.length)=>show ((c.vars.map z9i).take (i + 1)).flatMap vlC = ((c.vars.map z9i).take i).flatMap vlC ++ vlC (z9i c.vars[i]) by rw [List.take_succ_eq_append_getElem (by rw [List.length_map];exact hi),List.flatMap_append,List.getElem_map];simp)
 have hE:Hid (snV (sn0 c) = snV (sn0 c)):=hiT rfl
 clear h hE
 go_enter Tryz.func8,Tryz.ntmps8
 go_wp2
 have hX0:=hiT T1
 obtain ⟨W0,hW0⟩:∃ X,(((w.alloc (.cells #[.slice va c.vars.length vc,.slice sa c.states.length sc,.slice ga gn gc] 27)).alloc (.cells #[.int .i64 0,.int .i64 0,.int .i64 0,.int .i64 0,.int .u64 0,.slice none 0 0,.slice none 0 0,.slice none 0 0,.slice none 0 0,.slice none 0 0,.string ⟨#[]⟩,.slice none 0 0,.int .u64 0,.slice none 0 0] 44)).alloc (.cells (z7o c.states.length) 35)).alloc (.cells (snB c.states.length 0 (w.heap.size + 1 + 1) none 0) 44) = X:=⟨_,rfl⟩
 have b0:Below w.heap.size w W0:=by rw [← hW0];exact gzT
 have x0:W0.heap[w.heap.size + 1 + 1 + 1]? = some (.cells (snB c.states.length 0 (w.heap.size + 1 + 1) none 0) 44 (0,0)):=by rw [← hW0];exact z0s (by simp)
 have y0:W0.heap[w.heap.size + 1]? = some (.cells #[.int .i64 0,.int .i64 0,.int .i64 0,.int .i64 0,.int .u64 0,.slice none 0 0,.slice none 0 0,.slice none 0 0,.slice none 0 0,.slice none 0 0,.string ⟨#[]⟩,.slice none 0 0,.int .u64 0,.slice none 0 0] 44 (0,0)):=by rw [← hW0];exact z0j (z0j (z0s (by simp)))
 have z0:W0.heap[w.heap.size + 1 + 1]? = some (.cells (z7o c.states.length) 35 (0,0)):=by rw [← hW0];exact z0j (z0s (by simp))
 rw [hW0]
 clear hW0 hX0 hmk
 generalize hsb:w.heap.size + 1 + 1 + 1 = sb at *
 generalize hpb:w.heap.size + 1 + 1 = pb at *
 generalize hrb:w.heap.size + 1 = rb at *
 have hne:rb ≠ sb:=by omega
 have hnp:pb ≠ sb:=by omega
 have hle:w.heap.size ≤ sb:=by omega
 go_loopw [14] (fun v wr=>∃ (i:Nat) (da:Option Addr) (dc:Nat),v = .int .i64 (i:Int) ∧ i ≤ c.vars.length ∧ wr.heap[sb]? = some (.cells (snB c.states.length i pb da dc) 44 (0,0)) ∧ wr.ownsRow w.heap.size 66 3 (.slice da i dc) i (((c.vars.map z9i).take i).flatMap vlC) ∧ wr.heap[pb]? = some (.cells (z7o c.states.length) 35 (0,0)) ∧ wr.heap[rb]? = some (.cells #[.int .i64 0,.int .i64 0,.int .i64 0,.int .i64 0,.int .u64 0,.slice none 0 0,.slice none 0 0,.slice none 0 0,.slice none 0 0,.slice none 0 0,.string ⟨#[]⟩,.slice none 0 0,.int .u64 0,.slice none 0 0] 44 (0,0)) ∧ Below w.heap.size w wr) (fun v _=>c.vars.length - (intOf v).toNat)
 case atStart=>exact ⟨0,none,0,rfl,Nat.zero_le _,x0,World.ownsRow_nil _ _ _ _,z0,y0,b0⟩
 case round =>
  obtain ⟨i,da,dc,rfl,hi,hx,hO,hz,hy,hb⟩:=hrel
  rename World=>wr
  have hwz:=hb.size
  clear x0 y0 z0 b0
  by_cases hlt:i < c.vars.length
  ·obtain ⟨g,rfl,hg,k0,k1,k2,k3⟩:=V.out wr hb i hlt
   have t1:=hiT (T1.out i hlt)
   have hI:(i:Int) < (c.vars.length:Int):=by omega
   have i1:InW g wr:=⟨hg⟩
   have i2:InW sb wr:=⟨lt_of_block hx⟩
   have c6:wr.cell? ⟨sb,6,none⟩ = some (.slice da i dc):=by rw [cell_of_row _ _ _ _ _ _ hx];rfl
   generalize c.vars[i] = x at *
   have hO':=hiT hO
   have hx':=hiT hx
   have hz':=hiT hz
   have hy':=hiT hy
   clear V T1 hO hx hz hy
   go_wp2_with (at_builtin;refine z0u rfl _ _ 37 rfl w.heap.size 66 j0 _ 3 32 Tryz.underlying37 hj hy1 hy2 hy3 rfl deT (.slice da i dc) i _ rfl (z0a hO'.out gzT) (some ⟨_,0,none⟩) 1 1 (vlC (z9i x)) rfl (q2g (q2a (by simp)) rfl) rfl (k4s _) (by unfold maxLen;omega) omT gzT ?_)
   intro v' w2 hown2 hgrow
   have hb2:Below w.heap.size w w2:=Below.grown gzT hgrow gzT (fun k hk=>(hO'.out.lt k hk).1)
   have hx2:=z0h (z0a hO'.out gzT) (z0c hx'.out gzT) deT hgrow
   have hy2':=z0h (z0a hO'.out gzT) (z0c hy'.out gzT) deT hgrow
   have hz2:=z0h (z0a hO'.out gzT) (z0c hz'.out gzT) deT hgrow
   obtain ⟨oa2,oc2,rfl⟩:=z0g hown2
   have i3:InW sb w2:=⟨lt_of_block hx2⟩
   have c6':w2.cell? ⟨sb,6,none⟩ = some (.slice da i dc):=by rw [cell_of_row _ _ _ _ _ _ hx2];rfl
   have f6:=frozen_of_row w2 sb 6 _ _ hx2
   have h6:=z0b c6'
   have hown3:(w2.setCell ⟨sb,6,none⟩ (.slice oa2 (i + 1) oc2)).ownsRow w.heap.size 66 3 (.slice oa2 (i + 1) oc2) (i + 1) (((c.vars.map z9i).take (i + 1)).flatMap vlC):=by
    rw [t1.out]
    exact ownsRow_setCell_other (a:=⟨sb,6,none⟩) hown2 (z0n hown2 hx2 deT) _
   have hx3:(w2.setCell ⟨sb,6,none⟩ (.slice oa2 (i + 1) oc2)).heap[sb]? = some (.cells (snB c.states.length (i + 1) pb oa2 oc2) 44 (0,0)):=z0l hx2
   have hy3':=z0i (i:=6) (v := .slice oa2 (i + 1) oc2) hy2' hne
   have hz3:=z0i (i:=6) (v := .slice oa2 (i + 1) oc2) hz2 hnp
   have hb3:=hb2.setCell (p:=⟨sb,6,none⟩) hle (.slice oa2 (i + 1) oc2)
   have hall:=hiT (And.intro hown3 (And.intro hx3 (And.intro hy3' (And.intro hz3 hb3))))
   clear hown2 hgrow hx2 hy2' hz2 hown3 hx3 hy3' hz3 hb2 hb3 hO' hx' hz' hy' t1 hj hy1 hy2 hy3
   go_wp2
   go_roundw
   case rel=>exact ⟨i + 1,oa2,oc2,by go_num,by omega,hall.out.2.1,hall.out.1,hall.out.2.2.2.1,hall.out.2.2.1,hall.out.2.2.2.2⟩
   case measure=>simp [intOf];omega
  ·obtain rfl:i = c.vars.length:=by omega
   have hI:¬ ((c.vars.length:Nat):Int) < (c.vars.length:Int):=by omega
   rw [List.take_of_length_le (by rw [List.length_map];exact Nat.le_refl _)] at hO
   obtain ⟨s0,s1,s2,s3,s4,s5,s6,s7,s8,s9,s10,s11,s12,s13,sl,-⟩:=z1p hx
   obtain ⟨r0,r1,r2,r3,r4,r5,r6,r7,r8,r9,r10,r11,r12,r13,rl,rf⟩:=z1p hy
   have i1:InW sb wr:=⟨sl⟩
   have i2:InW rb wr:=⟨rl⟩
   have e0:=z0b r0
   have q0:=rf 0
   have e1:=z0b r1
   have q1:=rf 1
   have e2:=z0b r2
   have q2:=rf 2
   have e3:=z0b r3
   have q3:=rf 3
   have e4:=z0b r4
   have q4:=rf 4
   have e5:=z0b r5
   have q5:=rf 5
   have e6:=z0b r6
   have q6:=rf 6
   have e7:=z0b r7
   have q7:=rf 7
   have e8:=z0b r8
   have q8:=rf 8
   have e9:=z0b r9
   have q9:=rf 9
   have e10:=z0b r10
   have q10:=rf 10
   have e11:=z0b r11
   have q11:=rf 11
   have e12:=z0b r12
   have q12:=rf 12
   have e13:=z0b r13
   have q13:=rf 13
   have h1:=hiT (z2s (z2g (v0 := .int .i64 1) (v1 := .int .i64 0) (v2 := .int .i64 0) (v3 := .int .i64 0) (v4 := .int .u64 0) (v5 := .slice (some ⟨pb,0,none⟩) c.states.length c.states.length) (v6 := .slice da c.vars.length dc) (v7 := .slice none 0 0) (v8 := .slice none 0 0) (v9 := .slice none 0 0) (v10 := .string ⟨#[]⟩) (v11 := .slice none 0 0) (v12 := .int .u64 0) (v13 := .slice none 0 0) hO hy deT))
   have h2:=hiT (z2g (v0 := .int .i64 1) (v1 := .int .i64 0) (v2 := .int .i64 0) (v3 := .int .i64 0) (v4 := .int .u64 0) (v5 := .slice (some ⟨pb,0,none⟩) c.states.length c.states.length) (v6 := .slice da c.vars.length dc) (v7 := .slice none 0 0) (v8 := .slice none 0 0) (v9 := .slice none 0 0) (v10 := .string ⟨#[]⟩) (v11 := .slice none 0 0) (v12 := .int .u64 0) (v13 := .slice none 0 0) (q3m (n:=c.states.length) (s:=1) (show w.heap.size ≤ pb by omega) hz (by simp [z7o]) (by unfold maxLen;omega)) hy deT)
   have hfin:=hiT (z8s (b:=rb) (v0 := .int .i64 1) (v1 := .int .i64 0) (v2 := .int .i64 0) (v3 := .int .i64 0) (v4 := .int .u64 0) (v5 := .slice (some ⟨pb,0,none⟩) c.states.length c.states.length) (v6 := .slice da c.vars.length dc) (v7 := .slice none 0 0) (v8 := .slice none 0 0) (v9 := .slice none 0 0) (v10 := .string ⟨#[]⟩) (v11 := .slice none 0 0) (v12 := .int .u64 0) (v13 := .slice none 0 0) hb (show w.heap.size ≤ rb by omega))
   have eD:(c.vars.map z9i).length = c.vars.length:=List.length_map ..
   have eP:(List.replicate c.states.length (0:Int)).length = c.states.length:=List.length_replicate ..
   replace eD:=hiT eD
   replace eP:=hiT eP
   clear hx hy hz hO rf V T1 hb hwz hj hy1 hy2 hy3
   go_wp2
   go_returns
   refine ⟨pb,da,dc,?_,?_,hfin.out⟩
   ·unfold snV sn0
    dsimp only
    rw [eD.out,eP.out]
    rfl
   ·have nil:∀ wx:World,z2d wx none 0 []:=fun wx=>⟨fun _=>⟨rfl,rfl⟩,fun h=>absurd rfl h⟩
    refine ⟨?_,h1.out,nil _,nil _,nil _,nil _,nil _⟩
    have:=z2s h2.out
    rw [y8k] at this
    exact this
def evC (p:List UInt8 × Vl):List Value:=[str p.1,.int .i64 p.2.k,.int .i64 p.2.n,.string p.2.s]
def y1z (c:Ch) (s:Sn):List (List UInt8 × Vl):=(c.vars.map (·.name)).zip s.data
theorem v8e (p:List UInt8 × Vl):(evC p).length = 4:=rfl
theorem y9x (p:List UInt8 × Vl):∀ u ∈ evC p,u.oneCell' = true:=by
 intro u hu
 simp only [evC,List.mem_cons,List.not_mem_nil,or_false] at hu
 rcases hu with rfl | rfl | rfl | rfl <;> rfl
theorem Tryz.infoCe:(Tryz.prog.info? 95).map (fun i=>(i.zero,i.size,i.bytes)) = some (some (.agg #[.string ⟨#[]⟩,.int .i64 0,.int .i64 0,.string ⟨#[]⟩]),4,48):=by kernel_rfl
def k5j (c:Ch) (s:Sn) (k:Nat) (w:World) (e:Ending) (w':World):Prop:=∃ (xa:Option Addr) (xc:Nat) (ya:Option Addr) (yc:Nat),e = .returned (.agg #[.slice xa (y1z c s).length xc,.slice ya (q5m c.states (z5h k)).length yc]) ∧
 z2d w' xa xc ((y1z c s).flatMap evC) ∧ z2d w' ya yc (z6a (q5m c.states (z5h k))) ∧ Below w.heap.size w w'
set_option maxRecDepth 100000 in
set_option maxHeartbeats 4000000 in
theorem k9j {c:Ch} {rv gi:Nat → Value} {b cap:Nat} {gv:Value} (s:Sn) (k A:Nat) (hk:s.inn = (k:Int)) (hk64:k < 2 ^ 64) (hD:s.data.length = c.vars.length) (pa:Option Addr) (pc:Nat) (da:Option Addr) (dc:Nat) (ia:Option Addr) (ic:Nat) (oa:Option Addr) (oc:Nat) (ta:Option Addr) (tc:Nat) (ka:Option Addr) (kc:Nat) (ua:Option Addr) (uc:Nat) (va:Option Addr) (vc:Nat) (hv16:c.vars.length ≤ 16)
  (w:World) (hT:Db w) (h:TbC c rv gi b w) (hv:w.ownsRow A 80 4 (.slice va c.vars.length vc) c.vars.length (j0g c.vars)) (hs:z2d w da dc (s.data.flatMap vlC)) :
  Calls Tryz.prog 23 #[snV s pa pc da dc ia ic oa oc ta tc ka kc ua uc,.agg #[.slice va c.vars.length vc,.slice (some ⟨b,0,none⟩) c.states.length cap,gv]] w (k5j c s k w):=by
 unfold k5j
 have N:=hiT (fun wx (hx:Below w.heap.size w wx)=>y1c (vv := .slice va c.vars.length vc) (gv:=gv) (cap:=cap) k hk64 (z4f hT hx) (z7n h hx))
 have V:=hiT (fun wx (hb:Below w.heap.size w wx) i hi=>y3x (z0a hv hb) i hi)
 have D:=hiT (fun wx (hb:Below w.heap.size w wx) i (hi:i < s.data.length)=>show ∃ g o,da = some ⟨g,o,none⟩ ∧ g < w.heap.size ∧ ∀ j u,j < 3 → (vlC s.data[i])[j]? = some u → wx.cell? ⟨g,o + i * 3 + j,none⟩ = some u from by
  obtain ⟨g,o,e,hg,hc⟩:=z8g vlC 3 q5s hs i hi deT
  exact ⟨g,o,e,hg,fun j u hj hu=>(hb.cell (p:=⟨g,_,none⟩) hg).trans (hc j u hj hu)⟩)
 have T1:=hiT (fun i (hi:i < c.vars.length) (hj:i < s.data.length)=>show ((y1z c s).take (i + 1)).flatMap evC = ((y1z c s).take i).flatMap evC ++ evC (c.vars[i].name,s.data[i]) by
  have hz:i < (y1z c s).length:=by unfold y1z;rw [List.length_zip,List.length_map];omega
  have e:(y1z c s)[i]'hz = (c.vars[i].name,s.data[i]):=by simp [y1z]
  rw [List.take_succ_eq_append_getElem hz,List.flatMap_append,e]
  simp)
 have hL:(y1z c s).length = c.vars.length:=by unfold y1z;rw [List.length_zip,List.length_map];omega
 obtain ⟨j0,hj,hy1,hy2,hy3⟩:=info_parts Tryz.infoCe
 replace hL:=hiT hL
 replace hD:=hiT hD
 generalize y1z c s = L at *
 obtain ⟨s0,s1,s2,s3,s4,s5,s6,s7,s8,s9,s10,s11,s12,s13⟩:=s
 dsimp only [snV] at *
 subst hk
 clear h hv hs hT
 go_enter Tryz.func23,Tryz.ntmps23
 go_wp2_with fail
 refine (N.out _ gzT).mono ?_
 rintro e w1 ⟨v1,rfl,hO1,hb1⟩
 obtain ⟨ya,yc,rfl⟩:=z0g hO1
 have bw1:Below w.heap.size w w1:=Below.trans gzT (hb1.mono (by simp;omega))
 have bx:=z0c (z0j (z0j (heap_alloc_new w (.cells #[.int .i64 s0,.int .i64 s1,.int .i64 s2,.int .i64 s3,.int .u64 (k:Int),.slice pa s5.length pc,.slice da s6.length dc,.slice ia s7.length ic,.slice oa s8.length oc,.slice ta s9.length tc,.string s10,.slice ka s11.length kc,.int .u64 s12,.slice ua s13.length uc] 44)))) hb1
 have tx:=z0c (z0j (o := .cells #[.slice none 0 0,.slice none 0 0] 90) (z0s (b:=w.heap.size + 1) (w:=w.alloc (.cells #[.int .i64 s0,.int .i64 s1,.int .i64 s2,.int .i64 s3,.int .u64 (k:Int),.slice pa s5.length pc,.slice da s6.length dc,.slice ia s7.length ic,.slice oa s8.length oc,.slice ta s9.length tc,.string s10,.slice ka s11.length kc,.int .u64 s12,.slice ua s13.length uc] 44)) (o := .cells #[.slice va c.vars.length vc,.slice (some ⟨b,0,none⟩) c.states.length cap,gv] 27) (by simp))) hb1
 have rx:w1.heap[w.heap.size + 1 + 1]? = some (.cells #[.slice none 0 0,.slice none 0 0] 90 (0,0)):=z0c (z0s (by simp)) hb1
 have hO1':=hiT (z0m hO1 (show w.heap.size ≤ _ by simp;omega))
 clear hb1 hO1 N
 obtain ⟨t0,t1,t2,tl,-⟩:=z3p tx
 have i1:InW (w.heap.size + 1) w1:=⟨tl⟩
 have hz1:=bw1.size
 have hw12:w.heap.size + 1 + 1 < w1.heap.size:=lt_of_block rx
 dsimp only
 go_wp2
 obtain ⟨W0,hW0⟩:∃ X,w1.alloc (.cells #[.slice none 0 0,.slice ya (q5m c.states (z5h k)).length yc] 90) = X:=⟨_,rfl⟩
 have b0:Below w1.heap.size w1 W0:=by rw [← hW0];exact gzT
 have e0:W0.heap[w1.heap.size]? = some (.cells #[.slice none 0 0,.slice ya (q5m c.states (z5h k)).length yc] 90 (0,0)):=by rw [← hW0];exact heap_alloc_new w1 _
 rw [hW0]
 clear hW0
 generalize hmm:(q5m c.states (z5h k)).length = m at *
 replace hmm:=hiT hmm
 generalize heb:w1.heap.size = eb at *
 generalize hrb:w.heap.size + 1 + 1 = rb at *
 have bx0:=z0c bx (by rw [heb];exact b0)
 have rx0:=z0c rx (by rw [heb];exact b0)
 have hre:rb ≠ eb:=by omega
 have hbe:w.heap.size ≠ eb:=by omega
 have hle:w.heap.size ≤ eb:=by omega
 go_loopw [16] (fun v wr=>∃ (i:Nat) (xa:Option Addr) (xc:Nat),v = .int .i64 (i:Int) ∧ i ≤ c.vars.length ∧ wr.heap[eb]? = some (.cells #[.slice xa i xc,.slice ya m yc] 90 (0,0)) ∧ wr.ownsRow eb 95 4 (.slice xa i xc) i ((L.take i).flatMap evC) ∧ wr.heap[w.heap.size]? = some (.cells #[.int .i64 s0,.int .i64 s1,.int .i64 s2,.int .i64 s3,.int .u64 (k:Int),.slice pa s5.length pc,.slice da s6.length dc,.slice ia s7.length ic,.slice oa s8.length oc,.slice ta s9.length tc,.string s10,.slice ka s11.length kc,.int .u64 s12,.slice ua s13.length uc] 44 (0,0)) ∧ wr.heap[rb]? = some (.cells #[.slice none 0 0,.slice none 0 0] 90 (0,0)) ∧ Below eb w1 wr) (fun v _=>c.vars.length - (intOf v).toNat)
 case atStart=>exact ⟨0,none,0,rfl,Nat.zero_le _,e0,World.ownsRow_nil _ _ _ _,bx0,rx0,b0⟩
 case round =>
  obtain ⟨i,xa,xc,rfl,hi,hx,hO,hbx,hrx,hb⟩:=hrel
  rename World=>wr
  have hbw:Below w.heap.size w wr:=bw1.trans (hb.mono hle)
  have hwz:=hbw.size
  have hez:eb ≤ wr.heap.size:=by have:=hb.size;omega
  clear e0 bx0 rx0 b0 bx rx
  by_cases hlt:i < c.vars.length
  ·obtain ⟨g,rfl,hg,k0,k1,k2,k3⟩:=V.out wr hbw i hlt
   have hi6:i < s6.length:=by rw [hD.out];exact hlt
   obtain ⟨dg,dd,rfl,hdg,hd⟩:=D.out wr hbw i hi6
   have t1:=hiT (T1.out i hlt hi6)
   have hI:(i:Int) < (c.vars.length:Int):=by omega
   have hI6:(i:Int) < (s6.length:Int):=by omega
   generalize c.vars[i] = x at *
   generalize s6[i] = y at *
   have d0:=hd 0 _ deT rfl
   have d1:=hd 1 _ deT rfl
   have d2:=hd 2 _ deT rfl
   rw [Nat.add_zero] at d0
   have i2:InW g wr:=⟨hg⟩
   have i3:InW dg wr:=⟨Nat.lt_of_lt_of_le hdg hwz⟩
   have i4:InW w.heap.size wr:=⟨lt_of_block hbx⟩
   have i5:InW eb wr:=⟨lt_of_block hx⟩
   have c6:wr.cell? ⟨w.heap.size,6,none⟩ = some (.slice (some ⟨dg,dd,none⟩) s6.length dc):=by rw [cell_of_row _ _ _ _ _ _ hbx];rfl
   have c0:wr.cell? ⟨eb,0,none⟩ = some (.slice xa i xc):=by rw [cell_of_row _ _ _ _ _ _ hx];rfl
   have hO':=hiT hO
   have hx':=hiT hx
   have hbx':=hiT hbx
   have hrx':=hiT hrx
   clear V D T1 hO hx hbx hrx hd
   go_wp2_with fail
   obtain ⟨W1,hW1⟩:∃ X,wr.alloc (.cells #[.string ⟨x.name.toArray⟩,.int .i64 x.vk,.int .i64 x.vn,.string ⟨x.vs.toArray⟩] 80) = X:=⟨_,rfl⟩
   have bW:Below wr.heap.size wr W1:=by rw [← hW1];exact gzT
   have n0:W1.cell? ⟨wr.heap.size,0,none⟩ = some (str x.name):=by rw [← hW1,cell_of_row _ _ _ _ _ _ (heap_alloc_new wr _)];rfl
   have hvb:=hiT (show W1.heap[wr.heap.size]? = some (.cells #[.string ⟨x.name.toArray⟩,.int .i64 x.vk,.int .i64 x.vn,.string ⟨x.vs.toArray⟩] 80 (0,0)) by rw [← hW1];exact heap_alloc_new wr _)
   have iW:InW wr.heap.size W1:=⟨by rw [← hW1];simp⟩
   have c0':=(bW.cell (p:=⟨eb,0,none⟩) i5.lt).trans c0
   have c6':=(bW.cell (p:=⟨w.heap.size,6,none⟩) i4.lt).trans c6
   have d0':=(bW.cell (p:=⟨dg,_,none⟩) i3.lt).trans d0
   have d1':=(bW.cell (p:=⟨dg,_,none⟩) i3.lt).trans d1
   have d2':=(bW.cell (p:=⟨dg,_,none⟩) i3.lt).trans d2
   have i3':InW dg W1:=⟨Nat.lt_of_lt_of_le i3.lt bW.size⟩
   have i4':InW w.heap.size W1:=⟨Nat.lt_of_lt_of_le i4.lt bW.size⟩
   have i5':InW eb W1:=⟨Nat.lt_of_lt_of_le i5.lt bW.size⟩
   have hO1:=hiT (z0a hO'.out bW)
   have hx1:=hiT (z0c hx'.out bW)
   have hbx1:=hiT (z0c hbx'.out bW)
   have hrx1:=hiT (z0c hrx'.out bW)
   have hbW:Below eb w1 W1:=hb.trans (bW.mono hez)
   have hzW:=bW.size
   have hez1:eb ≤ W1.heap.size:=Nat.le_trans hez hzW
   rw [hW1]
   have hbW':=hiT hbW
   clear hW1 bW c0 c6 d0 d1 d2 hO' hx' hbx' hrx' hbW k0 k1 k2 k3 i2 i3 i4 i5
   refine z1n (S:=fun w'=>w'.cell? ⟨eb,0,none⟩ = some (.slice xa i xc) ∧ w'.cell? ⟨wr.heap.size,0,none⟩ = some (str x.name) ∧ w'.cell? ⟨w.heap.size,6,none⟩ = some (.slice (some ⟨dg,dd,none⟩) s6.length dc) ∧ w'.cell? ⟨dg,dd + i * 3,none⟩ = some (.int .i64 y.k) ∧ w'.cell? ⟨dg,dd + i * 3 + 1,none⟩ = some (.int .i64 y.n) ∧ w'.cell? ⟨dg,dd + i * 3 + 2,none⟩ = some (.string y.s)) 13 krT (by exact ⟨c0',n0,c6',d0',d1',d2'⟩) (fun hS=>?_)
   have hT:=hS
   (try dsimp only at hT)
   obtain ⟨q0,q1,q2,q3,q4,q5⟩:=hT
   (refine mT 0 rfl rfl (v:=?_) (Or.inl ⟨by rfl,?_⟩) ?_;rotate_left;(focus (intro w hSw;(try dsimp only at hSw);go_simp;all_goals (with_reducible rfl)));simp only [List.setIfInBounds_toArray,List.set_cons_zero,List.set_cons_succ])
   (refine mT 1 rfl rfl (v:=?_) (Or.inl ⟨by rfl,?_⟩) ?_;rotate_left;(focus (intro w hSw;(try dsimp only at hSw);go_simp;all_goals (with_reducible rfl)));simp only [List.setIfInBounds_toArray,List.set_cons_zero,List.set_cons_succ])
   (refine mT 2 rfl rfl (v:=?_) (Or.inl ⟨by rfl,?_⟩) ?_;rotate_left;(focus (intro w hSw;(try dsimp only at hSw);go_simp;all_goals (with_reducible rfl)));simp only [List.setIfInBounds_toArray,List.set_cons_zero,List.set_cons_succ])
   (refine mT 3 rfl rfl (v:=?_) (Or.inl ⟨by rfl,?_⟩) ?_;rotate_left;(focus (intro w hSw;(try dsimp only at hSw);go_simp;all_goals (with_reducible rfl)));simp only [List.setIfInBounds_toArray,List.set_cons_zero,List.set_cons_succ])
   (refine mT 4 rfl rfl (v:=?_) (Or.inl ⟨by rfl,?_⟩) ?_;rotate_left;(focus (intro w hSw;(try dsimp only at hSw);go_simp;all_goals (with_reducible rfl)));simp only [List.setIfInBounds_toArray,List.set_cons_zero,List.set_cons_succ])
   (refine mT 5 rfl rfl (v:=?_) (Or.inl ⟨by rfl,?_⟩) ?_;rotate_left;(focus (intro w hSw;(try dsimp only at hSw);go_simp;all_goals (with_reducible rfl)));simp only [List.setIfInBounds_toArray,List.set_cons_zero,List.set_cons_succ])
   (refine mT 6 rfl rfl (v:=?_) (Or.inl ⟨by rfl,?_⟩) ?_;rotate_left;(focus (intro w hSw;(try dsimp only at hSw);go_simp;all_goals (with_reducible rfl)));simp only [List.setIfInBounds_toArray,List.set_cons_zero,List.set_cons_succ])
   (refine mT 7 rfl rfl (v:=?_) (Or.inl ⟨by rfl,?_⟩) ?_;rotate_left;(focus (intro w hSw;(try dsimp only at hSw);go_simp;all_goals (with_reducible rfl)));simp only [List.setIfInBounds_toArray,List.set_cons_zero,List.set_cons_succ])
   (refine mT 8 rfl rfl (v:=?_) (Or.inl ⟨by rfl,?_⟩) ?_;rotate_left;(focus (intro w hSw;(try dsimp only at hSw);go_simp;all_goals (with_reducible rfl)));simp only [List.setIfInBounds_toArray,List.set_cons_zero,List.set_cons_succ])
   (refine mT 9 rfl rfl (v:=?_) (Or.inl ⟨by rfl,?_⟩) ?_;rotate_left;(focus (intro w hSw;(try dsimp only at hSw);go_simp;all_goals (with_reducible rfl)));simp only [List.setIfInBounds_toArray,List.set_cons_zero,List.set_cons_succ])
   refine z0f (t:=10) krT rfl rfl (fun K' hK=>?_)
   go_simp
   refine hK.out _ _ (fun _=>?_) (fun hS=>?_)
   ·(try dsimp only)
    exact ⟨(z0p _ _ _ _).trans q0,(z0p _ _ _ _).trans q1,(z0p _ _ _ _).trans q2,(z0p _ _ _ _).trans q3,(z0p _ _ _ _).trans q4,(z0p _ _ _ _).trans q5⟩
   clear q0 q1 q2 q3 q4 q5 hK K'
   replace hS:=hS deT
   refine z2w (t:=11) krT rfl rfl rfl (fun K' hK=>?_)
   refine wp_append_lies _ (.tmp 27) (.tmp 36) 88 rfl eb 95 j0 _ 4 48 Tryz.underlying88 hj hy1 hy2 hy3 rfl deT (.slice xa i xc) i _ (by simp [Act.eval]) (z0a hO1.out gzT) ⟨_,0,none⟩ 1 1 (evC (x.name,y)) rfl rfl (World.news_of_block (z0s (by simp))) (y9x _) deT (by unfold maxLen;omega) omT gzT _ rfl ?_
   intro g' cap' w5 hown1 hgrow hat1 hg1
   have hx2:=z0h (z0a hO1.out gzT) (z0c hx1.out gzT) deT hgrow
   have hbx2:=z0h (z0a hO1.out gzT) (z0c hbx1.out gzT) deT hgrow
   have hrx2:=z0h (z0a hO1.out gzT) (z0c hrx1.out gzT) deT hgrow
   have hb2:Below eb w1 w5:=Below.grown (show Below eb w1 _ from hbW'.out.trans (Below.mono (B:=W1.heap.size) gzT hez1)) hgrow gzT (fun k hk=>(hO1.out.lt k hk).1)
   have k1:w5.cell? ⟨wr.heap.size,0,none⟩ = some (str x.name):=by
    rw [cell_of_row _ _ _ _ _ _ (z0h (z0a hO1.out gzT) (z0c hvb.out gzT) deT hgrow)]
    rfl
   have hbX:Below eb W1 w5:=Below.grown (show Below eb W1 _ from Below.mono (B:=W1.heap.size) gzT hez1) hgrow gzT (fun k hk=>(hO1.out.lt k hk).1)
   have k2:=(hbX.cell (p:=⟨w.heap.size,6,none⟩) (by show w.heap.size < eb;omega)).trans c6'
   have k3:=(hbX.cell (p:=⟨dg,_,none⟩) (by show dg < eb;omega)).trans d0'
   have k4:=(hbX.cell (p:=⟨dg,_,none⟩) (by show dg < eb;omega)).trans d1'
   have k5:=(hbX.cell (p:=⟨dg,_,none⟩) (by show dg < eb;omega)).trans d2'
   have i6:InW eb w5:=⟨lt_of_block hx2⟩
   have c5:w5.cell? ⟨eb,0,none⟩ = some (.slice xa i xc):=by rw [cell_of_row _ _ _ _ _ _ hx2];rfl
   have f5:=frozen_of_row w5 eb 0 _ _ hx2
   have h5:=z0b c5
   have hown3:(w5.setCell ⟨eb,0,none⟩ (.slice (some ⟨g',0,none⟩) (i + 1) cap')).ownsRow eb 95 4 (.slice (some ⟨g',0,none⟩) (i + 1) cap') (i + 1) ((L.take (i + 1)).flatMap evC):=by
    rw [t1.out]
    exact ownsRow_setCell_other (a:=⟨eb,0,none⟩) hown1 (z0n hown1 hx2 deT) _
   have hx3:(w5.setCell ⟨eb,0,none⟩ (.slice (some ⟨g',0,none⟩) (i + 1) cap')).heap[eb]? = some (.cells #[.slice (some ⟨g',0,none⟩) (i + 1) cap',.slice ya m yc] 90 (0,0)):=z0l hx2
   have hbx3:=z0i (i:=0) (v := .slice (some ⟨g',0,none⟩) (i + 1) cap') hbx2 hbe
   have hrx3:=z0i (i:=0) (v := .slice (some ⟨g',0,none⟩) (i + 1) cap') hrx2 hre
   have hb3:=hb2.setCell (p:=⟨eb,0,none⟩) (Nat.le_refl _) (.slice (some ⟨g',0,none⟩) (i + 1) cap')
   have hall:=hiT (And.intro hown3 (And.intro hx3 (And.intro hbx3 (And.intro hrx3 hb3))))
   refine hK.out _ _ (fun _=>?_) (fun hS=>?_)
   ·exact ⟨c5,k1,k2,k3,k4,k5⟩
   clear hK K' hown1 hgrow hat1 hx2 hbx2 hrx2 hown3 hx3 hbx3 hrx3 hb2 hb3
   replace hS:=hS deT
   (refine mT 12 rfl rfl (v:=?_) (Or.inl ⟨by rfl,?_⟩) ?_;rotate_left;(focus (intro w hSw;(try dsimp only at hSw);go_simp;all_goals (with_reducible rfl)));simp only [List.setIfInBounds_toArray,List.set_cons_zero,List.set_cons_succ])
   refine z0f (t:=13) krT rfl rfl (fun K' hK=>?_)
   go_simp
   refine hK.out _ _ (fun h=>absurd rfl h) (fun _=>z1j krT ?_)
   go_wp2
   go_roundw
   case rel=>exact ⟨i + 1,some ⟨g',0,none⟩,cap',by go_num,by omega,hall.out.2.1,hall.out.1,hall.out.2.2.1,hall.out.2.2.2.1,hall.out.2.2.2.2⟩
   case measure=>simp [intOf];omega
  ·obtain rfl:i = c.vars.length:=by omega
   have hI:¬ ((c.vars.length:Nat):Int) < (c.vars.length:Int):=by omega
   have eL:L.take c.vars.length = L:=by rw [← hL.out,List.take_length]
   rw [eL] at hO
   have c0:wr.cell? ⟨eb,0,none⟩ = some (.slice xa c.vars.length xc):=by rw [cell_of_row _ _ _ _ _ _ hx];rfl
   have c1:wr.cell? ⟨eb,1,none⟩ = some (.slice ya m yc):=by rw [cell_of_row _ _ _ _ _ _ hx];rfl
   have r0:wr.cell? ⟨rb,0,none⟩ = some (.slice none 0 0):=by rw [cell_of_row _ _ _ _ _ _ hrx];rfl
   have r1:wr.cell? ⟨rb,1,none⟩ = some (.slice none 0 0):=by rw [cell_of_row _ _ _ _ _ _ hrx];rfl
   have i5:InW eb wr:=⟨lt_of_block hx⟩
   have i6:InW rb wr:=⟨lt_of_block hrx⟩
   have f0:=frozen_of_row wr rb 0 _ _ hrx
   have f1:=frozen_of_row wr rb 1 _ _ hrx
   have h0:=z0b r0
   have h1:=z0b r1
   have hle2:w.heap.size ≤ rb:=by omega
   have hY:=z0a hO1'.out (show Below w1.heap.size w1 wr by rw [heb];exact hb)
   have o1:=hiT (z2s (ownsRow_setCell_other (a:=⟨rb,1,none⟩) (ownsRow_setCell_other (a:=⟨rb,0,none⟩) hO (z0n hO hrx deT) (.slice xa c.vars.length xc)) (z0n hO hrx deT) (.slice ya m yc)))
   have o2:=hiT (z2s (ownsRow_setCell_other (a:=⟨rb,1,none⟩) (ownsRow_setCell_other (a:=⟨rb,0,none⟩) hY (z0n hY hrx deT) (.slice xa c.vars.length xc)) (z0n hY hrx deT) (.slice ya m yc)))
   have hfin:=hiT ((hbw.setCell (p:=⟨rb,0,none⟩) hle2 (.slice xa c.vars.length xc)).setCell (p:=⟨rb,1,none⟩) hle2 (.slice ya m yc))
   clear hx hO hbx hrx hY V D T1 hbw hb bw1
   go_wp2
   go_returns
   exact ⟨xa,xc,ya,yc,by rw [hL.out,hmm.out],o1.out,o2.out,hfin.out⟩
end Go.Proofs.YtacnlghljmgdiaaGreatDoor
namespace Go.Proofs.YtacnlghljmgdiaaGreatDoor
structure VrOk (v:Vr):Prop where
 right:z5n v.vk v.vn ⟨v.vs.toArray⟩ = true
 n64:I64 v.vn
 name:v.name.length ≤ 64
 text:v.vs.length ≤ 64
def VrL (n:Ln):Prop:=n.kind = 2 → VrOk ⟨n.name,n.vk,n.vn,n.vs⟩
theorem j6r {ts:List Tk} (ok:∀ t ∈ ts,TkOk t) {a:Nat} {s:List UInt8} (h:z2b ts a = some s):s.length ≤ 64:=by
 unfold z2b at h
 split at h
 ·rename_i t ht
  split at h
  ·rename_i hk
   cases h
   simp only [Bool.and_eq_true,beq_iff_eq,Bool.not_eq_true'] at hk
   have:=((ok t (List.mem_of_getElem? ht)).word hk.1 hk.2).2
   omega
  ·cases h
 ·cases h
theorem k4q {ts:List Tk} (ok:∀ t ∈ ts,TkOk t) {a b:Nat} {k n:Int} {s:List UInt8} (h:z9g ts a = some (k,n,s,b)):z5n k n ⟨s.toArray⟩ = true ∧ I64 n ∧ s.length ≤ 64:=by
 have num:∀ m:Int,z5n 1 m ⟨(([]:List UInt8)).toArray⟩ = true:=fun m=>by
  unfold z5n
  simp [Lib.toList_data]
 unfold z9g at h
 split at h
 ·split at h
  ·rename_i t ht
   split at h
   ·rename_i hk
    cases h
    have:=(ok t (List.mem_of_getElem? ht)).num (by simpa using hk)
    exact ⟨num _,by have h2:=this.2;unfold I64 at *;omega,by simp⟩
   ·cases h
  ·cases h
 ·split at h
  ·rename_i t ht
   have o:=ok t (List.mem_of_getElem? ht)
   split at h
   ·rename_i hk
    cases h
    have:=o.num (by simpa using hk)
    exact ⟨num _,this.2,by simp⟩
   ·split at h
    ·rename_i hk
     cases h
     obtain ⟨q1,q2⟩:=o.quo (by simpa using hk)
     refine ⟨?_,by unfold I64;omega,by omega⟩
     unfold z5n
     simp [q1]
    ·split at h
     ·cases h
      refine ⟨?_,by unfold I64;omega,by simp⟩
      unfold z5n
      simp [Lib.toList_data]
     ·split at h
      ·cases h
       refine ⟨?_,by unfold I64;omega,by simp⟩
       unfold z5n
       simp [Lib.toList_data]
      ·cases h
  ·cases h
theorem q0m (n:Ln) (h:¬ n.kind = 2):VrL n:=fun e=>absurd e h
theorem q5q {ts:List Tk} {n m:Ln} {a b:Nat} (h:q1v ts n a = .ok (m,b)):m.kind = n.kind:=by
 unfold q1v at h
 repeat' split at h
 all_goals first | (cases h;done) | (cases h;rfl)
theorem v0q {ts:List Tk} (ok:∀ t ∈ ts,TkOk t) {k:Nat} {m:Ln} {a b:Nat} (h:q1s ts k a = some (m,b)):VrL m:=by
 unfold q1s at h
 split at h
 ·cases h
 ·rename_i hn
  split at h
  ·rename_i hk
   split at h
   ·cases h
   ·rename_i hv
    cases h
    obtain ⟨v1,v2,v3⟩:=k4q ok hv
    exact fun _=>⟨v1,v2,j6r ok hn,v3⟩
  ·rename_i hk
   have hk':¬ ((k:Int) = 2):=by omega
   repeat' split at h
   all_goals first | (cases h;done) | (cases h;exact q0m _ hk')
theorem v6v {ts:List Tk} (ok:∀ t ∈ ts,TkOk t) {k:Nat} {m:Ln} {a b:Nat} (h:j0e ts k a = .ok (m,b)):VrL m:=by
 unfold j0e at h
 split at h
 ·rename_i hk
  cases h
  exact q0m _ (by show ¬ (k:Int) = 2;omega)
 ·split at h
  ·rename_i hk
   split at h
   ·cases h
   ·cases h
    exact q0m _ (by show ¬ (k:Int) = 2;omega)
  ·split at h
   ·rename_i hk
    split at h
    ·cases h
    ·refine q0m _ ?_
     rw [q5q h]
     show ¬ (k:Int) = 2
     omega
   ·split at h
    ·rename_i hk
     refine q0m _ ?_
     rw [q5q h]
     show ¬ (k:Int) = 2
     omega
    ·split at h
     ·cases h
     ·rename_i hn
      cases h
      exact v0q ok hn
theorem k2i {l:List UInt8} {n:Ln} (h:z7j l = .ok n):VrL n:=by
 unfold z7j at h
 split at h
 ·cases h
 ·rename_i hx
  unfold y5l at h
  split at h
  ·cases h
  ·split at h
   ·cases h
   ·rename_i hr
    split at h
    ·cases h
    ·cases h
     exact v6v (k1h hx) hr
theorem v6w {c d:Ch} {o p:Int} {n:Ln} (h:∀ v ∈ c.vars,VrOk v) (hn:VrL n) (e:z3d c o n = .ok (d,p)):∀ v ∈ d.vars,VrOk v:=by
 unfold z3d at e
 split at e
 ·split at e
  ·cases e
  ·cases e
   exact fun v hv=>by cases hv
 ·split at e
  ·cases e
  ·split at e
   ·rename_i hk
    split at e
    ·cases e
    ·split at e
     ·cases e
     ·cases e
      intro v hv
      rcases List.mem_append.1 hv with hv | hv
      ·exact h v hv
      ·obtain rfl:=List.mem_singleton.1 hv
       exact hn hk
   ·split at e
    ·unfold q5j at e
     simp only at e
     repeat' split at e
     all_goals first | (cases e;done) | (cases e;exact h)
    ·repeat' split at e
     all_goals first | (cases e;done) | (cases e;exact h)
theorem k4u:∀ (ls:List (List UInt8)) (i:Nat) (c d:Ch) (o p:Int),(∀ v ∈ c.vars,VrOk v) → j4k i ls c o = .ok (d,p) → ∀ v ∈ d.vars,VrOk v
 | [],_,_,_,_,_,g,h=>by cases h;exact g
 | l :: ls,i,c,d,o,p,g,h=>by
  rw [j4k] at h
  split at h
  ·cases h
  ·split at h
   ·cases h
   ·split at h
    ·exact k4u ls _ _ _ _ _ g h
    ·split at h
     ·cases h
     ·rename_i hp
      split at h
      ·cases h
      ·rename_i hs
       exact k4u ls _ _ _ _ _ (v6w g (k2i hp) hs) h
theorem v7k {l:List UInt8} {c:Ch} (h:z3q l = .ok c):∀ v ∈ c.vars,VrOk v:=by
 unfold z3q at h
 split at h
 ·cases h
 ·rename_i hr
  split at h
  ·cases h
   exact k4u _ _ _ _ _ _ (fun v hv=>by cases hv) hr
  ·cases h
end Go.Proofs.YtacnlghljmgdiaaGreatDoor
namespace Go.Proofs.YtacnlghljmgdiaaGreatDoor
open Go.RowKit
set_option maxRecDepth 100000 in
set_option maxHeartbeats 4000000 in
theorem j0u (wx:World):Calls Tryz.prog 64 #[.int .u64 0] wx (z6k (.int .i64 0) wx):=by
 have h:=y4k 0 deT wx
 have e:(z5h 0).length = 0:=by decide +kernel
 rw [e] at h
 exact h
set_option maxRecDepth 100000 in
set_option maxHeartbeats 4000000 in
theorem k3n (tv:Value) (hcell:∃ x y z,tv = .agg #[x,y,z]) (w:World):Calls Tryz.prog 30 #[.agg #[.string ⟨#[]⟩,.slice none 0 0,.int .u64 0,.slice none 0 0],tv] w (Ret (.slice none 0 0) w):=by
 obtain ⟨x,y,z,rfl⟩:=hcell
 have C:=hiT (fun wx=>j0u wx)
 go_enter Tryz.func30,Tryz.ntmps30
 go_wp2_with (((with_reducible refine (C.out _).mono ?_);rintro e w1 ⟨rfl,rfl⟩))
 go_loopw [5,44] (fun x v wr=>x = .slice none 0 0 ∧ v = .int .i64 0 ∧ Below w.heap.size w wr) (fun _ _ _=>0)
 case atStart=>exact ⟨rfl,rfl,gzT⟩
 case round =>
  obtain ⟨rfl,rfl,hb⟩:=hrel
  rename World=>wr
  clear C
  go_wp2
  go_returns
  exact ⟨rfl,gzT⟩
set_option maxRecDepth 100000 in
set_option maxHeartbeats 4000000 in
theorem y7m {c:Ch} {rv gi:Nat → Value} {b cap:Nat} {vv gv:Value} (hm:c.states.length ≤ 49) (pb:Nat) (da ia oa ta ka ua:Option Addr) (dc ic oc tc kc uc:Nat) (w:World) (h:TbC c rv gi b w) (hp:z2d w (some ⟨pb,0,none⟩) c.states.length ((List.replicate c.states.length (0:Int)).flatMap sbC)) :
  Calls Tryz.prog 29 #[snV (sn0 c) (some ⟨pb,0,none⟩) c.states.length da dc ia ic oa oc ta tc ka kc ua uc,.agg #[vv,.slice (some ⟨b,0,none⟩) c.states.length cap,gv]] w (Ret (.slice none 0 0) w):=by
 have C:=hiT (fun wx=>j0u wx)
 have R:=hiT (fun wx (hb:Below w.heap.size w wx)=>z7n h hb)
 have P:=hiT (fun wx (hb:Below w.heap.size w wx) i (hi:i < c.states.length)=>show wx.cell? ⟨pb,i,none⟩ = some (.int .u64 0) ∧ pb < wx.heap.size from by
  obtain ⟨g,o,e,hg,hc⟩:=z8g sbC 1 q8r (z0k hp hb) i (by rw [List.length_replicate];exact hi) deT
  cases e
  have:=hc 0 _ deT rfl
  rw [List.getElem_replicate] at this
  rw [Nat.zero_add,Nat.mul_one,Nat.add_zero] at this
  exact ⟨this,hg⟩)
 have eP:Hid ((sn0 c).past.length = c.states.length):=hiT (List.length_replicate ..)
 have eD:Hid ((sn0 c).data.length = c.vars.length):=hiT (List.length_map ..)
 clear h hp
 unfold snV
 rw [eP.out,eD.out]
 dsimp only [sn0]
 go_enter Tryz.func29,Tryz.ntmps29
 go_wp2
 go_loopw [5,11] (fun x v wr=>∃ i:Nat,x = .slice none 0 0 ∧ v = .int .i64 (i:Int) ∧ i ≤ c.states.length ∧ wr.cell? ⟨w.heap.size,5,none⟩ = some (.slice (some ⟨pb,0,none⟩) c.states.length c.states.length) ∧ Below w.heap.size w wr ∧ w.heap.size < wr.heap.size) (fun _ v _=>c.states.length - (intOf v).toNat)
 case atStart=>exact ⟨0,rfl,rfl,Nat.zero_le _,by simp [go_sem],gzT,by simp;omega⟩
 case round =>
  obtain ⟨i,rfl,rfl,hi,hc,hb,hlt0⟩:=hrel
  rename World=>wr
  have hwz:=hb.size
  by_cases hlt:i < c.states.length
  ·obtain ⟨n0,n1,n2,n3,n4,n5,n6,n7,n8,n9,n10⟩:=y1a (R.out wr hb) hlt
   obtain ⟨p0,pl⟩:=P.out wr hb i hlt
   obtain ⟨⟨a6,l6,m6,e6⟩,⟨a7,l7,m7,e7⟩,⟨a8,l8,m8,e8⟩⟩:=(R.out wr hb).sl i hlt
   rw [e6] at n8
   rw [e7] at n9
   rw [e8] at n10
   clear e6 e7 e8
   have i0:InW b wr:=⟨(R.out wr hb).lt⟩
   have i1:InW pb wr:=⟨pl⟩
   have i2:InW w.heap.size wr:=⟨hlt0⟩
   have hI:(i:Int) < (c.states.length:Int):=by omega
   have hmn:=hiT hm
   generalize c.states.getD i st0 = s at *
   generalize j8s c.states i = p1 at *
   generalize upS c.states i = p2 at *
   generalize j8k c.states i = p3 at *
   generalize j1e c.states i = p4 at *
   generalize y0j c.states i = p5 at *
   clear R P
   go_wp2_with (((with_reducible refine (C.out _).mono ?_);rintro e w1 ⟨rfl,rfl⟩))
   go_roundw
   case rel=>exact ⟨i + 1,rfl,by go_num,by omega,by simp [go_sem, *],gzT,by simp;omega⟩
   case measure=>simp [intOf];omega
  ·obtain rfl:i = c.states.length:=by omega
   have hI:¬ ((c.states.length:Nat):Int) < (c.states.length:Int):=by omega
   clear R P C
   go_wp2
   go_returns
   exact ⟨rfl,gzT⟩
abbrev z7e:ByteArray:=⟨#[48]⟩
theorem v8m (w:World):Calls Tryz.prog 26 #[.int .i64 0] w (z6k (.string z7e) w):=by
 refine (Any.strconv_Itoa_small Tryz.lays171 0 deT w).mono fun _ _ h=>⟨h.1.trans ?_,h.2.symm⟩
 have e:(⟨(Lib.decDigits 0).toArray⟩:ByteArray) = z7e:=by decide +kernel
 rw [e]
theorem x2a (w:World) (ht:Tab w):Calls Tryz.prog 27 #[.int .i64 0,.int .i64 10] w (Ret (.string z7e) w):=by
 have h:=k0d 0 (by unfold I64;omega) w ht
 have e:z4b 0 = z7e:=by decide +kernel
 rw [e] at h
 exact h
abbrev mvB:ByteArray:=⟨#[109,111,118,101,115]⟩
abbrev ckB:ByteArray:=⟨#[99,108,111,99,107]⟩
abbrev j9o:ByteArray:=⟨#[105,110]⟩
abbrev vaB:ByteArray:=⟨#[118,97,114]⟩
abbrev k0u:ByteArray:=⟨#[105,110,110,101,114]⟩
abbrev q8g:ByteArray:=⟨#[111,117,116,101,114]⟩
def vlS (d:Vl):ByteArray:=y0t d.k d.n d.s
def j8g (v:Vr):ByteArray:=q4s vaB [⟨v.name.toArray⟩,vlS (z9i v)]
def q5l (c:Ch):List ByteArray:=[q4s (q5x 1) [mvB,z7e,ckB,z7e],q4s j9o []] ++ c.vars.map j8g ++ [q4s k0u [],q4s q8g []]
theorem v4b (c:Ch):y1z c (sn0 c) = c.vars.map fun v=>(v.name,z9i v):=by
 unfold y1z sn0
 dsimp only
 induction c.vars with
 | nil=>rfl
 | cons v r ih=>rw [List.map_cons,List.map_cons,List.zip_cons_cons,ih,List.map_cons]
theorem v4d {w:World} {xa:Option Addr} {xc:Nat} {vs:List Vr} (h:z2d w xa xc ((vs.map fun v=>(v.name,z9i v)).flatMap evC)) (i:Nat) (hi:i < vs.length):∃ g o,xa = some ⟨g,o,none⟩ ∧ g < w.heap.size ∧ w.cell? ⟨g,o + i * 4,none⟩ = some (str vs[i].name) ∧ w.cell? ⟨g,o + i * 4 + 1,none⟩ = some (.int .i64 vs[i].vk) ∧ w.cell? ⟨g,o + i * 4 + 2,none⟩ = some (.int .i64 vs[i].vn) ∧ w.cell? ⟨g,o + i * 4 + 3,none⟩ = some (str vs[i].vs):=by
 obtain ⟨g,o,e,hg,hc⟩:=z8g evC 4 v8e h i (by rw [List.length_map];exact hi) deT
 rw [List.getElem_map] at hc
 exact ⟨g,o,e,hg,hc 0 _ deT rfl,hc 1 _ deT rfl,hc 2 _ deT rfl,hc 3 _ deT rfl⟩
theorem v5k:z5h 0 = []:=by decide +kernel
theorem y3w (v:Vr) (h:VrOk v):(vlS (z9i v)).size ≤ 200:=by
 have h4:=h.text
 have h3:=z6h h.n64
 unfold vlS y0t z9i
 dsimp only
 split
 ·omega
 ·split
  ·unfold k6g
   split <;> decide
  ·have e1:(⟨v.vs.toArray⟩:ByteArray).size = v.vs.length:=by show v.vs.toArray.size = _;simp
   have e2:(⟨#[39]⟩:ByteArray).size = 1:=rfl
   unfold quote
   rw [ByteArray.size_append,ByteArray.size_append,e1,e2]
   omega
theorem k9b (a b c:ByteArray):(z9s [a,b,c] v2d).length ≤ a.size + b.size + c.size + 2:=by
 have e:∀ x:ByteArray,x.data.toList.length = x.size:=fun x=>by simp
 rw [q0v]
 simp only [Lib.joinTail,List.map_cons,List.map_nil,List.flatten_cons,List.flatten_nil,List.length_append,List.length_nil,List.length_cons,e]
 have:v2d.size = 1:=rfl
 omega
set_option maxRecDepth 100000 in
set_option maxHeartbeats 8000000 in
theorem y7j {c:Ch} {rv gi:Nat → Value} {b cap A:Nat} {gv:Value} (hm:c.states.length ≤ 49) (hv16:c.vars.length ≤ 16) (hok:∀ v ∈ c.vars,VrOk v) (pb:Nat) (da:Option Addr) (dc:Nat) (va:Option Addr) (vc:Nat)
  (w:World) (hT:Db w) (hB:Tab w) (hW:Sw w) (h:TbC c rv gi b w) (hv:w.ownsRow A 80 4 (.slice va c.vars.length vc) c.vars.length (j0g c.vars)) (hs:SnRd w (sn0 c) (some ⟨pb,0,none⟩) c.states.length da dc none 0 none 0 none 0 none 0 none 0) :
  Calls Tryz.prog 11 #[snV (sn0 c) (some ⟨pb,0,none⟩) c.states.length da dc none 0 none 0 none 0 none 0 none 0,.agg #[.slice va c.vars.length vc,.slice (some ⟨b,0,none⟩) c.states.length cap,gv]] w (fun e w'=>∃ (ao:Option Addr) (cp:Nat),e = .returned (.slice ao (q5l c).length cp) ∧ z2d w' ao cp ((q5l c).flatMap z3j) ∧ Below w.heap.size w w'):=by
 have hD:(sn0 c).data.length = c.vars.length:=List.length_map ..
 have E:Hid (∀ wx,Below w.heap.size w wx → Calls Tryz.prog 23 #[snV (sn0 c) (some ⟨pb,0,none⟩) c.states.length da dc none 0 none 0 none 0 none 0 none 0,.agg #[.slice va c.vars.length vc,.slice (some ⟨b,0,none⟩) c.states.length cap,gv]] wx (k5j c (sn0 c) 0 wx)):=hiT (fun wx hb=>k9j (sn0 c) 0 A rfl deT hD _ _ _ _ _ _ _ _ _ _ _ _ _ _ va vc hv16 wx (z4f hT hb) (z7n h hb) (z0a hv hb) (z0k hs.data hb))
 have R:=hiT (fun wx (hb:Below w.heap.size w wx)=>y7m (vv := .slice va c.vars.length vc) (gv:=gv) (cap:=cap) hm pb da none none none none none dc 0 0 0 0 0 wx (z7n h hb) (z0k hs.past hb))
 have Dn:=hiT (fun wx=>k3n (.agg #[.slice va c.vars.length vc,.slice (some ⟨b,0,none⟩) c.states.length cap,gv]) ⟨_,_,_,rfl⟩ wx)
 have Wd:=hiT (fun wx (hb:Below w.heap.size w wx)=>k4b 1 wx (k4a hW hb))
 have It:=hiT (fun wx=>v8m wx)
 have Fm:=hiT (fun wx (hb:Below w.heap.size w wx)=>x2a wx (q3v hB hb))
 have eP:Hid ((sn0 c).past.length = c.states.length):=hiT (List.length_replicate ..)
 replace hD:=hiT hD
 have eL:Hid (y1z c (sn0 c) = c.vars.map fun v=>(v.name,z9i v)):=hiT (v4b c)
 have eN:Hid (q5m c.states (z5h 0) = []):=hiT (by rw [v5k];rfl)
 have Sh:=hiT (fun k n s hr hn wx (hb:Below w.heap.size w wx)=>k9n k n s hr hn wx (q3v hB hb))
 have Rw:=hiT (fun f ao cc xs hn hj wx (h:z2d wx ao cc (xs.flatMap z3j))=>v5y f ao cc xs hn hj wx h)
 clear h hv hs hT hW hB
 unfold snV k5j at *
 rw [eP.out,hD.out]
 rw [eP.out,hD.out] at R
 simp only [eP.out,hD.out,eL.out,eN.out,List.length_nil,List.length_map] at E
 dsimp only [sn0] at *
 simp only [List.length_nil] at R
 clear eP hD eL eN
 go_enter Tryz.func11,Tryz.ntmps11
 go_wp2_with fail
 refine (E.out _ gzT).mono ?_
 rintro e w1 ⟨xa,xc,ya,yc,rfl,hX,hY,hb1⟩
 have bw1:Below w.heap.size w w1:=Below.trans gzT (hb1.mono (by simp;omega))
 have bx:=z0c (z0j (heap_alloc_new w (.cells #[.int .i64 1,.int .i64 0,.int .i64 0,.int .i64 0,.int .u64 0,.slice (some ⟨pb,0,none⟩) c.states.length c.states.length,.slice da c.vars.length dc,.slice none 0 0,.slice none 0 0,.slice none 0 0,.string ⟨#[]⟩,.slice none 0 0,.int .u64 0,.slice none 0 0] 44))) hb1
 have tx:w1.heap[w.heap.size + 1]? = some (.cells #[.slice va c.vars.length vc,.slice (some ⟨b,0,none⟩) c.states.length cap,gv] 27 (0,0)):=z0c (z0s (by simp)) hb1
 clear hb1 E
 dsimp only
 go_wp2_with fail
 obtain ⟨W0,hW0⟩:∃ X,w1.alloc (.cells #[.slice xa c.vars.length xc,.slice ya 0 yc] 90) = X:=⟨_,rfl⟩
 have b0:Below w1.heap.size w1 W0:=by rw [← hW0];exact gzT
 have e0:W0.heap[w1.heap.size]? = some (.cells #[.slice xa c.vars.length xc,.slice ya 0 yc] 90 (0,0)):=by rw [← hW0];exact heap_alloc_new w1 _
 rw [hW0]
 clear hW0
 have bxW:=hiT (z0c bx b0)
 have txW:=hiT (z0c tx b0)
 have hXW:=hiT (z0k hX b0)
 have hYW:=hiT (z0k hY b0)
 have hbW:=hiT (bw1.trans (b0.mono bw1.size))
 clear bx tx hX hY b0 bw1
 generalize w1.heap.size = eb at *
 have i1:InW w.heap.size W0:=⟨lt_of_block bxW.out⟩
 have i2:InW eb W0:=⟨lt_of_block e0⟩
 have c0:W0.cell? ⟨w.heap.size,0,none⟩ = some (.int .i64 1):=by rw [cell_of_row _ _ _ _ _ _ bxW.out];rfl
 have c1:W0.cell? ⟨w.heap.size,1,none⟩ = some (.int .i64 0):=by rw [cell_of_row _ _ _ _ _ _ bxW.out];rfl
 have c2:W0.cell? ⟨w.heap.size,2,none⟩ = some (.int .i64 0):=by rw [cell_of_row _ _ _ _ _ _ bxW.out];rfl
 have c3:W0.cell? ⟨eb,1,none⟩ = some (.slice ya 0 yc):=by rw [cell_of_row _ _ _ _ _ _ e0];rfl
 have e0W:=hiT e0
 clear e0
 have hGW:∀ wx,Below W0.heap.size W0 wx → Below w.heap.size w wx:=fun wx hx=>hbW.out.trans (hx.mono hbW.out.size)
 replace hGW:=hiT hGW
 have hzW:=hbW.out.size
 have KS:Hid (∀ X,Below W0.heap.size W0 X → X.cell? ⟨w.heap.size,0,none⟩ = some (.int .i64 1) ∧ X.cell? ⟨w.heap.size,1,none⟩ = some (.int .i64 0) ∧ X.cell? ⟨w.heap.size,2,none⟩ = some (.int .i64 0) ∧ X.cell? ⟨eb,1,none⟩ = some (.slice ya 0 yc)):=hiT fun X hx=>⟨(hx.cell (p:=⟨_,0,none⟩) i1.lt).trans c0,(hx.cell (p:=⟨_,1,none⟩) i1.lt).trans c1,(hx.cell (p:=⟨_,2,none⟩) i1.lt).trans c2,(hx.cell (p:=⟨_,1,none⟩) i2.lt).trans c3⟩
 refine z1n (S:=fun w'=>w'.cell? ⟨w.heap.size,0,none⟩ = some (.int .i64 1) ∧ w'.cell? ⟨w.heap.size,1,none⟩ = some (.int .i64 0) ∧ w'.cell? ⟨w.heap.size,2,none⟩ = some (.int .i64 0) ∧ w'.cell? ⟨eb,1,none⟩ = some (.slice ya 0 yc)) 15 krT (by exact ⟨c0,c1,c2,c3⟩) (fun hS=>?_)
 have hT:=hS
 (try dsimp only at hT)
 obtain ⟨q0,q1,q2,q3⟩:=hT
 clear c0 c1 c2 c3
 (refine mT 0 rfl rfl (v:=?_) (Or.inl ⟨by rfl,?_⟩) ?_;rotate_left;(focus (intro w hSw;(try dsimp only at hSw);go_simp;all_goals (with_reducible rfl)));simp only [List.setIfInBounds_toArray,List.set_cons_zero,List.set_cons_succ])
 (refine mT 1 rfl rfl (v:=?_) (Or.inl ⟨by rfl,?_⟩) ?_;rotate_left;(focus (intro w hSw;(try dsimp only at hSw);go_simp;all_goals (with_reducible rfl)));simp only [List.setIfInBounds_toArray,List.set_cons_zero,List.set_cons_succ])
 (refine mT 3 rfl rfl (v:=?_) (Or.inl ⟨by rfl,?_⟩) ?_;rotate_left;(focus (intro w hSw;(try dsimp only at hSw);go_simp;all_goals (with_reducible rfl)));simp only [List.setIfInBounds_toArray,List.set_cons_zero,List.set_cons_succ])
 (refine mT 4 rfl rfl (v:=?_) (Or.inl ⟨by rfl,?_⟩) ?_;rotate_left;(focus (intro w hSw;(try dsimp only at hSw);go_simp;all_goals (with_reducible rfl)));simp only [List.setIfInBounds_toArray,List.set_cons_zero,List.set_cons_succ])
 (refine mT 6 rfl rfl (v:=?_) (Or.inl ⟨by rfl,?_⟩) ?_;rotate_left;(focus (intro w hSw;(try dsimp only at hSw);go_simp;all_goals (with_reducible rfl)));simp only [List.setIfInBounds_toArray,List.set_cons_zero,List.set_cons_succ])
 (refine mT 7 rfl rfl (v:=?_) (Or.inl ⟨by rfl,?_⟩) ?_;rotate_left;(focus (intro w hSw;(try dsimp only at hSw);go_simp;all_goals (with_reducible rfl)));simp only [List.setIfInBounds_toArray,List.set_cons_zero,List.set_cons_succ])
 (refine mT 11 rfl rfl (v:=?_) (Or.inl ⟨by rfl,?_⟩) ?_;rotate_left;(focus (intro w hSw;(try dsimp only at hSw);go_simp;all_goals (with_reducible rfl)));simp only [List.setIfInBounds_toArray,List.set_cons_zero,List.set_cons_succ])
 (refine mT 12 rfl rfl (v:=?_) (Or.inl ⟨by rfl,?_⟩) ?_;rotate_left;(focus (intro w hSw;(try dsimp only at hSw);go_simp;all_goals (with_reducible rfl)));simp only [List.setIfInBounds_toArray,List.set_cons_zero,List.set_cons_succ])
 clear q0 q1 q2 q3
 refine z0f (t:=2) krT rfl rfl (fun K' hK=>?_)
 go_simp
 refine (Wd.out _ (hGW.out _ gzT)).mono ?_
 intro e w2 hr
 obtain ⟨rfl,p2,rfl⟩:=hr.out
 clear hr
 refine hK.out _ _ (fun _=>KS.out _ gzT) (fun hS=>?_)
 clear hK K'
 replace hS:=hS deT
 refine z0f (t:=5) krT rfl rfl (fun K' hK=>?_)
 go_simp
 refine (It.out _).mono ?_
 rintro e w2 ⟨rfl,rfl⟩
 refine hK.out _ _ (fun _=>KS.out _ gzT) (fun hS=>?_)
 clear hK K'
 replace hS:=hS deT
 refine z0f (t:=8) krT rfl rfl (fun K' hK=>?_)
 go_simp
 refine (Fm.out _ (hGW.out _ gzT)).mono ?_
 intro e w2 hr
 obtain ⟨rfl,p3,rfl⟩:=hr.out
 clear hr
 refine hK.out _ _ (fun _=>KS.out _ gzT) (fun hS=>?_)
 clear hK K'
 replace hS:=hS deT
 refine z0f (t:=9) krT rfl rfl (fun K' hK=>?_)
 go_simp
 refine hK.out _ _ (fun _=>KS.out _ gzT) (fun hS=>?_)
 clear hK K'
 replace hS:=hS deT
 refine z0f (t:=10) krT rfl rfl (fun K' hK=>?_)
 go_simp
 refine (Rw.out (q5x 1) _ _ [mvB,z7e,ckB,z7e] deT (by decide +kernel) _ (q2g (q2a (by simp)) rfl)).mono ?_
 intro e w2 hr
 obtain ⟨rfl,p4,rfl⟩:=hr.out
 clear hr
 refine hK.out _ _ (fun _=>KS.out _ gzT) (fun hS=>?_)
 clear hK K'
 replace hS:=hS deT
 refine z0f (t:=13) krT rfl rfl (fun K' hK=>?_)
 go_simp
 refine (Rw.out j9o _ _ [] deT (by decide +kernel) _ (z0k hYW.out gzT)).mono ?_
 intro e w2 hr
 obtain ⟨rfl,p5,rfl⟩:=hr.out
 clear hr
 refine hK.out _ _ (fun _=>KS.out _ gzT) (fun hS=>?_)
 clear hK K'
 replace hS:=hS deT
 refine z0f (t:=14) krT rfl rfl (fun K' hK=>?_)
 go_simp
 refine hK.out _ _ (fun _=>KS.out _ gzT) (fun hS=>?_)
 clear hK K'
 replace hS:=hS deT
 refine z0f (t:=15) krT rfl rfl (fun K' hK=>?_)
 go_simp
 refine hK.out _ _ (fun h=>absurd rfl h) (fun _=>z1j krT ?_)
 clear hS KS i1 i2
 generalize hg:G (pq p5 p4) _ = Y
 have bY:Below W0.heap.size W0 Y:=by rw [← hg];exact gzT
 generalize (G (pq p3 p2) W0).heap.size = s1 at *
 clear hg
 have hLn:Hid (q5l c = [q4s (q5x 1) [mvB,z7e,ckB,z7e],q4s j9o []] ++ c.vars.map j8g ++ [q4s k0u [],q4s q8g []]):=hiT rfl
 generalize q4s (q5x 1) [mvB,z7e,ckB,z7e] = l0 at *
 generalize q4s j9o [] = l1 at *
 obtain ⟨Y1,hY1⟩:∃ X,Y.alloc (.cells #[.string l0,.string l1] 9) = X:=⟨_,rfl⟩
 have bY1:Below W0.heap.size W0 Y1:=by rw [← hY1];exact bY.trans ((Below.refl Y.heap.size Y).alloc (Nat.le_refl _) _ |>.mono bY.size)
 have lO:Y1.ownsRow W0.heap.size 9 1 (.slice (some ⟨Y.heap.size,0,none⟩) 2 2) 2 [.string l0,.string l1]:=by
  rw [← hY1]
  exact q3m (cs:=#[_,_]) bY.size (heap_alloc_new Y _) rfl deT
 rw [hY1]
 clear hY1 bY
 generalize Y.heap.size = s2 at *
 obtain ⟨x0,x1,-⟩:Y1.cell? ⟨eb,0,none⟩ = some (.slice xa c.vars.length xc) ∧ eb < Y1.heap.size ∧ True:=by
  have:=z0c e0W.out bY1
  exact ⟨by rw [cell_of_row _ _ _ _ _ _ this];rfl,lt_of_block this,trivial⟩
 have i1:InW eb Y1:=⟨x1⟩
 have bY1':=hiT bY1
 have lO':=hiT lO
 clear bY1 lO
 go_wp2
 have T1:=hiT (fun i (hi:i < c.vars.length)=>show ([l0,l1] ++ (c.vars.map j8g).take (i + 1)).flatMap z3j = ([l0,l1] ++ (c.vars.map j8g).take i).flatMap z3j ++ z3j (j8g c.vars[i]) by
  rw [List.take_succ_eq_append_getElem (by rw [List.length_map];exact hi),← List.append_assoc,List.flatMap_append,List.getElem_map];simp)
 have V1:=hiT (fun i (hi:i < c.vars.length)=>hok _ (List.getElem_mem hi))
 obtain ⟨j0,hj,hy1,hy2,hy3⟩:=info_parts Tryz.infoQs
 go_loopw [6,32] (fun l v wr=>∃ (i:Nat) (la:Option Addr) (lc:Nat),l = .slice la (2 + i) lc ∧ v = .int .i64 (i:Int) ∧ i ≤ c.vars.length ∧ wr.ownsRow W0.heap.size 9 1 (.slice la (2 + i) lc) (2 + i) (([l0,l1] ++ (c.vars.map j8g).take i).flatMap z3j) ∧ Below W0.heap.size W0 wr) (fun _ v _=>c.vars.length - (intOf v).toNat)
 case atStart=>exact ⟨0,some ⟨s2,0,none⟩,2,rfl,rfl,Nat.zero_le _,lO'.out,bY1'.out⟩
 case round =>
  obtain ⟨i,la,lc,rfl,rfl,hi,hO,hb⟩:=hrel
  rename World=>wr
  clear x0 x1 i1 bY1' lO'
  have hwz:=hb.size
  by_cases hlt:i < c.vars.length
  ·obtain ⟨g,o,rfl,hg,k0,k1,k2,k3⟩:=v4d (z0k hXW.out hb) i hlt
   have t1:=hiT (T1.out i hlt)
   obtain ⟨r1,r2,r3,r4⟩:=V1.out i hlt
   have hI:(i:Int) < (c.vars.length:Int):=by omega
   have i2:InW g wr:=⟨hg⟩
   have hO':=hiT hO
   have hb':=hiT hb
   have hvS:=y3w _ (V1.out i hlt)
   have hvD:Hid (j8g c.vars[i] = q4s vaB [⟨c.vars[i].name.toArray⟩,vlS (z9i c.vars[i])]):=hiT rfl
   generalize c.vars[i] = x at *
   rw [hvD.out] at t1
   clear T1 V1 hO hb hvD
   go_wp2_with fail
   obtain ⟨W1,hW1⟩:∃ X,wr.alloc (.cells #[.string ⟨x.name.toArray⟩,.int .i64 x.vk,.int .i64 x.vn,.string ⟨x.vs.toArray⟩] 95) = X:=⟨_,rfl⟩
   have bW:Below wr.heap.size wr W1:=by rw [← hW1];exact gzT
   have vb:W1.heap[wr.heap.size]? = some (.cells #[.string ⟨x.name.toArray⟩,.int .i64 x.vk,.int .i64 x.vn,.string ⟨x.vs.toArray⟩] 95 (0,0)):=by rw [← hW1];exact heap_alloc_new wr _
   rw [hW1]
   clear hW1 k0 k1 k2 k3 i2
   have bW1:=hiT (hb'.out.trans (bW.mono hwz))
   have hO1:=hiT (z0a hO'.out bW)
   have hzW1:W0.heap.size ≤ W1.heap.size:=Nat.le_trans hwz bW.size
   clear bW hO'
   generalize wr.heap.size = vbl at *
   have i3:InW vbl W1:=⟨lt_of_block vb⟩
   have k0:W1.cell? ⟨vbl,0,none⟩ = some (.string ⟨x.name.toArray⟩):=by rw [cell_of_row _ _ _ _ _ _ vb];rfl
   have k1:W1.cell? ⟨vbl,1,none⟩ = some (.int .i64 x.vk):=by rw [cell_of_row _ _ _ _ _ _ vb];rfl
   have k2:W1.cell? ⟨vbl,2,none⟩ = some (.int .i64 x.vn):=by rw [cell_of_row _ _ _ _ _ _ vb];rfl
   have k3:W1.cell? ⟨vbl,3,none⟩ = some (.string ⟨x.vs.toArray⟩):=by rw [cell_of_row _ _ _ _ _ _ vb];rfl
   have vb':=hiT vb
   have KS:Hid (∀ X,Below W1.heap.size W1 X → X.cell? ⟨vbl,0,none⟩ = some (.string ⟨x.name.toArray⟩) ∧ X.cell? ⟨vbl,1,none⟩ = some (.int .i64 x.vk) ∧ X.cell? ⟨vbl,2,none⟩ = some (.int .i64 x.vn) ∧ X.cell? ⟨vbl,3,none⟩ = some (.string ⟨x.vs.toArray⟩)):=hiT fun X hx=>⟨(hx.cell (p:=⟨_,0,none⟩) i3.lt).trans k0,(hx.cell (p:=⟨_,1,none⟩) i3.lt).trans k1,(hx.cell (p:=⟨_,2,none⟩) i3.lt).trans k2,(hx.cell (p:=⟨_,3,none⟩) i3.lt).trans k3⟩
   have hG1:Hid (∀ wx,Below W1.heap.size W1 wx → Below w.heap.size w wx):=hiT fun wx hx=>hGW.out _ (bW1.out.trans (hx.mono hzW1))
   have hrl:=k9b vaB ⟨x.name.toArray⟩ (vlS (z9i x))
   have hnm:(⟨x.name.toArray⟩:ByteArray).size ≤ 64:=by
    show x.name.toArray.size ≤ 64
    simpa using r3
   have hrl2:(z9s [vaB,⟨x.name.toArray⟩,vlS (z9i x)] v2d).length ≤ 900000:=by
    have:vaB.size = 3:=rfl
    omega
   replace hrl2:=hiT hrl2
   clear vb hrl hnm hvS r3 r4
   refine z1n (S:=fun w'=>w'.cell? ⟨vbl,0,none⟩ = some (.string ⟨x.name.toArray⟩) ∧ w'.cell? ⟨vbl,1,none⟩ = some (.int .i64 x.vk) ∧ w'.cell? ⟨vbl,2,none⟩ = some (.int .i64 x.vn) ∧ w'.cell? ⟨vbl,3,none⟩ = some (.string ⟨x.vs.toArray⟩)) 10 krT (by exact ⟨k0,k1,k2,k3⟩) (fun hS=>?_)
   have hT:=hS
   (try dsimp only at hT)
   obtain ⟨q0,q1,q2,q3⟩:=hT
   clear k0 k1 k2 k3
   (refine mT 0 rfl rfl (v:=?_) (Or.inl ⟨by rfl,?_⟩) ?_;rotate_left;(focus (intro w hSw;(try dsimp only at hSw);go_simp;all_goals (with_reducible rfl)));simp only [List.setIfInBounds_toArray,List.set_cons_zero,List.set_cons_succ])
   (refine mT 1 rfl rfl (v:=?_) (Or.inl ⟨by rfl,?_⟩) ?_;rotate_left;(focus (intro w hSw;(try dsimp only at hSw);go_simp;all_goals (with_reducible rfl)));simp only [List.setIfInBounds_toArray,List.set_cons_zero,List.set_cons_succ])
   (refine mT 2 rfl rfl (v:=?_) (Or.inl ⟨by rfl,?_⟩) ?_;rotate_left;(focus (intro w hSw;(try dsimp only at hSw);go_simp;all_goals (with_reducible rfl)));simp only [List.setIfInBounds_toArray,List.set_cons_zero,List.set_cons_succ])
   (refine mT 3 rfl rfl (v:=?_) (Or.inl ⟨by rfl,?_⟩) ?_;rotate_left;(focus (intro w hSw;(try dsimp only at hSw);go_simp;all_goals (with_reducible rfl)));simp only [List.setIfInBounds_toArray,List.set_cons_zero,List.set_cons_succ])
   (refine mT 4 rfl rfl (v:=?_) (Or.inl ⟨by rfl,?_⟩) ?_;rotate_left;(focus (intro w hSw;(try dsimp only at hSw);go_simp;all_goals (with_reducible rfl)));simp only [List.setIfInBounds_toArray,List.set_cons_zero,List.set_cons_succ])
   clear q0 q1 q2 q3
   refine z0f (t:=5) krT rfl rfl (fun K' hK=>?_)
   go_simp
   refine (Sh.out x.vk x.vn ⟨x.vs.toArray⟩ r1 r2 _ (hG1.out _ gzT)).mono ?_
   intro e w2 hr
   obtain ⟨rfl,p2,rfl⟩:=hr.out
   clear hr
   refine hK.out _ _ (fun _=>KS.out _ gzT) (fun hS=>?_)
   clear hK K'
   replace hS:=hS deT
   refine z0f (t:=6) krT rfl rfl (fun K' hK=>?_)
   go_simp
   refine hK.out _ _ (fun _=>KS.out _ gzT) (fun hS=>?_)
   clear hK K'
   replace hS:=hS deT
   refine z0f (t:=7) krT rfl rfl (fun K' hK=>?_)
   go_simp
   refine (Rw.out vaB _ _ [⟨x.name.toArray⟩,vlS (z9i x)] (by simp) hrl2.out _ (q2g (q2a (by simp)) rfl)).mono ?_
   intro e w2 hr
   obtain ⟨rfl,p3,rfl⟩:=hr.out
   clear hr
   refine hK.out _ _ (fun _=>KS.out _ gzT) (fun hS=>?_)
   clear hK K'
   replace hS:=hS deT
   refine z0f (t:=8) krT rfl rfl (fun K' hK=>?_)
   go_simp
   refine hK.out _ _ (fun _=>KS.out _ gzT) (fun hS=>?_)
   clear hK K'
   replace hS:=hS deT
   refine z2w (t:=9) krT rfl rfl rfl (fun K' hK=>?_)
   refine wp_append_lies _ (.tmp 36) (.tmp 44) 38 rfl W0.heap.size 9 j0 _ 1 16 Tryz.underlying38 hj hy1 hy2 hy3 rfl deT (.slice la (2 + i) lc) (2 + i) _ (by simp [Act.eval]) (z0a hO1.out gzT) ⟨_,0,none⟩ 1 1 [.string (q4s vaB [⟨x.name.toArray⟩,vlS (z9i x)])] rfl rfl (World.news_of_block (z0s (by simp))) (by intro u hu;simp at hu;subst hu;rfl) deT (by unfold maxLen;omega) omT gzT _ rfl ?_
   intro g' cap' w5 hown1 hgrow hat1 hg1
   have hv5:=z0h (z0a hO1.out gzT) (z0c vb'.out gzT) deT hgrow
   have hb5:Below W0.heap.size W0 w5:=Below.grown (show Below W0.heap.size W0 _ from bW1.out.trans (Below.mono (B:=W1.heap.size) gzT hzW1)) hgrow gzT (fun k hk=>(hO1.out.lt k hk).1)
   have hown2:w5.ownsRow W0.heap.size 9 1 (.slice (some ⟨g',0,none⟩) (2 + (i + 1)) cap') (2 + (i + 1)) (([l0,l1] ++ (c.vars.map j8g).take (i + 1)).flatMap z3j):=by
    rw [t1.out]
    exact hown1
   have hall:=hiT (And.intro hown2 hb5)
   clear hown1 hgrow hat1 hown2 hb5
   refine hK.out _ _ (fun _=>⟨by rw [cell_of_row _ _ _ _ _ _ hv5];rfl,by rw [cell_of_row _ _ _ _ _ _ hv5];rfl,by rw [cell_of_row _ _ _ _ _ _ hv5];rfl,by rw [cell_of_row _ _ _ _ _ _ hv5];rfl⟩) (fun hS=>?_)
   clear hK K' hS hv5
   refine z0f (t:=10) krT rfl rfl (fun K' hK=>?_)
   go_simp
   refine hK.out _ _ (fun h=>absurd rfl h) (fun _=>z1j krT ?_)
   go_wp2
   go_roundw
   case rel=>exact ⟨i + 1,some ⟨g',0,none⟩,cap',rfl,by go_num,by omega,hall.out.1,hall.out.2⟩
   case measure=>simp [intOf];omega
  ·obtain rfl:i = c.vars.length:=by omega
   have hI:¬ ((c.vars.length:Nat):Int) < (c.vars.length:Int):=by omega
   rw [List.take_of_length_le (by rw [List.length_map];exact Nat.le_refl _)] at hO
   have bx:=z0c bxW.out hb
   have hO1:=hiT hO
   have hb1:=hiT hb
   obtain ⟨d0,d1,d2,d3,d4,d5,d6,d7,d8,d9,d10,d11,d12,d13,dl,-⟩:=z1p bx
   have i1:InW w.heap.size wr:=⟨dl⟩
   have nilS:∀ wx:World,z2d wx none 0 (([]:List ByteArray).flatMap z3j):=fun wx=>⟨fun _=>⟨rfl,rfl⟩,fun h=>absurd rfl h⟩
   have KS:Hid (∀ X,Below wr.heap.size wr X → X.cell? ⟨w.heap.size,7,none⟩ = some (.slice none 0 0) ∧ X.cell? ⟨w.heap.size,8,none⟩ = some (.slice none 0 0)):=hiT fun X hx=>⟨(hx.cell (p:=⟨_,7,none⟩) i1.lt).trans d7,(hx.cell (p:=⟨_,8,none⟩) i1.lt).trans d8⟩
   have s7:=d7
   have s8:=d8
   clear V1 T1 hO hb bx d0 d1 d2 d3 d4 d5 d6 d7 d8 d9 d10 d11 d12 d13
   go_wp2_with fail
   refine z1n (S:=fun w'=>w'.cell? ⟨w.heap.size,7,none⟩ = some (.slice none 0 0) ∧ w'.cell? ⟨w.heap.size,8,none⟩ = some (.slice none 0 0)) 9 krT (by exact ⟨s7,s8⟩) (fun hS=>?_)
   have hT:=hS
   (try dsimp only at hT)
   obtain ⟨q0,q1⟩:=hT
   clear s7 s8
   (refine mT 0 rfl rfl (v:=?_) (Or.inl ⟨by rfl,?_⟩) ?_;rotate_left;(focus (intro w hSw;(try dsimp only at hSw);go_simp;all_goals (with_reducible rfl)));simp only [List.setIfInBounds_toArray,List.set_cons_zero,List.set_cons_succ])
   (refine mT 1 rfl rfl (v:=?_) (Or.inl ⟨by rfl,?_⟩) ?_;rotate_left;(focus (intro w hSw;(try dsimp only at hSw);go_simp;all_goals (with_reducible rfl)));simp only [List.setIfInBounds_toArray,List.set_cons_zero,List.set_cons_succ])
   (refine mT 2 rfl rfl (v:=?_) (Or.inl ⟨by rfl,?_⟩) ?_;rotate_left;(focus (intro w hSw;(try dsimp only at hSw);go_simp;all_goals (with_reducible rfl)));simp only [List.setIfInBounds_toArray,List.set_cons_zero,List.set_cons_succ])
   (refine mT 4 rfl rfl (v:=?_) (Or.inl ⟨by rfl,?_⟩) ?_;rotate_left;(focus (intro w hSw;(try dsimp only at hSw);go_simp;all_goals (with_reducible rfl)));simp only [List.setIfInBounds_toArray,List.set_cons_zero,List.set_cons_succ])
   (refine mT 5 rfl rfl (v:=?_) (Or.inl ⟨by rfl,?_⟩) ?_;rotate_left;(focus (intro w hSw;(try dsimp only at hSw);go_simp;all_goals (with_reducible rfl)));simp only [List.setIfInBounds_toArray,List.set_cons_zero,List.set_cons_succ])
   clear q0 q1
   refine z0f (t:=3) krT rfl rfl (fun K' hK=>?_)
   go_simp
   refine (Rw.out k0u none 0 [] deT (by decide +kernel) _ (nilS _)).mono ?_
   intro e w2 hr
   obtain ⟨rfl,p2,rfl⟩:=hr.out
   clear hr
   refine hK.out _ _ (fun _=>KS.out _ gzT) (fun hS=>?_)
   clear hK K'
   replace hS:=hS deT
   refine z0f (t:=6) krT rfl rfl (fun K' hK=>?_)
   go_simp
   refine (Rw.out q8g none 0 [] deT (by decide +kernel) _ (nilS _)).mono ?_
   intro e w2 hr
   obtain ⟨rfl,p3,rfl⟩:=hr.out
   clear hr
   refine hK.out _ _ (fun _=>KS.out _ gzT) (fun hS=>?_)
   clear hK K'
   replace hS:=hS deT
   refine z0f (t:=7) krT rfl rfl (fun K' hK=>?_)
   go_simp
   refine hK.out _ _ (fun _=>KS.out _ gzT) (fun hS=>?_)
   clear hK K'
   replace hS:=hS deT
   refine z2w (t:=8) krT rfl rfl rfl (fun K' hK=>?_)
   refine wp_append_lies _ (.tmp 47) (.tmp 54) 38 rfl W0.heap.size 9 j0 _ 1 16 Tryz.underlying38 hj hy1 hy2 hy3 rfl deT (.slice la (2 + c.vars.length) lc) (2 + c.vars.length) _ (by simp [Act.eval]) (z0a hO1.out gzT) ⟨_,0,none⟩ 2 2 [.string (q4s k0u []),.string (q4s q8g [])] rfl rfl (World.news_of_block (z0s (by simp))) (by intro u hu;simp at hu;rcases hu with rfl | rfl <;> rfl) deT (by unfold maxLen;omega) omT gzT _ rfl ?_
   intro g' cap' w5 hown1 hgrow hat1 hg1
   have hb5:Below W0.heap.size W0 w5:=Below.grown (show Below W0.heap.size W0 _ from hb1.out.trans (Below.mono (B:=wr.heap.size) gzT hwz)) hgrow gzT (fun k hk=>(hO1.out.lt k hk).1)
   have hown2:w5.ownsRow W0.heap.size 9 1 (.slice (some ⟨g',0,none⟩) (q5l c).length cap') (q5l c).length ((q5l c).flatMap z3j):=by
    have e1:(q5l c).length = 2 + c.vars.length + 2:=by rw [hLn.out];simp;omega
    have e2:(q5l c).flatMap z3j = ([l0,l1] ++ c.vars.map j8g).flatMap z3j ++ [.string (q4s k0u []),.string (q4s q8g [])]:=by rw [hLn.out,List.flatMap_append];rfl
    rw [e1,e2]
    exact hown1
   have e1:Hid (2 + c.vars.length + 2 = (q5l c).length):=hiT (by rw [hLn.out];simp;omega)
   have hx5:w5.heap[w.heap.size]? = _:=z0c bxW.out hb5
   have ht5:w5.heap[w.heap.size + 1]? = _:=z0c txW.out hb5
   have hN:Hid ((q5l c).length ≤ 100):=hiT (by rw [← e1.out];omega)
   rw [e1.out]
   generalize hLL:(q5l c).flatMap z3j = LL at *
   generalize hLN:(q5l c).length = LN at *
   have hLL':=hiT hLL
   have hLN':=hiT hLN
   clear hLL hLN hown1 hgrow hat1 e1 hLn
   obtain ⟨d0,d1,d2,d3,d4,d5,d6,d7,d8,d9,d10,d11,d12,d13,dl5,-⟩:=z1p hx5
   refine hK.out _ _ (fun _=>⟨d7,d8⟩) (fun hS=>?_)
   clear hK K' hS i1 KS
   refine z0f (t:=9) krT rfl rfl (fun K' hK=>?_)
   go_simp
   refine hK.out _ _ (fun h=>absurd rfl h) (fun _=>z1j krT ?_)
   have i1:InW w.heap.size w5:=⟨dl5⟩
   clear hK K'
   go_wp2
   go_loopw [6,59] (fun l v wq=>l = .slice (some ⟨g',0,none⟩) LN cap' ∧ v = .int .i64 0 ∧ wq.ownsRow W0.heap.size 9 1 (.slice (some ⟨g',0,none⟩) LN cap') LN LL ∧ wq.heap[w.heap.size]? = some (.cells #[.int .i64 1,.int .i64 0,.int .i64 0,.int .i64 0,.int .u64 0,.slice (some ⟨pb,0,none⟩) c.states.length c.states.length,.slice da c.vars.length dc,.slice none 0 0,.slice none 0 0,.slice none 0 0,.string ⟨#[]⟩,.slice none 0 0,.int .u64 0,.slice none 0 0] 44 (0,0)) ∧ wq.heap[w.heap.size + 1]? = some (.cells #[.slice va c.vars.length vc,.slice (some ⟨b,0,none⟩) c.states.length cap,gv] 27 (0,0)) ∧ Below W0.heap.size W0 wq) (fun _ _ _=>0)
   case atStart=>exact ⟨rfl,rfl,hown2,hx5,ht5,hb5⟩
   case round =>
    obtain ⟨rfl,rfl,hO,bx,tx,hb⟩:=hrel
    rename World=>wq
    clear hown2 hx5 ht5 hb5 i1 d0 d1 d2 d3 d4 d5 d6 d7 d8 d9 d10 d11 d12 d13 dl5 hg1
    obtain ⟨d0,d1,d2,d3,d4,d5,d6,d7,d8,d9,d10,d11,d12,d13,dl5,-⟩:=z1p bx
    obtain ⟨t0,t1,t2,tl,-⟩:=z3p tx
    have i1:InW w.heap.size wq:=⟨dl5⟩
    have i2:InW (w.heap.size + 1) wq:=⟨tl⟩
    have hO1:=hiT hO
    have hb1:=hiT hb
    have hz1:=hb.size
    have hGq:Hid (∀ wx,Below wq.heap.size wq wx → Below w.heap.size w wx):=hiT fun wx hx=>hGW.out _ (hb1.out.trans (hx.mono hz1))
    have bx':=hiT bx
    have tx':=hiT tx
    clear hO hb bx tx
    go_wp2_with fail
    refine (R.out _ (hGq.out _ gzT)).mono ?_
    intro e w2 hr
    obtain ⟨rfl,p2,rfl⟩:=hr.out
    clear hr
    dsimp only
    go_wp2_with (at_builtin;refine z0u rfl _ _ 38 rfl W0.heap.size 9 j0 _ 1 16 Tryz.underlying38 hj hy1 hy2 hy3 rfl deT (.slice (some ⟨g',0,none⟩) LN cap') LN _ rfl (z0a hO1.out gzT) none 0 0 [] rfl ⟨fun _=>⟨rfl,rfl⟩,fun h=>absurd rfl h⟩ rfl (by intro u hu;cases hu) (by have:=hN.out;unfold maxLen;omega) (by have:=hN.out;omega) gzT ?_)
    intro v' w3 hown3 hgrow3
    have hbx3:=z0h (z0a hO1.out gzT) (z0c bx'.out gzT) deT hgrow3
    have htx3:=z0h (z0a hO1.out gzT) (z0c tx'.out gzT) deT hgrow3
    have hb3:Below W0.heap.size W0 w3:=Below.grown (show Below W0.heap.size W0 _ from hb1.out.trans (Below.mono (B:=wq.heap.size) gzT hz1)) hgrow3 gzT (fun k hk=>(hO1.out.lt k hk).1)
    obtain ⟨oa,oc,rfl⟩:=z0g hown3
    have hO3:=hiT hown3
    have hb3':=hiT hb3
    have hz3:=hb3.size
    clear hown3 hgrow3 hb3 d0 d1 d2 d3 d4 d5 d6 d7 d8 d9 d10 d11 d12 d13 dl5 t0 t1 t2 tl i1 i2 R
    obtain ⟨d0,d1,d2,d3,d4,d5,d6,d7,d8,d9,d10,d11,d12,d13,dl5,-⟩:=z1p hbx3
    obtain ⟨t0,t1,t2,tl,-⟩:=z3p htx3
    have i1:InW w.heap.size w3:=⟨dl5⟩
    have i2:InW (w.heap.size + 1) w3:=⟨tl⟩
    have hbx3':=hiT hbx3
    have htx3':=hiT htx3
    clear hbx3 htx3 hO1 hb1 hGq bx' tx'
    go_wp2_with fail
    refine (Dn.out _).mono ?_
    intro e w2 hr
    obtain ⟨rfl,p3,rfl⟩:=hr.out
    clear hr
    dsimp only
    go_wp2_with (at_builtin;refine z0u rfl _ _ 38 rfl W0.heap.size 9 j0 _ 1 16 Tryz.underlying38 hj hy1 hy2 hy3 rfl deT (.slice oa LN oc) LN _ rfl (z0a hO3.out gzT) none 0 0 [] rfl ⟨fun _=>⟨rfl,rfl⟩,fun h=>absurd rfl h⟩ rfl (by intro u hu;cases hu) (by have:=hN.out;unfold maxLen;omega) (by have:=hN.out;omega) gzT ?_)
    intro v' w4 hown4 hgrow4
    have hb4:Below W0.heap.size W0 w4:=Below.grown (show Below W0.heap.size W0 _ from hb3'.out.trans (Below.mono (B:=w3.heap.size) gzT hz3)) hgrow4 gzT (fun k hk=>(hO3.out.lt k hk).1)
    obtain ⟨oa2,oc2,rfl⟩:=z0g hown4
    have hO4:=hiT (z2s hown4)
    have hb4':=hiT (hGW.out _ hb4)
    clear hown4 hgrow4 hb4 Dn d0 d1 d2 d3 d4 d5 d6 d7 d8 d9 d10 d11 d12 d13 t0 t1 t2
    go_wp2
    go_returns
    exact ⟨oa2,oc2,by rw [hLN'.out];rfl,by rw [hLL'.out];exact hO4.out,hb4'.out⟩
end Go.Proofs.YtacnlghljmgdiaaGreatDoor
