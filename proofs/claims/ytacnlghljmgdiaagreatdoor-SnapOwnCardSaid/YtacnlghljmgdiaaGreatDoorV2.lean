/- Several texts of this proof, joined: AQ, AT, AU. -/
import Derived.Test.YtacnlghljmgdiaaGreatDoorY6
import Derived.Test.YtacnlghljmgdiaaGreatDoorY1
import Derived.Test.YtacnlghljmgdiaaGreatDoorY3
import Derived.WalkKit
import Derived.ProofKit
import Derived.OpenShut
import Derived.Handy
import Derived.BigQuiet
import Derived.Lib.Hide
import Derived.WalkSmall
import Derived.WalkLawsBesides
import Derived.Test.YtacnlghljmgdiaaGreatDoorY2
import Derived.Test.YtacnlghljmgdiaaGreatDoorY5
import Derived.Deep.RegionHeld3
import Derived.StillTailTactics
namespace Go.Proofs.YtacnlghljmgdiaaGreatDoor
open Go.RowKit
theorem z0c {b:Nat} {w w':World} {cs:Array Value} {t:TypeId} {fr:Nat × Nat} (h:w.heap[b]? = some (.cells cs t fr)) (hb:Below w.heap.size w w'):w'.heap[b]? = some (.cells cs t fr):=(hb.block b (lt_of_block h)).trans h
def y4r:List (List UInt8 × Bool × Bool × Bool × Bool) :=
 [([],false,false,false,false),([115,101,116],true,false,true,false),([114,97,105,115,101],false,true,false,false),([115,101,110,100],false,true,false,true),([99,97,110,99,101,108],false,true,false,false),([108,111,103],false,false,true,false)]
def j9i (f:List UInt8 × Bool × Bool × Bool × Bool):List Value:=[.string ⟨f.1.toArray⟩,.bool f.2.1,.bool f.2.2.1,.bool f.2.2.2.1,.bool f.2.2.2.2]
def z3g:Array Value:=(y4r.flatMap j9i).toArray
def Fg (w:World):Prop:=w.var? Tryz.prog "whirligig/act.forms" = some z3g
theorem z8a:Tryz.prog.globalNamed "whirligig/act.forms" = some 9:=by kernel_rfl
theorem v4f {w:World} (h:Fg w):9 < w.heap.size:=z6o z8a h
theorem v4e {B:Nat} {w w':World} (h:Fg w) (hB:9 < B) (hb:Below B w w'):Fg w':=var?_below hb z8a hB h
theorem z2j {w:World} (h:Fg w) (i:Nat):w.cell? ⟨9,i,none⟩ = z3g[i]?:=World.var?_cell z8a h i
def z9p (k:Nat):List UInt8:=(y4r.getD k ([],false,false,false,false)).1
theorem v4g {w:World} (h:Fg w) (k:Nat) (hk:k ≤ 5):w.cell? ⟨9,k * 5,none⟩ = some (.string ⟨(z9p k).toArray⟩):=by
 rw [z2j h]
 rcases (by omega:k = 0 ∨ k = 1 ∨ k = 2 ∨ k = 3 ∨ k = 4 ∨ k = 5) with rfl | rfl | rfl | rfl | rfl | rfl <;> rfl
structure Ax (w:World):Prop where
 lb:Lb w
 eg:Eg w
 fg:Fg w
theorem z5u {w w':World} (h:Ax w) (hb:Below w.heap.size w w'):Ax w':=⟨z1v h.lb hb,j3c h.eg (y9v h.eg) hb,v4e h.fg (v4f h.fg) hb⟩
def k0h (k:Nat):Value := .agg (j9i (y4r.getD k ([],false,false,false,false))).toArray
set_option maxRecDepth 100000 in
theorem q6c (k:Nat) (h1:1 ≤ k) (h5:k ≤ 5) (a b c d:Value) (w:World) (h:Fg w):Calls Tryz.prog 235 #[.agg #[.int .i64 (k:Int),a,b,c,d]] w (Ret (k0h k) w):=by
 have hl:=v4f h
 rcases (by omega:k = 1 ∨ k = 2 ∨ k = 3 ∨ k = 4 ∨ k = 5) with rfl | rfl | rfl | rfl | rfl
 ·have c0:=z2j h 5
  have c1:=z2j h 6
  have c2:=z2j h 7
  have c3:=z2j h 8
  have c4:=z2j h 9
  simp only [show z3g[5]? = some (.string ⟨#[115,101,116]⟩) from rfl,show z3g[6]? = some (.bool true) from rfl,show z3g[7]? = some (.bool false) from rfl,show z3g[8]? = some (.bool true) from rfl,show z3g[9]? = some (.bool false) from rfl] at c0 c1 c2 c3 c4
  clear h
  go_enter Tryz.func235,Tryz.ntmps235
  go_wp2
  go_returns
  exact ⟨rfl,gzT⟩
 ·have c0:=z2j h 10
  have c1:=z2j h 11
  have c2:=z2j h 12
  have c3:=z2j h 13
  have c4:=z2j h 14
  simp only [show z3g[10]? = some (.string ⟨#[114,97,105,115,101]⟩) from rfl,show z3g[11]? = some (.bool false) from rfl,show z3g[12]? = some (.bool true) from rfl,show z3g[13]? = some (.bool false) from rfl,show z3g[14]? = some (.bool false) from rfl] at c0 c1 c2 c3 c4
  clear h
  go_enter Tryz.func235,Tryz.ntmps235
  go_wp2
  go_returns
  exact ⟨rfl,gzT⟩
 ·have c0:=z2j h 15
  have c1:=z2j h 16
  have c2:=z2j h 17
  have c3:=z2j h 18
  have c4:=z2j h 19
  simp only [show z3g[15]? = some (.string ⟨#[115,101,110,100]⟩) from rfl,show z3g[16]? = some (.bool false) from rfl,show z3g[17]? = some (.bool true) from rfl,show z3g[18]? = some (.bool false) from rfl,show z3g[19]? = some (.bool true) from rfl] at c0 c1 c2 c3 c4
  clear h
  go_enter Tryz.func235,Tryz.ntmps235
  go_wp2
  go_returns
  exact ⟨rfl,gzT⟩
 ·have c0:=z2j h 20
  have c1:=z2j h 21
  have c2:=z2j h 22
  have c3:=z2j h 23
  have c4:=z2j h 24
  simp only [show z3g[20]? = some (.string ⟨#[99,97,110,99,101,108]⟩) from rfl,show z3g[21]? = some (.bool false) from rfl,show z3g[22]? = some (.bool true) from rfl,show z3g[23]? = some (.bool false) from rfl,show z3g[24]? = some (.bool false) from rfl] at c0 c1 c2 c3 c4
  clear h
  go_enter Tryz.func235,Tryz.ntmps235
  go_wp2
  go_returns
  exact ⟨rfl,gzT⟩
 ·have c0:=z2j h 25
  have c1:=z2j h 26
  have c2:=z2j h 27
  have c3:=z2j h 28
  have c4:=z2j h 29
  simp only [show z3g[25]? = some (.string ⟨#[108,111,103]⟩) from rfl,show z3g[26]? = some (.bool false) from rfl,show z3g[27]? = some (.bool false) from rfl,show z3g[28]? = some (.bool true) from rfl,show z3g[29]? = some (.bool false) from rfl] at c0 c1 c2 c3 c4
  clear h
  go_enter Tryz.func235,Tryz.ntmps235
  go_wp2
  go_returns
  exact ⟨rfl,gzT⟩
set_option maxRecDepth 100000 in
theorem j0m (s:ByteArray) (hs:s.size ≤ 140737488351232) (w:World) (hw:Lb w):Calls Tryz.prog 177 #[.string s] w (Ret (.bool (z9u true s.data.toList)) w):=by
 have E:=hiT (y7t s hs w hw)
 have M:=fun wx=>hiT (q1e s wx)
 have hn:z9u true s.data.toList = (evB s.data.toList && !z4k s.data.toList):=rfl
 rw [hn]
 clear hn hw
 generalize evB s.data.toList = e at *
 generalize z4k s.data.toList = m at *
 replace M:=hiT M
 cases e
 all_goals
  go_enter Tryz.func177,Tryz.ntmps177
  go_wp2_with (first | ((with_reducible refine (E.out).mono ?_);intro e w1 hr;obtain ⟨rfl,p,rfl⟩:=hr.out;clear hr) | ((with_reducible refine ((M.out _).out).mono ?_);rintro e w1 ⟨rfl,rfl⟩))
  go_returns
  exact ⟨rfl,gzT⟩
set_option maxRecDepth 100000 in
theorem y4c (ev:Bool) (f0 f3 f4:Value) (s:ByteArray) (hs:s.size ≤ 140737488351232) (w:World) (hw:Lb w) :
  Calls Tryz.prog 253 #[.agg #[f0,.bool (!ev),.bool ev,f3,f4],.string s] w (Ret (.bool (z9u ev s.data.toList)) w):=by
 cases ev
 ·have N:=hiT (fun wx (hb:Below w.heap.size w wx)=>j8c s hs wx (z1v hw hb))
  have hn:z9u false s.data.toList = nmB s.data.toList:=rfl
  rw [hn]
  clear hn hw
  generalize nmB s.data.toList = e at *
  go_enter Tryz.func253,Tryz.ntmps253
  go_wp2_with ((with_reducible refine (N.out _ gzT).mono ?_);intro e w1 hr;obtain ⟨rfl,p,rfl⟩:=hr.out;clear hr)
  go_returns
  exact ⟨rfl,gzT⟩
 ·have E:=hiT (fun wx (hb:Below w.heap.size w wx)=>j0m s hs wx (z1v hw hb))
  clear hw
  generalize z9u true s.data.toList = e at *
  go_enter Tryz.func253,Tryz.ntmps253
  go_wp2_with ((with_reducible refine (E.out _ gzT).mono ?_);intro e w1 hr;obtain ⟨rfl,p,rfl⟩:=hr.out;clear hr)
  go_returns
  exact ⟨rfl,gzT⟩
structure Base (w0:World) (ao:Option Addr) (ts:List Tk):Prop where
 ax:Ax w0
 sl:Sl w0 ao ts
 few:ts.length ≤ 120
 short:∀ t ∈ ts,t.s.length ≤ 140737488351232
structure TkrAt (w0:World) (tb:Nat) (ao:Option Addr) (cap:Nat) (ts:List Tk) (a:Nat) (w:World):Prop where
 blk:w.heap[tb]? = some (.cells #[.slice ao ts.length cap,.int .i64 (a:Int)] 316 (0,0))
 own:w0.heap.size ≤ tb
 le:a ≤ ts.length
 env:Below w0.heap.size w0 w
theorem y5k {m a:Nat} {l:List UInt8} {ts:List Tk} (h:z5b m a l = .ok ts):∀ t ∈ ts,t.s.length ≤ l.length:=by
 induction m generalizing a l ts with
 | zero =>
  rw [z5b] at h
  split at h
  ·cases h;intro t ht;cases ht
  ·cases h
 | succ m ih =>
  rw [z5b] at h
  split at h
  ·cases h;intro t ht;cases ht
  ·rename_i c r hl
   have hd:(c :: r).length ≤ l.length:=by rw [← hl,List.length_drop];omega
   split at h
   ·cases h
   ·rename_i k t n z htk
    obtain ⟨z1,z2,z3⟩:=j4w htk
    split at h
    ·cases h
    ·rename_i us h2
     cases h
     intro u hu
     rcases List.mem_cons.1 hu with rfl | hu
     ·exact Nat.le_trans z3 (Nat.le_trans z2 hd)
     ·have:=ih h2 u hu
      rw [List.length_drop] at this
      omega
theorem z7a {w0:World} {tb:Nat} {ao:Option Addr} {cap:Nat} {ts:List Tk} {a:Nat} {w:World} (h:TkrAt w0 tb ao cap ts a w) :
  w.cell? ⟨tb,0,none⟩ = some (.slice ao ts.length cap) ∧ w.cell? ⟨tb,1,none⟩ = some (.int .i64 (a:Int)) ∧ tb < w.heap.size ∧ w.frozen? ⟨tb,1,none⟩ = false:=by
 refine ⟨?_,?_,lt_of_block h.blk,frozen_of_row w tb 1 _ _ h.blk⟩
 all_goals
  rw [cell_of_row w tb _ _ _ _ h.blk]
  rfl
theorem q6p {w0:World} {tb:Nat} {ao:Option Addr} {cap:Nat} {ts:List Tk} {a:Nat} {w w':World} (h:TkrAt w0 tb ao cap ts a w) (hb:Below w.heap.size w w'):TkrAt w0 tb ao cap ts a w' :=
 ⟨(hb.block tb (lt_of_block h.blk)).trans h.blk,h.own,h.le,h.env.trans (hb.mono h.env.size)⟩
theorem z1w (w:World) (b i:Nat) (v:Value):(w.setCell ⟨b,i,none⟩ v).heap.size = w.heap.size:=by simp [World.setCell]
theorem q8s {w w1:World} (h:Below w.heap.size w w1) {b i:Nat} {v:Value} (hb:b < w.heap.size):Below w.heap.size (w.setCell ⟨b,i,none⟩ v) (w1.setCell ⟨b,i,none⟩ v):=by
 obtain ⟨p,rfl⟩:=toG h
 rw [z2n _ _ _ _ _ hb]
 have:=z1e p (w.setCell ⟨b,i,none⟩ v)
 rwa [z1w] at this
theorem y3u {w0:World} {tb:Nat} {ao:Option Addr} {cap:Nat} {ts:List Tk} {a b:Nat} {w w':World} (h:TkrAt w0 tb ao cap ts a w) (hle:b ≤ ts.length) (hb:Below w.heap.size (w.setCell ⟨tb,1,none⟩ (.int .i64 (b:Int))) w'):TkrAt w0 tb ao cap ts b w':=by
 refine ⟨(hb.block tb (lt_of_block h.blk)).trans (z0l h.blk),h.own,hle,(h.env.setCell (p:=⟨tb,1,none⟩) h.own _).trans (hb.mono ?_)⟩
 exact h.env.size
def y1o (tb:Nat) (b:Bool) (a:Nat) (w:World) (e:Ending) (w':World):Prop :=
 e = .returned (.bool b) ∧ Below w.heap.size (if b then w.setCell ⟨tb,1,none⟩ (.int .i64 ((a + 1:Nat):Int)) else w) w'
set_option maxRecDepth 100000 in
set_option maxHeartbeats 2000000 in
theorem q4x {w0:World} {tb:Nat} {ao:Option Addr} {cap:Nat} {ts:List Tk} {a:Nat} (x:ByteArray) (hB:Base w0 ao ts) (w:World) (h:TkrAt w0 tb ao cap ts a w) :
  Calls Tryz.prog 201 #[.pointer (some ⟨tb,0,none⟩),.string x] w (y1o tb (z2t ts a x.data.toList) a w):=by
 obtain ⟨c0,c1,htb,f1⟩:=z7a h
 have hle:=h.le
 have hfew:=hB.few
 have hl:Sl w ao ts:=z4g hB.sl h.env
 have i1:InW tb w:=⟨htb⟩
 clear h hB
 by_cases he:a = ts.length
 ·have hn:z2t ts a x.data.toList = false:=by unfold z2t;rw [List.getElem?_eq_none omT]
  rw [hn]
  have hd:((a:Int) == (ts.length:Int)) = true:=by rw [beq_iff_eq];omega
  clear hn hl he
  go_enter Tryz.func201,Tryz.ntmps201
  go_wp2_with fail
  (refine z0d krT krT ?_;(repeat (go_big_quiet_step (fail)));refine wpQuiet_nil ?_;intro _ hw';obtain ⟨pg,hw''⟩:=hw';subst hw'')
  go_wp2
  go_returns
  exact ⟨rfl,show Below w.heap.size w _ from gzT⟩
 ·have hlt:a < ts.length:=by omega
  obtain ⟨g,rfl,hg,ht⟩:=hl omT
  obtain ⟨a0,a1,a2,a3⟩:=ht a hlt
  have i2:InW g w:=⟨hg⟩
  have hd:((a:Int) == (ts.length:Int)) = false:=by rw [beq_eq_false_iff_ne];omega
  obtain ⟨b,hb⟩:∃ b,z2t ts a x.data.toList = b:=⟨_,rfl⟩
  have hb':((ts[a].k == 1 || ts[a].k == 5) && (⟨ts[a].s.toArray⟩:ByteArray).data.toList == x.data.toList) = b:=by
   rw [← hb];unfold z2t;rw [List.getElem?_eq_getElem hlt];rfl
  have I:=fun g wx hc=>hiT (q1y ts[a].k ⟨ts[a].s.toArray⟩ ts[a].n (ts[a].a:Int) x b hb' g wx hc)
  replace I:=hiT I
  rw [hb]
  clear hb hb' hl ht he
  generalize ts[a].k = tk at *
  generalize (⟨ts[a].s.toArray⟩:ByteArray) = tx at *
  generalize ts[a].n = tn at *
  generalize (ts[a].a:Int) = ta at *
  cases b
  all_goals
   go_enter Tryz.func201,Tryz.ntmps201
   go_wp2_with fail
   go_region_held3 (fun w'=>w'.cell? ⟨tb,0,none⟩ = some (.slice (some ⟨g,0,none⟩) ts.length cap) ∧ w'.cell? ⟨tb,1,none⟩ = some (.int .i64 (a:Int)) ∧ w'.cell? ⟨g,a * 4,none⟩ = some (.int .i64 tk) ∧ w'.cell? ⟨g,a * 4 + 1,none⟩ = some (.string tx) ∧ w'.cell? ⟨g,a * 4 + 2,none⟩ = some (.int .i64 tn) ∧ w'.cell? ⟨g,a * 4 + 3,none⟩ = some (.int .i64 ta)) ((refine ⟨?_,?_,?_,?_,?_,?_⟩ <;> first | assumption | (simp [go_sem, *];done))) (first | ((with_reducible refine ((I.out _ _ (by simp [go_sem])).out).mono ?_);intro e w1 hr;obtain ⟨rfl,p,rfl⟩:=hr.out;clear hr))
  ·go_wp2
   go_returns
   exact ⟨rfl,show Below w.heap.size w _ from gzT⟩
  ·go_wp2
   go_returns
   exact ⟨rfl,show Below w.heap.size (w.setCell ⟨tb,1,none⟩ (.int .i64 ((a:Int) + 1))) _ from gzT⟩
theorem y8u {ts:List Tk} {a k:Nat} (h1:1 ≤ k) (h5:k ≤ 5) (hn:∀ j,1 ≤ j → j < k → z2t ts a (z9p j) = false) (hy:z2t ts a (z9p k) = true):z7w ts a = k:=by
 unfold z7w
 rcases (by omega:k = 1 ∨ k = 2 ∨ k = 3 ∨ k = 4 ∨ k = 5) with rfl | rfl | rfl | rfl | rfl
 ·rw [if_pos (show z2t ts a [115,101,116] = true from hy)];rfl
 ·rw [if_neg (by rw [show z2t ts a [115,101,116] = false from hn 1 deT deT];decide),if_pos (show z2t ts a [114,97,105,115,101] = true from hy)];rfl
 ·rw [if_neg (by rw [show z2t ts a [115,101,116] = false from hn 1 deT deT];decide),if_neg (by rw [show z2t ts a [114,97,105,115,101] = false from hn 2 deT deT];decide),if_pos (show z2t ts a [115,101,110,100] = true from hy)];rfl
 ·rw [if_neg (by rw [show z2t ts a [115,101,116] = false from hn 1 deT deT];decide),if_neg (by rw [show z2t ts a [114,97,105,115,101] = false from hn 2 deT deT];decide),if_neg (by rw [show z2t ts a [115,101,110,100] = false from hn 3 deT deT];decide),if_pos (show z2t ts a [99,97,110,99,101,108] = true from hy)];rfl
 ·rw [if_neg (by rw [show z2t ts a [115,101,116] = false from hn 1 deT deT];decide),if_neg (by rw [show z2t ts a [114,97,105,115,101] = false from hn 2 deT deT];decide),if_neg (by rw [show z2t ts a [115,101,110,100] = false from hn 3 deT deT];decide),if_neg (by rw [show z2t ts a [99,97,110,99,101,108] = false from hn 4 deT deT];decide),if_pos (show z2t ts a [108,111,103] = true from hy)];rfl
theorem k5q {ts:List Tk} {a:Nat} (hn:∀ j,1 ≤ j → j < 6 → z2t ts a (z9p j) = false):z7w ts a = 0:=by
 unfold z7w
 rw [if_neg (by rw [show z2t ts a [115,101,116] = false from hn 1 deT deT];decide),if_neg (by rw [show z2t ts a [114,97,105,115,101] = false from hn 2 deT deT];decide),if_neg (by rw [show z2t ts a [115,101,110,100] = false from hn 3 deT deT];decide),if_neg (by rw [show z2t ts a [99,97,110,99,101,108] = false from hn 4 deT deT];decide),if_neg (by rw [show z2t ts a [108,111,103] = false from hn 5 deT deT];decide)]
def v7n (tb:Nat) (k:Int) (a:Nat) (w:World) (e:Ending) (w':World):Prop :=
 e = .returned (.tuple #[.int .i64 k,.bool (decide (k ≠ 0))]) ∧ Below w.heap.size (if k = 0 then w else w.setCell ⟨tb,1,none⟩ (.int .i64 ((a + 1:Nat):Int))) w'
set_option maxRecDepth 100000 in
set_option maxHeartbeats 2000000 in
theorem j8a {w0:World} {tb:Nat} {ao:Option Addr} {cap:Nat} {ts:List Tk} {a:Nat} (hB:Base w0 ao ts) (w:World) (h:TkrAt w0 tb ao cap ts a w) :
  Calls Tryz.prog 220 #[.pointer (some ⟨tb,0,none⟩)] w (v7n tb (z7w ts a) a w):=by
 have T:=hiT (fun (x:ByteArray) wx (hb:Below w.heap.size w wx)=>q4x x hB wx (q6p h hb))
 have F:=hiT (fun wx (hb:Below w.heap.size w wx)=>(z5u hB.ax (h.env.trans (hb.mono h.env.size))).fg)
 have htb:=(z7a h).2.2.1
 clear hB h
 go_enter Tryz.func220,Tryz.ntmps220
 go_wp2
 go_loopw [4] (fun v wr=>∃ k:Nat,v = .int .i64 (k:Int) ∧ 1 ≤ k ∧ k ≤ 6 ∧ (∀ j,1 ≤ j → j < k → z2t ts a (z9p j) = false) ∧ Below w.heap.size w wr) (fun v _=>6 - (intOf v).toNat)
 case atStart=>exact ⟨1,rfl,by decide,by decide,fun j h1 h2=>by omega,gzT⟩
 case round =>
  obtain ⟨k,rfl,h1,h6,hn,hb⟩:=hrel
  rename World=>wr
  have hz:=hb.size
  have hnK:=hiT hn
  clear hn
  by_cases h5:k ≤ 5
  ·have hF:=F.out wr hb
   have c0:=v4g hF k h5
   have hgl:=v4f hF
   have Tk:=T.out ⟨(z9p k).toArray⟩ wr hb
   rw [show (⟨(z9p k).toArray⟩:ByteArray).data.toList = z9p k by simp] at Tk
   obtain ⟨b,hbb⟩:∃ b,z2t ts a (z9p k) = b:=⟨_,rfl⟩
   rw [hbb] at Tk
   have hI:(k:Int) ≤ 5:=by omega
   have hyes:=(fun h=>y8u h1 h5 hnK.out (hbb.trans h))
   have hno:=(fun (h:b = false) j (j1:1 ≤ j) (j2:j < k + 1)=>(by
    by_cases he:j = k
    ·subst he;exact hbb.trans h
    ·exact hnK.out j j1 omT:z2t ts a (z9p j) = false))
   generalize (⟨(z9p k).toArray⟩:ByteArray) = x at *
   replace Tk:=hiT Tk
   clear hF T F hbb
   cases b
   ·replace hno:=hiT (hno rfl)
    clear hyes
    go_wp2_with fail
    refine Tk.out.mono ?_
    intro e w1 hr
    obtain ⟨rfl,hb1⟩:=hr
    replace hb1:Below wr.heap.size wr w1:=hb1
    have hb2:=hb.trans (hb1.mono hz)
    clear Tk hb1
    go_wp2
    go_roundw
    case rel=>exact ⟨k + 1,by go_num,by omega,by omega,hno.out,hb2⟩
    case measure=>simp [intOf];omega
   ·replace hyes:=hiT (hyes rfl)
    clear hno
    go_wp2_with fail
    refine Tk.out.mono ?_
    intro e w1 hr
    obtain ⟨rfl,hb1⟩:=hr
    replace hb1:Below wr.heap.size (wr.setCell ⟨tb,1,none⟩ (.int .i64 ((a + 1:Nat):Int))) w1:=hb1
    have hk0:¬ ((k:Nat):Int) = 0:=by omega
    have hfin:=hiT (show Below w.heap.size (w.setCell ⟨tb,1,none⟩ (.int .i64 ((a + 1:Nat):Int))) w1 from by
     obtain ⟨p,rfl⟩:=toG hb
     rw [z2n _ _ _ _ _ htb] at hb1
     have:=(z1e p (w.setCell ⟨tb,1,none⟩ (.int .i64 ((a + 1:Nat):Int)))).trans (hb1.mono (by rw [z1w];exact hz))
     rw [z1w] at this
     exact this)
    clear Tk hb1
    go_wp2
    go_returns
    rw [hyes.out]
    exact ⟨by rw [show decide (((k:Nat):Int) ≠ 0) = true from decide_eq_true hk0];rfl,by rw [if_neg hk0];exact hfin.out⟩
  ·obtain rfl:k = 6:=by omega
   have h0:=hiT (k5q hnK.out)
   clear T F hnK
   go_wp2
   go_returns
   rw [h0.out]
   exact ⟨rfl,hb⟩
def v7q (tb:Nat) (o:Option (List UInt8)) (a:Nat) (w:World) (e:Ending) (w':World):Prop :=
 match o with
 | none=>e = .returned (.tuple #[.string ⟨#[]⟩,.int .i64 11]) ∧ Below w.heap.size w w'
 | some s=>e = .returned (.tuple #[.string ⟨s.toArray⟩,.int .i64 0]) ∧ Below w.heap.size (w.setCell ⟨tb,1,none⟩ (.int .i64 ((a + 1:Nat):Int))) w'
set_option maxRecDepth 100000 in
set_option maxHeartbeats 2000000 in
theorem q4v {w0:World} {tb:Nat} {ao:Option Addr} {cap:Nat} {ts:List Tk} {a:Nat} (ev:Bool) (f0 f3 f4:Value) (hB:Base w0 ao ts) (w:World) (h:TkrAt w0 tb ao cap ts a w) :
  Calls Tryz.prog 236 #[.pointer (some ⟨tb,0,none⟩),.agg #[f0,.bool (!ev),.bool ev,f3,f4]] w (v7q tb (z3n ev ts a) a w):=by
 obtain ⟨c0,c1,htb,f1⟩:=z7a h
 have hle:=h.le
 have hfew:=hB.few
 have hl:Sl w ao ts:=z4g hB.sl h.env
 have hLb:Lb w:=(z5u hB.ax h.env).lb
 have hsh:=hB.short
 have i1:InW tb w:=⟨htb⟩
 clear h hB
 by_cases he:a = ts.length
 ·have hn:z3n ev ts a = none:=by unfold z3n;rw [List.getElem?_eq_none omT]
  rw [hn]
  have hd:((a:Int) == (ts.length:Int)) = true:=by rw [beq_iff_eq];omega
  clear hn hl he hLb hsh
  go_enter Tryz.func236,Tryz.ntmps236
  go_wp2_with fail
  (refine z0d krT krT ?_;(repeat (go_big_quiet_step (fail)));refine wpQuiet_nil ?_;intro _ hw';obtain ⟨pg,hw''⟩:=hw';subst hw'')
  go_wp2
  go_returns
  exact ⟨rfl,show Below w.heap.size w _ from gzT⟩
 ·have hlt:a < ts.length:=by omega
  obtain ⟨g,rfl,hg,ht⟩:=hl omT
  obtain ⟨a0,a1,a2,a3⟩:=ht a hlt
  have i2:InW g w:=⟨hg⟩
  have hd:((a:Int) == (ts.length:Int)) = false:=by rw [beq_eq_false_iff_ne];omega
  have hres:z3n ev ts a = if (ts[a].k == 1 || ts[a].k == 2) && z9u ev ts[a].s then some ts[a].s else none:=by
   unfold z3n
   rw [List.getElem?_eq_getElem hlt]
  rw [hres]
  have N:=fun wx (hb:Below w.heap.size w wx)=>y4c ev f0 f3 f4 ⟨ts[a].s.toArray⟩ (by rw [Lib.size_eq];simpa using hsh ts[a] (List.getElem_mem hlt)) wx (z1v hLb hb)
  simp only at N
  have hAq:=hiT (rfl:(⟨ts[a].s.toArray⟩:ByteArray) = ⟨ts[a].s.toArray⟩)
  generalize z9u ev ts[a].s = nb at *
  replace N:=hiT N
  clear hres hl ht he hLb hsh
  generalize ts[a].k = tk at *
  generalize ts[a].s = tx at *
  generalize ts[a].n = tn at *
  generalize (ts[a].a:Int) = ta at *
  by_cases hk:tk = 1 ∨ tk = 2
  ·have hkb:(tk == 1 || tk == 2) = true:=by rcases hk with rfl | rfl <;> rfl
   rw [hkb,Bool.true_and]
   rcases hk with rfl | rfl
   ·skip
    cases nb
    all_goals
     clear hkb
     go_enter Tryz.func236,Tryz.ntmps236
     go_wp2_with fail
     (refine z0d krT krT ?_;(repeat (go_big_quiet_step (fail)));refine wpQuiet_nil ?_;intro _ hw';obtain ⟨pg,hw''⟩:=hw';subst hw'')
     go_wp2_with fail
     go_region_held3 (fun w'=>w'.cell? ⟨tb,0,none⟩ = some (.slice (some ⟨g,0,none⟩) ts.length cap) ∧ w'.cell? ⟨tb,1,none⟩ = some (.int .i64 (a:Int)) ∧ w'.cell? ⟨g,a * 4,none⟩ = some (.int .i64 1) ∧ w'.cell? ⟨g,a * 4 + 1,none⟩ = some (.string ⟨tx.toArray⟩) ∧ w'.cell? ⟨g,a * 4 + 2,none⟩ = some (.int .i64 tn) ∧ w'.cell? ⟨g,a * 4 + 3,none⟩ = some (.int .i64 ta)) ((refine ⟨?_,?_,?_,?_,?_,?_⟩ <;> first | assumption | (simp [go_sem, *];done))) (fail)
     go_wp2_with fail
     refine (N.out _ gzT).mono ?_
     intro e w1 hr
     obtain ⟨rfl,hb⟩:=hr
     have hbw:Below w.heap.size w w1:=Below.trans gzT (hb.mono (by simp;have:=(z1e pg (w.alloc (.cells #[f0,.bool (!ev),.bool ev,f3,f4] 350))).size;simp at this;omega))
     have c5:=(hb.cell (p:=⟨(G pg (w.alloc (.cells #[f0,.bool (!ev),.bool ev,f3,f4] 350))).heap.size,1,none⟩) (by simp)).trans (by simp [go_sem];rfl)
     have hnb:tb < (G pg (w.alloc (.cells #[f0,.bool (!ev),.bool ev,f3,f4] 350))).heap.size:=InW.lt
     have hnc:¬ tb = (G pg (w.alloc (.cells #[f0,.bool (!ev),.bool ev,f3,f4] 350))).heap.size:=by omega
     have hnd:(G pg (w.alloc (.cells #[f0,.bool (!ev),.bool ev,f3,f4] 350))).heap.size < w1.heap.size:=Nat.lt_of_lt_of_le (by simp) hb.size
     clear hb hnb
     generalize (G pg (w.alloc (.cells #[f0,.bool (!ev),.bool ev,f3,f4] 350))).heap.size = nb at *
     have i3:InW nb w1:=⟨hnd⟩
     have i4:InW tb w1:=⟨Nat.lt_of_lt_of_le htb hbw.size⟩
     have k0:=(hbw.cell (p:=⟨tb,0,none⟩) htb).trans c0
     have k1:=(hbw.cell (p:=⟨tb,1,none⟩) htb).trans c1
     have k2:w1.frozen? ⟨tb,1,none⟩ = false:=(hbw.frozen (p:=⟨tb,1,none⟩) htb).trans f1
     have hfin:=hiT (q8s (i:=1) (v := .int .i64 ((a:Int) + 1)) hbw htb)
     clear c0 c1 f1 i1 N a0 a1 a2 a3
     go_wp2
     go_returns
     first | exact ⟨rfl,hbw⟩ | exact ⟨rfl,hfin.out⟩
   ·skip
    cases nb
    all_goals
     clear hkb
     go_enter Tryz.func236,Tryz.ntmps236
     go_wp2_with fail
     (refine z0d krT krT ?_;(repeat (go_big_quiet_step (fail)));refine wpQuiet_nil ?_;intro _ hw';obtain ⟨pg,hw''⟩:=hw';subst hw'')
     go_wp2_with fail
     go_region_held3 (fun w'=>w'.cell? ⟨tb,0,none⟩ = some (.slice (some ⟨g,0,none⟩) ts.length cap) ∧ w'.cell? ⟨tb,1,none⟩ = some (.int .i64 (a:Int)) ∧ w'.cell? ⟨g,a * 4,none⟩ = some (.int .i64 2) ∧ w'.cell? ⟨g,a * 4 + 1,none⟩ = some (.string ⟨tx.toArray⟩) ∧ w'.cell? ⟨g,a * 4 + 2,none⟩ = some (.int .i64 tn) ∧ w'.cell? ⟨g,a * 4 + 3,none⟩ = some (.int .i64 ta)) ((refine ⟨?_,?_,?_,?_,?_,?_⟩ <;> first | assumption | (simp [go_sem, *];done))) (fail)
     go_wp2_with fail
     refine (N.out _ gzT).mono ?_
     intro e w1 hr
     obtain ⟨rfl,hb⟩:=hr
     have hbw:Below w.heap.size w w1:=Below.trans gzT (hb.mono (by simp;have:=(z1e pg (w.alloc (.cells #[f0,.bool (!ev),.bool ev,f3,f4] 350))).size;simp at this;omega))
     have c5:=(hb.cell (p:=⟨(G pg (w.alloc (.cells #[f0,.bool (!ev),.bool ev,f3,f4] 350))).heap.size,1,none⟩) (by simp)).trans (by simp [go_sem];rfl)
     have hnb:tb < (G pg (w.alloc (.cells #[f0,.bool (!ev),.bool ev,f3,f4] 350))).heap.size:=InW.lt
     have hnc:¬ tb = (G pg (w.alloc (.cells #[f0,.bool (!ev),.bool ev,f3,f4] 350))).heap.size:=by omega
     have hnd:(G pg (w.alloc (.cells #[f0,.bool (!ev),.bool ev,f3,f4] 350))).heap.size < w1.heap.size:=Nat.lt_of_lt_of_le (by simp) hb.size
     clear hb hnb
     generalize (G pg (w.alloc (.cells #[f0,.bool (!ev),.bool ev,f3,f4] 350))).heap.size = nb at *
     have i3:InW nb w1:=⟨hnd⟩
     have i4:InW tb w1:=⟨Nat.lt_of_lt_of_le htb hbw.size⟩
     have k0:=(hbw.cell (p:=⟨tb,0,none⟩) htb).trans c0
     have k1:=(hbw.cell (p:=⟨tb,1,none⟩) htb).trans c1
     have k2:w1.frozen? ⟨tb,1,none⟩ = false:=(hbw.frozen (p:=⟨tb,1,none⟩) htb).trans f1
     have hfin:=hiT (q8s (i:=1) (v := .int .i64 ((a:Int) + 1)) hbw htb)
     clear c0 c1 f1 i1 N a0 a1 a2 a3
     go_wp2
     go_returns
     first | exact ⟨rfl,hbw⟩ | exact ⟨rfl,hfin.out⟩
  ·have hkb:(tk == 1 || tk == 2) = false:=by
    rw [Bool.or_eq_false_iff,beq_eq_false_iff_ne,beq_eq_false_iff_ne]
    exact ⟨fun h=>hk (.inl h),fun h=>hk (.inr h)⟩
   rw [hkb,Bool.false_and]
   have e1:(tk != 1) = true:=by rw [bne_iff_ne];exact fun h=>hk (.inl h)
   have e2:(tk != 2) = true:=by rw [bne_iff_ne];exact fun h=>hk (.inr h)
   have e3:¬ tk = 1:=fun h=>hk (.inl h)
   have e4:¬ tk = 2:=fun h=>hk (.inr h)
   clear hkb hk N
   go_enter Tryz.func236,Tryz.ntmps236
   go_wp2_with fail
   (refine z0d krT krT ?_;(repeat (go_big_quiet_step (fail)));refine wpQuiet_nil ?_;intro _ hw';obtain ⟨pg,hw''⟩:=hw';subst hw'')
   go_wp2_with fail
   go_region_held3 (fun w'=>w'.cell? ⟨tb,0,none⟩ = some (.slice (some ⟨g,0,none⟩) ts.length cap) ∧ w'.cell? ⟨tb,1,none⟩ = some (.int .i64 (a:Int)) ∧ w'.cell? ⟨g,a * 4,none⟩ = some (.int .i64 tk) ∧ w'.cell? ⟨g,a * 4 + 1,none⟩ = some (.string ⟨tx.toArray⟩) ∧ w'.cell? ⟨g,a * 4 + 2,none⟩ = some (.int .i64 tn) ∧ w'.cell? ⟨g,a * 4 + 3,none⟩ = some (.int .i64 ta)) ((refine ⟨?_,?_,?_,?_,?_,?_⟩ <;> first | assumption | (simp [go_sem, *];done))) (fail)
   go_wp2_with fail
   go_returns
   exact ⟨rfl,show Below w.heap.size w _ from gzT⟩
def y8r (tb:Nat) (x:Except Int (List Nd × Nat)) (w:World) (e:Ending) (w':World):Prop :=
 match x with
 | .error x=>e = .returned (.tuple #[.slice none 0 0,.int .i64 x]) ∧ Below w.heap.size w w'
 | .ok (ns,n)=>∃ v,e = .returned (.tuple #[v,.int .i64 0]) ∧ w'.ownsRow w.heap.size 239 7 v ns.length (z9j ns) ∧ Below w.heap.size (w.setCell ⟨tb,1,none⟩ (.int .i64 (n:Int))) w'
set_option maxRecDepth 100000 in
set_option maxHeartbeats 2000000 in
theorem q9m {w0:World} {tb:Nat} {ao:Option Addr} {cap:Nat} {ts:List Tk} {a:Nat} (hB:Base w0 ao ts) (w:World) (h:TkrAt w0 tb ao cap ts a w) :
  Calls Tryz.prog 219 #[.pointer (some ⟨tb,0,none⟩)] w (y8r tb (z3f ts (a:Int)) w):=by
 obtain ⟨c0,c1,htb,f1⟩:=z7a h
 have hblk:=h.blk
 have hP:=hiT (fun wx (hb:Below w.heap.size w wx)=>j2q ao cap ts (a:Int) hB.few wx (z4g (z4g hB.sl h.env) hb) (z5u (z5u hB.ax h.env) hb).eg)
 have i1:InW tb w:=⟨htb⟩
 clear h hB
 rcases hp:z3f ts (a:Int) with x | ⟨ns,n⟩
 ·rw [hp] at hP
  have hx:=z6v hp
  clear hp
  go_enter Tryz.func219,Tryz.ntmps219
  go_wp2_with fail
  go_region_held3 (fun w'=>w'.cell? ⟨tb,0,none⟩ = some (.slice ao ts.length cap) ∧ w'.cell? ⟨tb,1,none⟩ = some (.int .i64 (a:Int))) ((refine ⟨?_,?_⟩ <;> first | assumption | (rw [z1f];assumption) | (simp [go_sem, *];done))) (first | ((with_reducible refine (hP.out _ gzT).mono ?_);intro e w1 hr;obtain ⟨rfl,hb⟩:=hr;obtain ⟨p1,rfl⟩:=toG hb;clear hb))
  go_wp2
  go_returns
  exact ⟨rfl,gzT⟩
 ·rw [hp] at hP
  clear hp
  go_enter Tryz.func219,Tryz.ntmps219
  go_wp2_with fail
  go_region_held3 (fun w'=>w'.cell? ⟨tb,0,none⟩ = some (.slice ao ts.length cap) ∧ w'.cell? ⟨tb,1,none⟩ = some (.int .i64 (a:Int))) ((refine ⟨?_,?_⟩ <;> first | assumption | (rw [z1f];assumption) | (simp [go_sem, *];done))) (first | ((with_reducible refine (hP.out _ gzT).mono ?_);intro e w1 hr;obtain ⟨v,rfl,hown,hb⟩:=hr;obtain ⟨na,nc,hv⟩:=z0g hown;subst hv;obtain ⟨p1,rfl⟩:=toG hb;clear hb;(try simp only [z5j] at hown)))
  have hb1:Below w.heap.size w (G p1 w):=gzT
  have hk:=(hb1.block tb htb).trans hblk
  have f2:(G p1 w).frozen? ⟨tb,1,none⟩ = false:=frozen_of_row _ tb 1 _ _ hk
  have hfin:=hiT (show ((G p1 w).setCell ⟨tb,1,none⟩ (.int .i64 (n:Int))).ownsRow w.heap.size 239 7 (.slice na ns.length nc) ns.length (z9j ns) from ownsRow_setCell_other hown (z0n hown hk deT) _)
  rw [z2n _ _ _ _ _ htb] at hfin
  clear hP hown hk
  go_wp2
  go_returns
  exact ⟨_,rfl,hfin.out,gzT⟩
def y8s (tb:Nat) (o:Option Int) (a:Nat) (w:World) (e:Ending) (w':World):Prop :=
 match o with
 | none=>e = .returned (.tuple #[.int .i64 0,.int .i64 11]) ∧ Below w.heap.size w w'
 | some n=>if 1048576 < n then e = .returned (.tuple #[.int .i64 0,.int .i64 10]) ∧ Below w.heap.size w w'
  else e = .returned (.tuple #[.int .i64 n,.int .i64 0]) ∧ Below w.heap.size (w.setCell ⟨tb,1,none⟩ (.int .i64 ((a + 1:Nat):Int))) w'
set_option maxRecDepth 100000 in
set_option maxHeartbeats 2000000 in
theorem v0d {w0:World} {tb:Nat} {ao:Option Addr} {cap:Nat} {ts:List Tk} {a:Nat} (hB:Base w0 ao ts) (w:World) (h:TkrAt w0 tb ao cap ts a w) :
  Calls Tryz.prog 237 #[.pointer (some ⟨tb,0,none⟩)] w (y8s tb (j0b ts a) a w):=by
 obtain ⟨c0,c1,htb,f1⟩:=z7a h
 have hle:=h.le
 have hfew:=hB.few
 have hl:Sl w ao ts:=z4g hB.sl h.env
 have i1:InW tb w:=⟨htb⟩
 clear h hB
 by_cases he:a = ts.length
 ·have hn:j0b ts a = none:=by unfold j0b;rw [List.getElem?_eq_none omT]
  rw [hn]
  have hd:((a:Int) == (ts.length:Int)) = true:=by rw [beq_iff_eq];omega
  clear hn hl he
  go_enter Tryz.func237,Tryz.ntmps237
  go_wp2_with fail
  (refine z0d krT krT ?_;(repeat (go_big_quiet_step (fail)));refine wpQuiet_nil ?_;intro _ hw';obtain ⟨pg,hw''⟩:=hw';subst hw'')
  go_wp2
  go_returns
  exact ⟨rfl,show Below w.heap.size w _ from gzT⟩
 ·have hlt:a < ts.length:=by omega
  obtain ⟨g,rfl,hg,ht⟩:=hl omT
  obtain ⟨a0,a1,a2,a3⟩:=ht a hlt
  have i2:InW g w:=⟨hg⟩
  have hd:((a:Int) == (ts.length:Int)) = false:=by rw [beq_eq_false_iff_ne];omega
  have hres:j0b ts a = if ts[a].k == 3 then some ts[a].n else none:=by
   unfold j0b
   rw [List.getElem?_eq_getElem hlt]
  rw [hres]
  clear hres hl ht he a1 a3
  generalize ts[a].k = tk at *
  generalize ts[a].n = tn at *
  by_cases hk:tk = 3
  ·subst hk
   rw [if_pos (by rfl)]
   by_cases hn:1048576 < tn
   ·show Calls _ _ _ w fun e w'=>if 1048576 < tn then _ else _
    rw [show (fun (e:Ending) (w':World)=>if 1048576 < tn then e = .returned (.tuple #[.int .i64 0,.int .i64 10]) ∧ Below w.heap.size w w' else e = .returned (.tuple #[.int .i64 tn,.int .i64 0]) ∧ Below w.heap.size (w.setCell ⟨tb,1,none⟩ (.int .i64 ((a + 1:Nat):Int))) w') = fun e w'=>e = .returned (.tuple #[.int .i64 0,.int .i64 10]) ∧ Below w.heap.size w w' from funext fun e=>funext fun w'=>if_pos hn]
    go_enter Tryz.func237,Tryz.ntmps237
    go_wp2_with fail
    (refine z0d krT krT ?_;(repeat (go_big_quiet_step (fail)));refine wpQuiet_nil ?_;intro _ hw';obtain ⟨pg,hw''⟩:=hw';subst hw'')
    go_wp2_with fail
    (refine z0d krT krT ?_;(repeat (go_big_quiet_step (fail)));refine wpQuiet_nil ?_;intro _ hw';obtain ⟨pg,hw''⟩:=hw';subst hw'')
    go_wp2
    go_returns
    exact ⟨rfl,gzT⟩
   ·show Calls _ _ _ w fun e w'=>if 1048576 < tn then _ else _
    rw [show (fun (e:Ending) (w':World)=>if 1048576 < tn then e = .returned (.tuple #[.int .i64 0,.int .i64 10]) ∧ Below w.heap.size w w' else e = .returned (.tuple #[.int .i64 tn,.int .i64 0]) ∧ Below w.heap.size (w.setCell ⟨tb,1,none⟩ (.int .i64 ((a + 1:Nat):Int))) w') = fun e w'=>e = .returned (.tuple #[.int .i64 tn,.int .i64 0]) ∧ Below w.heap.size (w.setCell ⟨tb,1,none⟩ (.int .i64 ((a + 1:Nat):Int))) w' from funext fun e=>funext fun w'=>if_neg hn]
    go_enter Tryz.func237,Tryz.ntmps237
    go_wp2_with fail
    (refine z0d krT krT ?_;(repeat (go_big_quiet_step (fail)));refine wpQuiet_nil ?_;intro _ hw';obtain ⟨pg,hw''⟩:=hw';subst hw'')
    go_wp2_with fail
    (refine z0d krT krT ?_;(repeat (go_big_quiet_step (fail)));refine wpQuiet_nil ?_;intro _ hw';obtain ⟨pg,hw''⟩:=hw';subst hw'')
    go_wp2
    go_returns
    exact ⟨rfl,show Below w.heap.size (w.setCell ⟨tb,1,none⟩ (.int .i64 ((a:Int) + 1))) _ from gzT⟩
  ·have hkb:(tk == 3) = false:=by rw [beq_eq_false_iff_ne];exact hk
   have e1:(tk != 3) = true:=by rw [bne_iff_ne];exact hk
   rw [hkb,if_neg deT]
   clear hkb
   go_enter Tryz.func237,Tryz.ntmps237
   go_wp2_with fail
   (refine z0d krT krT ?_;(repeat (go_big_quiet_step (fail)));refine wpQuiet_nil ?_;intro _ hw';obtain ⟨pg,hw''⟩:=hw';subst hw'')
   go_wp2
   go_returns
   exact ⟨rfl,show Below w.heap.size w _ from gzT⟩
end Go.Proofs.YtacnlghljmgdiaaGreatDoor
