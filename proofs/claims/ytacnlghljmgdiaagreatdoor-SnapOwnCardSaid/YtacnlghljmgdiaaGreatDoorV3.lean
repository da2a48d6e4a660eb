/- Several texts of this proof, joined: AV, BA, AW, AX, FO. -/
import Derived.Test.YtacnlghljmgdiaaGreatDoorY6
import Derived.Test.YtacnlghljmgdiaaGreatDoorY9
import Derived.WalkKit
import Derived.ProofKit
import Derived.OpenShut
import Derived.Handy
import Derived.BigQuiet
import Derived.OwnWalk
import Derived.Deep.AppendLies
import Derived.Lib.Hide
import Derived.WalkSmall
import Derived.WalkLawsBesides
import Derived.Test.YtacnlghljmgdiaaGreatDoorV2
import Derived.Test.YtacnlghljmgdiaaGreatDoorZ1
import Derived.Test.YtacnlghljmgdiaaGreatDoorJ1
import Derived.Test.YtacnlghljmgdiaaGreatDoorZ7
import Derived.Lib.LaidTab
import Derived.Lib.SmallJoins
namespace Go.Proofs.YtacnlghljmgdiaaGreatDoor
open Go.RowKit
def j0j (w:World) (ao:Option Addr) (cs:List Ac):Prop:=0 < cs.length → ∃ g,ao = some ⟨g,0,none⟩ ∧ g < w.heap.size ∧ ∀ i (h:i < cs.length),∃ io ic xo xc,
 w.cell? ⟨g,i * 5,none⟩ = some (.int .i64 cs[i].kind) ∧ w.cell? ⟨g,i * 5 + 1,none⟩ = some (.slice io cs[i].cond.length ic) ∧ w.cell? ⟨g,i * 5 + 2,none⟩ = some (.string ⟨cs[i].name.toArray⟩) ∧
 w.cell? ⟨g,i * 5 + 3,none⟩ = some (.slice xo cs[i].x.length xc) ∧ w.cell? ⟨g,i * 5 + 4,none⟩ = some (.int .i64 cs[i].n) ∧ q1i w io cs[i].cond ∧ q1i w xo cs[i].x
theorem z6f {w w':World} {ao:Option Addr} {cs:List Ac} (h:j0j w ao cs) (hb:Below w.heap.size w w'):j0j w' ao cs:=fun h0=>by
 obtain ⟨g,hg,hgl,ht⟩:=h h0
 refine ⟨g,hg,Nat.lt_of_lt_of_le hgl hb.size,fun i hi=>?_⟩
 obtain ⟨io,ic,xo,xc,h1,h2,h3,h4,h5,h6,h7⟩:=ht i hi
 exact ⟨io,ic,xo,xc,(hb.cell (p:=⟨g,_,none⟩) hgl).trans h1,(hb.cell (p:=⟨g,_,none⟩) hgl).trans h2,(hb.cell (p:=⟨g,_,none⟩) hgl).trans h3,(hb.cell (p:=⟨g,_,none⟩) hgl).trans h4,(hb.cell (p:=⟨g,_,none⟩) hgl).trans h5,z1t h6 hb,z1t h7 hb⟩
def AcV (T:TypeId) (B:Nat) (w:World) (c:Ac) (vs:List Value):Prop:=∃ iv xv,vs = [.int .i64 c.kind,iv,.string ⟨c.name.toArray⟩,xv,.int .i64 c.n] ∧ w.ownsRow B T 7 iv c.cond.length (z9j c.cond) ∧ w.ownsRow B T 7 xv c.x.length (z9j c.x)
inductive AcVs (T:TypeId) (B:Nat) (w:World):List Ac → List Value → Prop
 | nil:AcVs T B w [] []
 | cons {c:Ac} {cs:List Ac} {v vs:List Value}:AcV T B w c v → AcVs T B w cs vs → AcVs T B w (c :: cs) (v ++ vs)
theorem v2s {T:TypeId} {B:Nat} {w:World} {c:Ac} {v:List Value} (h:AcV T B w c v):v.length = 5:=by
 obtain ⟨iv,xv,rfl,_⟩:=h
 rfl
theorem v2t {T:TypeId} {B:Nat} {w:World} {cs:List Ac} {vs:List Value} (h:AcVs T B w cs vs):∀ i (hi:i < cs.length),∃ v,AcV T B w cs[i] v ∧ ∀ j,j < 5 → vs[i * 5 + j]? = v[j]?:=by
 induction h with
 | nil=>exact fun i hi=>absurd hi (Nat.not_lt_zero _)
 | @cons c cs v vs h1 _ ih =>
  have hl:=v2s h1
  intro i hi
  cases i with
  | zero =>
   refine ⟨v,h1,fun j hj=>?_⟩
   rw [Nat.zero_mul,Nat.zero_add,List.getElem?_append_left omT]
  | succ i =>
   obtain ⟨u,h2,h3⟩:=ih i (by simpa using hi)
   refine ⟨u,h2,fun j hj=>?_⟩
   rw [List.getElem?_append_right omT,← h3 j hj]
   congr 1
   omega
theorem j8o {T:TypeId} {B:Nat} {w:World} {cs ds:List Ac} {vs us:List Value} (h:AcVs T B w cs vs) (hd:AcVs T B w ds us):AcVs T B w (cs ++ ds) (vs ++ us):=by
 induction h with
 | nil=>exact hd
 | cons h1 _ ih =>
  rw [List.append_assoc]
  exact .cons h1 ih
theorem z8r {T:TypeId} {B B':Nat} {w w':World} {cs:List Ac} {vs:List Value} (h:AcVs T B w cs vs) (hk:∀ (v:Value) (n:Nat) (xs:List Value),w.ownsRow B T 7 v n xs → w'.ownsRow B' T 7 v n xs):AcVs T B' w' cs vs:=by
 induction h with
 | nil=>exact .nil
 | cons h1 _ ih =>
  obtain ⟨iv,xv,rfl,h2,h3⟩:=h1
  exact .cons ⟨iv,xv,rfl,hk _ _ _ h2,hk _ _ _ h3⟩ ih
theorem j5k {T:TypeId} {B:Nat} {w w':World} {cs:List Ac} {vs:List Value} (h:AcVs T B w cs vs) (hb:Below w.heap.size w w'):AcVs T B w' cs vs:=z8r h fun _ _ _ hv=>z0a hv hb
theorem q6y {T:TypeId} {B:Nat} {w:World} {c:Ac} {v:List Value} (h:AcV T B w c v):AcVs T B w [c] v:=by
 have:=AcVs.cons h (AcVs.nil (T:=T) (B:=B) (w:=w))
 rwa [List.append_nil] at this
theorem k5p {T:TypeId} {B:Nat} {w w':World} {c:Ac} {vs:List Value} (h:AcV T B w c vs) (hb:Below w.heap.size w w'):AcV T B w' c vs:=by
 obtain ⟨iv,xv,e,h1,h2⟩:=h
 exact ⟨iv,xv,e,z0a h1 hb,z0a h2 hb⟩
def z4d (T E:TypeId) (B:Nat) (w:World) (v:Value) (cs:List Ac):Prop:=∃ vs,AcVs T B w cs vs ∧ w.ownsRow B E 5 v cs.length vs
theorem q2q (T E:TypeId) (B:Nat) (w:World):z4d T E B w (.slice none 0 0) []:=⟨[],.nil,World.ownsRow_nil _ _ _ _⟩
theorem z6e {T E:TypeId} {B:Nat} {w w':World} {v:Value} {cs:List Ac} (h:z4d T E B w v cs) (hb:Below w.heap.size w w'):z4d T E B w' v cs:=by
 obtain ⟨vs,h1,h2⟩:=h
 exact ⟨vs,z8r h1 fun v n xs hv=>z0a hv hb,z0a h2 hb⟩
theorem z6c {T E:TypeId} {B B':Nat} {w:World} {v:Value} {cs:List Ac} (h:z4d T E B w v cs) (hB:B' ≤ B):z4d T E B' w v cs:=by
 obtain ⟨vs,h1,h2⟩:=h
 exact ⟨vs,z8r h1 fun v n xs hv=>z0m hv hB,z0m h2 hB⟩
theorem z6d {T E:TypeId} {B:Nat} {w:World} {v:Value} {cs:List Ac} (h:z4d T E B w v cs):∃ ao cap,v = .slice ao cs.length cap:=by
 obtain ⟨vs,_,h2⟩:=h
 exact z0g h2
theorem q5y {T E:TypeId} {B:Nat} {w:World} {ao:Option Addr} {n cap:Nat} {cs:List Ac} (h:z4d T E B w (.slice ao n cap) cs):j0j w ao cs:=by
 obtain ⟨vs,h1,h2⟩:=h
 intro h0
 obtain ⟨g,cap',e,hg,_,_,hc⟩:=z1g h2 h0
 cases e
 refine ⟨g,rfl,hg,fun i hi=>?_⟩
 obtain ⟨v,⟨iv,xv,rfl,h3,h4⟩,h5⟩:=v2t h1 i hi
 obtain ⟨io,ic,rfl⟩:=z0g h3
 obtain ⟨xo,xc,rfl⟩:=z0g h4
 exact ⟨io,ic,xo,xc,hc _ _ ((h5 0 deT).trans rfl),hc _ _ ((h5 1 deT).trans rfl),hc _ _ ((h5 2 deT).trans rfl),hc _ _ ((h5 3 deT).trans rfl),hc _ _ ((h5 4 deT).trans rfl),j3u h3,j3u h4⟩
theorem q6x {T E:TypeId} {B g cap n:Nat} {W w1:World} {v:Value} {cs ds:List Ac} {vs us:List Value} (hT:T ≠ E) (h1:AcVs T B W cs vs) (h2:W.ownsRow B E 5 v cs.length vs) (h3:AcVs T B W ds us) (hg:W.grownBy w1 v.ownBlock) (hn:n = (cs ++ ds).length) (ho:w1.ownsRow B E 5 (.slice (some ⟨g,0,none⟩) n cap) n (vs ++ us)):z4d T E B w1 (.slice (some ⟨g,0,none⟩) n cap) (cs ++ ds):=by
 subst hn
 exact ⟨vs ++ us,z8r (j8o h1 h3) fun u n xs hu=>z0o hu h2 (z1a hu h2 hT) hg,ho⟩
def v2n (ns:List Nd) (w:World) (e:Ending) (w':World):Prop:=∃ v,e = .returned v ∧ w'.ownsRow w.heap.size 241 7 v ns.length (z9j ns) ∧ Below w.heap.size w w'
structure KeptA (B tb ab:Nat) (w w':World):Prop where
 below:Below B w w'
 size:w.heap.size ≤ w'.heap.size
 block:∀ k,k < w.heap.size → k ≠ tb → k ≠ ab → w'.heap[k]? = w.heap[k]?
theorem z0w {B tb ab:Nat} {w w':World} (hb:Below w.heap.size w w') (hB:B ≤ w.heap.size):KeptA B tb ab w w':=⟨hb.mono hB,hb.size,fun k hk _ _=>hb.block k hk⟩
theorem z0e {B tb ab:Nat} {w w1 w2:World} (h:KeptA B tb ab w w1) (k:KeptA B tb ab w1 w2):KeptA B tb ab w w2 :=
 ⟨h.below.trans k.below,Nat.le_trans h.size k.size,fun j hj h1 h2=>(k.block j (Nat.lt_of_lt_of_le hj h.size) h1 h2).trans (h.block j hj h1 h2)⟩
theorem z2f {B tb ab b i:Nat} {v:Value} {w:World} (hb:b = tb ∨ b = ab) (hB:B ≤ b):KeptA B tb ab w (w.setCell ⟨b,i,none⟩ v):=by
 refine ⟨(Below.refl B w).setCell (p:=⟨b,i,none⟩) hB _,Nat.le_of_eq (z1w _ _ _ _).symm,fun k _ h1 h2=>?_⟩
 rw [Below.heap_setCell _ _ _ _ (fun e=>by rcases hb with rfl | rfl <;> simp_all)]
theorem z2l {B tb ab:Nat} {v:Value} {i:Nat} {w w':World} (hB:B ≤ tb) (hs:B ≤ w.heap.size) (hb:Below w.heap.size (w.setCell ⟨tb,i,none⟩ v) w'):KeptA B tb ab w w' :=
 z0e (z2f (.inl rfl) hB) (z0w (by rw [z1w];exact hb) (by rw [z1w];exact hs))
theorem z0q {B tb ab:Nat} {w:World} {o:Obj} (hB:B ≤ w.heap.size):KeptA B tb ab w (w.alloc o):=z0w ((Below.refl _ w).alloc (Nat.le_refl _) _) hB
theorem z2y {B tb ab b:Nat} {w w':World} {o:Obj} (h:KeptA B tb ab w w') (hb:w.heap[b]? = some o) (h1:b ≠ tb) (h2:b ≠ ab):w'.heap[b]? = some o :=
 (h.block b (Array.getElem?_eq_some_iff.1 hb).1 h1 h2).trans hb
theorem z8d {B tb ab B' e s n:Nat} {v:Value} {xs:List Value} {w w':World} (h:w.ownsRow B' e s v n xs) (hk:KeptA B tb ab w w') (h1:v.ownBlock ≠ some tb) (h2:v.ownBlock ≠ some ab):w'.ownsRow B' e s v n xs:=by
 refine ⟨h.1,?_⟩
 rcases h.2 with hn | ⟨g,cap,cur,rfl,hg,hgg,rest⟩
 ·exact .inl hn
 ·refine .inr ⟨g,cap,cur,rfl,hg,?_,rest⟩
  exact z2y hk hgg (fun e=>h1 (by subst e;rfl)) (fun e=>h2 (by subst e;rfl))
theorem z0i {b c i:Nat} {v:Value} {w:World} {o:Option Obj} (h:w.heap[b]? = o) (hne:b ≠ c):(w.setCell ⟨c,i,none⟩ v).heap[b]? = o:=by
 rw [Below.heap_setCell _ _ _ _ (fun e=>hne (by simpa using e))]
 exact h
theorem z0j {b:Nat} {w:World} {cs:Array Value} {t:TypeId} {fr:Nat × Nat} {o:Obj} (h:w.heap[b]? = some (.cells cs t fr)):(w.alloc o).heap[b]? = some (.cells cs t fr):=by
 rw [heap_alloc_old w o (lt_of_block h)]
 exact h
theorem five {w:World} {b:Nat} {t:TypeId} {v0 v1 v2 v3 v4:Value} (h:w.heap[b]? = some (.cells #[v0,v1,v2,v3,v4] t (0,0))) :
  w.cell? ⟨b,0,none⟩ = some v0 ∧ w.cell? ⟨b,1,none⟩ = some v1 ∧ w.cell? ⟨b,2,none⟩ = some v2 ∧ w.cell? ⟨b,3,none⟩ = some v3 ∧ w.cell? ⟨b,4,none⟩ = some v4 ∧ b < w.heap.size ∧ ∀ i,w.frozen? ⟨b,i,none⟩ = false:=by
 refine ⟨?_,?_,?_,?_,?_,lt_of_block h,fun i=>frozen_of_row w b i _ _ h⟩
 all_goals
  rw [cell_of_row w b _ _ _ _ h]
  rfl
theorem z0x {b c i:Nat} {v:Value} {w w':World} {cs:Array Value} {t:TypeId} {fr:Nat × Nat} (h:(w.setCell ⟨c,i,none⟩ v).heap[b]? = some (.cells cs t fr)) (hb:Below w.heap.size (w.setCell ⟨c,i,none⟩ v) w'):w'.heap[b]? = some (.cells cs t fr) :=
 (hb.block b (by rw [← z1w w c i v];exact lt_of_block h)).trans h
def z7q (ts:List Tk) (cond:List Nd) (k:Int) (a:Nat):Except Int (Ac × Nat) :=
 if k = 5 then z9h ts cond 5 [] a
 else match z3n (decide (1 < k)) ts a with
  | none => .error 11
  | some name=>z9h ts cond k name (a + 1)
theorem y1x (ts:List Tk) (cond:List Nd) (a:Nat):doA ts cond a = if z7w ts a = 0 then .error 11 else z7q ts cond (z7w ts a) (a + 1):=by
 unfold doA z7q
 split
 ·rfl
 ·split
  ·rfl
  ·rfl
abbrev v0b (ao:Option Addr) (cap:Nat) (ts:List Tk) (a:Nat):Obj := .cells #[.slice ao ts.length cap,.int .i64 (a:Int)] 316 (0,0)
def j5j (B tb ab:Nat) (ao:Option Addr) (cap:Nat) (ts:List Tk) (iv:Value) (x:Except Int (Ac × Nat)) (w:World) (e:Ending) (w':World):Prop :=
 match x with
 | .error x=>e = .returned (.int .i64 x) ∧ KeptA B tb ab w w'
 | .ok (c,n)=>∃ xo xc,e = .returned (.int .i64 0) ∧ KeptA B tb ab w w' ∧ w'.heap[tb]? = some (v0b ao cap ts n) ∧
   w'.heap[ab]? = some (.cells #[.int .i64 c.kind,iv,.string ⟨c.name.toArray⟩,.slice xo c.x.length xc,.int .i64 c.n] 235 (0,0)) ∧ w'.ownsRow w.heap.size 239 7 (.slice xo c.x.length xc) c.x.length (z9j c.x)
structure RestAt (w0:World) (tb ab:Nat) (ao:Option Addr) (cap:Nat) (ts:List Tk) (k:Nat) (io:Option Addr) (il ic:Nat) (a:Nat) (w:World):Prop where
 base:Base w0 ao ts
 tkr:TkrAt w0 tb ao cap ts a w
 act:w.heap[ab]? = some (.cells #[.int .i64 (k:Int),.slice io il ic,.string ⟨#[]⟩,.slice none 0 0,.int .i64 0] 235 (0,0))
 own:w0.heap.size ≤ ab
 ne:tb ≠ ab
set_option maxRecDepth 100000 in
set_option maxHeartbeats 2000000 in
theorem y6s {w0:World} {tb ab:Nat} {ao:Option Addr} {cap:Nat} {ts:List Tk} {k:Nat} {io:Option Addr} {il ic a:Nat} (hk:k = 2 ∨ k = 4) (cond:List Nd) (w:World) (h:RestAt w0 tb ab ao cap ts k io il ic a w) :
  Calls Tryz.prog 221 #[.pointer (some ⟨tb,0,none⟩),.pointer (some ⟨ab,0,none⟩)] w (j5j w0.heap.size tb ab ao cap ts (.slice io il ic) (z7q ts cond k a) w):=by
 obtain ⟨b0,b1,b2,b3,b4,hab,_⟩:=five h.act
 have F:=hiT (q6c k omT omT (.slice io il ic) (.string ⟨#[]⟩) (.slice none 0 0) (.int .i64 0) w (z5u h.base.ax h.tkr.env).fg)
 obtain ⟨f0,hf⟩:∃ f0:ByteArray,k0h k = .agg #[.string f0,.bool false,.bool true,.bool false,.bool false]:=by rcases hk with rfl | rfl <;> exact ⟨_,rfl⟩
 rw [hf] at F
 have N:=hiT (fun wx (hT:wx.heap[tb]? = some (v0b ao cap ts a)) (hk:KeptA w0.heap.size tb ab w wx)=>q4v true (.string f0) (.bool false) (.bool false) h.base wx ⟨hT,h.tkr.own,h.tkr.le,h.tkr.env.trans hk.below⟩)
 have hr:z7q ts cond k a = match z3n true ts a with | none => .error 11 | some name => .ok (⟨k,cond,name,[],0⟩,a + 1):=by
  unfold z7q
  rw [if_neg omT,show decide (1 < (k:Int)) = true from decide_eq_true omT]
  cases z3n true ts a with
  | none=>rfl
  | some name =>
   simp only
   unfold z9h
   rw [if_neg omT,if_neg omT]
 rw [hr]
 have hown:=h.own
 have hne:=h.ne
 have htown:=h.tkr.own
 have hT0:=h.tkr.blk
 have hA0:=h.act
 have hsz:w0.heap.size ≤ w.heap.size:=h.tkr.env.size
 have htl:=lt_of_block hT0
 clear hf hr h
 cases hev:z3n true ts a with
 | none =>
  rw [hev] at N
  clear hev
  go_enter Tryz.func221,Tryz.ntmps221
  go_wp2_with fail
  refine (F.out).mono ?_
  intro e wf hr
  obtain ⟨rfl,hbf⟩:=hr
  have hTf:=z0c hT0 hbf
  have hAf:=z0c hA0 hbf
  have hKf:=z0w (B:=w0.heap.size) (tb:=tb) (ab:=ab) hbf hsz
  have hszf:w0.heap.size ≤ wf.heap.size:=Nat.le_trans hsz hbf.size
  have hne2:¬ ab = wf.heap.size:=by have:=hbf.size;omega
  have hne3:¬ tb = wf.heap.size:=by have:=hbf.size;omega
  clear hbf hT0 hA0 b0 b1 b2 b3 b4
  go_wp2_with fail
  refine (N.out _ (z0j hTf) (z0e hKf (z0q hszf))).mono ?_
  intro e w1 hr
  obtain ⟨rfl,hb⟩:=hr
  have hT1:=z0c (z0j hTf) hb
  have hA1:=z0c (z0j hAf) hb
  have hF1:=z0c (heap_alloc_new wf _) hb
  have hK1:=z0e (z0e hKf (z0q hszf)) (z0w (B:=w0.heap.size) (tb:=tb) (ab:=ab) hb (Nat.le_trans hsz (KeptA.size (z0e hKf (z0q hszf)))))
  obtain ⟨d0,d1,d2,d3,d4,hdb,hdf⟩:=five hA1
  obtain ⟨g0,g1,g2,g3,g4,hgb,hgf⟩:=five hF1
  have q2:=hdf 2
  have q3:=hdf 3
  have q4:=hdf 4
  have i1:InW ab w1:=⟨hdb⟩
  have i2:InW wf.heap.size w1:=⟨hgb⟩
  have i3:InW tb w1:=⟨lt_of_block hT1⟩
  clear hb hdf hgf
  clear N
  have hfin:=hiT (z0e hK1 (z2f (B:=w0.heap.size) (tb:=tb) (i:=2) (v:=(.string ⟨#[]⟩)) (.inr rfl) hown))
  clear hT1 hA1 hF1 hK1 hTf hAf hKf
  go_wp2
  go_returns
  exact ⟨rfl,hfin.out⟩
 | some name =>
  rw [hev] at N
  clear hev
  go_enter Tryz.func221,Tryz.ntmps221
  go_wp2_with fail
  refine (F.out).mono ?_
  intro e wf hr
  obtain ⟨rfl,hbf⟩:=hr
  have hTf:=z0c hT0 hbf
  have hAf:=z0c hA0 hbf
  have hKf:=z0w (B:=w0.heap.size) (tb:=tb) (ab:=ab) hbf hsz
  have hszf:w0.heap.size ≤ wf.heap.size:=Nat.le_trans hsz hbf.size
  have hne2:¬ ab = wf.heap.size:=by have:=hbf.size;omega
  have hne3:¬ tb = wf.heap.size:=by have:=hbf.size;omega
  clear hbf hT0 hA0 b0 b1 b2 b3 b4
  go_wp2_with fail
  refine (N.out _ (z0j hTf) (z0e hKf (z0q hszf))).mono ?_
  intro e w1 hr
  obtain ⟨rfl,hb⟩:=hr
  have hT1:=z0x (z0l (z0j hTf)) hb
  have hA1:=z0x (z0i (z0j hAf) hne.symm) hb
  have hF1:=z0x (z0i (heap_alloc_new wf _) (Ne.symm hne3)) hb
  have hK1:=z0e (z0e hKf (z0q hszf)) (z2l (B:=w0.heap.size) (ab:=ab) htown (Nat.le_trans hsz (KeptA.size (z0e hKf (z0q hszf)))) hb)
  obtain ⟨d0,d1,d2,d3,d4,hdb,hdf⟩:=five hA1
  obtain ⟨g0,g1,g2,g3,g4,hgb,hgf⟩:=five hF1
  have q2:=hdf 2
  have q3:=hdf 3
  have q4:=hdf 4
  have i1:InW ab w1:=⟨hdb⟩
  have i2:InW wf.heap.size w1:=⟨hgb⟩
  have i3:InW tb w1:=⟨lt_of_block hT1⟩
  clear hb hdf hgf
  clear N
  have hfinK:=hiT (z0e hK1 (z2f (B:=w0.heap.size) (tb:=tb) (i:=2) (v:=(.string ⟨name.toArray⟩)) (.inr rfl) hown))
  have hfinT:=hiT (z0i (i:=2) (v:=(.string ⟨name.toArray⟩)) hT1 hne)
  have hfinA:=hiT (z0l (i:=2) (u:=(.string ⟨name.toArray⟩)) hA1)
  skip
  clear hT1 hA1 hF1 hK1 hTf hAf hKf
  go_wp2
  go_returns
  exact ⟨none,0,rfl,hfinK.out,hfinT.out,hfinA.out,World.ownsRow_nil _ _ _ _⟩
set_option maxRecDepth 100000 in
set_option maxHeartbeats 2000000 in
theorem k8z {w0:World} {tb ab:Nat} {ao:Option Addr} {cap:Nat} {ts:List Tk} {k:Nat} {io:Option Addr} {il ic a:Nat} (hk:k = 1) (cond:List Nd) (w:World) (h:RestAt w0 tb ab ao cap ts k io il ic a w) :
  Calls Tryz.prog 221 #[.pointer (some ⟨tb,0,none⟩),.pointer (some ⟨ab,0,none⟩)] w (j5j w0.heap.size tb ab ao cap ts (.slice io il ic) (z7q ts cond k a) w):=by
 subst hk
 obtain ⟨b0,b1,b2,b3,b4,hab,_⟩:=five h.act
 have F:=hiT (q6c 1 omT omT (.slice io il ic) (.string ⟨#[]⟩) (.slice none 0 0) (.int .i64 0) w (z5u h.base.ax h.tkr.env).fg)
 obtain ⟨f0,hf⟩:∃ f0:ByteArray,k0h 1 = .agg #[.string f0,.bool true,.bool false,.bool true,.bool false]:=⟨_,rfl⟩
 rw [hf] at F
 have N:=hiT (fun wx (hT:wx.heap[tb]? = some (v0b ao cap ts a)) (hk:KeptA w0.heap.size tb ab w wx)=>q4v false (.string f0) (.bool true) (.bool false) h.base wx ⟨hT,h.tkr.own,h.tkr.le,h.tkr.env.trans hk.below⟩)
 have hr:z7q ts cond (1:Nat) a = match z3n false ts a with | none => .error 11 | some name=>(match z3f ts ((a + 1:Nat):Int) with | .error x => .error x | .ok (ns,n) => .ok (⟨1,cond,name,ns,0⟩,n)):=by
  unfold z7q
  rw [if_neg deT,show decide (1 < ((1:Nat):Int)) = false from rfl]
  cases z3n false ts a with
  | none=>rfl
  | some name =>
   simp only
   unfold z9h
   rw [if_pos (.inl rfl)]
   rfl
 rw [hr]
 have hown:=h.own
 have hne:=h.ne
 have htown:=h.tkr.own
 have hT0:=h.tkr.blk
 have hA0:=h.act
 have hsz:w0.heap.size ≤ w.heap.size:=h.tkr.env.size
 have htl:=lt_of_block hT0
 cases hev:z3n false ts a with
 | none =>
  rw [hev] at N
  clear hev hf hr h
  go_enter Tryz.func221,Tryz.ntmps221
  go_wp2_with fail
  refine (F.out).mono ?_
  intro e wf hr
  obtain ⟨rfl,hbf⟩:=hr
  have hTf:=z0c hT0 hbf
  have hAf:=z0c hA0 hbf
  have hKf:=z0w (B:=w0.heap.size) (tb:=tb) (ab:=ab) hbf hsz
  have hszf:w0.heap.size ≤ wf.heap.size:=Nat.le_trans hsz hbf.size
  have hne2:¬ ab = wf.heap.size:=by have:=hbf.size;omega
  have hne3:¬ tb = wf.heap.size:=by have:=hbf.size;omega
  clear hbf hT0 hA0 b0 b1 b2 b3 b4
  go_wp2_with fail
  refine (N.out _ (z0j hTf) (z0e hKf (z0q hszf))).mono ?_
  intro e w1 hr
  obtain ⟨rfl,hb⟩:=hr
  have hT1:=z0c (z0j hTf) hb
  have hA1:=z0c (z0j hAf) hb
  have hF1:=z0c (heap_alloc_new wf _) hb
  have hK1:=z0e (z0e hKf (z0q hszf)) (z0w (B:=w0.heap.size) (tb:=tb) (ab:=ab) hb (Nat.le_trans hsz (KeptA.size (z0e hKf (z0q hszf)))))
  obtain ⟨d0,d1,d2,d3,d4,hdb,hdf⟩:=five hA1
  obtain ⟨g0,g1,g2,g3,g4,hgb,hgf⟩:=five hF1
  have q2:=hdf 2
  have q3:=hdf 3
  have q4:=hdf 4
  have i1:InW ab w1:=⟨hdb⟩
  have i2:InW wf.heap.size w1:=⟨hgb⟩
  have i3:InW tb w1:=⟨lt_of_block hT1⟩
  clear hb hdf hgf
  clear N
  have hfin:=hiT (z0e hK1 (z2f (B:=w0.heap.size) (tb:=tb) (i:=2) (v:=(.string ⟨#[]⟩)) (.inr rfl) hown))
  clear hT1 hA1 hF1 hK1 hTf hAf hKf
  go_wp2
  go_returns
  exact ⟨rfl,hfin.out⟩
 | some name =>
  have hlt:=q4h hev
  rw [hev] at N
  have X:=hiT (fun wx (hT:wx.heap[tb]? = some (v0b ao cap ts (a + 1))) (hk:KeptA w0.heap.size tb ab w wx)=>q9m h.base wx ⟨hT,h.tkr.own,hlt,h.tkr.env.trans hk.below⟩)
  clear hev hf hr h
  cases hp:z3f ts ((a + 1:Nat):Int) with
  | error x =>
   rw [hp] at X
   have hx:=z6v hp
   have hx2:(x == 0) = false:=by
    rw [bne,Bool.not_eq_true'] at hx
    exact hx
   clear hp
   go_enter Tryz.func221,Tryz.ntmps221
   go_wp2_with fail
   refine (F.out).mono ?_
   intro e wf hr
   obtain ⟨rfl,hbf⟩:=hr
   have hTf:=z0c hT0 hbf
   have hAf:=z0c hA0 hbf
   have hKf:=z0w (B:=w0.heap.size) (tb:=tb) (ab:=ab) hbf hsz
   have hszf:w0.heap.size ≤ wf.heap.size:=Nat.le_trans hsz hbf.size
   have hne2:¬ ab = wf.heap.size:=by have:=hbf.size;omega
   have hne3:¬ tb = wf.heap.size:=by have:=hbf.size;omega
   clear hbf hT0 hA0 b0 b1 b2 b3 b4
   go_wp2_with fail
   refine (N.out _ (z0j hTf) (z0e hKf (z0q hszf))).mono ?_
   intro e w1 hr
   obtain ⟨rfl,hb⟩:=hr
   have hT1:=z0x (z0l (z0j hTf)) hb
   have hA1:=z0x (z0i (z0j hAf) hne.symm) hb
   have hF1:=z0x (z0i (heap_alloc_new wf _) (Ne.symm hne3)) hb
   have hK1:=z0e (z0e hKf (z0q hszf)) (z2l (B:=w0.heap.size) (ab:=ab) htown (Nat.le_trans hsz (KeptA.size (z0e hKf (z0q hszf)))) hb)
   obtain ⟨d0,d1,d2,d3,d4,hdb,hdf⟩:=five hA1
   obtain ⟨g0,g1,g2,g3,g4,hgb,hgf⟩:=five hF1
   have q2:=hdf 2
   have q3:=hdf 3
   have q4:=hdf 4
   have i1:InW ab w1:=⟨hdb⟩
   have i2:InW wf.heap.size w1:=⟨hgb⟩
   have i3:InW tb w1:=⟨lt_of_block hT1⟩
   clear hb hdf hgf
   have hT2:=z0i (i:=2) (v:=(.string ⟨name.toArray⟩)) hT1 hne
   have hA2:=z0l (i:=2) (u:=(.string ⟨name.toArray⟩)) hA1
   have hF2:=z0i (i:=2) (v:=(.string ⟨name.toArray⟩)) hF1 (Ne.symm hne2)
   have hK2:=z0e hK1 (z2f (B:=w0.heap.size) (tb:=tb) (i:=2) (v:=(.string ⟨name.toArray⟩)) (.inr rfl) hown)
   clear N hT1 hA1 hF1 hK1
   go_wp2_with fail
   clear d0 d1 d2 d3 d4 g0 g1 g2 g3 g4 i1 i2 i3 q2 q3 q4 hdb hgb
   refine (X.out _ (hT2) (hK2)).mono ?_
   intro e w3 hr
   obtain ⟨rfl,hb⟩:=hr
   have hT3:=z0c (hT2) hb
   have hA3:=z0c (hA2) hb
   have hF3:=z0c (hF2) hb
   have hK3:=z0e (hK2) (z0w (B:=w0.heap.size) (tb:=tb) (ab:=ab) hb (Nat.le_trans hsz (KeptA.size (hK2))))
   obtain ⟨d0,d1,d2,d3,d4,hdb,hdf⟩:=five hA3
   obtain ⟨g0,g1,g2,g3,g4,hgb,hgf⟩:=five hF3
   have q2:=hdf 2
   have q3:=hdf 3
   have q4:=hdf 4
   have i1:InW ab w3:=⟨hdb⟩
   have i2:InW wf.heap.size w3:=⟨hgb⟩
   have i3:InW tb w3:=⟨lt_of_block hT3⟩
   clear hb hdf hgf
   clear X hT2 hA2 hF2 hK2
   have hfin:=hiT (z0e hK3 (z2f (B:=w0.heap.size) (tb:=tb) (i:=3) (v:=(.slice none 0 0)) (.inr rfl) hown))
   clear hT3 hA3 hF3 hK3 hTf hAf hKf
   go_wp2
   go_returns
   exact ⟨rfl,hfin.out⟩
  | ok p =>
   obtain ⟨ns,n⟩:=p
   rw [hp] at X
   clear hp
   go_enter Tryz.func221,Tryz.ntmps221
   go_wp2_with fail
   refine (F.out).mono ?_
   intro e wf hr
   obtain ⟨rfl,hbf⟩:=hr
   have hTf:=z0c hT0 hbf
   have hAf:=z0c hA0 hbf
   have hKf:=z0w (B:=w0.heap.size) (tb:=tb) (ab:=ab) hbf hsz
   have hszf:w0.heap.size ≤ wf.heap.size:=Nat.le_trans hsz hbf.size
   have hne2:¬ ab = wf.heap.size:=by have:=hbf.size;omega
   have hne3:¬ tb = wf.heap.size:=by have:=hbf.size;omega
   clear hbf hT0 hA0 b0 b1 b2 b3 b4
   go_wp2_with fail
   refine (N.out _ (z0j hTf) (z0e hKf (z0q hszf))).mono ?_
   intro e w1 hr
   obtain ⟨rfl,hb⟩:=hr
   have hT1:=z0x (z0l (z0j hTf)) hb
   have hA1:=z0x (z0i (z0j hAf) hne.symm) hb
   have hF1:=z0x (z0i (heap_alloc_new wf _) (Ne.symm hne3)) hb
   have hK1:=z0e (z0e hKf (z0q hszf)) (z2l (B:=w0.heap.size) (ab:=ab) htown (Nat.le_trans hsz (KeptA.size (z0e hKf (z0q hszf)))) hb)
   obtain ⟨d0,d1,d2,d3,d4,hdb,hdf⟩:=five hA1
   obtain ⟨g0,g1,g2,g3,g4,hgb,hgf⟩:=five hF1
   have q2:=hdf 2
   have q3:=hdf 3
   have q4:=hdf 4
   have i1:InW ab w1:=⟨hdb⟩
   have i2:InW wf.heap.size w1:=⟨hgb⟩
   have i3:InW tb w1:=⟨lt_of_block hT1⟩
   clear hb hdf hgf
   have hT2:=z0i (i:=2) (v:=(.string ⟨name.toArray⟩)) hT1 hne
   have hA2:=z0l (i:=2) (u:=(.string ⟨name.toArray⟩)) hA1
   have hF2:=z0i (i:=2) (v:=(.string ⟨name.toArray⟩)) hF1 (Ne.symm hne2)
   have hK2:=z0e hK1 (z2f (B:=w0.heap.size) (tb:=tb) (i:=2) (v:=(.string ⟨name.toArray⟩)) (.inr rfl) hown)
   clear N hT1 hA1 hF1 hK1
   go_wp2_with fail
   clear d0 d1 d2 d3 d4 g0 g1 g2 g3 g4 i1 i2 i3 q2 q3 q4 hdb hgb
   refine (X.out _ (hT2) (hK2)).mono ?_
   intro e w3 hr
   obtain ⟨v,rfl,hown3,hb⟩:=hr
   obtain ⟨xo,xc,hv⟩:=z0g hown3
   subst hv
   have hT3:=z0x (z0l (hT2)) hb
   have hA3:=z0x (z0i (hA2) hne.symm) hb
   have hF3:=z0x (z0i (hF2) (Ne.symm hne3)) hb
   have hK3:=z0e (hK2) (z2l (B:=w0.heap.size) (ab:=ab) htown (Nat.le_trans hsz (KeptA.size (hK2))) hb)
   obtain ⟨d0,d1,d2,d3,d4,hdb,hdf⟩:=five hA3
   obtain ⟨g0,g1,g2,g3,g4,hgb,hgf⟩:=five hF3
   have q2:=hdf 2
   have q3:=hdf 3
   have q4:=hdf 4
   have i1:InW ab w3:=⟨hdb⟩
   have i2:InW wf.heap.size w3:=⟨hgb⟩
   have i3:InW tb w3:=⟨lt_of_block hT3⟩
   clear hb hdf hgf
   clear X hT2 hA2 hF2
   have hfinK:=hiT (z0e hK3 (z2f (B:=w0.heap.size) (tb:=tb) (i:=3) (v:=(.slice xo ns.length xc)) (.inr rfl) hown))
   have hfinT:=hiT (z0i (i:=3) (v:=(.slice xo ns.length xc)) hT3 hne)
   have hfinA:=hiT (z0l (i:=3) (u:=(.slice xo ns.length xc)) hA3)
   have hfinX:=hiT (z0m (B':=w.heap.size) (ownsRow_setCell_other (a:=⟨ab,3,none⟩) hown3 (z0n hown3 hA3 deT) (.slice xo ns.length xc)) (KeptA.size (hK2)))
   clear hown3
   clear hT3 hA3 hF3 hK3 hTf hAf hKf
   go_wp2
   go_returns
   exact ⟨_,_,rfl,hfinK.out,hfinT.out,hfinA.out,hfinX.out⟩
set_option maxRecDepth 100000 in
set_option maxHeartbeats 2000000 in
theorem k8y {w0:World} {tb ab:Nat} {ao:Option Addr} {cap:Nat} {ts:List Tk} {k:Nat} {io:Option Addr} {il ic a:Nat} (hk:k = 5) (cond:List Nd) (w:World) (h:RestAt w0 tb ab ao cap ts k io il ic a w) :
  Calls Tryz.prog 221 #[.pointer (some ⟨tb,0,none⟩),.pointer (some ⟨ab,0,none⟩)] w (j5j w0.heap.size tb ab ao cap ts (.slice io il ic) (z7q ts cond k a) w):=by
 subst hk
 obtain ⟨b0,b1,b2,b3,b4,hab,_⟩:=five h.act
 have F:=hiT (q6c 5 omT omT (.slice io il ic) (.string ⟨#[]⟩) (.slice none 0 0) (.int .i64 0) w (z5u h.base.ax h.tkr.env).fg)
 obtain ⟨f0,hf⟩:∃ f0:ByteArray,k0h 5 = .agg #[.string f0,.bool false,.bool false,.bool true,.bool false]:=⟨_,rfl⟩
 rw [hf] at F
 have X:=hiT (fun wx (hT:wx.heap[tb]? = some (v0b ao cap ts a)) (hk:KeptA w0.heap.size tb ab w wx)=>q9m h.base wx ⟨hT,h.tkr.own,h.tkr.le,h.tkr.env.trans hk.below⟩)
 have hr:z7q ts cond (5:Nat) a = match z3f ts (a:Int) with | .error x => .error x | .ok (ns,n) => .ok (⟨5,cond,[],ns,0⟩,n):=by
  unfold z7q
  rw [if_pos (by rfl)]
  unfold z9h
  rw [if_pos (.inr rfl)]
  cases z3f ts (a:Int) <;> rfl
 rw [hr]
 have hown:=h.own
 have hne:=h.ne
 have htown:=h.tkr.own
 have hT0:=h.tkr.blk
 have hA0:=h.act
 have hsz:w0.heap.size ≤ w.heap.size:=h.tkr.env.size
 have htl:=lt_of_block hT0
 clear hf hr h
 cases hp:z3f ts (a:Int) with
 | error x =>
  rw [hp] at X
  have hx:=z6v hp
  have hx2:(x == 0) = false:=by
   rw [bne,Bool.not_eq_true'] at hx
   exact hx
  clear hp
  go_enter Tryz.func221,Tryz.ntmps221
  go_wp2_with fail
  refine (F.out).mono ?_
  intro e wf hr
  obtain ⟨rfl,hbf⟩:=hr
  have hTf:=z0c hT0 hbf
  have hAf:=z0c hA0 hbf
  have hKf:=z0w (B:=w0.heap.size) (tb:=tb) (ab:=ab) hbf hsz
  have hszf:w0.heap.size ≤ wf.heap.size:=Nat.le_trans hsz hbf.size
  have hne2:¬ ab = wf.heap.size:=by have:=hbf.size;omega
  have hne3:¬ tb = wf.heap.size:=by have:=hbf.size;omega
  clear hbf hT0 hA0 b0 b1 b2 b3 b4
  go_wp2_with fail
  refine (X.out _ (z0j hTf) (z0e hKf (z0q hszf))).mono ?_
  intro e w1 hr
  obtain ⟨rfl,hb⟩:=hr
  have hT1:=z0c (z0j hTf) hb
  have hA1:=z0c (z0j hAf) hb
  have hF1:=z0c (heap_alloc_new wf _) hb
  have hK1:=z0e (z0e hKf (z0q hszf)) (z0w (B:=w0.heap.size) (tb:=tb) (ab:=ab) hb (Nat.le_trans hsz (KeptA.size (z0e hKf (z0q hszf)))))
  obtain ⟨d0,d1,d2,d3,d4,hdb,hdf⟩:=five hA1
  obtain ⟨g0,g1,g2,g3,g4,hgb,hgf⟩:=five hF1
  have q2:=hdf 2
  have q3:=hdf 3
  have q4:=hdf 4
  have i1:InW ab w1:=⟨hdb⟩
  have i2:InW wf.heap.size w1:=⟨hgb⟩
  have i3:InW tb w1:=⟨lt_of_block hT1⟩
  clear hb hdf hgf
  clear X
  have hfin:=hiT (z0e hK1 (z2f (B:=w0.heap.size) (tb:=tb) (i:=3) (v:=(.slice none 0 0)) (.inr rfl) hown))
  clear hT1 hA1 hF1 hK1 hTf hAf hKf
  go_wp2
  go_returns
  exact ⟨rfl,hfin.out⟩
 | ok p =>
  obtain ⟨ns,n⟩:=p
  rw [hp] at X
  clear hp
  go_enter Tryz.func221,Tryz.ntmps221
  go_wp2_with fail
  refine (F.out).mono ?_
  intro e wf hr
  obtain ⟨rfl,hbf⟩:=hr
  have hTf:=z0c hT0 hbf
  have hAf:=z0c hA0 hbf
  have hKf:=z0w (B:=w0.heap.size) (tb:=tb) (ab:=ab) hbf hsz
  have hszf:w0.heap.size ≤ wf.heap.size:=Nat.le_trans hsz hbf.size
  have hne2:¬ ab = wf.heap.size:=by have:=hbf.size;omega
  have hne3:¬ tb = wf.heap.size:=by have:=hbf.size;omega
  have hwf:=hbf.size
  clear hbf hT0 hA0 b0 b1 b2 b3 b4
  go_wp2_with fail
  refine (X.out _ (z0j hTf) (z0e hKf (z0q hszf))).mono ?_
  intro e w1 hr
  obtain ⟨v,rfl,hown1,hb⟩:=hr
  obtain ⟨xo,xc,hv⟩:=z0g hown1
  subst hv
  have hT1:=z0x (z0l (z0j hTf)) hb
  have hA1:=z0x (z0i (z0j hAf) hne.symm) hb
  have hF1:=z0x (z0i (heap_alloc_new wf _) (Ne.symm hne3)) hb
  have hK1:=z0e (z0e hKf (z0q hszf)) (z2l (B:=w0.heap.size) (ab:=ab) htown (Nat.le_trans hsz (KeptA.size (z0e hKf (z0q hszf)))) hb)
  obtain ⟨d0,d1,d2,d3,d4,hdb,hdf⟩:=five hA1
  obtain ⟨g0,g1,g2,g3,g4,hgb,hgf⟩:=five hF1
  have q2:=hdf 2
  have q3:=hdf 3
  have q4:=hdf 4
  have i1:InW ab w1:=⟨hdb⟩
  have i2:InW wf.heap.size w1:=⟨hgb⟩
  have i3:InW tb w1:=⟨lt_of_block hT1⟩
  clear hb hdf hgf
  clear X
  have hfinK:=hiT (z0e hK1 (z2f (B:=w0.heap.size) (tb:=tb) (i:=3) (v:=(.slice xo ns.length xc)) (.inr rfl) hown))
  have hfinT:=hiT (z0i (i:=3) (v:=(.slice xo ns.length xc)) hT1 hne)
  have hfinA:=hiT (z0l (i:=3) (u:=(.slice xo ns.length xc)) hA1)
  have hfinX:=hiT (z0m (B':=w.heap.size) (ownsRow_setCell_other (a:=⟨ab,3,none⟩) hown1 (z0n hown1 hA1 deT) (.slice xo ns.length xc)) (by simp;omega))
  clear hown1
  clear hT1 hA1 hF1 hK1 hTf hAf hKf
  go_wp2
  go_returns
  exact ⟨_,_,rfl,hfinK.out,hfinT.out,hfinA.out,hfinX.out⟩
set_option maxRecDepth 100000 in
set_option maxHeartbeats 2000000 in
theorem k2x {w0:World} {tb ab:Nat} {ao:Option Addr} {cap:Nat} {ts:List Tk} {k:Nat} {io:Option Addr} {il ic a:Nat} (hk:k = 3) (cond:List Nd) (w:World) (h:RestAt w0 tb ab ao cap ts k io il ic a w) :
  Calls Tryz.prog 221 #[.pointer (some ⟨tb,0,none⟩),.pointer (some ⟨ab,0,none⟩)] w (j5j w0.heap.size tb ab ao cap ts (.slice io il ic) (z7q ts cond k a) w):=by
 subst hk
 obtain ⟨b0,b1,b2,b3,b4,hab,_⟩:=five h.act
 have F:=hiT (q6c 3 omT omT (.slice io il ic) (.string ⟨#[]⟩) (.slice none 0 0) (.int .i64 0) w (z5u h.base.ax h.tkr.env).fg)
 obtain ⟨f0,hf⟩:∃ f0:ByteArray,k0h 3 = .agg #[.string f0,.bool false,.bool true,.bool false,.bool true]:=⟨_,rfl⟩
 rw [hf] at F
 have N:=hiT (fun wx (hT:wx.heap[tb]? = some (v0b ao cap ts a)) (hk:KeptA w0.heap.size tb ab w wx)=>q4v true (.string f0) (.bool false) (.bool true) h.base wx ⟨hT,h.tkr.own,h.tkr.le,h.tkr.env.trans hk.below⟩)
 have hr:z7q ts cond (3:Nat) a = match z3n true ts a with | none => .error 11 | some name=>(match j0b ts (a + 1) with | none => .error 11 | some n=>if 1048576 < n then .error 10 else .ok (⟨3,cond,name,[],n⟩,a + 1 + 1)):=by
  unfold z7q
  rw [if_neg deT,show decide (1 < ((3:Nat):Int)) = true from rfl]
  cases z3n true ts a with
  | none=>rfl
  | some name =>
   simp only
   unfold z9h
   rw [if_neg deT,if_pos (by rfl)]
   rfl
 rw [hr]
 have hown:=h.own
 have hne:=h.ne
 have htown:=h.tkr.own
 have hT0:=h.tkr.blk
 have hA0:=h.act
 have hsz:w0.heap.size ≤ w.heap.size:=h.tkr.env.size
 have htl:=lt_of_block hT0
 cases hev:z3n true ts a with
 | none =>
  rw [hev] at N
  clear hev hf hr h
  go_enter Tryz.func221,Tryz.ntmps221
  go_wp2_with fail
  refine (F.out).mono ?_
  intro e wf hr
  obtain ⟨rfl,hbf⟩:=hr
  have hTf:=z0c hT0 hbf
  have hAf:=z0c hA0 hbf
  have hKf:=z0w (B:=w0.heap.size) (tb:=tb) (ab:=ab) hbf hsz
  have hszf:w0.heap.size ≤ wf.heap.size:=Nat.le_trans hsz hbf.size
  have hne2:¬ ab = wf.heap.size:=by have:=hbf.size;omega
  have hne3:¬ tb = wf.heap.size:=by have:=hbf.size;omega
  clear hbf hT0 hA0 b0 b1 b2 b3 b4
  go_wp2_with fail
  refine (N.out _ (z0j hTf) (z0e hKf (z0q hszf))).mono ?_
  intro e w1 hr
  obtain ⟨rfl,hb⟩:=hr
  have hT1:=z0c (z0j hTf) hb
  have hA1:=z0c (z0j hAf) hb
  have hF1:=z0c (heap_alloc_new wf _) hb
  have hK1:=z0e (z0e hKf (z0q hszf)) (z0w (B:=w0.heap.size) (tb:=tb) (ab:=ab) hb (Nat.le_trans hsz (KeptA.size (z0e hKf (z0q hszf)))))
  obtain ⟨d0,d1,d2,d3,d4,hdb,hdf⟩:=five hA1
  obtain ⟨g0,g1,g2,g3,g4,hgb,hgf⟩:=five hF1
  have q2:=hdf 2
  have q3:=hdf 3
  have q4:=hdf 4
  have i1:InW ab w1:=⟨hdb⟩
  have i2:InW wf.heap.size w1:=⟨hgb⟩
  have i3:InW tb w1:=⟨lt_of_block hT1⟩
  clear hb hdf hgf
  clear N
  have hfin:=hiT (z0e hK1 (z2f (B:=w0.heap.size) (tb:=tb) (i:=2) (v:=(.string ⟨#[]⟩)) (.inr rfl) hown))
  clear hT1 hA1 hF1 hK1 hTf hAf hKf
  go_wp2
  go_returns
  exact ⟨rfl,hfin.out⟩
 | some name =>
  have hlt:=q4h hev
  rw [hev] at N
  have U:=hiT (fun wx (hT:wx.heap[tb]? = some (v0b ao cap ts (a + 1))) (hk:KeptA w0.heap.size tb ab w wx)=>v0d h.base wx ⟨hT,h.tkr.own,hlt,h.tkr.env.trans hk.below⟩)
  clear hev hf hr h
  cases hp:j0b ts (a + 1) with
  | none =>
   rw [hp] at U
   clear hp
   go_enter Tryz.func221,Tryz.ntmps221
   go_wp2_with fail
   refine (F.out).mono ?_
   intro e wf hr
   obtain ⟨rfl,hbf⟩:=hr
   have hTf:=z0c hT0 hbf
   have hAf:=z0c hA0 hbf
   have hKf:=z0w (B:=w0.heap.size) (tb:=tb) (ab:=ab) hbf hsz
   have hszf:w0.heap.size ≤ wf.heap.size:=Nat.le_trans hsz hbf.size
   have hne2:¬ ab = wf.heap.size:=by have:=hbf.size;omega
   have hne3:¬ tb = wf.heap.size:=by have:=hbf.size;omega
   clear hbf hT0 hA0 b0 b1 b2 b3 b4
   go_wp2_with fail
   refine (N.out _ (z0j hTf) (z0e hKf (z0q hszf))).mono ?_
   intro e w1 hr
   obtain ⟨rfl,hb⟩:=hr
   have hT1:=z0x (z0l (z0j hTf)) hb
   have hA1:=z0x (z0i (z0j hAf) hne.symm) hb
   have hF1:=z0x (z0i (heap_alloc_new wf _) (Ne.symm hne3)) hb
   have hK1:=z0e (z0e hKf (z0q hszf)) (z2l (B:=w0.heap.size) (ab:=ab) htown (Nat.le_trans hsz (KeptA.size (z0e hKf (z0q hszf)))) hb)
   obtain ⟨d0,d1,d2,d3,d4,hdb,hdf⟩:=five hA1
   obtain ⟨g0,g1,g2,g3,g4,hgb,hgf⟩:=five hF1
   have q2:=hdf 2
   have q3:=hdf 3
   have q4:=hdf 4
   have i1:InW ab w1:=⟨hdb⟩
   have i2:InW wf.heap.size w1:=⟨hgb⟩
   have i3:InW tb w1:=⟨lt_of_block hT1⟩
   clear hb hdf hgf
   have hT2:=z0i (i:=2) (v:=(.string ⟨name.toArray⟩)) hT1 hne
   have hA2:=z0l (i:=2) (u:=(.string ⟨name.toArray⟩)) hA1
   have hF2:=z0i (i:=2) (v:=(.string ⟨name.toArray⟩)) hF1 (Ne.symm hne2)
   have hK2:=z0e hK1 (z2f (B:=w0.heap.size) (tb:=tb) (i:=2) (v:=(.string ⟨name.toArray⟩)) (.inr rfl) hown)
   clear N hT1 hA1 hF1 hK1
   go_wp2_with fail
   clear d0 d1 d2 d3 d4 g0 g1 g2 g3 g4 i1 i2 i3 q2 q3 q4 hdb hgb
   refine (U.out _ (hT2) (hK2)).mono ?_
   intro e w3 hr
   obtain ⟨rfl,hb⟩:=hr
   have hT3:=z0c (hT2) hb
   have hA3:=z0c (hA2) hb
   have hF3:=z0c (hF2) hb
   have hK3:=z0e (hK2) (z0w (B:=w0.heap.size) (tb:=tb) (ab:=ab) hb (Nat.le_trans hsz (KeptA.size (hK2))))
   obtain ⟨d0,d1,d2,d3,d4,hdb,hdf⟩:=five hA3
   obtain ⟨g0,g1,g2,g3,g4,hgb,hgf⟩:=five hF3
   have q2:=hdf 2
   have q3:=hdf 3
   have q4:=hdf 4
   have i1:InW ab w3:=⟨hdb⟩
   have i2:InW wf.heap.size w3:=⟨hgb⟩
   have i3:InW tb w3:=⟨lt_of_block hT3⟩
   clear hb hdf hgf
   clear U hT2 hA2 hF2 hK2
   have hfin:=hiT (z0e hK3 (z2f (B:=w0.heap.size) (tb:=tb) (i:=4) (v:=(.int .i64 0)) (.inr rfl) hown))
   clear hT3 hA3 hF3 hK3 hTf hAf hKf
   go_wp2
   go_returns
   exact ⟨rfl,hfin.out⟩
  | some n =>
   rw [hp] at U
   clear hp
   by_cases hn:1048576 < n
   ·have U2:=hiT (fun wx hT hk=>(U.out wx hT hk).mono fun e w' hr=>(show e = .returned (.tuple #[.int .i64 0,.int .i64 10]) ∧ Below wx.heap.size wx w' from by
     unfold y8s at hr
     simp only at hr
     rw [if_pos hn] at hr
     exact hr))
    simp only
    rw [if_pos hn]
    clear U
    go_enter Tryz.func221,Tryz.ntmps221
    go_wp2_with fail
    refine (F.out).mono ?_
    intro e wf hr
    obtain ⟨rfl,hbf⟩:=hr
    have hTf:=z0c hT0 hbf
    have hAf:=z0c hA0 hbf
    have hKf:=z0w (B:=w0.heap.size) (tb:=tb) (ab:=ab) hbf hsz
    have hszf:w0.heap.size ≤ wf.heap.size:=Nat.le_trans hsz hbf.size
    have hne2:¬ ab = wf.heap.size:=by have:=hbf.size;omega
    have hne3:¬ tb = wf.heap.size:=by have:=hbf.size;omega
    clear hbf hT0 hA0 b0 b1 b2 b3 b4
    go_wp2_with fail
    refine (N.out _ (z0j hTf) (z0e hKf (z0q hszf))).mono ?_
    intro e w1 hr
    obtain ⟨rfl,hb⟩:=hr
    have hT1:=z0x (z0l (z0j hTf)) hb
    have hA1:=z0x (z0i (z0j hAf) hne.symm) hb
    have hF1:=z0x (z0i (heap_alloc_new wf _) (Ne.symm hne3)) hb
    have hK1:=z0e (z0e hKf (z0q hszf)) (z2l (B:=w0.heap.size) (ab:=ab) htown (Nat.le_trans hsz (KeptA.size (z0e hKf (z0q hszf)))) hb)
    obtain ⟨d0,d1,d2,d3,d4,hdb,hdf⟩:=five hA1
    obtain ⟨g0,g1,g2,g3,g4,hgb,hgf⟩:=five hF1
    have q2:=hdf 2
    have q3:=hdf 3
    have q4:=hdf 4
    have i1:InW ab w1:=⟨hdb⟩
    have i2:InW wf.heap.size w1:=⟨hgb⟩
    have i3:InW tb w1:=⟨lt_of_block hT1⟩
    clear hb hdf hgf
    have hT2:=z0i (i:=2) (v:=(.string ⟨name.toArray⟩)) hT1 hne
    have hA2:=z0l (i:=2) (u:=(.string ⟨name.toArray⟩)) hA1
    have hF2:=z0i (i:=2) (v:=(.string ⟨name.toArray⟩)) hF1 (Ne.symm hne2)
    have hK2:=z0e hK1 (z2f (B:=w0.heap.size) (tb:=tb) (i:=2) (v:=(.string ⟨name.toArray⟩)) (.inr rfl) hown)
    clear N hT1 hA1 hF1 hK1
    go_wp2_with fail
    clear d0 d1 d2 d3 d4 g0 g1 g2 g3 g4 i1 i2 i3 q2 q3 q4 hdb hgb
    refine (U2.out _ (hT2) (hK2)).mono ?_
    intro e w3 hr
    obtain ⟨rfl,hb⟩:=hr
    have hT3:=z0c (hT2) hb
    have hA3:=z0c (hA2) hb
    have hF3:=z0c (hF2) hb
    have hK3:=z0e (hK2) (z0w (B:=w0.heap.size) (tb:=tb) (ab:=ab) hb (Nat.le_trans hsz (KeptA.size (hK2))))
    obtain ⟨d0,d1,d2,d3,d4,hdb,hdf⟩:=five hA3
    obtain ⟨g0,g1,g2,g3,g4,hgb,hgf⟩:=five hF3
    have q2:=hdf 2
    have q3:=hdf 3
    have q4:=hdf 4
    have i1:InW ab w3:=⟨hdb⟩
    have i2:InW wf.heap.size w3:=⟨hgb⟩
    have i3:InW tb w3:=⟨lt_of_block hT3⟩
    clear hb hdf hgf
    clear U2 hT2 hA2 hF2 hK2
    have hfin:=hiT (z0e hK3 (z2f (B:=w0.heap.size) (tb:=tb) (i:=4) (v:=(.int .i64 0)) (.inr rfl) hown))
    clear hT3 hA3 hF3 hK3 hTf hAf hKf
    go_wp2
    go_returns
    exact ⟨rfl,hfin.out⟩
   ·have U2:=hiT (fun wx hT hk=>(U.out wx hT hk).mono fun e w' hr=>(show e = .returned (.tuple #[.int .i64 n,.int .i64 0]) ∧ Below wx.heap.size (wx.setCell ⟨tb,1,none⟩ (.int .i64 ((a + 1 + 1:Nat):Int))) w' from by
     unfold y8s at hr
     simp only at hr
     rw [if_neg hn] at hr
     exact hr))
    simp only
    rw [if_neg hn]
    clear U
    go_enter Tryz.func221,Tryz.ntmps221
    go_wp2_with fail
    refine (F.out).mono ?_
    intro e wf hr
    obtain ⟨rfl,hbf⟩:=hr
    have hTf:=z0c hT0 hbf
    have hAf:=z0c hA0 hbf
    have hKf:=z0w (B:=w0.heap.size) (tb:=tb) (ab:=ab) hbf hsz
    have hszf:w0.heap.size ≤ wf.heap.size:=Nat.le_trans hsz hbf.size
    have hne2:¬ ab = wf.heap.size:=by have:=hbf.size;omega
    have hne3:¬ tb = wf.heap.size:=by have:=hbf.size;omega
    clear hbf hT0 hA0 b0 b1 b2 b3 b4
    go_wp2_with fail
    refine (N.out _ (z0j hTf) (z0e hKf (z0q hszf))).mono ?_
    intro e w1 hr
    obtain ⟨rfl,hb⟩:=hr
    have hT1:=z0x (z0l (z0j hTf)) hb
    have hA1:=z0x (z0i (z0j hAf) hne.symm) hb
    have hF1:=z0x (z0i (heap_alloc_new wf _) (Ne.symm hne3)) hb
    have hK1:=z0e (z0e hKf (z0q hszf)) (z2l (B:=w0.heap.size) (ab:=ab) htown (Nat.le_trans hsz (KeptA.size (z0e hKf (z0q hszf)))) hb)
    obtain ⟨d0,d1,d2,d3,d4,hdb,hdf⟩:=five hA1
    obtain ⟨g0,g1,g2,g3,g4,hgb,hgf⟩:=five hF1
    have q2:=hdf 2
    have q3:=hdf 3
    have q4:=hdf 4
    have i1:InW ab w1:=⟨hdb⟩
    have i2:InW wf.heap.size w1:=⟨hgb⟩
    have i3:InW tb w1:=⟨lt_of_block hT1⟩
    clear hb hdf hgf
    have hT2:=z0i (i:=2) (v:=(.string ⟨name.toArray⟩)) hT1 hne
    have hA2:=z0l (i:=2) (u:=(.string ⟨name.toArray⟩)) hA1
    have hF2:=z0i (i:=2) (v:=(.string ⟨name.toArray⟩)) hF1 (Ne.symm hne2)
    have hK2:=z0e hK1 (z2f (B:=w0.heap.size) (tb:=tb) (i:=2) (v:=(.string ⟨name.toArray⟩)) (.inr rfl) hown)
    clear N hT1 hA1 hF1 hK1
    go_wp2_with fail
    clear d0 d1 d2 d3 d4 g0 g1 g2 g3 g4 i1 i2 i3 q2 q3 q4 hdb hgb
    refine (U2.out _ (hT2) (hK2)).mono ?_
    intro e w3 hr
    obtain ⟨rfl,hb⟩:=hr
    have hT3:=z0x (z0l (hT2)) hb
    have hA3:=z0x (z0i (hA2) hne.symm) hb
    have hF3:=z0x (z0i (hF2) (Ne.symm hne3)) hb
    have hK3:=z0e (hK2) (z2l (B:=w0.heap.size) (ab:=ab) htown (Nat.le_trans hsz (KeptA.size (hK2))) hb)
    obtain ⟨d0,d1,d2,d3,d4,hdb,hdf⟩:=five hA3
    obtain ⟨g0,g1,g2,g3,g4,hgb,hgf⟩:=five hF3
    have q2:=hdf 2
    have q3:=hdf 3
    have q4:=hdf 4
    have i1:InW ab w3:=⟨hdb⟩
    have i2:InW wf.heap.size w3:=⟨hgb⟩
    have i3:InW tb w3:=⟨lt_of_block hT3⟩
    clear hb hdf hgf
    clear U2 hT2 hA2 hF2 hK2
    have hfinK:=hiT (z0e hK3 (z2f (B:=w0.heap.size) (tb:=tb) (i:=4) (v:=(.int .i64 n)) (.inr rfl) hown))
    have hfinT:=hiT (z0i (i:=4) (v:=(.int .i64 n)) hT3 hne)
    have hfinA:=hiT (z0l (i:=4) (u:=(.int .i64 n)) hA3)
    skip
    clear hT3 hA3 hF3 hK3 hTf hAf hKf
    go_wp2
    go_returns
    exact ⟨none,0,rfl,hfinK.out,hfinT.out,hfinA.out,World.ownsRow_nil _ _ _ _⟩
theorem q6m {w0:World} {tb ab:Nat} {ao:Option Addr} {cap:Nat} {ts:List Tk} {k:Nat} {io:Option Addr} {il ic a:Nat} (h1:1 ≤ k) (h5:k ≤ 5) (cond:List Nd) (w:World) (h:RestAt w0 tb ab ao cap ts k io il ic a w) :
  Calls Tryz.prog 221 #[.pointer (some ⟨tb,0,none⟩),.pointer (some ⟨ab,0,none⟩)] w (j5j w0.heap.size tb ab ao cap ts (.slice io il ic) (z7q ts cond k a) w):=by
 rcases (by omega:k = 1 ∨ (k = 2 ∨ k = 4) ∨ k = 3 ∨ k = 5) with h2 | h2 | h2 | h2
 ·exact k8z h2 cond w h
 ·exact y6s h2 cond w h
 ·exact k2x h2 cond w h
 ·exact k8y h2 cond w h
abbrev v7d (k iv:Value):Obj := .cells #[k,iv,.string ⟨#[]⟩,.slice none 0 0,.int .i64 0] 235 (0,0)
structure OneAt (w0 w:World) (tb rb ab:Nat) (ao:Option Addr) (cap:Nat) (ts:List Tk) (k:Int) (io:Option Addr) (ic:Nat) (cond:List Nd) (a:Nat) (wx:World):Prop where
 tkr:TkrAt w0 tb ao cap ts a wx
 res:wx.heap[rb]? = some (v7d (.int .i64 0) (.slice none 0 0))
 act:wx.heap[ab]? = some (v7d (.int .i64 k) (.slice io cond.length ic))
 kept:KeptA w0.heap.size tb tb w wx
 hr:w.heap.size ≤ rb
 ha:w.heap.size ≤ ab
 ne:rb ≠ ab
 ht:tb < w.heap.size
 own:wx.ownsRow w.heap.size 239 7 (.slice io cond.length ic) cond.length (z9j cond)
section
variable {w0 w:World} {tb rb ab:Nat} {ao:Option Addr} {cap:Nat} {ts:List Tk} {k:Int} {io:Option Addr} {ic:Nat} {cond:List Nd} {a:Nat} {wx wy:World}
theorem z7g {B tb b i:Nat} {v:Value} {w wx:World} (h:KeptA B tb tb w wx) (hb:w.heap.size ≤ b) (hB:B ≤ w.heap.size):KeptA B tb tb w (wx.setCell ⟨b,i,none⟩ v):=by
 refine ⟨h.below.setCell (p:=⟨b,i,none⟩) (Nat.le_trans hB hb) _,?_,fun j hj h1 h2=>?_⟩
 ·rw [z1w];exact h.size
 ·rw [Below.heap_setCell _ _ _ _ (fun e=>by simp at e;omega)]
  exact h.block j hj h1 h2
theorem q3l (h:OneAt w0 w tb rb ab ao cap ts k io ic cond a wx) (hb:Below wx.heap.size wx wy):OneAt w0 w tb rb ab ao cap ts k io ic cond a wy :=
 ⟨q6p h.tkr hb,z0c h.res hb,z0c h.act hb,z0e h.kept (z0w hb h.tkr.env.size),h.hr,h.ha,h.ne,h.ht,z0a h.own hb⟩
theorem j3x (h:OneAt w0 w tb rb ab ao cap ts k io ic cond a wx):w0.heap.size ≤ w.heap.size:=by
 have:=h.tkr.own
 have:=h.ht
 omega
theorem z7i {b:Nat} (h:OneAt w0 w tb rb ab ao cap ts k io ic cond a wx) (hle:b ≤ ts.length) (hb:Below wx.heap.size (wx.setCell ⟨tb,1,none⟩ (.int .i64 (b:Int))) wy):OneAt w0 w tb rb ab ao cap ts k io ic cond b wy:=by
 have h1:=h.hr
 have h2:=h.ha
 have h3:=h.ht
 refine ⟨y3u h.tkr hle hb,z0x (z0i h.res omT) hb,z0x (z0i h.act omT) hb,z0e h.kept (z2l h.tkr.own h.tkr.env.size hb),h.hr,h.ha,h.ne,h.ht,?_⟩
 have:=ownsRow_setCell_other h.own (z0n h.own h.tkr.blk deT) (.int .i64 (b:Int)) (a:=⟨tb,1,none⟩)
 exact z0a this (by rw [z1w];exact hb)
theorem q8e {b i:Nat} {v:Value} (h:TkrAt w0 tb ao cap ts a wx) (hb:w0.heap.size ≤ b) (hne:tb ≠ b):TkrAt w0 tb ao cap ts a (wx.setCell ⟨b,i,none⟩ v) :=
 ⟨z0i h.blk hne,h.own,h.le,h.env.setCell (p:=⟨b,i,none⟩) hb _⟩
theorem k8e {no:Option Addr} {nc:Nat} {ns:List Nd} (h:OneAt w0 w tb rb ab ao cap ts k io ic cond a wx) (hn:wx.ownsRow w.heap.size 239 7 (.slice no ns.length nc) ns.length (z9j ns)):OneAt w0 w tb rb ab ao cap ts k no nc ns a (wx.setCell ⟨ab,1,none⟩ (.slice no ns.length nc)):=by
 have h1:=h.ha
 have h2:=h.ht
 have h3:=j3x h
 exact ⟨q8e h.tkr omT omT,z0i h.res h.ne,z0l h.act,z7g h.kept h.ha h3,h.hr,h.ha,h.ne,h.ht,ownsRow_setCell_other hn (z0n hn h.act deT) _⟩
theorem y2t {j:Int} (h:OneAt w0 w tb rb ab ao cap ts k io ic cond a wx):OneAt w0 w tb rb ab ao cap ts j io ic cond a (wx.setCell ⟨ab,0,none⟩ (.int .i64 j)):=by
 have h1:=h.ha
 have h2:=h.ht
 have h3:=j3x h
 exact ⟨q8e h.tkr omT omT,z0i h.res h.ne,z0l h.act,z7g h.kept h.ha h3,h.hr,h.ha,h.ne,h.ht,ownsRow_setCell_other h.own (z0n h.own h.act deT) _⟩
theorem q6h {j:Nat} (hB:Base w0 ao ts) (h:OneAt w0 w tb rb ab ao cap ts (j:Int) io ic cond a wx):RestAt w0 tb ab ao cap ts j io cond.length ic a wx:=by
 have h1:=h.ha
 have h2:=h.ht
 have h3:=j3x h
 exact ⟨hB,h.tkr,h.act,by omega,by omega⟩
end
abbrev x2o (w:World) (b:Nat) (v0 v1 v2 v3 v4:Value):World:=((((w.setCell ⟨b,0,none⟩ v0).setCell ⟨b,1,none⟩ v1).setCell ⟨b,2,none⟩ v2).setCell ⟨b,3,none⟩ v3).setCell ⟨b,4,none⟩ v4
theorem z5m {B tb b:Nat} {w wx:World} (h:KeptA B tb tb w wx) (hb:w.heap.size ≤ b) (hB:B ≤ w.heap.size) (v0 v1 v2 v3 v4:Value):KeptA B tb tb w (x2o wx b v0 v1 v2 v3 v4) :=
 z7g (z7g (z7g (z7g (z7g h hb hB) hb hB) hb hB) hb hB) hb hB
theorem y1s {b c:Nat} {w:World} {o:Option Obj} (h:w.heap[b]? = o) (hne:b ≠ c) (v0 v1 v2 v3 v4:Value):(x2o w c v0 v1 v2 v3 v4).heap[b]? = o :=
 z0i (z0i (z0i (z0i (z0i h hne) hne) hne) hne) hne
theorem q6j {w:World} {B e s n b:Nat} {v:Value} {xs:List Value} (h:w.ownsRow B e s v n xs) (hb:v.ownBlock ≠ some b) (v0 v1 v2 v3 v4:Value):(x2o w b v0 v1 v2 v3 v4).ownsRow B e s v n xs :=
 ownsRow_setCell_other (ownsRow_setCell_other (ownsRow_setCell_other (ownsRow_setCell_other (ownsRow_setCell_other h (a:=⟨b,0,none⟩) hb v0) (a:=⟨b,1,none⟩) hb v1) (a:=⟨b,2,none⟩) hb v2) (a:=⟨b,3,none⟩) hb v3) (a:=⟨b,4,none⟩) hb v4
theorem q3a {B tb ab:Nat} {w wx wy:World} (h:KeptA B tb tb w wx) (k:KeptA B tb ab wx wy) (hab:w.heap.size ≤ ab):KeptA B tb tb w wy :=
 ⟨h.below.trans k.below,Nat.le_trans h.size k.size,fun j hj h1 _=>(k.block j (Nat.lt_of_lt_of_le hj h.size) h1 omT).trans (h.block j hj h1 h1)⟩
def y1n (B tb:Nat) (ao:Option Addr) (cap:Nat) (ts:List Tk) (x:Except Int (Ac × Nat)) (w:World) (e:Ending) (w':World):Prop :=
 match x with
 | .error x=>e = .returned (.tuple #[.agg #[.int .i64 0,.slice none 0 0,.string ⟨#[]⟩,.slice none 0 0,.int .i64 0],.int .i64 x]) ∧ KeptA B tb tb w w'
 | .ok (c,n)=>∃ iv xv,e = .returned (.tuple #[.agg #[.int .i64 c.kind,iv,.string ⟨c.name.toArray⟩,xv,.int .i64 c.n],.int .i64 0]) ∧ KeptA B tb tb w w' ∧ w'.heap[tb]? = some (v0b ao cap ts n) ∧
   w'.ownsRow w.heap.size 239 7 iv c.cond.length (z9j c.cond) ∧ w'.ownsRow w.heap.size 239 7 xv c.x.length (z9j c.x)
theorem q6z (ts:List Tk) (a:Nat):z7w ts a = 0 ∨ ∃ j:Nat,1 ≤ j ∧ j ≤ 5 ∧ z7w ts a = (j:Int):=by
 unfold z7w
 repeat' split
 ·exact .inr ⟨1,by decide,by decide,rfl⟩
 ·exact .inr ⟨2,by decide,by decide,rfl⟩
 ·exact .inr ⟨3,by decide,by decide,rfl⟩
 ·exact .inr ⟨4,by decide,by decide,rfl⟩
 ·exact .inr ⟨5,by decide,by decide,rfl⟩
 ·exact .inl rfl
theorem y3m {ts:List Tk} {cond:List Nd} {k:Int} {name:List UInt8} {a:Nat} {x:Int} (h:z9h ts cond k name a = .error x):(x != 0) = true:=by
 unfold z9h at h
 split at h
 ·split at h
  ·rename_i hp
   cases h
   exact z6v hp
  ·cases h
 ·split at h
  ·split at h
   ·cases h;rfl
   ·split at h
    ·cases h;rfl
    ·cases h
  ·cases h
theorem j4h {ts:List Tk} {cond:List Nd} {k:Int} {a:Nat} {x:Int} (h:z7q ts cond k a = .error x):(x != 0) = true:=by
 unfold z7q at h
 split at h
 ·exact y3m h
 ·split at h
  ·cases h;rfl
  ·exact y3m h
theorem j2d {ts:List Tk} {cond:List Nd} {k:Int} {name:List UInt8} {a:Nat} {c:Ac} {n:Nat} (h:z9h ts cond k name a = .ok (c,n)):c.kind = k ∧ c.cond = cond ∧ n ≤ ts.length ∨ c.kind = k ∧ c.cond = cond ∧ n = a:=by
 unfold z9h at h
 split at h
 ·split at h
  ·cases h
  ·rename_i hp
   cases h
   exact .inl ⟨rfl,rfl,(z6u hp).1⟩
 ·split at h
  ·split at h
   ·cases h
   ·rename_i hn
    split at h
    ·cases h
    ·cases h
     exact .inl ⟨rfl,rfl,y2o hn⟩
  ·cases h
   exact .inr ⟨rfl,rfl,rfl⟩
theorem j1t {ts:List Tk} {cond:List Nd} {k:Int} {a:Nat} {c:Ac} {n:Nat} (h:z7q ts cond k a = .ok (c,n)):c.cond = cond:=by
 unfold z7q at h
 split at h
 ·rcases j2d h with h | h <;> exact h.2.1
 ·split at h
  ·cases h
  ·rcases j2d h with h | h <;> exact h.2.1
set_option maxRecDepth 100000 in
set_option maxHeartbeats 8000000 in
theorem k9w {w0:World} {tb:Nat} {ao:Option Addr} {cap:Nat} {ts:List Tk} {a:Nat} (hB:Base w0 ao ts) (w:World) (h:TkrAt w0 tb ao cap ts a w) :
  Calls Tryz.prog 200 #[.pointer (some ⟨tb,0,none⟩)] w (y1n w0.heap.size tb ao cap ts (y2r ts a) w):=by
 have htb:=(z7a h).2.2.1
 have hsz:=h.env.size
 obtain ⟨x,hx⟩:∃ x,y2r ts a = x:=⟨_,rfl⟩
 rw [hx]
 unfold y2r at hx
 simp only [y1x] at hx
 replace hx:=hiT hx
 have T:=hiT (fun (t:ByteArray) b bb wx (s:TkrAt w0 tb ao cap ts b wx) (hb:z2t ts b t.data.toList = bb)=>(by rw [← hb];exact q4x t hB wx s:Calls Tryz.prog 201 #[.pointer (some ⟨tb,0,none⟩),.string t] wx (y1o tb bb b wx)))
 have X:=hiT (fun (b:Nat) x wx (s:TkrAt w0 tb ao cap ts b wx) (hb:z3f ts (b:Int) = x)=>(by rw [← hb];exact q9m hB wx s:Calls Tryz.prog 219 #[.pointer (some ⟨tb,0,none⟩)] wx (y8r tb x wx)))
 have K0:=hiT (fun (b:Nat) wx (s:TkrAt w0 tb ao cap ts b wx) (hb:z7w ts b = 0)=>(by have:=j8a hB wx s;rw [hb] at this;exact this:Calls Tryz.prog 220 #[.pointer (some ⟨tb,0,none⟩)] wx fun e w'=>e = .returned (.tuple #[.int .i64 0,.bool false]) ∧ Below wx.heap.size wx w'))
 have K1:=hiT (fun (b j:Nat) wx (s:TkrAt w0 tb ao cap ts b wx) (hj:1 ≤ j) (hb:z7w ts b = (j:Int))=>(by
  have:=j8a hB wx s
  rw [hb] at this
  refine this.mono fun e w' hr=>?_
  obtain ⟨h1,h2⟩:=hr
  have h0:¬ (j:Int) = 0:=by omega
  rw [if_neg h0] at h2
  rw [show decide (((j:Nat):Int) ≠ 0) = true from decide_eq_true h0] at h1
  exact ⟨h1,h2⟩:Calls Tryz.prog 220 #[.pointer (some ⟨tb,0,none⟩)] wx fun e w'=>e = .returned (.tuple #[.int .i64 (j:Int),.bool true]) ∧ Below wx.heap.size (wx.setCell ⟨tb,1,none⟩ (.int .i64 ((b + 1:Nat):Int))) w'))
 have S0:OneAt w0 w tb w.heap.size (w.heap.size + 1) ao cap ts 0 none 0 [] a ((w.alloc (v7d (.int .i64 0) (.slice none 0 0))).alloc (v7d (.int .i64 0) (.slice none 0 0))):=by
  have hb:Below w.heap.size w ((w.alloc (v7d (.int .i64 0) (.slice none 0 0))).alloc (v7d (.int .i64 0) (.slice none 0 0))):=((Below.refl _ w).alloc (Nat.le_refl _) _).alloc (by simp) _
  exact ⟨q6p h hb,z0j (heap_alloc_new w _),z0s (by simp),z0w hb hsz,Nat.le_refl _,by omega,by omega,htb,World.ownsRow_nil _ _ _ _⟩
 clear h
 rcases hi:z2t ts a [105,102] with _ | _
 ·rw [hi] at hx
  go_enter Tryz.func200,Tryz.ntmps200
  go_wp2_with fail
  refine (T.out ⟨#[105,102]⟩ a false _ S0.tkr hi).mono ?_
  intro e w1 hr
  obtain ⟨rfl,hb⟩:=hr
  have S1:=q3l S0 (show Below _ _ w1 from hb)
  clear hb S0 hi T X
  rcases q6z ts (a) with hk | ⟨j,hj1,hj5,hk⟩
  ·simp only [hk,↓reduceIte] at hx
   go_wp2_with fail
   refine (K0.out (a) _ S1.tkr hk).mono ?_
   intro e w5 hr
   obtain ⟨rfl,hb⟩:=hr
   have S5:=q3l S1 hb
   clear hb S1 hk K0 K1
   obtain ⟨g0,g1,g2,g3,g4,hgb,hgf⟩:=five S5.res
   have r0:=hgf 0
   have r1:=hgf 1
   have r2:=hgf 2
   have r3:=hgf 3
   have r4:=hgf 4
   have i2:=InW.mk hgb
   have e0:=z0b g0
   have e1:=z0b g1
   have e2:=z0b g2
   have e3:=z0b g3
   have e4:=z0b g4
   have hK:=hiT (z5m S5.kept S5.hr hsz)
   clear hgf S5
   go_wp2
   go_returns
   rw [← hx.out]
   exact ⟨rfl,hK.out _ _ _ _ _⟩
  ·have hka:=j2u (show ¬ z7w ts (a) = 0 by omega)
   have hj0:¬ (j:Int) = 0:=by omega
   simp only [hk,if_neg hj0] at hx
   go_wp2_with fail
   refine (K1.out (a) j _ S1.tkr hj1 hk).mono ?_
   intro e w5 hr
   obtain ⟨rfl,hb⟩:=hr
   have S5:=z7i S1 hka hb
   clear hb S1 hk K0 K1
   have S6:=hiT (y2t (j:=(j:Int)) S5)
   obtain ⟨d0,d1,d2,d3,d4,hdb,hdf⟩:=five S5.act
   obtain ⟨g0,g1,g2,g3,g4,hgb,hgf⟩:=five S5.res
   have q0:=hdf 0
   have q1:=hdf 1
   have i1:=InW.mk hdb
   have i2:=InW.mk hgb
   clear S5
   go_wp2_with fail
   clear d0 d1 d2 d3 d4 g0 g1 g2 g3 g4 hdf hgf q1 q0 hdb hgb i1 i2
   replace S6:=S6.out
   rcases hre:z7q ts [] (j:Int) (a + 1) with x1 | ⟨c,n6⟩
   ·have R:=q6m hj1 hj5 [] _ (q6h hB S6)
    rw [hre] at R hx
    have hnz:=j4h hre
    refine R.mono ?_
    intro e w7 hr
    obtain ⟨rfl,hK7⟩:=hr
    have hR7:=z2y hK7 S6.res (by have:=S6.hr;have:=S6.ht;omega) S6.ne
    have hk7:=q3a S6.kept hK7 S6.ha
    have hr6:=S6.hr
    clear hK7 R hre S6
    obtain ⟨g0,g1,g2,g3,g4,hgb,hgf⟩:=five hR7
    have r0:=hgf 0
    have r1:=hgf 1
    have r2:=hgf 2
    have r3:=hgf 3
    have r4:=hgf 4
    have i2:=InW.mk hgb
    have e0:=z0b g0
    have e1:=z0b g1
    have e2:=z0b g2
    have e3:=z0b g3
    have e4:=z0b g4
    have hK:=hiT (z5m hk7 hr6 hsz)
    clear hgf hk7 hR7
    go_wp2
    go_returns
    rw [← hx.out]
    exact ⟨rfl,hK.out _ _ _ _ _⟩
   ·have hcc:=j1t hre
    have R:=q6m hj1 hj5 [] _ (q6h hB S6)
    rw [hre] at R hx
    refine R.mono ?_
    intro e w7 hr
    obtain ⟨xo,xc,rfl,hK7,hT7,hA7,hX7⟩:=hr
    have hR7:=z2y hK7 S6.res (by have:=S6.hr;have:=S6.ht;omega) S6.ne
    have hk7:=q3a S6.kept hK7 S6.ha
    have hr6:=S6.hr
    have ht6:=S6.ht
    have hsx:=S6.kept.size
    have hI7:=z8d S6.own hK7 (z0n S6.own S6.tkr.blk deT) (z0n S6.own S6.act deT)
    have hI8:=hiT (q6j hI7 (z0n hI7 hR7 deT))
    have hX8:=hiT (q6j (z0m hX7 hsx) (z0n hX7 hR7 deT))
    have hT8:=hiT (y1s (c:=w.heap.size) hT7 omT)
    clear hK7 R hre S6
    obtain ⟨g0,g1,g2,g3,g4,hgb,hgf⟩:=five hR7
    obtain ⟨d0,d1,d2,d3,d4,hdb,hdf⟩:=five hA7
    have r0:=hgf 0
    have r1:=hgf 1
    have r2:=hgf 2
    have r3:=hgf 3
    have r4:=hgf 4
    have i1:=InW.mk hdb
    have i2:=InW.mk hgb
    have e0:=z0b g0
    have e1:=z0b g1
    have e2:=z0b g2
    have e3:=z0b g3
    have e4:=z0b g4
    have hK:=hiT (z5m hk7 hr6 hsz)
    clear hgf hk7 hR7 hdf hA7 hI7 hX7 hT7
    go_wp2
    go_returns
    rw [← hx.out]
    show ∃ iv xv,_
    rw [hcc]
    exact ⟨_,_,rfl,hK.out _ _ _ _ _,hT8.out _ _ _ _ _,hI8.out _ _ _ _ _,hX8.out _ _ _ _ _⟩
 ·rw [hi] at hx
  have hi2:=z4w hi
  rcases hp:z3f ts ((a + 1:Nat):Int) with x1 | ⟨ns,n⟩
  ·rw [hp] at hx
   have hnz:=z6v hp
   go_enter Tryz.func200,Tryz.ntmps200
   go_wp2_with fail
   refine (T.out ⟨#[105,102]⟩ a true _ S0.tkr hi).mono ?_
   intro e w1 hr
   obtain ⟨rfl,hb⟩:=hr
   have S1:=z7i S0 hi2 (show Below _ _ w1 from hb)
   clear hb S0 hi T K0 K1
   go_wp2_with fail
   refine (X.out (a + 1) _ _ S1.tkr hp).mono ?_
   intro e w2 hr
   obtain ⟨rfl,hb⟩:=hr
   have S2:=q3l S1 hb
   clear hb S1 hp X
   obtain ⟨g0,g1,g2,g3,g4,hgb,hgf⟩:=five S2.res
   have r0:=hgf 0
   have r1:=hgf 1
   have r2:=hgf 2
   have r3:=hgf 3
   have r4:=hgf 4
   have i2:=InW.mk hgb
   have e0:=z0b g0
   have e1:=z0b g1
   have e2:=z0b g2
   have e3:=z0b g3
   have e4:=z0b g4
   have hK:=hiT (z5m S2.kept S2.hr hsz)
   clear hgf S2
   go_wp2
   go_returns
   rw [← hx.out]
   exact ⟨rfl,hK.out _ _ _ _ _⟩
  ·obtain ⟨hn1,_⟩:=z6u hp
   rw [hp] at hx
   rcases hc:z2t ts n [58] with _ | _
   ·simp only [hc] at hx
    go_enter Tryz.func200,Tryz.ntmps200
    go_wp2_with fail
    refine (T.out ⟨#[105,102]⟩ a true _ S0.tkr hi).mono ?_
    intro e w1 hr
    obtain ⟨rfl,hb⟩:=hr
    have S1:=z7i S0 hi2 (show Below _ _ w1 from hb)
    clear hb S0 hi K0 K1
    go_wp2_with fail
    refine (X.out (a + 1) _ _ S1.tkr hp).mono ?_
    intro e w2 hr
    obtain ⟨v,rfl,hown,hb⟩:=hr
    have S2:=z7i S1 hn1 hb
    obtain ⟨no,nc,hv⟩:=z0g hown
    subst hv
    clear hb S1 hp X hown
    go_wp2_with fail
    refine (T.out ⟨#[58]⟩ n false _ S2.tkr hc).mono ?_
    intro e w3 hr
    obtain ⟨rfl,hb⟩:=hr
    have S3:=q3l S2 (show Below _ _ w3 from hb)
    clear hb S2 hc T
    obtain ⟨g0,g1,g2,g3,g4,hgb,hgf⟩:=five S3.res
    have r0:=hgf 0
    have r1:=hgf 1
    have r2:=hgf 2
    have r3:=hgf 3
    have r4:=hgf 4
    have i2:=InW.mk hgb
    have e0:=z0b g0
    have e1:=z0b g1
    have e2:=z0b g2
    have e3:=z0b g3
    have e4:=z0b g4
    have hK:=hiT (z5m S3.kept S3.hr hsz)
    clear hgf S3
    go_wp2
    go_returns
    rw [← hx.out]
    exact ⟨rfl,hK.out _ _ _ _ _⟩
   ·have hc2:=z4w hc
    simp only [hc] at hx
    go_enter Tryz.func200,Tryz.ntmps200
    go_wp2_with fail
    refine (T.out ⟨#[105,102]⟩ a true _ S0.tkr hi).mono ?_
    intro e w1 hr
    obtain ⟨rfl,hb⟩:=hr
    have S1:=z7i S0 hi2 (show Below _ _ w1 from hb)
    clear hb S0 hi
    go_wp2_with fail
    refine (X.out (a + 1) _ _ S1.tkr hp).mono ?_
    intro e w2 hr
    obtain ⟨v,rfl,hown,hb⟩:=hr
    have S2:=z7i S1 hn1 hb
    replace hown:=z0m hown S1.kept.size
    obtain ⟨no,nc,hv⟩:=z0g hown
    subst hv
    clear hb S1 hp X
    go_wp2_with fail
    refine (T.out ⟨#[58]⟩ n true _ S2.tkr hc).mono ?_
    intro e w3 hr
    obtain ⟨rfl,hb⟩:=hr
    have S3:=z7i S2 hc2 (show Below _ _ w3 from hb)
    have hown3:=z0a (ownsRow_setCell_other hown (z0n hown S2.tkr.blk deT) (.int .i64 ((n + 1:Nat):Int)) (a:=⟨tb,1,none⟩)) (by rw [z1w];exact hb)
    clear hb S2 hc T hown
    have S4:=hiT (k8e S3 hown3)
    obtain ⟨d0,d1,d2,d3,d4,hdb,hdf⟩:=five S3.act
    obtain ⟨g0,g1,g2,g3,g4,hgb,hgf⟩:=five S3.res
    have q0:=hdf 0
    have q1:=hdf 1
    have i1:=InW.mk hdb
    have i2:=InW.mk hgb
    clear S3 hown3
    go_wp2_with fail
    clear d0 d1 d2 d3 d4 g0 g1 g2 g3 g4 hdf hgf q1 q0 hdb hgb i1 i2
    replace S4:=S4.out
    rcases q6z ts (n + 1) with hk | ⟨j,hj1,hj5,hk⟩
    ·simp only [hk,↓reduceIte] at hx
     go_wp2_with fail
     refine (K0.out (n + 1) _ S4.tkr hk).mono ?_
     intro e w5 hr
     obtain ⟨rfl,hb⟩:=hr
     have S5:=q3l S4 hb
     clear hb S4 hk K0 K1
     obtain ⟨g0,g1,g2,g3,g4,hgb,hgf⟩:=five S5.res
     have r0:=hgf 0
     have r1:=hgf 1
     have r2:=hgf 2
     have r3:=hgf 3
     have r4:=hgf 4
     have i2:=InW.mk hgb
     have e0:=z0b g0
     have e1:=z0b g1
     have e2:=z0b g2
     have e3:=z0b g3
     have e4:=z0b g4
     have hK:=hiT (z5m S5.kept S5.hr hsz)
     clear hgf S5
     go_wp2
     go_returns
     rw [← hx.out]
     exact ⟨rfl,hK.out _ _ _ _ _⟩
    ·have hka:=j2u (show ¬ z7w ts (n + 1) = 0 by omega)
     have hj0:¬ (j:Int) = 0:=by omega
     simp only [hk,if_neg hj0] at hx
     go_wp2_with fail
     refine (K1.out (n + 1) j _ S4.tkr hj1 hk).mono ?_
     intro e w5 hr
     obtain ⟨rfl,hb⟩:=hr
     have S5:=z7i S4 hka hb
     clear hb S4 hk K0 K1
     have S6:=hiT (y2t (j:=(j:Int)) S5)
     obtain ⟨d0,d1,d2,d3,d4,hdb,hdf⟩:=five S5.act
     obtain ⟨g0,g1,g2,g3,g4,hgb,hgf⟩:=five S5.res
     have q0:=hdf 0
     have q1:=hdf 1
     have i1:=InW.mk hdb
     have i2:=InW.mk hgb
     clear S5
     go_wp2_with fail
     clear d0 d1 d2 d3 d4 g0 g1 g2 g3 g4 hdf hgf q1 q0 hdb hgb i1 i2
     replace S6:=S6.out
     rcases hre:z7q ts ns (j:Int) (n + 1 + 1) with x1 | ⟨c,n6⟩
     ·have R:=q6m hj1 hj5 ns _ (q6h hB S6)
      rw [hre] at R hx
      have hnz:=j4h hre
      refine R.mono ?_
      intro e w7 hr
      obtain ⟨rfl,hK7⟩:=hr
      have hR7:=z2y hK7 S6.res (by have:=S6.hr;have:=S6.ht;omega) S6.ne
      have hk7:=q3a S6.kept hK7 S6.ha
      have hr6:=S6.hr
      clear hK7 R hre S6
      obtain ⟨g0,g1,g2,g3,g4,hgb,hgf⟩:=five hR7
      have r0:=hgf 0
      have r1:=hgf 1
      have r2:=hgf 2
      have r3:=hgf 3
      have r4:=hgf 4
      have i2:=InW.mk hgb
      have e0:=z0b g0
      have e1:=z0b g1
      have e2:=z0b g2
      have e3:=z0b g3
      have e4:=z0b g4
      have hK:=hiT (z5m hk7 hr6 hsz)
      clear hgf hk7 hR7
      go_wp2
      go_returns
      rw [← hx.out]
      exact ⟨rfl,hK.out _ _ _ _ _⟩
     ·have hcc:=j1t hre
      have R:=q6m hj1 hj5 ns _ (q6h hB S6)
      rw [hre] at R hx
      refine R.mono ?_
      intro e w7 hr
      obtain ⟨xo,xc,rfl,hK7,hT7,hA7,hX7⟩:=hr
      have hR7:=z2y hK7 S6.res (by have:=S6.hr;have:=S6.ht;omega) S6.ne
      have hk7:=q3a S6.kept hK7 S6.ha
      have hr6:=S6.hr
      have ht6:=S6.ht
      have hsx:=S6.kept.size
      have hI7:=z8d S6.own hK7 (z0n S6.own S6.tkr.blk deT) (z0n S6.own S6.act deT)
      have hI8:=hiT (q6j hI7 (z0n hI7 hR7 deT))
      have hX8:=hiT (q6j (z0m hX7 hsx) (z0n hX7 hR7 deT))
      have hT8:=hiT (y1s (c:=w.heap.size) hT7 omT)
      clear hK7 R hre S6
      obtain ⟨g0,g1,g2,g3,g4,hgb,hgf⟩:=five hR7
      obtain ⟨d0,d1,d2,d3,d4,hdb,hdf⟩:=five hA7
      have r0:=hgf 0
      have r1:=hgf 1
      have r2:=hgf 2
      have r3:=hgf 3
      have r4:=hgf 4
      have i1:=InW.mk hdb
      have i2:=InW.mk hgb
      have e0:=z0b g0
      have e1:=z0b g1
      have e2:=z0b g2
      have e3:=z0b g3
      have e4:=z0b g4
      have hK:=hiT (z5m hk7 hr6 hsz)
      clear hgf hk7 hR7 hdf hA7 hI7 hX7 hT7
      go_wp2
      go_returns
      rw [← hx.out]
      show ∃ iv xv,_
      rw [hcc]
      exact ⟨_,_,rfl,hK.out _ _ _ _ _,hT8.out _ _ _ _ _,hI8.out _ _ _ _ _,hX8.out _ _ _ _ _⟩
theorem Tryz.infoAct:(Tryz.prog.info? 235).map (fun i=>(i.zero,i.size,i.bytes)) = some (some (.agg #[.int .i64 0,.slice none 0 0,.string ⟨#[]⟩,.slice none 0 0,.int .i64 0]),5,80):=by kernel_rfl
theorem z6l {T E t B B' tb:Nat} {w w':World} {v:Value} {cs:List Ac} {cells:Array Value} {fr:Nat × Nat} (h:z4d T E B w v cs) (hk:KeptA B' tb tb w w') (hb:w.heap[tb]? = some (.cells cells t fr)) (h1:t ≠ T) (h2:t ≠ E):z4d T E B w' v cs:=by
 obtain ⟨vs,a,b⟩:=h
 exact ⟨vs,z8r a fun u n xs hu=>z8d hu hk (z0n hu hb h1) (z0n hu hb h1),z8d b hk (z0n b hb h2) (z0n b hb h2)⟩
def y4z (cs:List Ac):Except Int (List Ac × Nat) → Except Int (List Ac × Nat)
 | .error x => .error x
 | .ok (ds,q) => .ok (cs ++ ds,q)
theorem y5a (cs:List Ac) (c:Ac) (z:Except Int (List Ac × Nat)):y4z cs (match z with | .error x => .error x | .ok (ds,q) => .ok (c :: ds,q)) = y4z (cs ++ [c]) z:=by
 cases z with
 | error x=>rfl
 | ok p =>
  obtain ⟨ds,q⟩:=p
  simp [y4z]
def x3w:Value → Nat
 | .slice _ n _=>n
 | _=>0
theorem v1j {ts:List Tk} {cond:List Nd} {a:Nat} {x:Int} (h:doA ts cond a = .error x):(x != 0) = true:=by
 rw [y1x] at h
 split at h
 ·cases h;rfl
 ·exact j4h h
theorem k2c {ts:List Tk} {a:Nat} {x:Int} (h:y2r ts a = .error x):(x != 0) = true:=by
 unfold y2r at h
 split at h
 ·split at h
  ·rename_i hp
   cases h
   exact z6v hp
  ·split at h
   ·exact v1j h
   ·cases h;rfl
 ·exact v1j h
def v7u (x:Except Int (List Ac × Nat)) (w:World) (e:Ending) (w':World):Prop :=
 match x with
 | .error x=>e = .returned (.tuple #[.slice none 0 0,.int .i64 0,.int .i64 x]) ∧ Below w.heap.size w w'
 | .ok (cs,n)=>∃ v,e = .returned (.tuple #[v,.int .i64 (n:Int),.int .i64 0]) ∧ z4d 239 235 w.heap.size w' v cs ∧ Below w.heap.size w w'
set_option maxRecDepth 100000 in
set_option maxHeartbeats 4000000 in
theorem j5o (ao:Option Addr) (cap:Nat) (ts:List Tk) (from':Int) (w:World) (hB:Base w ao ts) :
  Calls Tryz.prog 176 #[.slice ao ts.length cap,.int .i64 from'] w (v7u (z9a ts from') w):=by
 obtain ⟨x,hx⟩:∃ x,z9a ts from' = x:=⟨_,rfl⟩
 rw [hx]
 unfold z9a at hx
 by_cases hf:from' < 0 ∨ (ts.length:Int) < from'
 ·rw [if_pos hf] at hx
  subst hx
  rcases hf with hf | hf
  ·clear hB
   go_enter Tryz.func176,Tryz.ntmps176
   go_wp2
   go_returns
   exact ⟨rfl,gzT⟩
  ·have h2:¬ from' < 0:=by omega
   clear hB
   go_enter Tryz.func176,Tryz.ntmps176
   go_wp2
   go_returns
   exact ⟨rfl,gzT⟩
 ·rw [if_neg hf] at hx
  obtain ⟨a0,rfl⟩:∃ a0:Nat,from' = (a0:Int):=⟨from'.toNat,by omega⟩
  have h1:¬ (a0:Int) < 0:=by omega
  have h2:¬ (ts.length:Int) < (a0:Int):=by omega
  rw [show Int.toNat (a0:Int) = a0 from rfl] at hx
  replace hx:=hiT hx
  obtain ⟨j0,hj,hy1,hy2,hy3⟩:=info_parts Tryz.infoAct
  have A:=hiT (fun (b:Nat) x wx (s:TkrAt w w.heap.size ao cap ts b wx) (hb:y2r ts b = x)=>(by rw [← hb];exact k9w hB wx s:Calls Tryz.prog 200 #[.pointer (some ⟨w.heap.size,0,none⟩)] wx (y1n w.heap.size w.heap.size ao cap ts x wx)))
  have T:=hiT (fun (t:ByteArray) b bb wx (s:TkrAt w w.heap.size ao cap ts b wx) (hb:z2t ts b t.data.toList = bb)=>(by rw [← hb];exact q4x t hB wx s:Calls Tryz.prog 201 #[.pointer (some ⟨w.heap.size,0,none⟩),.string t] wx (y1o w.heap.size bb b wx)))
  have hS0:TkrAt w w.heap.size ao cap ts a0 (w.alloc (v0b ao cap ts a0)):=⟨heap_alloc_new w _,Nat.le_refl _,by omega,gzT⟩
  replace hS0:=hiT hS0
  clear hB hf
  go_enter Tryz.func176,Tryz.ntmps176
  go_wp2
  go_loopw [8] (fun v wr=>∃ (cs:List Ac) (a:Nat) (oa:Option Addr) (oc:Nat),v = .slice oa cs.length oc ∧ z4d 239 235 w.heap.size wr (.slice oa cs.length oc) cs ∧ TkrAt w w.heap.size ao cap ts a wr ∧ cs.length ≤ 8 ∧ x = y4z cs (z7t (8 - cs.length) ts a)) (fun v _=>8 - x3w v)
  case atStart =>
   refine ⟨[],a0,none,0,rfl,q2q _ _ _ _,hS0.out,by decide,?_⟩
   rw [← hx.out]
   cases z7t 8 ts a0 with
   | error x=>simp [y4z, *]
   | ok p=>simp [y4z, *]
  case round =>
   clear hS0 hx
   obtain ⟨cs,a,oa,oc,rfl,hrow,hS,h8,hR⟩:=hrel
   rename World=>wr
   have hz:=hS.env.size
   replace hR:=hiT hR
   by_cases h88:cs.length = 8
   ·have hd:((cs.length:Int) == 8) = true:=by rw [beq_iff_eq];omega
    have hb:=hS.env
    clear hrow hS A T
    go_wp2
    go_returns
    have:=hR.out
    rw [h88] at this
    rw [this]
    exact ⟨rfl,hb⟩
   ·have hd:((cs.length:Int) == 8) = false:=by rw [beq_eq_false_iff_ne];omega
    obtain ⟨f,hff⟩:∃ f,8 - cs.length = f + 1:=⟨7 - cs.length,by omega⟩
    have hR2:=hR.out
    rw [hff,z7t] at hR2
    rcases ho:y2r ts a with x1 | ⟨c,n⟩
    ·rw [ho] at hR2
     replace hR2:=hiT hR2
     have hnz:=k2c ho
     go_wp2_with fail
     refine (A.out a _ wr hS ho).mono ?_
     intro e w1 hr
     obtain ⟨rfl,hK⟩:=hr
     have hb:=hS.env.trans hK.below
     clear hK hrow hS A T ho
     go_wp2
     go_returns
     rw [hR2.out]
     exact ⟨rfl,hb.trans (Below.mono gzT hb.size)⟩
    ·rw [ho] at hR2
     replace hR2:=hiT hR2
     go_wp2_with fail
     refine (A.out a _ wr hS ho).mono ?_
     intro e w1 hr
     obtain ⟨iv,xv,rfl,hK,hT,hI,hX⟩:=hr
     have hn:n ≤ ts.length:=y0b ho
     have hrow1:=z6l hrow hK hS.blk deT deT
     have hS1:TkrAt w w.heap.size ao cap ts n w1:=⟨hT,Nat.le_refl _,hn,hS.env.trans hK.below⟩
     have hz1:=hS1.env.size
     obtain ⟨io,ic,hi1⟩:=z0g hI
     obtain ⟨xo,xc,hx1⟩:=z0g hX
     subst hi1 hx1
     obtain ⟨vs,hV,hO⟩:=hrow1
     have hc:AcV 239 w.heap.size w1 c [.int .i64 c.kind,.slice io c.cond.length ic,.string ⟨c.name.toArray⟩,.slice xo c.x.length xc,.int .i64 c.n]:=⟨_,_,rfl,z0m hI hz,z0m hX hz⟩
     replace hV:=hiT hV
     replace hO:=hiT hO
     replace hc:=hiT hc
     replace hS1:=hiT hS1
     clear hI hX hT hK hrow hS ho
     go_wp2_with (at_builtin;refine wpList_append_lies _ rfl _ _ 158 rfl w.heap.size 235 j0 _ 5 80 Tryz.underlying158 hj hy1 hy2 hy3 rfl deT (.slice oa cs.length oc) cs.length vs rfl (z0a hO.out gzT) ⟨_,0,none⟩ 1 1 [.int .i64 c.kind,.slice io c.cond.length ic,.string ⟨c.name.toArray⟩,.slice xo c.x.length xc,.int .i64 c.n] rfl rfl (World.news_of_block (z0s (by simp))) (by intro u hu;simp at hu;rcases hu with rfl | rfl | rfl | rfl | rfl <;> rfl) deT (by unfold maxLen;omega) omT (by simp [go_sem];omega) _ rfl ?_)
     intro g' cap' w2 hown1 hgrow hat1 hg1
     have hl2:cs.length + 1 = (cs ++ [c]).length:=by simp
     have hbW:Below w1.heap.size w1 ((w1.alloc (.cells #[.int .i64 c.kind,.slice io c.cond.length ic,.string ⟨c.name.toArray⟩,.slice xo c.x.length xc,.int .i64 c.n] 235 (0,0))).alloc (.cells #[.int .i64 c.kind,.slice io c.cond.length ic,.string ⟨c.name.toArray⟩,.slice xo c.x.length xc,.int .i64 c.n] 235 (0,0))):=gzT
     have hrow2:z4d 239 235 w.heap.size w2 (.slice (some ⟨g',0,none⟩) (cs ++ [c]).length cap') (cs ++ [c]):=by
      rw [← hl2]
      exact q6x deT (j5k hV.out hbW) (z0a hO.out hbW) (q6y (k5p hc.out hbW)) hgrow (by simp) hown1
     have hS2:TkrAt w w.heap.size ao cap ts n w2:=⟨z0h (z0a hO.out hbW) (z0c hS1.out.blk hbW) deT hgrow,Nat.le_refl _,hn,Below.grown (hS1.out.env.trans (hbW.mono hz1)) hgrow (Nat.le_trans hz1 hbW.size) (fun k hk=>(hO.out.lt k hk).1)⟩
     clear hV hO hc hS1 hbW hgrow hown1 hat1 hg1 A
     rcases hsc:z2t ts n [59] with _ | _
     ·rw [hsc] at hR2
      go_wp2_with fail
      refine (T.out ⟨#[59]⟩ n false _ hS2 hsc).mono ?_
      intro e w3 hr
      obtain ⟨rfl,hb⟩:=hr
      have hS3:=q6p hS2 (show Below _ _ w3 from hb)
      have hrow3:=hiT (z6e hrow2 (show Below _ _ w3 from hb))
      obtain ⟨t0,t1,t2,t3⟩:=z7a hS3
      have hb3:=hS3.env
      have i1:=InW.mk t2
      clear hb hS2 hrow2 T hS3
      clear hsc
      dsimp only
      go_wp2_with fail
      (refine z0d krT krT ?_;(repeat (go_big_quiet_step (fail)));refine wpQuiet_nil ?_;intro _ hw';obtain ⟨pg,hw''⟩:=hw';subst hw'')
      go_wp2
      go_returns
      have h3:=hR2.out
      rw [if_neg deT] at h3
      rw [h3]
      refine ⟨_,rfl,?_,hb3.trans (Below.mono gzT hb3.size)⟩
      rw [hl2]
      exact z6e hrow3.out gzT
     ·rw [hsc] at hR2
      go_wp2_with fail
      refine (T.out ⟨#[59]⟩ n true _ hS2 hsc).mono ?_
      intro e w3 hr
      obtain ⟨rfl,hb⟩:=hr
      have hS3:=y3u hS2 (z4w hsc) (show Below _ _ w3 from hb)
      have hrow3:=z6l hrow2 (z2l (B:=w.heap.size) (tb:=w.heap.size) (ab:=w.heap.size) (Nat.le_refl _) hS2.env.size (show Below _ _ w3 from hb)) hS2.blk deT deT
      clear hb hS2 hrow2 T
      replace hS3:=hiT hS3
      replace hrow3:=hiT hrow3
      clear hsc
      dsimp only
      go_wp2_with fail
      go_roundw
      case rel =>
       refine ⟨cs ++ [c],n + 1,_,cap',by rw [← hl2],hrow3.out,hS3.out,by omega,?_⟩
       have:=hR2.out
       rw [if_pos rfl] at this
       rw [← hl2,show 8 - (cs.length + 1) = f by omega]
       exact this.trans (y5a cs c (z7t f ts (n + 1)))
      case measure =>
       show 8 - (cs.length + 1) < 8 - cs.length
       omega
end Go.Proofs.YtacnlghljmgdiaaGreatDoor
namespace Go.Proofs.YtacnlghljmgdiaaGreatDoor
open Go.RowKit Go.Lib Go.ChangeShapes Go.WideShapes Go.Joins
def j9j {H:Type} (f:List UInt8 × Bool × Bool × Bool × Bool):DataW H := .agg [.lit (.string f.1),.lit (.bool f.2.1),.lit (.bool f.2.2.1),.lit (.bool f.2.2.2.1),.lit (.bool f.2.2.2.2)]
def v1l {H:Type} (ls:List (List UInt8 × Bool × Bool × Bool × Bool)):DataW H := .agg (ls.map j9j)
set_option maxRecDepth 100000 in
theorem k0i {H:Type} {enc:TypeId × Value → H} {w:World} {base fuel:Nat} {spare:Nat → Bool} {held:Bool} {cs:List Value} {x:DataW H × List MemPlace}
  (h:DataW.trod enc Tryz.prog w base spare held fuel 350 cs = some x):∃ f,cs = j9i f ∧ x.1 = j9j f:=by
 obtain ⟨xs,m,_,hxx,hl,hlen,hf⟩:=DataW.trod_struct Tryz.underlying350 h
 have hl5:cs.length = 5:=hl.trans krT
 have hx5:xs.length = 5:=hlen
 match cs,hl5 with
 | [c0,c1,c2,c3,c4],_ =>
  match xs,hx5 with
  | [y0,y1,y2,y3,y4],_ =>
   have k1:Tryz.prog.cellsOf 4 = 1:=by kernel_rfl
   have k3:Tryz.prog.cellsOf 9 = 1:=by kernel_rfl
   have h0:DataW.trod enc Tryz.prog w base spare held m 9 [c0] = some y0:=by simpa [k3] using hf 0 _ rfl
   have h1:DataW.trod enc Tryz.prog w base spare held m 4 [c1] = some y1:=by simpa [k1] using hf 1 _ rfl
   have h2:DataW.trod enc Tryz.prog w base spare held m 4 [c2] = some y2:=by simpa [k1] using hf 2 _ rfl
   have h3:DataW.trod enc Tryz.prog w base spare held m 4 [c3] = some y3:=by simpa [k1] using hf 3 _ rfl
   have h4:DataW.trod enc Tryz.prog w base spare held m 4 [c4] = some y4:=by simpa [k1] using hf 4 _ rfl
   obtain ⟨s,e0,a0,w0⟩:=DataW.trod_string Tryz.underlying9 h0
   obtain ⟨b1,e1,a1⟩:=DataW.trod_bool Tryz.underlying4 h1
   obtain ⟨b2,e2,a2⟩:=DataW.trod_bool Tryz.underlying4 h2
   obtain ⟨b3,e3,a3⟩:=DataW.trod_bool Tryz.underlying4 h3
   obtain ⟨b4,e4,a4⟩:=DataW.trod_bool Tryz.underlying4 h4
   simp only [List.cons.injEq,and_true] at e0 e1 e2 e3 e4
   subst e0 e1 e2 e3 e4
   refine ⟨(s.data.toList,b1,b2,b3,b4),rfl,?_⟩
   rw [hxx]
   subst a0 a1 a2 a3 a4
   rfl
theorem k0g {H:Type} {f g:List UInt8 × Bool × Bool × Bool × Bool} (h:(j9j f:DataW H) = j9j g):f = g:=by
 obtain ⟨a,b,c,d,e⟩:=f
 obtain ⟨a',b',c',d',e'⟩:=g
 simpa [j9j] using h
theorem z7p {H:Type} {enc:TypeId × Value → H} {w:World} {base:Nat} {sp:Nat → Bool} {held:Bool} {fuel:Nat} {t:TypeId} {n:Nat} {cs:List Value} {ls:List (List UInt8 × Bool × Bool × Bool × Bool)} {p:List MemPlace}
  (ht:Tryz.prog.underlying t = some (.array n 350)) (hce:Tryz.prog.cellsOf 350 = 5) (hct:Tryz.prog.cellsOf t = n * 5)
  (h:DataW.trod enc Tryz.prog w base sp held fuel t cs = some (v1l ls,p)):cs = ls.flatMap j9i:=by
 cases fuel with
 | zero=>simp [DataW.trod] at h
 | succ fuel =>
  simp only [DataW.trod,ht,hce,hct] at h
  split at h
  ·rename_i hl
   obtain ⟨xs,hm,hx⟩:=Option.map_eq_some_iff.1 h
   have hxs:xs.map (·.1) = ls.map (j9j (H:=H)):=by
    have:=congrArg Prod.fst hx
    simpa [v1l] using this
   have hxl:xs.length = n:=by simpa using mapM_length hm
   have hll:ls.length = n:=by
    have:=congrArg List.length hxs
    simp at this
    omega
   have hat:∀ i (hi:i < ls.length),(cs.drop (i * 5)).take 5 = j9i ls[i]:=fun i hi=>by
    obtain ⟨b,hb,hf⟩:=mapM_at hm i i (by simp [show i < n by omega])
    obtain ⟨f,hc,hd⟩:=k0i hf
    have h2:(ls.map (j9j (H:=H)))[i]? = some b.1:=by rw [← hxs];simp [hb]
    rw [List.getElem?_map,List.getElem?_eq_getElem hi,hd] at h2
    have h3:=k0g (Option.some.inj h2)
    rw [hc,h3]
   have hlen:cs.length = ls.length * 5:=by rw [hll];exact hl
   clear hm hx hxs hxl h hl
   clear hll ht hct
   induction ls generalizing cs with
   | nil =>
    have:cs.length = 0:=by rw [hlen];simp
    rw [List.length_eq_zero_iff.1 this]
    rfl
   | cons f ls ih =>
    have h0:=hat 0 (by simp)
    rw [Nat.zero_mul,List.drop_zero] at h0
    have h1:=ih (cs:=cs.drop 5) (fun i hi=>by
     have:=hat (i + 1) (by simpa using hi)
     rw [List.drop_drop,show 5 + i * 5 = (i + 1) * 5 by omega]
     exact this) (by rw [List.length_drop,hlen,List.length_cons];omega)
    rw [List.flatMap_cons,← h1]
    show cs = j9i f ++ cs.drop 5
    rw [show j9i f = cs.take 5 from h0.symm,List.take_append_drop]
  ·cases h
end Go.Proofs.YtacnlghljmgdiaaGreatDoor
