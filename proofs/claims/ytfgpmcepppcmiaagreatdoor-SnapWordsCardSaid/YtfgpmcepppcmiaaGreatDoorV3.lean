/- Several texts of this proof, joined: AV, BA, AW, AX. -/
import Derived.Test.YtfgpmcepppcmiaaGreatDoorV1
import Derived.Test.YtfgpmcepppcmiaaGreatDoorY9
import Derived.WalkKit
import Derived.ProofKit
import Derived.OpenShut
import Derived.Handy
import Derived.BigQuiet
import Derived.OwnWalk
import Derived.Deep.AppendLies
import Derived.Lib.Hide
import Derived.WalkSmall
import Derived.WalkLawsBesides
import Derived.Test.YtfgpmcepppcmiaaGreatDoorV2
import Derived.Test.YtfgpmcepppcmiaaGreatDoorZ1
namespace Go.Proofs.YtfgpmcepppcmiaaGreatDoor
open Go.RowKit
def ActsAt (w:World) (ao:Option Addr) (cs:List Ac):Prop:=0 < cs.length → ∃ g,ao = some ⟨g,0,none⟩ ∧ g < w.heap.size ∧ ∀ i (h:i < cs.length),∃ io ic xo xc,
 w.cell? ⟨g,i * 5,none⟩ = some (.int .i64 cs[i].kind) ∧ w.cell? ⟨g,i * 5 + 1,none⟩ = some (.slice io cs[i].cond.length ic) ∧ w.cell? ⟨g,i * 5 + 2,none⟩ = some (.string ⟨cs[i].name.toArray⟩) ∧
 w.cell? ⟨g,i * 5 + 3,none⟩ = some (.slice xo cs[i].x.length xc) ∧ w.cell? ⟨g,i * 5 + 4,none⟩ = some (.int .i64 cs[i].n) ∧ NdsAt w io cs[i].cond ∧ NdsAt w xo cs[i].x
theorem acts_below {w w':World} {ao:Option Addr} {cs:List Ac} (h:ActsAt w ao cs) (hb:Below w.heap.size w w'):ActsAt w' ao cs:=fun h0=>by
 obtain ⟨g,hg,hgl,ht⟩:=h h0
 refine ⟨g,hg,Nat.lt_of_lt_of_le hgl hb.size,fun i hi=>?_⟩
 obtain ⟨io,ic,xo,xc,h1,h2,h3,h4,h5,h6,h7⟩:=ht i hi
 exact ⟨io,ic,xo,xc,(hb.cell (p:=⟨g,_,none⟩) hgl).trans h1,(hb.cell (p:=⟨g,_,none⟩) hgl).trans h2,(hb.cell (p:=⟨g,_,none⟩) hgl).trans h3,(hb.cell (p:=⟨g,_,none⟩) hgl).trans h4,(hb.cell (p:=⟨g,_,none⟩) hgl).trans h5,nds_below h6 hb,nds_below h7 hb⟩
def AcV (T:TypeId) (B:Nat) (w:World) (c:Ac) (vs:List Value):Prop:=∃ iv xv,vs = [.int .i64 c.kind,iv,.string ⟨c.name.toArray⟩,xv,.int .i64 c.n] ∧ w.ownsRow B T 7 iv c.cond.length (ndsC c.cond) ∧ w.ownsRow B T 7 xv c.x.length (ndsC c.x)
inductive AcVs (T:TypeId) (B:Nat) (w:World):List Ac → List Value → Prop
 | nil:AcVs T B w [] []
 | cons {c:Ac} {cs:List Ac} {v vs:List Value}:AcV T B w c v → AcVs T B w cs vs → AcVs T B w (c :: cs) (v ++ vs)
theorem acV_len {T:TypeId} {B:Nat} {w:World} {c:Ac} {v:List Value} (h:AcV T B w c v):v.length = 5:=by
 obtain ⟨iv,xv,rfl,_⟩:=h
 rfl
theorem acVs_at {T:TypeId} {B:Nat} {w:World} {cs:List Ac} {vs:List Value} (h:AcVs T B w cs vs):∀ i (hi:i < cs.length),∃ v,AcV T B w cs[i] v ∧ ∀ j,j < 5 → vs[i * 5 + j]? = v[j]?:=by
 induction h with
 | nil=>exact fun i hi=>absurd hi (Nat.not_lt_zero _)
 | @cons c cs v vs h1 _ ih =>
  have hl:=acV_len h1
  intro i hi
  cases i with
  | zero =>
   refine ⟨v,h1,fun j hj=>?_⟩
   rw [Nat.zero_mul,Nat.zero_add,List.getElem?_append_left (by omega)]
  | succ i =>
   obtain ⟨u,h2,h3⟩:=ih i (by simpa using hi)
   refine ⟨u,h2,fun j hj=>?_⟩
   rw [List.getElem?_append_right (by omega),← h3 j hj]
   congr 1
   omega
theorem acVs_append {T:TypeId} {B:Nat} {w:World} {cs ds:List Ac} {vs us:List Value} (h:AcVs T B w cs vs) (hd:AcVs T B w ds us):AcVs T B w (cs ++ ds) (vs ++ us):=by
 induction h with
 | nil=>exact hd
 | cons h1 _ ih =>
  rw [List.append_assoc]
  exact .cons h1 ih
theorem acVs_map {T:TypeId} {B B':Nat} {w w':World} {cs:List Ac} {vs:List Value} (h:AcVs T B w cs vs) (hk:∀ (v:Value) (n:Nat) (xs:List Value),w.ownsRow B T 7 v n xs → w'.ownsRow B' T 7 v n xs):AcVs T B' w' cs vs:=by
 induction h with
 | nil=>exact .nil
 | cons h1 _ ih =>
  obtain ⟨iv,xv,rfl,h2,h3⟩:=h1
  exact .cons ⟨iv,xv,rfl,hk _ _ _ h2,hk _ _ _ h3⟩ ih
theorem acVs_keep {T:TypeId} {B:Nat} {w w':World} {cs:List Ac} {vs:List Value} (h:AcVs T B w cs vs) (hb:Below w.heap.size w w'):AcVs T B w' cs vs:=acVs_map h fun _ _ _ hv=>owns_below hv hb
theorem acVs_single {T:TypeId} {B:Nat} {w:World} {c:Ac} {v:List Value} (h:AcV T B w c v):AcVs T B w [c] v:=by
 have:=AcVs.cons h (AcVs.nil (T:=T) (B:=B) (w:=w))
 rwa [List.append_nil] at this
theorem acV_keep {T:TypeId} {B:Nat} {w w':World} {c:Ac} {vs:List Value} (h:AcV T B w c vs) (hb:Below w.heap.size w w'):AcV T B w' c vs:=by
 obtain ⟨iv,xv,e,h1,h2⟩:=h
 exact ⟨iv,xv,e,owns_below h1 hb,owns_below h2 hb⟩
def AcRow (T E:TypeId) (B:Nat) (w:World) (v:Value) (cs:List Ac):Prop:=∃ vs,AcVs T B w cs vs ∧ w.ownsRow B E 5 v cs.length vs
theorem acRow_nil (T E:TypeId) (B:Nat) (w:World):AcRow T E B w (.slice none 0 0) []:=⟨[],.nil,World.ownsRow_nil _ _ _ _⟩
theorem acRow_keep {T E:TypeId} {B:Nat} {w w':World} {v:Value} {cs:List Ac} (h:AcRow T E B w v cs) (hb:Below w.heap.size w w'):AcRow T E B w' v cs:=by
 obtain ⟨vs,h1,h2⟩:=h
 exact ⟨vs,acVs_map h1 fun v n xs hv=>owns_below hv hb,owns_below h2 hb⟩
theorem acRow_base {T E:TypeId} {B B':Nat} {w:World} {v:Value} {cs:List Ac} (h:AcRow T E B w v cs) (hB:B' ≤ B):AcRow T E B' w v cs:=by
 obtain ⟨vs,h1,h2⟩:=h
 exact ⟨vs,acVs_map h1 fun v n xs hv=>owns_base hv hB,owns_base h2 hB⟩
theorem acRow_form {T E:TypeId} {B:Nat} {w:World} {v:Value} {cs:List Ac} (h:AcRow T E B w v cs):∃ ao cap,v = .slice ao cs.length cap:=by
 obtain ⟨vs,_,h2⟩:=h
 exact own_form h2
theorem acRow_at {T E:TypeId} {B:Nat} {w:World} {ao:Option Addr} {n cap:Nat} {cs:List Ac} (h:AcRow T E B w (.slice ao n cap) cs):ActsAt w ao cs:=by
 obtain ⟨vs,h1,h2⟩:=h
 intro h0
 obtain ⟨g,cap',e,hg,_,_,hc⟩:=own_head h2 h0
 cases e
 refine ⟨g,rfl,hg,fun i hi=>?_⟩
 obtain ⟨v,⟨iv,xv,rfl,h3,h4⟩,h5⟩:=acVs_at h1 i hi
 obtain ⟨io,ic,rfl⟩:=own_form h3
 obtain ⟨xo,xc,rfl⟩:=own_form h4
 exact ⟨io,ic,xo,xc,hc _ _ ((h5 0 (by decide)).trans rfl),hc _ _ ((h5 1 (by decide)).trans rfl),hc _ _ ((h5 2 (by decide)).trans rfl),hc _ _ ((h5 3 (by decide)).trans rfl),hc _ _ ((h5 4 (by decide)).trans rfl),ndsL_own h3,ndsL_own h4⟩
theorem acRow_grown {T E:TypeId} {B g cap n:Nat} {W w1:World} {v:Value} {cs ds:List Ac} {vs us:List Value} (hT:T ≠ E) (h1:AcVs T B W cs vs) (h2:W.ownsRow B E 5 v cs.length vs) (h3:AcVs T B W ds us) (hg:W.grownBy w1 v.ownBlock) (hn:n = (cs ++ ds).length) (ho:w1.ownsRow B E 5 (.slice (some ⟨g,0,none⟩) n cap) n (vs ++ us)):AcRow T E B w1 (.slice (some ⟨g,0,none⟩) n cap) (cs ++ ds):=by
 subst hn
 exact ⟨vs ++ us,acVs_map (acVs_append h1 h3) fun u n xs hu=>grown_other hu h2 (own_apart hu h2 hT) hg,ho⟩
def NodesIs (ns:List Nd) (w:World) (e:Ending) (w':World):Prop:=∃ v,e = .returned v ∧ w'.ownsRow w.heap.size 241 7 v ns.length (ndsC ns) ∧ Below w.heap.size w w'
end Go.Proofs.YtfgpmcepppcmiaaGreatDoor
namespace Go.Proofs.YtfgpmcepppcmiaaGreatDoor
open Go.RowKit
structure KeptA (B tb ab:Nat) (w w':World):Prop where
 below:Below B w w'
 size:w.heap.size ≤ w'.heap.size
 block:∀ k,k < w.heap.size → k ≠ tb → k ≠ ab → w'.heap[k]? = w.heap[k]?
theorem keptA_below {B tb ab:Nat} {w w':World} (hb:Below w.heap.size w w') (hB:B ≤ w.heap.size):KeptA B tb ab w w':=⟨hb.mono hB,hb.size,fun k hk _ _=>hb.block k hk⟩
theorem keptA_trans {B tb ab:Nat} {w w1 w2:World} (h:KeptA B tb ab w w1) (k:KeptA B tb ab w1 w2):KeptA B tb ab w w2 :=
 ⟨h.below.trans k.below,Nat.le_trans h.size k.size,fun j hj h1 h2=>(k.block j (Nat.lt_of_lt_of_le hj h.size) h1 h2).trans (h.block j hj h1 h2)⟩
theorem keptA_set {B tb ab b i:Nat} {v:Value} {w:World} (hb:b = tb ∨ b = ab) (hB:B ≤ b):KeptA B tb ab w (w.setCell ⟨b,i,none⟩ v):=by
 refine ⟨(Below.refl B w).setCell (p:=⟨b,i,none⟩) hB _,Nat.le_of_eq (size_set _ _ _ _).symm,fun k _ h1 h2=>?_⟩
 rw [Below.heap_setCell _ _ _ _ (fun e=>by rcases hb with rfl | rfl <;> simp_all)]
theorem keptA_moved {B tb ab:Nat} {v:Value} {i:Nat} {w w':World} (hB:B ≤ tb) (hs:B ≤ w.heap.size) (hb:Below w.heap.size (w.setCell ⟨tb,i,none⟩ v) w'):KeptA B tb ab w w' :=
 keptA_trans (keptA_set (.inl rfl) hB) (keptA_below (by rw [size_set];exact hb) (by rw [size_set];exact hs))
theorem keptA_alloc {B tb ab:Nat} {w:World} {o:Obj} (hB:B ≤ w.heap.size):KeptA B tb ab w (w.alloc o):=keptA_below ((Below.refl _ w).alloc (Nat.le_refl _) _) hB
theorem keptA_blk {B tb ab b:Nat} {w w':World} {o:Obj} (h:KeptA B tb ab w w') (hb:w.heap[b]? = some o) (h1:b ≠ tb) (h2:b ≠ ab):w'.heap[b]? = some o :=
 (h.block b (Array.getElem?_eq_some_iff.1 hb).1 h1 h2).trans hb
theorem owns_keptA {B tb ab B' e s n:Nat} {v:Value} {xs:List Value} {w w':World} (h:w.ownsRow B' e s v n xs) (hk:KeptA B tb ab w w') (h1:v.ownBlock ≠ some tb) (h2:v.ownBlock ≠ some ab):w'.ownsRow B' e s v n xs:=by
 refine ⟨h.1,?_⟩
 rcases h.2 with hn | ⟨g,cap,cur,rfl,hg,hgg,rest⟩
 ·exact .inl hn
 ·refine .inr ⟨g,cap,cur,rfl,hg,?_,rest⟩
  exact keptA_blk hk hgg (fun e=>h1 (by subst e;rfl)) (fun e=>h2 (by subst e;rfl))
theorem blk_far {b c i:Nat} {v:Value} {w:World} {o:Option Obj} (h:w.heap[b]? = o) (hne:b ≠ c):(w.setCell ⟨c,i,none⟩ v).heap[b]? = o:=by
 rw [Below.heap_setCell _ _ _ _ (fun e=>hne (by simpa using e))]
 exact h
theorem blk_old {b:Nat} {w:World} {cs:Array Value} {t:TypeId} {fr:Nat × Nat} {o:Obj} (h:w.heap[b]? = some (.cells cs t fr)):(w.alloc o).heap[b]? = some (.cells cs t fr):=by
 rw [heap_alloc_old w o (lt_of_block h)]
 exact h
theorem five {w:World} {b:Nat} {t:TypeId} {v0 v1 v2 v3 v4:Value} (h:w.heap[b]? = some (.cells #[v0,v1,v2,v3,v4] t (0,0))) :
  w.cell? ⟨b,0,none⟩ = some v0 ∧ w.cell? ⟨b,1,none⟩ = some v1 ∧ w.cell? ⟨b,2,none⟩ = some v2 ∧ w.cell? ⟨b,3,none⟩ = some v3 ∧ w.cell? ⟨b,4,none⟩ = some v4 ∧ b < w.heap.size ∧ ∀ i,w.frozen? ⟨b,i,none⟩ = false:=by
 refine ⟨?_,?_,?_,?_,?_,lt_of_block h,fun i=>frozen_of_row w b i _ _ h⟩
 all_goals
  rw [cell_of_row w b _ _ _ _ h]
  rfl
theorem blk_moved {b c i:Nat} {v:Value} {w w':World} {cs:Array Value} {t:TypeId} {fr:Nat × Nat} (h:(w.setCell ⟨c,i,none⟩ v).heap[b]? = some (.cells cs t fr)) (hb:Below w.heap.size (w.setCell ⟨c,i,none⟩ v) w'):w'.heap[b]? = some (.cells cs t fr) :=
 (hb.block b (by rw [← size_set w c i v];exact lt_of_block h)).trans h
def restT (ts:List Tk) (cond:List Nd) (k:Int) (a:Nat):Except Int (Ac × Nat) :=
 if k = 5 then tailA ts cond 5 [] a
 else match eventAt (decide (1 < k)) ts a with
  | none => .error 11
  | some name=>tailA ts cond k name (a + 1)
theorem doA_rest (ts:List Tk) (cond:List Nd) (a:Nat):doA ts cond a = if actAt ts a = 0 then .error 11 else restT ts cond (actAt ts a) (a + 1):=by
 unfold doA restT
 split
 ·rfl
 ·split
  ·rfl
  ·rfl
abbrev tkrB (ao:Option Addr) (cap:Nat) (ts:List Tk) (a:Nat):Obj := .cells #[.slice ao ts.length cap,.int .i64 (a:Int)] 316 (0,0)
def RestIs (B tb ab:Nat) (ao:Option Addr) (cap:Nat) (ts:List Tk) (iv:Value) (x:Except Int (Ac × Nat)) (w:World) (e:Ending) (w':World):Prop :=
 match x with
 | .error x=>e = .returned (.int .i64 x) ∧ KeptA B tb ab w w'
 | .ok (c,n)=>∃ xo xc,e = .returned (.int .i64 0) ∧ KeptA B tb ab w w' ∧ w'.heap[tb]? = some (tkrB ao cap ts n) ∧
   w'.heap[ab]? = some (.cells #[.int .i64 c.kind,iv,.string ⟨c.name.toArray⟩,.slice xo c.x.length xc,.int .i64 c.n] 235 (0,0)) ∧ w'.ownsRow w.heap.size 239 7 (.slice xo c.x.length xc) c.x.length (ndsC c.x)
structure RestAt (w0:World) (tb ab:Nat) (ao:Option Addr) (cap:Nat) (ts:List Tk) (k:Nat) (io:Option Addr) (il ic:Nat) (a:Nat) (w:World):Prop where
 base:Base w0 ao ts
 tkr:TkrAt w0 tb ao cap ts a w
 act:w.heap[ab]? = some (.cells #[.int .i64 (k:Int),.slice io il ic,.string ⟨#[]⟩,.slice none 0 0,.int .i64 0] 235 (0,0))
 own:w0.heap.size ≤ ab
 ne:tb ≠ ab
set_option maxRecDepth 100000 in
set_option maxHeartbeats 2000000 in
theorem rest_event {w0:World} {tb ab:Nat} {ao:Option Addr} {cap:Nat} {ts:List Tk} {k:Nat} {io:Option Addr} {il ic a:Nat} (hk:k = 2 ∨ k = 4) (cond:List Nd) (w:World) (h:RestAt w0 tb ab ao cap ts k io il ic a w) :
  Calls Tryz.prog 222 #[.pointer (some ⟨tb,0,none⟩),.pointer (some ⟨ab,0,none⟩)] w (RestIs w0.heap.size tb ab ao cap ts (.slice io il ic) (restT ts cond k a) w):=by
 obtain ⟨b0,b1,b2,b3,b4,hab,_⟩:=five h.act
 have F:=Lib.hid (form_any k (by omega) (by omega) (.slice io il ic) (.string ⟨#[]⟩) (.slice none 0 0) (.int .i64 0) w (ax_below h.base.ax h.tkr.env).fg)
 obtain ⟨f0,hf⟩:∃ f0:ByteArray,formV k = .agg #[.string f0,.bool false,.bool true,.bool false,.bool false]:=by rcases hk with rfl | rfl <;> exact ⟨_,rfl⟩
 rw [hf] at F
 have N:=Lib.hid (fun wx (hT:wx.heap[tb]? = some (tkrB ao cap ts a)) (hk:KeptA w0.heap.size tb ab w wx)=>tname6_any true (.string f0) (.bool false) (.bool false) h.base wx ⟨hT,h.tkr.own,h.tkr.le,h.tkr.env.trans hk.below⟩)
 have hr:restT ts cond k a = match eventAt true ts a with | none => .error 11 | some name => .ok (⟨k,cond,name,[],0⟩,a + 1):=by
  unfold restT
  rw [if_neg (by omega),show decide (1 < (k:Int)) = true from decide_eq_true (by omega)]
  cases eventAt true ts a with
  | none=>rfl
  | some name =>
   simp only
   unfold tailA
   rw [if_neg (by omega),if_neg (by omega)]
 rw [hr]
 have hown:=h.own
 have hne:=h.ne
 have htown:=h.tkr.own
 have hT0:=h.tkr.blk
 have hA0:=h.act
 have hsz:w0.heap.size ≤ w.heap.size:=h.tkr.env.size
 have htl:=lt_of_block hT0
 clear hf hr h
 cases hev:eventAt true ts a with
 | none =>
  rw [hev] at N
  clear hev
  go_enter Tryz.func222,Tryz.ntmps222
  go_wp2_with fail
  refine (F.out).mono ?_
  intro e wf hr
  obtain ⟨rfl,hbf⟩:=hr
  have hTf:=blk_keep hT0 hbf
  have hAf:=blk_keep hA0 hbf
  have hKf:=keptA_below (B:=w0.heap.size) (tb:=tb) (ab:=ab) hbf hsz
  have hszf:w0.heap.size ≤ wf.heap.size:=Nat.le_trans hsz hbf.size
  have hne2:¬ ab = wf.heap.size:=by have:=hbf.size;omega
  have hne3:¬ tb = wf.heap.size:=by have:=hbf.size;omega
  clear hbf hT0 hA0 b0 b1 b2 b3 b4
  go_wp2_with fail
  refine (N.out _ (blk_old hTf) (keptA_trans hKf (keptA_alloc hszf))).mono ?_
  intro e w1 hr
  obtain ⟨rfl,hb⟩:=hr
  have hT1:=blk_keep (blk_old hTf) hb
  have hA1:=blk_keep (blk_old hAf) hb
  have hF1:=blk_keep (heap_alloc_new wf _) hb
  have hK1:=keptA_trans (keptA_trans hKf (keptA_alloc hszf)) (keptA_below (B:=w0.heap.size) (tb:=tb) (ab:=ab) hb (Nat.le_trans hsz (KeptA.size (keptA_trans hKf (keptA_alloc hszf)))))
  obtain ⟨d0,d1,d2,d3,d4,hdb,hdf⟩:=five hA1
  obtain ⟨g0,g1,g2,g3,g4,hgb,hgf⟩:=five hF1
  have q2:=hdf 2
  have q3:=hdf 3
  have q4:=hdf 4
  have i1:InW ab w1:=⟨hdb⟩
  have i2:InW wf.heap.size w1:=⟨hgb⟩
  have i3:InW tb w1:=⟨lt_of_block hT1⟩
  clear hb hdf hgf
  clear N
  have hfin:=Lib.hid (keptA_trans hK1 (keptA_set (B:=w0.heap.size) (tb:=tb) (i:=2) (v:=(.string ⟨#[]⟩)) (.inr rfl) hown))
  clear hT1 hA1 hF1 hK1 hTf hAf hKf
  go_wp2
  go_returns
  exact ⟨rfl,hfin.out⟩
 | some name =>
  rw [hev] at N
  clear hev
  go_enter Tryz.func222,Tryz.ntmps222
  go_wp2_with fail
  refine (F.out).mono ?_
  intro e wf hr
  obtain ⟨rfl,hbf⟩:=hr
  have hTf:=blk_keep hT0 hbf
  have hAf:=blk_keep hA0 hbf
  have hKf:=keptA_below (B:=w0.heap.size) (tb:=tb) (ab:=ab) hbf hsz
  have hszf:w0.heap.size ≤ wf.heap.size:=Nat.le_trans hsz hbf.size
  have hne2:¬ ab = wf.heap.size:=by have:=hbf.size;omega
  have hne3:¬ tb = wf.heap.size:=by have:=hbf.size;omega
  clear hbf hT0 hA0 b0 b1 b2 b3 b4
  go_wp2_with fail
  refine (N.out _ (blk_old hTf) (keptA_trans hKf (keptA_alloc hszf))).mono ?_
  intro e w1 hr
  obtain ⟨rfl,hb⟩:=hr
  have hT1:=blk_moved (blk_set (blk_old hTf)) hb
  have hA1:=blk_moved (blk_far (blk_old hAf) hne.symm) hb
  have hF1:=blk_moved (blk_far (heap_alloc_new wf _) (Ne.symm hne3)) hb
  have hK1:=keptA_trans (keptA_trans hKf (keptA_alloc hszf)) (keptA_moved (B:=w0.heap.size) (ab:=ab) htown (Nat.le_trans hsz (KeptA.size (keptA_trans hKf (keptA_alloc hszf)))) hb)
  obtain ⟨d0,d1,d2,d3,d4,hdb,hdf⟩:=five hA1
  obtain ⟨g0,g1,g2,g3,g4,hgb,hgf⟩:=five hF1
  have q2:=hdf 2
  have q3:=hdf 3
  have q4:=hdf 4
  have i1:InW ab w1:=⟨hdb⟩
  have i2:InW wf.heap.size w1:=⟨hgb⟩
  have i3:InW tb w1:=⟨lt_of_block hT1⟩
  clear hb hdf hgf
  clear N
  have hfinK:=Lib.hid (keptA_trans hK1 (keptA_set (B:=w0.heap.size) (tb:=tb) (i:=2) (v:=(.string ⟨name.toArray⟩)) (.inr rfl) hown))
  have hfinT:=Lib.hid (blk_far (i:=2) (v:=(.string ⟨name.toArray⟩)) hT1 hne)
  have hfinA:=Lib.hid (blk_set (i:=2) (u:=(.string ⟨name.toArray⟩)) hA1)
  skip
  clear hT1 hA1 hF1 hK1 hTf hAf hKf
  go_wp2
  go_returns
  exact ⟨none,0,rfl,hfinK.out,hfinT.out,hfinA.out,World.ownsRow_nil _ _ _ _⟩
set_option maxRecDepth 100000 in
set_option maxHeartbeats 2000000 in
theorem rest_set {w0:World} {tb ab:Nat} {ao:Option Addr} {cap:Nat} {ts:List Tk} {k:Nat} {io:Option Addr} {il ic a:Nat} (hk:k = 1) (cond:List Nd) (w:World) (h:RestAt w0 tb ab ao cap ts k io il ic a w) :
  Calls Tryz.prog 222 #[.pointer (some ⟨tb,0,none⟩),.pointer (some ⟨ab,0,none⟩)] w (RestIs w0.heap.size tb ab ao cap ts (.slice io il ic) (restT ts cond k a) w):=by
 subst hk
 obtain ⟨b0,b1,b2,b3,b4,hab,_⟩:=five h.act
 have F:=Lib.hid (form_any 1 (by omega) (by omega) (.slice io il ic) (.string ⟨#[]⟩) (.slice none 0 0) (.int .i64 0) w (ax_below h.base.ax h.tkr.env).fg)
 obtain ⟨f0,hf⟩:∃ f0:ByteArray,formV 1 = .agg #[.string f0,.bool true,.bool false,.bool true,.bool false]:=⟨_,rfl⟩
 rw [hf] at F
 have N:=Lib.hid (fun wx (hT:wx.heap[tb]? = some (tkrB ao cap ts a)) (hk:KeptA w0.heap.size tb ab w wx)=>tname6_any false (.string f0) (.bool true) (.bool false) h.base wx ⟨hT,h.tkr.own,h.tkr.le,h.tkr.env.trans hk.below⟩)
 have hr:restT ts cond (1:Nat) a = match eventAt false ts a with | none => .error 11 | some name=>(match parseT ts ((a + 1:Nat):Int) with | .error x => .error x | .ok (ns,n) => .ok (⟨1,cond,name,ns,0⟩,n)):=by
  unfold restT
  rw [if_neg (by decide),show decide (1 < ((1:Nat):Int)) = false from rfl]
  cases eventAt false ts a with
  | none=>rfl
  | some name =>
   simp only
   unfold tailA
   rw [if_pos (.inl rfl)]
   rfl
 rw [hr]
 have hown:=h.own
 have hne:=h.ne
 have htown:=h.tkr.own
 have hT0:=h.tkr.blk
 have hA0:=h.act
 have hsz:w0.heap.size ≤ w.heap.size:=h.tkr.env.size
 have htl:=lt_of_block hT0
 cases hev:eventAt false ts a with
 | none =>
  rw [hev] at N
  clear hev hf hr h
  go_enter Tryz.func222,Tryz.ntmps222
  go_wp2_with fail
  refine (F.out).mono ?_
  intro e wf hr
  obtain ⟨rfl,hbf⟩:=hr
  have hTf:=blk_keep hT0 hbf
  have hAf:=blk_keep hA0 hbf
  have hKf:=keptA_below (B:=w0.heap.size) (tb:=tb) (ab:=ab) hbf hsz
  have hszf:w0.heap.size ≤ wf.heap.size:=Nat.le_trans hsz hbf.size
  have hne2:¬ ab = wf.heap.size:=by have:=hbf.size;omega
  have hne3:¬ tb = wf.heap.size:=by have:=hbf.size;omega
  clear hbf hT0 hA0 b0 b1 b2 b3 b4
  go_wp2_with fail
  refine (N.out _ (blk_old hTf) (keptA_trans hKf (keptA_alloc hszf))).mono ?_
  intro e w1 hr
  obtain ⟨rfl,hb⟩:=hr
  have hT1:=blk_keep (blk_old hTf) hb
  have hA1:=blk_keep (blk_old hAf) hb
  have hF1:=blk_keep (heap_alloc_new wf _) hb
  have hK1:=keptA_trans (keptA_trans hKf (keptA_alloc hszf)) (keptA_below (B:=w0.heap.size) (tb:=tb) (ab:=ab) hb (Nat.le_trans hsz (KeptA.size (keptA_trans hKf (keptA_alloc hszf)))))
  obtain ⟨d0,d1,d2,d3,d4,hdb,hdf⟩:=five hA1
  obtain ⟨g0,g1,g2,g3,g4,hgb,hgf⟩:=five hF1
  have q2:=hdf 2
  have q3:=hdf 3
  have q4:=hdf 4
  have i1:InW ab w1:=⟨hdb⟩
  have i2:InW wf.heap.size w1:=⟨hgb⟩
  have i3:InW tb w1:=⟨lt_of_block hT1⟩
  clear hb hdf hgf
  clear N
  have hfin:=Lib.hid (keptA_trans hK1 (keptA_set (B:=w0.heap.size) (tb:=tb) (i:=2) (v:=(.string ⟨#[]⟩)) (.inr rfl) hown))
  clear hT1 hA1 hF1 hK1 hTf hAf hKf
  go_wp2
  go_returns
  exact ⟨rfl,hfin.out⟩
 | some name =>
  have hlt:=eventAt_lt hev
  rw [hev] at N
  have X:=Lib.hid (fun wx (hT:wx.heap[tb]? = some (tkrB ao cap ts (a + 1))) (hk:KeptA w0.heap.size tb ab w wx)=>texpr_any h.base wx ⟨hT,h.tkr.own,hlt,h.tkr.env.trans hk.below⟩)
  clear hev hf hr h
  cases hp:parseT ts ((a + 1:Nat):Int) with
  | error x =>
   rw [hp] at X
   have hx:=parseT_nz hp
   have hx2:(x == 0) = false:=by
    rw [bne,Bool.not_eq_true'] at hx
    exact hx
   clear hp
   go_enter Tryz.func222,Tryz.ntmps222
   go_wp2_with fail
   refine (F.out).mono ?_
   intro e wf hr
   obtain ⟨rfl,hbf⟩:=hr
   have hTf:=blk_keep hT0 hbf
   have hAf:=blk_keep hA0 hbf
   have hKf:=keptA_below (B:=w0.heap.size) (tb:=tb) (ab:=ab) hbf hsz
   have hszf:w0.heap.size ≤ wf.heap.size:=Nat.le_trans hsz hbf.size
   have hne2:¬ ab = wf.heap.size:=by have:=hbf.size;omega
   have hne3:¬ tb = wf.heap.size:=by have:=hbf.size;omega
   clear hbf hT0 hA0 b0 b1 b2 b3 b4
   go_wp2_with fail
   refine (N.out _ (blk_old hTf) (keptA_trans hKf (keptA_alloc hszf))).mono ?_
   intro e w1 hr
   obtain ⟨rfl,hb⟩:=hr
   have hT1:=blk_moved (blk_set (blk_old hTf)) hb
   have hA1:=blk_moved (blk_far (blk_old hAf) hne.symm) hb
   have hF1:=blk_moved (blk_far (heap_alloc_new wf _) (Ne.symm hne3)) hb
   have hK1:=keptA_trans (keptA_trans hKf (keptA_alloc hszf)) (keptA_moved (B:=w0.heap.size) (ab:=ab) htown (Nat.le_trans hsz (KeptA.size (keptA_trans hKf (keptA_alloc hszf)))) hb)
   obtain ⟨d0,d1,d2,d3,d4,hdb,hdf⟩:=five hA1
   obtain ⟨g0,g1,g2,g3,g4,hgb,hgf⟩:=five hF1
   have q2:=hdf 2
   have q3:=hdf 3
   have q4:=hdf 4
   have i1:InW ab w1:=⟨hdb⟩
   have i2:InW wf.heap.size w1:=⟨hgb⟩
   have i3:InW tb w1:=⟨lt_of_block hT1⟩
   clear hb hdf hgf
   have hT2:=blk_far (i:=2) (v:=(.string ⟨name.toArray⟩)) hT1 hne
   have hA2:=blk_set (i:=2) (u:=(.string ⟨name.toArray⟩)) hA1
   have hF2:=blk_far (i:=2) (v:=(.string ⟨name.toArray⟩)) hF1 (Ne.symm hne2)
   have hK2:=keptA_trans hK1 (keptA_set (B:=w0.heap.size) (tb:=tb) (i:=2) (v:=(.string ⟨name.toArray⟩)) (.inr rfl) hown)
   clear N hT1 hA1 hF1 hK1
   go_wp2_with fail
   clear d0 d1 d2 d3 d4 g0 g1 g2 g3 g4 i1 i2 i3 q2 q3 q4 hdb hgb
   refine (X.out _ (hT2) (hK2)).mono ?_
   intro e w3 hr
   obtain ⟨rfl,hb⟩:=hr
   have hT3:=blk_keep (hT2) hb
   have hA3:=blk_keep (hA2) hb
   have hF3:=blk_keep (hF2) hb
   have hK3:=keptA_trans (hK2) (keptA_below (B:=w0.heap.size) (tb:=tb) (ab:=ab) hb (Nat.le_trans hsz (KeptA.size (hK2))))
   obtain ⟨d0,d1,d2,d3,d4,hdb,hdf⟩:=five hA3
   obtain ⟨g0,g1,g2,g3,g4,hgb,hgf⟩:=five hF3
   have q2:=hdf 2
   have q3:=hdf 3
   have q4:=hdf 4
   have i1:InW ab w3:=⟨hdb⟩
   have i2:InW wf.heap.size w3:=⟨hgb⟩
   have i3:InW tb w3:=⟨lt_of_block hT3⟩
   clear hb hdf hgf
   clear X hT2 hA2 hF2 hK2
   have hfin:=Lib.hid (keptA_trans hK3 (keptA_set (B:=w0.heap.size) (tb:=tb) (i:=3) (v:=(.slice none 0 0)) (.inr rfl) hown))
   clear hT3 hA3 hF3 hK3 hTf hAf hKf
   go_wp2
   go_returns
   exact ⟨rfl,hfin.out⟩
  | ok p =>
   obtain ⟨ns,n⟩:=p
   rw [hp] at X
   clear hp
   go_enter Tryz.func222,Tryz.ntmps222
   go_wp2_with fail
   refine (F.out).mono ?_
   intro e wf hr
   obtain ⟨rfl,hbf⟩:=hr
   have hTf:=blk_keep hT0 hbf
   have hAf:=blk_keep hA0 hbf
   have hKf:=keptA_below (B:=w0.heap.size) (tb:=tb) (ab:=ab) hbf hsz
   have hszf:w0.heap.size ≤ wf.heap.size:=Nat.le_trans hsz hbf.size
   have hne2:¬ ab = wf.heap.size:=by have:=hbf.size;omega
   have hne3:¬ tb = wf.heap.size:=by have:=hbf.size;omega
   clear hbf hT0 hA0 b0 b1 b2 b3 b4
   go_wp2_with fail
   refine (N.out _ (blk_old hTf) (keptA_trans hKf (keptA_alloc hszf))).mono ?_
   intro e w1 hr
   obtain ⟨rfl,hb⟩:=hr
   have hT1:=blk_moved (blk_set (blk_old hTf)) hb
   have hA1:=blk_moved (blk_far (blk_old hAf) hne.symm) hb
   have hF1:=blk_moved (blk_far (heap_alloc_new wf _) (Ne.symm hne3)) hb
   have hK1:=keptA_trans (keptA_trans hKf (keptA_alloc hszf)) (keptA_moved (B:=w0.heap.size) (ab:=ab) htown (Nat.le_trans hsz (KeptA.size (keptA_trans hKf (keptA_alloc hszf)))) hb)
   obtain ⟨d0,d1,d2,d3,d4,hdb,hdf⟩:=five hA1
   obtain ⟨g0,g1,g2,g3,g4,hgb,hgf⟩:=five hF1
   have q2:=hdf 2
   have q3:=hdf 3
   have q4:=hdf 4
   have i1:InW ab w1:=⟨hdb⟩
   have i2:InW wf.heap.size w1:=⟨hgb⟩
   have i3:InW tb w1:=⟨lt_of_block hT1⟩
   clear hb hdf hgf
   have hT2:=blk_far (i:=2) (v:=(.string ⟨name.toArray⟩)) hT1 hne
   have hA2:=blk_set (i:=2) (u:=(.string ⟨name.toArray⟩)) hA1
   have hF2:=blk_far (i:=2) (v:=(.string ⟨name.toArray⟩)) hF1 (Ne.symm hne2)
   have hK2:=keptA_trans hK1 (keptA_set (B:=w0.heap.size) (tb:=tb) (i:=2) (v:=(.string ⟨name.toArray⟩)) (.inr rfl) hown)
   clear N hT1 hA1 hF1 hK1
   go_wp2_with fail
   clear d0 d1 d2 d3 d4 g0 g1 g2 g3 g4 i1 i2 i3 q2 q3 q4 hdb hgb
   refine (X.out _ (hT2) (hK2)).mono ?_
   intro e w3 hr
   obtain ⟨v,rfl,hown3,hb⟩:=hr
   obtain ⟨xo,xc,hv⟩:=own_form hown3
   subst hv
   have hT3:=blk_moved (blk_set (hT2)) hb
   have hA3:=blk_moved (blk_far (hA2) hne.symm) hb
   have hF3:=blk_moved (blk_far (hF2) (Ne.symm hne3)) hb
   have hK3:=keptA_trans (hK2) (keptA_moved (B:=w0.heap.size) (ab:=ab) htown (Nat.le_trans hsz (KeptA.size (hK2))) hb)
   obtain ⟨d0,d1,d2,d3,d4,hdb,hdf⟩:=five hA3
   obtain ⟨g0,g1,g2,g3,g4,hgb,hgf⟩:=five hF3
   have q2:=hdf 2
   have q3:=hdf 3
   have q4:=hdf 4
   have i1:InW ab w3:=⟨hdb⟩
   have i2:InW wf.heap.size w3:=⟨hgb⟩
   have i3:InW tb w3:=⟨lt_of_block hT3⟩
   clear hb hdf hgf
   clear X hT2 hA2 hF2
   have hfinK:=Lib.hid (keptA_trans hK3 (keptA_set (B:=w0.heap.size) (tb:=tb) (i:=3) (v:=(.slice xo ns.length xc)) (.inr rfl) hown))
   have hfinT:=Lib.hid (blk_far (i:=3) (v:=(.slice xo ns.length xc)) hT3 hne)
   have hfinA:=Lib.hid (blk_set (i:=3) (u:=(.slice xo ns.length xc)) hA3)
   have hfinX:=Lib.hid (owns_base (B':=w.heap.size) (ownsRow_setCell_other (a:=⟨ab,3,none⟩) hown3 (own_ne hown3 hA3 (by decide)) (.slice xo ns.length xc)) (KeptA.size (hK2)))
   clear hown3
   clear hT3 hA3 hF3 hK3 hTf hAf hKf
   go_wp2
   go_returns
   exact ⟨_,_,rfl,hfinK.out,hfinT.out,hfinA.out,hfinX.out⟩
set_option maxRecDepth 100000 in
set_option maxHeartbeats 2000000 in
theorem rest_log {w0:World} {tb ab:Nat} {ao:Option Addr} {cap:Nat} {ts:List Tk} {k:Nat} {io:Option Addr} {il ic a:Nat} (hk:k = 5) (cond:List Nd) (w:World) (h:RestAt w0 tb ab ao cap ts k io il ic a w) :
  Calls Tryz.prog 222 #[.pointer (some ⟨tb,0,none⟩),.pointer (some ⟨ab,0,none⟩)] w (RestIs w0.heap.size tb ab ao cap ts (.slice io il ic) (restT ts cond k a) w):=by
 subst hk
 obtain ⟨b0,b1,b2,b3,b4,hab,_⟩:=five h.act
 have F:=Lib.hid (form_any 5 (by omega) (by omega) (.slice io il ic) (.string ⟨#[]⟩) (.slice none 0 0) (.int .i64 0) w (ax_below h.base.ax h.tkr.env).fg)
 obtain ⟨f0,hf⟩:∃ f0:ByteArray,formV 5 = .agg #[.string f0,.bool false,.bool false,.bool true,.bool false]:=⟨_,rfl⟩
 rw [hf] at F
 have X:=Lib.hid (fun wx (hT:wx.heap[tb]? = some (tkrB ao cap ts a)) (hk:KeptA w0.heap.size tb ab w wx)=>texpr_any h.base wx ⟨hT,h.tkr.own,h.tkr.le,h.tkr.env.trans hk.below⟩)
 have hr:restT ts cond (5:Nat) a = match parseT ts (a:Int) with | .error x => .error x | .ok (ns,n) => .ok (⟨5,cond,[],ns,0⟩,n):=by
  unfold restT
  rw [if_pos (by rfl)]
  unfold tailA
  rw [if_pos (.inr rfl)]
  cases parseT ts (a:Int) <;> rfl
 rw [hr]
 have hown:=h.own
 have hne:=h.ne
 have htown:=h.tkr.own
 have hT0:=h.tkr.blk
 have hA0:=h.act
 have hsz:w0.heap.size ≤ w.heap.size:=h.tkr.env.size
 have htl:=lt_of_block hT0
 clear hf hr h
 cases hp:parseT ts (a:Int) with
 | error x =>
  rw [hp] at X
  have hx:=parseT_nz hp
  have hx2:(x == 0) = false:=by
   rw [bne,Bool.not_eq_true'] at hx
   exact hx
  clear hp
  go_enter Tryz.func222,Tryz.ntmps222
  go_wp2_with fail
  refine (F.out).mono ?_
  intro e wf hr
  obtain ⟨rfl,hbf⟩:=hr
  have hTf:=blk_keep hT0 hbf
  have hAf:=blk_keep hA0 hbf
  have hKf:=keptA_below (B:=w0.heap.size) (tb:=tb) (ab:=ab) hbf hsz
  have hszf:w0.heap.size ≤ wf.heap.size:=Nat.le_trans hsz hbf.size
  have hne2:¬ ab = wf.heap.size:=by have:=hbf.size;omega
  have hne3:¬ tb = wf.heap.size:=by have:=hbf.size;omega
  clear hbf hT0 hA0 b0 b1 b2 b3 b4
  go_wp2_with fail
  refine (X.out _ (blk_old hTf) (keptA_trans hKf (keptA_alloc hszf))).mono ?_
  intro e w1 hr
  obtain ⟨rfl,hb⟩:=hr
  have hT1:=blk_keep (blk_old hTf) hb
  have hA1:=blk_keep (blk_old hAf) hb
  have hF1:=blk_keep (heap_alloc_new wf _) hb
  have hK1:=keptA_trans (keptA_trans hKf (keptA_alloc hszf)) (keptA_below (B:=w0.heap.size) (tb:=tb) (ab:=ab) hb (Nat.le_trans hsz (KeptA.size (keptA_trans hKf (keptA_alloc hszf)))))
  obtain ⟨d0,d1,d2,d3,d4,hdb,hdf⟩:=five hA1
  obtain ⟨g0,g1,g2,g3,g4,hgb,hgf⟩:=five hF1
  have q2:=hdf 2
  have q3:=hdf 3
  have q4:=hdf 4
  have i1:InW ab w1:=⟨hdb⟩
  have i2:InW wf.heap.size w1:=⟨hgb⟩
  have i3:InW tb w1:=⟨lt_of_block hT1⟩
  clear hb hdf hgf
  clear X
  have hfin:=Lib.hid (keptA_trans hK1 (keptA_set (B:=w0.heap.size) (tb:=tb) (i:=3) (v:=(.slice none 0 0)) (.inr rfl) hown))
  clear hT1 hA1 hF1 hK1 hTf hAf hKf
  go_wp2
  go_returns
  exact ⟨rfl,hfin.out⟩
 | ok p =>
  obtain ⟨ns,n⟩:=p
  rw [hp] at X
  clear hp
  go_enter Tryz.func222,Tryz.ntmps222
  go_wp2_with fail
  refine (F.out).mono ?_
  intro e wf hr
  obtain ⟨rfl,hbf⟩:=hr
  have hTf:=blk_keep hT0 hbf
  have hAf:=blk_keep hA0 hbf
  have hKf:=keptA_below (B:=w0.heap.size) (tb:=tb) (ab:=ab) hbf hsz
  have hszf:w0.heap.size ≤ wf.heap.size:=Nat.le_trans hsz hbf.size
  have hne2:¬ ab = wf.heap.size:=by have:=hbf.size;omega
  have hne3:¬ tb = wf.heap.size:=by have:=hbf.size;omega
  have hwf:=hbf.size
  clear hbf hT0 hA0 b0 b1 b2 b3 b4
  go_wp2_with fail
  refine (X.out _ (blk_old hTf) (keptA_trans hKf (keptA_alloc hszf))).mono ?_
  intro e w1 hr
  obtain ⟨v,rfl,hown1,hb⟩:=hr
  obtain ⟨xo,xc,hv⟩:=own_form hown1
  subst hv
  have hT1:=blk_moved (blk_set (blk_old hTf)) hb
  have hA1:=blk_moved (blk_far (blk_old hAf) hne.symm) hb
  have hF1:=blk_moved (blk_far (heap_alloc_new wf _) (Ne.symm hne3)) hb
  have hK1:=keptA_trans (keptA_trans hKf (keptA_alloc hszf)) (keptA_moved (B:=w0.heap.size) (ab:=ab) htown (Nat.le_trans hsz (KeptA.size (keptA_trans hKf (keptA_alloc hszf)))) hb)
  obtain ⟨d0,d1,d2,d3,d4,hdb,hdf⟩:=five hA1
  obtain ⟨g0,g1,g2,g3,g4,hgb,hgf⟩:=five hF1
  have q2:=hdf 2
  have q3:=hdf 3
  have q4:=hdf 4
  have i1:InW ab w1:=⟨hdb⟩
  have i2:InW wf.heap.size w1:=⟨hgb⟩
  have i3:InW tb w1:=⟨lt_of_block hT1⟩
  clear hb hdf hgf
  clear X
  have hfinK:=Lib.hid (keptA_trans hK1 (keptA_set (B:=w0.heap.size) (tb:=tb) (i:=3) (v:=(.slice xo ns.length xc)) (.inr rfl) hown))
  have hfinT:=Lib.hid (blk_far (i:=3) (v:=(.slice xo ns.length xc)) hT1 hne)
  have hfinA:=Lib.hid (blk_set (i:=3) (u:=(.slice xo ns.length xc)) hA1)
  have hfinX:=Lib.hid (owns_base (B':=w.heap.size) (ownsRow_setCell_other (a:=⟨ab,3,none⟩) hown1 (own_ne hown1 hA1 (by decide)) (.slice xo ns.length xc)) (by simp;omega))
  clear hown1
  clear hT1 hA1 hF1 hK1 hTf hAf hKf
  go_wp2
  go_returns
  exact ⟨_,_,rfl,hfinK.out,hfinT.out,hfinA.out,hfinX.out⟩
set_option maxRecDepth 100000 in
set_option maxHeartbeats 2000000 in
theorem rest_send {w0:World} {tb ab:Nat} {ao:Option Addr} {cap:Nat} {ts:List Tk} {k:Nat} {io:Option Addr} {il ic a:Nat} (hk:k = 3) (cond:List Nd) (w:World) (h:RestAt w0 tb ab ao cap ts k io il ic a w) :
  Calls Tryz.prog 222 #[.pointer (some ⟨tb,0,none⟩),.pointer (some ⟨ab,0,none⟩)] w (RestIs w0.heap.size tb ab ao cap ts (.slice io il ic) (restT ts cond k a) w):=by
 subst hk
 obtain ⟨b0,b1,b2,b3,b4,hab,_⟩:=five h.act
 have F:=Lib.hid (form_any 3 (by omega) (by omega) (.slice io il ic) (.string ⟨#[]⟩) (.slice none 0 0) (.int .i64 0) w (ax_below h.base.ax h.tkr.env).fg)
 obtain ⟨f0,hf⟩:∃ f0:ByteArray,formV 3 = .agg #[.string f0,.bool false,.bool true,.bool false,.bool true]:=⟨_,rfl⟩
 rw [hf] at F
 have N:=Lib.hid (fun wx (hT:wx.heap[tb]? = some (tkrB ao cap ts a)) (hk:KeptA w0.heap.size tb ab w wx)=>tname6_any true (.string f0) (.bool false) (.bool true) h.base wx ⟨hT,h.tkr.own,h.tkr.le,h.tkr.env.trans hk.below⟩)
 have hr:restT ts cond (3:Nat) a = match eventAt true ts a with | none => .error 11 | some name=>(match numAt ts (a + 1) with | none => .error 11 | some n=>if 1048576 < n then .error 10 else .ok (⟨3,cond,name,[],n⟩,a + 1 + 1)):=by
  unfold restT
  rw [if_neg (by decide),show decide (1 < ((3:Nat):Int)) = true from rfl]
  cases eventAt true ts a with
  | none=>rfl
  | some name =>
   simp only
   unfold tailA
   rw [if_neg (by decide),if_pos (by rfl)]
   rfl
 rw [hr]
 have hown:=h.own
 have hne:=h.ne
 have htown:=h.tkr.own
 have hT0:=h.tkr.blk
 have hA0:=h.act
 have hsz:w0.heap.size ≤ w.heap.size:=h.tkr.env.size
 have htl:=lt_of_block hT0
 cases hev:eventAt true ts a with
 | none =>
  rw [hev] at N
  clear hev hf hr h
  go_enter Tryz.func222,Tryz.ntmps222
  go_wp2_with fail
  refine (F.out).mono ?_
  intro e wf hr
  obtain ⟨rfl,hbf⟩:=hr
  have hTf:=blk_keep hT0 hbf
  have hAf:=blk_keep hA0 hbf
  have hKf:=keptA_below (B:=w0.heap.size) (tb:=tb) (ab:=ab) hbf hsz
  have hszf:w0.heap.size ≤ wf.heap.size:=Nat.le_trans hsz hbf.size
  have hne2:¬ ab = wf.heap.size:=by have:=hbf.size;omega
  have hne3:¬ tb = wf.heap.size:=by have:=hbf.size;omega
  clear hbf hT0 hA0 b0 b1 b2 b3 b4
  go_wp2_with fail
  refine (N.out _ (blk_old hTf) (keptA_trans hKf (keptA_alloc hszf))).mono ?_
  intro e w1 hr
  obtain ⟨rfl,hb⟩:=hr
  have hT1:=blk_keep (blk_old hTf) hb
  have hA1:=blk_keep (blk_old hAf) hb
  have hF1:=blk_keep (heap_alloc_new wf _) hb
  have hK1:=keptA_trans (keptA_trans hKf (keptA_alloc hszf)) (keptA_below (B:=w0.heap.size) (tb:=tb) (ab:=ab) hb (Nat.le_trans hsz (KeptA.size (keptA_trans hKf (keptA_alloc hszf)))))
  obtain ⟨d0,d1,d2,d3,d4,hdb,hdf⟩:=five hA1
  obtain ⟨g0,g1,g2,g3,g4,hgb,hgf⟩:=five hF1
  have q2:=hdf 2
  have q3:=hdf 3
  have q4:=hdf 4
  have i1:InW ab w1:=⟨hdb⟩
  have i2:InW wf.heap.size w1:=⟨hgb⟩
  have i3:InW tb w1:=⟨lt_of_block hT1⟩
  clear hb hdf hgf
  clear N
  have hfin:=Lib.hid (keptA_trans hK1 (keptA_set (B:=w0.heap.size) (tb:=tb) (i:=2) (v:=(.string ⟨#[]⟩)) (.inr rfl) hown))
  clear hT1 hA1 hF1 hK1 hTf hAf hKf
  go_wp2
  go_returns
  exact ⟨rfl,hfin.out⟩
 | some name =>
  have hlt:=eventAt_lt hev
  rw [hev] at N
  have U:=Lib.hid (fun wx (hT:wx.heap[tb]? = some (tkrB ao cap ts (a + 1))) (hk:KeptA w0.heap.size tb ab w wx)=>tnum_any h.base wx ⟨hT,h.tkr.own,hlt,h.tkr.env.trans hk.below⟩)
  clear hev hf hr h
  cases hp:numAt ts (a + 1) with
  | none =>
   rw [hp] at U
   clear hp
   go_enter Tryz.func222,Tryz.ntmps222
   go_wp2_with fail
   refine (F.out).mono ?_
   intro e wf hr
   obtain ⟨rfl,hbf⟩:=hr
   have hTf:=blk_keep hT0 hbf
   have hAf:=blk_keep hA0 hbf
   have hKf:=keptA_below (B:=w0.heap.size) (tb:=tb) (ab:=ab) hbf hsz
   have hszf:w0.heap.size ≤ wf.heap.size:=Nat.le_trans hsz hbf.size
   have hne2:¬ ab = wf.heap.size:=by have:=hbf.size;omega
   have hne3:¬ tb = wf.heap.size:=by have:=hbf.size;omega
   clear hbf hT0 hA0 b0 b1 b2 b3 b4
   go_wp2_with fail
   refine (N.out _ (blk_old hTf) (keptA_trans hKf (keptA_alloc hszf))).mono ?_
   intro e w1 hr
   obtain ⟨rfl,hb⟩:=hr
   have hT1:=blk_moved (blk_set (blk_old hTf)) hb
   have hA1:=blk_moved (blk_far (blk_old hAf) hne.symm) hb
   have hF1:=blk_moved (blk_far (heap_alloc_new wf _) (Ne.symm hne3)) hb
   have hK1:=keptA_trans (keptA_trans hKf (keptA_alloc hszf)) (keptA_moved (B:=w0.heap.size) (ab:=ab) htown (Nat.le_trans hsz (KeptA.size (keptA_trans hKf (keptA_alloc hszf)))) hb)
   obtain ⟨d0,d1,d2,d3,d4,hdb,hdf⟩:=five hA1
   obtain ⟨g0,g1,g2,g3,g4,hgb,hgf⟩:=five hF1
   have q2:=hdf 2
   have q3:=hdf 3
   have q4:=hdf 4
   have i1:InW ab w1:=⟨hdb⟩
   have i2:InW wf.heap.size w1:=⟨hgb⟩
   have i3:InW tb w1:=⟨lt_of_block hT1⟩
   clear hb hdf hgf
   have hT2:=blk_far (i:=2) (v:=(.string ⟨name.toArray⟩)) hT1 hne
   have hA2:=blk_set (i:=2) (u:=(.string ⟨name.toArray⟩)) hA1
   have hF2:=blk_far (i:=2) (v:=(.string ⟨name.toArray⟩)) hF1 (Ne.symm hne2)
   have hK2:=keptA_trans hK1 (keptA_set (B:=w0.heap.size) (tb:=tb) (i:=2) (v:=(.string ⟨name.toArray⟩)) (.inr rfl) hown)
   clear N hT1 hA1 hF1 hK1
   go_wp2_with fail
   clear d0 d1 d2 d3 d4 g0 g1 g2 g3 g4 i1 i2 i3 q2 q3 q4 hdb hgb
   refine (U.out _ (hT2) (hK2)).mono ?_
   intro e w3 hr
   obtain ⟨rfl,hb⟩:=hr
   have hT3:=blk_keep (hT2) hb
   have hA3:=blk_keep (hA2) hb
   have hF3:=blk_keep (hF2) hb
   have hK3:=keptA_trans (hK2) (keptA_below (B:=w0.heap.size) (tb:=tb) (ab:=ab) hb (Nat.le_trans hsz (KeptA.size (hK2))))
   obtain ⟨d0,d1,d2,d3,d4,hdb,hdf⟩:=five hA3
   obtain ⟨g0,g1,g2,g3,g4,hgb,hgf⟩:=five hF3
   have q2:=hdf 2
   have q3:=hdf 3
   have q4:=hdf 4
   have i1:InW ab w3:=⟨hdb⟩
   have i2:InW wf.heap.size w3:=⟨hgb⟩
   have i3:InW tb w3:=⟨lt_of_block hT3⟩
   clear hb hdf hgf
   clear U hT2 hA2 hF2 hK2
   have hfin:=Lib.hid (keptA_trans hK3 (keptA_set (B:=w0.heap.size) (tb:=tb) (i:=4) (v:=(.int .i64 0)) (.inr rfl) hown))
   clear hT3 hA3 hF3 hK3 hTf hAf hKf
   go_wp2
   go_returns
   exact ⟨rfl,hfin.out⟩
  | some n =>
   rw [hp] at U
   clear hp
   by_cases hn:1048576 < n
   ·have U2:=Lib.hid (fun wx hT hk=>(U.out wx hT hk).mono fun e w' hr=>(show e = .returned (.tuple #[.int .i64 0,.int .i64 10]) ∧ Below wx.heap.size wx w' from by
     unfold TNumIs at hr
     simp only at hr
     rw [if_pos hn] at hr
     exact hr))
    simp only
    rw [if_pos hn]
    clear U
    go_enter Tryz.func222,Tryz.ntmps222
    go_wp2_with fail
    refine (F.out).mono ?_
    intro e wf hr
    obtain ⟨rfl,hbf⟩:=hr
    have hTf:=blk_keep hT0 hbf
    have hAf:=blk_keep hA0 hbf
    have hKf:=keptA_below (B:=w0.heap.size) (tb:=tb) (ab:=ab) hbf hsz
    have hszf:w0.heap.size ≤ wf.heap.size:=Nat.le_trans hsz hbf.size
    have hne2:¬ ab = wf.heap.size:=by have:=hbf.size;omega
    have hne3:¬ tb = wf.heap.size:=by have:=hbf.size;omega
    clear hbf hT0 hA0 b0 b1 b2 b3 b4
    go_wp2_with fail
    refine (N.out _ (blk_old hTf) (keptA_trans hKf (keptA_alloc hszf))).mono ?_
    intro e w1 hr
    obtain ⟨rfl,hb⟩:=hr
    have hT1:=blk_moved (blk_set (blk_old hTf)) hb
    have hA1:=blk_moved (blk_far (blk_old hAf) hne.symm) hb
    have hF1:=blk_moved (blk_far (heap_alloc_new wf _) (Ne.symm hne3)) hb
    have hK1:=keptA_trans (keptA_trans hKf (keptA_alloc hszf)) (keptA_moved (B:=w0.heap.size) (ab:=ab) htown (Nat.le_trans hsz (KeptA.size (keptA_trans hKf (keptA_alloc hszf)))) hb)
    obtain ⟨d0,d1,d2,d3,d4,hdb,hdf⟩:=five hA1
    obtain ⟨g0,g1,g2,g3,g4,hgb,hgf⟩:=five hF1
    have q2:=hdf 2
    have q3:=hdf 3
    have q4:=hdf 4
    have i1:InW ab w1:=⟨hdb⟩
    have i2:InW wf.heap.size w1:=⟨hgb⟩
    have i3:InW tb w1:=⟨lt_of_block hT1⟩
    clear hb hdf hgf
    have hT2:=blk_far (i:=2) (v:=(.string ⟨name.toArray⟩)) hT1 hne
    have hA2:=blk_set (i:=2) (u:=(.string ⟨name.toArray⟩)) hA1
    have hF2:=blk_far (i:=2) (v:=(.string ⟨name.toArray⟩)) hF1 (Ne.symm hne2)
    have hK2:=keptA_trans hK1 (keptA_set (B:=w0.heap.size) (tb:=tb) (i:=2) (v:=(.string ⟨name.toArray⟩)) (.inr rfl) hown)
    clear N hT1 hA1 hF1 hK1
    go_wp2_with fail
    clear d0 d1 d2 d3 d4 g0 g1 g2 g3 g4 i1 i2 i3 q2 q3 q4 hdb hgb
    refine (U2.out _ (hT2) (hK2)).mono ?_
    intro e w3 hr
    obtain ⟨rfl,hb⟩:=hr
    have hT3:=blk_keep (hT2) hb
    have hA3:=blk_keep (hA2) hb
    have hF3:=blk_keep (hF2) hb
    have hK3:=keptA_trans (hK2) (keptA_below (B:=w0.heap.size) (tb:=tb) (ab:=ab) hb (Nat.le_trans hsz (KeptA.size (hK2))))
    obtain ⟨d0,d1,d2,d3,d4,hdb,hdf⟩:=five hA3
    obtain ⟨g0,g1,g2,g3,g4,hgb,hgf⟩:=five hF3
    have q2:=hdf 2
    have q3:=hdf 3
    have q4:=hdf 4
    have i1:InW ab w3:=⟨hdb⟩
    have i2:InW wf.heap.size w3:=⟨hgb⟩
    have i3:InW tb w3:=⟨lt_of_block hT3⟩
    clear hb hdf hgf
    clear U2 hT2 hA2 hF2 hK2
    have hfin:=Lib.hid (keptA_trans hK3 (keptA_set (B:=w0.heap.size) (tb:=tb) (i:=4) (v:=(.int .i64 0)) (.inr rfl) hown))
    clear hT3 hA3 hF3 hK3 hTf hAf hKf
    go_wp2
    go_returns
    exact ⟨rfl,hfin.out⟩
   ·have U2:=Lib.hid (fun wx hT hk=>(U.out wx hT hk).mono fun e w' hr=>(show e = .returned (.tuple #[.int .i64 n,.int .i64 0]) ∧ Below wx.heap.size (wx.setCell ⟨tb,1,none⟩ (.int .i64 ((a + 1 + 1:Nat):Int))) w' from by
     unfold TNumIs at hr
     simp only at hr
     rw [if_neg hn] at hr
     exact hr))
    simp only
    rw [if_neg hn]
    clear U
    go_enter Tryz.func222,Tryz.ntmps222
    go_wp2_with fail
    refine (F.out).mono ?_
    intro e wf hr
    obtain ⟨rfl,hbf⟩:=hr
    have hTf:=blk_keep hT0 hbf
    have hAf:=blk_keep hA0 hbf
    have hKf:=keptA_below (B:=w0.heap.size) (tb:=tb) (ab:=ab) hbf hsz
    have hszf:w0.heap.size ≤ wf.heap.size:=Nat.le_trans hsz hbf.size
    have hne2:¬ ab = wf.heap.size:=by have:=hbf.size;omega
    have hne3:¬ tb = wf.heap.size:=by have:=hbf.size;omega
    clear hbf hT0 hA0 b0 b1 b2 b3 b4
    go_wp2_with fail
    refine (N.out _ (blk_old hTf) (keptA_trans hKf (keptA_alloc hszf))).mono ?_
    intro e w1 hr
    obtain ⟨rfl,hb⟩:=hr
    have hT1:=blk_moved (blk_set (blk_old hTf)) hb
    have hA1:=blk_moved (blk_far (blk_old hAf) hne.symm) hb
    have hF1:=blk_moved (blk_far (heap_alloc_new wf _) (Ne.symm hne3)) hb
    have hK1:=keptA_trans (keptA_trans hKf (keptA_alloc hszf)) (keptA_moved (B:=w0.heap.size) (ab:=ab) htown (Nat.le_trans hsz (KeptA.size (keptA_trans hKf (keptA_alloc hszf)))) hb)
    obtain ⟨d0,d1,d2,d3,d4,hdb,hdf⟩:=five hA1
    obtain ⟨g0,g1,g2,g3,g4,hgb,hgf⟩:=five hF1
    have q2:=hdf 2
    have q3:=hdf 3
    have q4:=hdf 4
    have i1:InW ab w1:=⟨hdb⟩
    have i2:InW wf.heap.size w1:=⟨hgb⟩
    have i3:InW tb w1:=⟨lt_of_block hT1⟩
    clear hb hdf hgf
    have hT2:=blk_far (i:=2) (v:=(.string ⟨name.toArray⟩)) hT1 hne
    have hA2:=blk_set (i:=2) (u:=(.string ⟨name.toArray⟩)) hA1
    have hF2:=blk_far (i:=2) (v:=(.string ⟨name.toArray⟩)) hF1 (Ne.symm hne2)
    have hK2:=keptA_trans hK1 (keptA_set (B:=w0.heap.size) (tb:=tb) (i:=2) (v:=(.string ⟨name.toArray⟩)) (.inr rfl) hown)
    clear N hT1 hA1 hF1 hK1
    go_wp2_with fail
    clear d0 d1 d2 d3 d4 g0 g1 g2 g3 g4 i1 i2 i3 q2 q3 q4 hdb hgb
    refine (U2.out _ (hT2) (hK2)).mono ?_
    intro e w3 hr
    obtain ⟨rfl,hb⟩:=hr
    have hT3:=blk_moved (blk_set (hT2)) hb
    have hA3:=blk_moved (blk_far (hA2) hne.symm) hb
    have hF3:=blk_moved (blk_far (hF2) (Ne.symm hne3)) hb
    have hK3:=keptA_trans (hK2) (keptA_moved (B:=w0.heap.size) (ab:=ab) htown (Nat.le_trans hsz (KeptA.size (hK2))) hb)
    obtain ⟨d0,d1,d2,d3,d4,hdb,hdf⟩:=five hA3
    obtain ⟨g0,g1,g2,g3,g4,hgb,hgf⟩:=five hF3
    have q2:=hdf 2
    have q3:=hdf 3
    have q4:=hdf 4
    have i1:InW ab w3:=⟨hdb⟩
    have i2:InW wf.heap.size w3:=⟨hgb⟩
    have i3:InW tb w3:=⟨lt_of_block hT3⟩
    clear hb hdf hgf
    clear U2 hT2 hA2 hF2 hK2
    have hfinK:=Lib.hid (keptA_trans hK3 (keptA_set (B:=w0.heap.size) (tb:=tb) (i:=4) (v:=(.int .i64 n)) (.inr rfl) hown))
    have hfinT:=Lib.hid (blk_far (i:=4) (v:=(.int .i64 n)) hT3 hne)
    have hfinA:=Lib.hid (blk_set (i:=4) (u:=(.int .i64 n)) hA3)
    skip
    clear hT3 hA3 hF3 hK3 hTf hAf hKf
    go_wp2
    go_returns
    exact ⟨none,0,rfl,hfinK.out,hfinT.out,hfinA.out,World.ownsRow_nil _ _ _ _⟩
theorem rest_any {w0:World} {tb ab:Nat} {ao:Option Addr} {cap:Nat} {ts:List Tk} {k:Nat} {io:Option Addr} {il ic a:Nat} (h1:1 ≤ k) (h5:k ≤ 5) (cond:List Nd) (w:World) (h:RestAt w0 tb ab ao cap ts k io il ic a w) :
  Calls Tryz.prog 222 #[.pointer (some ⟨tb,0,none⟩),.pointer (some ⟨ab,0,none⟩)] w (RestIs w0.heap.size tb ab ao cap ts (.slice io il ic) (restT ts cond k a) w):=by
 rcases (by omega:k = 1 ∨ (k = 2 ∨ k = 4) ∨ k = 3 ∨ k = 5) with h2 | h2 | h2 | h2
 ·exact rest_set h2 cond w h
 ·exact rest_event h2 cond w h
 ·exact rest_send h2 cond w h
 ·exact rest_log h2 cond w h
end Go.Proofs.YtfgpmcepppcmiaaGreatDoor
namespace Go.Proofs.YtfgpmcepppcmiaaGreatDoor
open Go.RowKit
abbrev actB (k iv:Value):Obj := .cells #[k,iv,.string ⟨#[]⟩,.slice none 0 0,.int .i64 0] 235 (0,0)
structure OneAt (w0 w:World) (tb rb ab:Nat) (ao:Option Addr) (cap:Nat) (ts:List Tk) (k:Int) (io:Option Addr) (ic:Nat) (cond:List Nd) (a:Nat) (wx:World):Prop where
 tkr:TkrAt w0 tb ao cap ts a wx
 res:wx.heap[rb]? = some (actB (.int .i64 0) (.slice none 0 0))
 act:wx.heap[ab]? = some (actB (.int .i64 k) (.slice io cond.length ic))
 kept:KeptA w0.heap.size tb tb w wx
 hr:w.heap.size ≤ rb
 ha:w.heap.size ≤ ab
 ne:rb ≠ ab
 ht:tb < w.heap.size
 own:wx.ownsRow w.heap.size 239 7 (.slice io cond.length ic) cond.length (ndsC cond)
section
variable {w0 w:World} {tb rb ab:Nat} {ao:Option Addr} {cap:Nat} {ts:List Tk} {k:Int} {io:Option Addr} {ic:Nat} {cond:List Nd} {a:Nat} {wx wy:World}
theorem kept_far {B tb b i:Nat} {v:Value} {w wx:World} (h:KeptA B tb tb w wx) (hb:w.heap.size ≤ b) (hB:B ≤ w.heap.size):KeptA B tb tb w (wx.setCell ⟨b,i,none⟩ v):=by
 refine ⟨h.below.setCell (p:=⟨b,i,none⟩) (Nat.le_trans hB hb) _,?_,fun j hj h1 h2=>?_⟩
 ·rw [size_set];exact h.size
 ·rw [Below.heap_setCell _ _ _ _ (fun e=>by simp at e;omega)]
  exact h.block j hj h1 h2
theorem one_keep (h:OneAt w0 w tb rb ab ao cap ts k io ic cond a wx) (hb:Below wx.heap.size wx wy):OneAt w0 w tb rb ab ao cap ts k io ic cond a wy :=
 ⟨tkr_keep h.tkr hb,blk_keep h.res hb,blk_keep h.act hb,keptA_trans h.kept (keptA_below hb h.tkr.env.size),h.hr,h.ha,h.ne,h.ht,owns_below h.own hb⟩
theorem one_base (h:OneAt w0 w tb rb ab ao cap ts k io ic cond a wx):w0.heap.size ≤ w.heap.size:=by
 have:=h.tkr.own
 have:=h.ht
 omega
theorem one_move {b:Nat} (h:OneAt w0 w tb rb ab ao cap ts k io ic cond a wx) (hle:b ≤ ts.length) (hb:Below wx.heap.size (wx.setCell ⟨tb,1,none⟩ (.int .i64 (b:Int))) wy):OneAt w0 w tb rb ab ao cap ts k io ic cond b wy:=by
 have h1:=h.hr
 have h2:=h.ha
 have h3:=h.ht
 refine ⟨tkr_move h.tkr hle hb,blk_moved (blk_far h.res (by omega)) hb,blk_moved (blk_far h.act (by omega)) hb,keptA_trans h.kept (keptA_moved h.tkr.own h.tkr.env.size hb),h.hr,h.ha,h.ne,h.ht,?_⟩
 have:=ownsRow_setCell_other h.own (own_ne h.own h.tkr.blk (by decide)) (.int .i64 (b:Int)) (a:=⟨tb,1,none⟩)
 exact owns_below this (by rw [size_set];exact hb)
theorem one_tkr_far {b i:Nat} {v:Value} (h:TkrAt w0 tb ao cap ts a wx) (hb:w0.heap.size ≤ b) (hne:tb ≠ b):TkrAt w0 tb ao cap ts a (wx.setCell ⟨b,i,none⟩ v) :=
 ⟨blk_far h.blk hne,h.own,h.le,h.env.setCell (p:=⟨b,i,none⟩) hb _⟩
theorem one_cond {no:Option Addr} {nc:Nat} {ns:List Nd} (h:OneAt w0 w tb rb ab ao cap ts k io ic cond a wx) (hn:wx.ownsRow w.heap.size 239 7 (.slice no ns.length nc) ns.length (ndsC ns)):OneAt w0 w tb rb ab ao cap ts k no nc ns a (wx.setCell ⟨ab,1,none⟩ (.slice no ns.length nc)):=by
 have h1:=h.ha
 have h2:=h.ht
 have h3:=one_base h
 exact ⟨one_tkr_far h.tkr (by omega) (by omega),blk_far h.res h.ne,blk_set h.act,kept_far h.kept h.ha h3,h.hr,h.ha,h.ne,h.ht,ownsRow_setCell_other hn (own_ne hn h.act (by decide)) _⟩
theorem one_kind {j:Int} (h:OneAt w0 w tb rb ab ao cap ts k io ic cond a wx):OneAt w0 w tb rb ab ao cap ts j io ic cond a (wx.setCell ⟨ab,0,none⟩ (.int .i64 j)):=by
 have h1:=h.ha
 have h2:=h.ht
 have h3:=one_base h
 exact ⟨one_tkr_far h.tkr (by omega) (by omega),blk_far h.res h.ne,blk_set h.act,kept_far h.kept h.ha h3,h.hr,h.ha,h.ne,h.ht,ownsRow_setCell_other h.own (own_ne h.own h.act (by decide)) _⟩
theorem one_rest {j:Nat} (hB:Base w0 ao ts) (h:OneAt w0 w tb rb ab ao cap ts (j:Int) io ic cond a wx):RestAt w0 tb ab ao cap ts j io cond.length ic a wx:=by
 have h1:=h.ha
 have h2:=h.ht
 have h3:=one_base h
 exact ⟨hB,h.tkr,h.act,by omega,by omega⟩
end
abbrev set5 (w:World) (b:Nat) (v0 v1 v2 v3 v4:Value):World:=((((w.setCell ⟨b,0,none⟩ v0).setCell ⟨b,1,none⟩ v1).setCell ⟨b,2,none⟩ v2).setCell ⟨b,3,none⟩ v3).setCell ⟨b,4,none⟩ v4
theorem kept_set5 {B tb b:Nat} {w wx:World} (h:KeptA B tb tb w wx) (hb:w.heap.size ≤ b) (hB:B ≤ w.heap.size) (v0 v1 v2 v3 v4:Value):KeptA B tb tb w (set5 wx b v0 v1 v2 v3 v4) :=
 kept_far (kept_far (kept_far (kept_far (kept_far h hb hB) hb hB) hb hB) hb hB) hb hB
theorem blk_set5 {b c:Nat} {w:World} {o:Option Obj} (h:w.heap[b]? = o) (hne:b ≠ c) (v0 v1 v2 v3 v4:Value):(set5 w c v0 v1 v2 v3 v4).heap[b]? = o :=
 blk_far (blk_far (blk_far (blk_far (blk_far h hne) hne) hne) hne) hne
theorem own_set5 {w:World} {B e s n b:Nat} {v:Value} {xs:List Value} (h:w.ownsRow B e s v n xs) (hb:v.ownBlock ≠ some b) (v0 v1 v2 v3 v4:Value):(set5 w b v0 v1 v2 v3 v4).ownsRow B e s v n xs :=
 ownsRow_setCell_other (ownsRow_setCell_other (ownsRow_setCell_other (ownsRow_setCell_other (ownsRow_setCell_other h (a:=⟨b,0,none⟩) hb v0) (a:=⟨b,1,none⟩) hb v1) (a:=⟨b,2,none⟩) hb v2) (a:=⟨b,3,none⟩) hb v3) (a:=⟨b,4,none⟩) hb v4
theorem kept_rest {B tb ab:Nat} {w wx wy:World} (h:KeptA B tb tb w wx) (k:KeptA B tb ab wx wy) (hab:w.heap.size ≤ ab):KeptA B tb tb w wy :=
 ⟨h.below.trans k.below,Nat.le_trans h.size k.size,fun j hj h1 _=>(k.block j (Nat.lt_of_lt_of_le hj h.size) h1 (by omega)).trans (h.block j hj h1 h1)⟩
def ActOneIs (B tb:Nat) (ao:Option Addr) (cap:Nat) (ts:List Tk) (x:Except Int (Ac × Nat)) (w:World) (e:Ending) (w':World):Prop :=
 match x with
 | .error x=>e = .returned (.tuple #[.agg #[.int .i64 0,.slice none 0 0,.string ⟨#[]⟩,.slice none 0 0,.int .i64 0],.int .i64 x]) ∧ KeptA B tb tb w w'
 | .ok (c,n)=>∃ iv xv,e = .returned (.tuple #[.agg #[.int .i64 c.kind,iv,.string ⟨c.name.toArray⟩,xv,.int .i64 c.n],.int .i64 0]) ∧ KeptA B tb tb w w' ∧ w'.heap[tb]? = some (tkrB ao cap ts n) ∧
   w'.ownsRow w.heap.size 239 7 iv c.cond.length (ndsC c.cond) ∧ w'.ownsRow w.heap.size 239 7 xv c.x.length (ndsC c.x)
theorem actAt_cases (ts:List Tk) (a:Nat):actAt ts a = 0 ∨ ∃ j:Nat,1 ≤ j ∧ j ≤ 5 ∧ actAt ts a = (j:Int):=by
 unfold actAt
 repeat' split
 ·exact .inr ⟨1,by decide,by decide,rfl⟩
 ·exact .inr ⟨2,by decide,by decide,rfl⟩
 ·exact .inr ⟨3,by decide,by decide,rfl⟩
 ·exact .inr ⟨4,by decide,by decide,rfl⟩
 ·exact .inr ⟨5,by decide,by decide,rfl⟩
 ·exact .inl rfl
theorem tailA_nz {ts:List Tk} {cond:List Nd} {k:Int} {name:List UInt8} {a:Nat} {x:Int} (h:tailA ts cond k name a = .error x):(x != 0) = true:=by
 unfold tailA at h
 split at h
 ·split at h
  ·rename_i hp
   cases h
   exact parseT_nz hp
  ·cases h
 ·split at h
  ·split at h
   ·cases h;rfl
   ·split at h
    ·cases h;rfl
    ·cases h
  ·cases h
theorem restT_nz {ts:List Tk} {cond:List Nd} {k:Int} {a:Nat} {x:Int} (h:restT ts cond k a = .error x):(x != 0) = true:=by
 unfold restT at h
 split at h
 ·exact tailA_nz h
 ·split at h
  ·cases h;rfl
  ·exact tailA_nz h
theorem tailA_cond {ts:List Tk} {cond:List Nd} {k:Int} {name:List UInt8} {a:Nat} {c:Ac} {n:Nat} (h:tailA ts cond k name a = .ok (c,n)):c.kind = k ∧ c.cond = cond ∧ n ≤ ts.length ∨ c.kind = k ∧ c.cond = cond ∧ n = a:=by
 unfold tailA at h
 split at h
 ·split at h
  ·cases h
  ·rename_i hp
   cases h
   exact .inl ⟨rfl,rfl,(parseT_at hp).1⟩
 ·split at h
  ·split at h
   ·cases h
   ·rename_i hn
    split at h
    ·cases h
    ·cases h
     exact .inl ⟨rfl,rfl,numAt_lt hn⟩
  ·cases h
   exact .inr ⟨rfl,rfl,rfl⟩
theorem restT_cond {ts:List Tk} {cond:List Nd} {k:Int} {a:Nat} {c:Ac} {n:Nat} (h:restT ts cond k a = .ok (c,n)):c.cond = cond:=by
 unfold restT at h
 split at h
 ·rcases tailA_cond h with h | h <;> exact h.2.1
 ·split at h
  ·cases h
  ·rcases tailA_cond h with h | h <;> exact h.2.1
set_option maxRecDepth 100000 in
set_option maxHeartbeats 8000000 in
theorem tact_any {w0:World} {tb:Nat} {ao:Option Addr} {cap:Nat} {ts:List Tk} {a:Nat} (hB:Base w0 ao ts) (w:World) (h:TkrAt w0 tb ao cap ts a w) :
  Calls Tryz.prog 201 #[.pointer (some ⟨tb,0,none⟩)] w (ActOneIs w0.heap.size tb ao cap ts (oneA ts a) w):=by
 have htb:=(tkr_cells h).2.2.1
 have hsz:=h.env.size
 obtain ⟨x,hx⟩:∃ x,oneA ts a = x:=⟨_,rfl⟩
 rw [hx]
 unfold oneA at hx
 simp only [doA_rest] at hx
 replace hx:=Lib.hid hx
 have T:=Lib.hid (fun (t:ByteArray) b bb wx (s:TkrAt w0 tb ao cap ts b wx) (hb:tkAt ts b t.data.toList = bb)=>(by rw [← hb];exact ttakes_any t hB wx s:Calls Tryz.prog 202 #[.pointer (some ⟨tb,0,none⟩),.string t] wx (TookIs tb bb b wx)))
 have X:=Lib.hid (fun (b:Nat) x wx (s:TkrAt w0 tb ao cap ts b wx) (hb:parseT ts (b:Int) = x)=>(by rw [← hb];exact texpr_any hB wx s:Calls Tryz.prog 220 #[.pointer (some ⟨tb,0,none⟩)] wx (TExprIs tb x wx)))
 have K0:=Lib.hid (fun (b:Nat) wx (s:TkrAt w0 tb ao cap ts b wx) (hb:actAt ts b = 0)=>(by have:=tkind_any hB wx s;rw [hb] at this;exact this:Calls Tryz.prog 221 #[.pointer (some ⟨tb,0,none⟩)] wx fun e w'=>e = .returned (.tuple #[.int .i64 0,.bool false]) ∧ Below wx.heap.size wx w'))
 have K1:=Lib.hid (fun (b j:Nat) wx (s:TkrAt w0 tb ao cap ts b wx) (hj:1 ≤ j) (hb:actAt ts b = (j:Int))=>(by
  have:=tkind_any hB wx s
  rw [hb] at this
  refine this.mono fun e w' hr=>?_
  obtain ⟨h1,h2⟩:=hr
  have h0:¬ (j:Int) = 0:=by omega
  rw [if_neg h0] at h2
  rw [show decide (((j:Nat):Int) ≠ 0) = true from decide_eq_true h0] at h1
  exact ⟨h1,h2⟩:Calls Tryz.prog 221 #[.pointer (some ⟨tb,0,none⟩)] wx fun e w'=>e = .returned (.tuple #[.int .i64 (j:Int),.bool true]) ∧ Below wx.heap.size (wx.setCell ⟨tb,1,none⟩ (.int .i64 ((b + 1:Nat):Int))) w'))
 have S0:OneAt w0 w tb w.heap.size (w.heap.size + 1) ao cap ts 0 none 0 [] a ((w.alloc (actB (.int .i64 0) (.slice none 0 0))).alloc (actB (.int .i64 0) (.slice none 0 0))):=by
  have hb:Below w.heap.size w ((w.alloc (actB (.int .i64 0) (.slice none 0 0))).alloc (actB (.int .i64 0) (.slice none 0 0))):=((Below.refl _ w).alloc (Nat.le_refl _) _).alloc (by simp) _
  exact ⟨tkr_keep h hb,blk_old (heap_alloc_new w _),new_at (by simp),keptA_below hb hsz,Nat.le_refl _,by omega,by omega,htb,World.ownsRow_nil _ _ _ _⟩
 clear h
 rcases hi:tkAt ts a [105,102] with _ | _
 ·rw [hi] at hx
  go_enter Tryz.func201,Tryz.ntmps201
  go_wp2_with fail
  refine (T.out ⟨#[105,102]⟩ a false _ S0.tkr hi).mono ?_
  intro e w1 hr
  obtain ⟨rfl,hb⟩:=hr
  have S1:=one_keep S0 (show Below _ _ w1 from hb)
  clear hb S0 hi T X
  rcases actAt_cases ts (a) with hk | ⟨j,hj1,hj5,hk⟩
  ·simp only [hk,↓reduceIte] at hx
   go_wp2_with fail
   refine (K0.out (a) _ S1.tkr hk).mono ?_
   intro e w5 hr
   obtain ⟨rfl,hb⟩:=hr
   have S5:=one_keep S1 hb
   clear hb S1 hk K0 K1
   obtain ⟨g0,g1,g2,g3,g4,hgb,hgf⟩:=five S5.res
   have r0:=hgf 0
   have r1:=hgf 1
   have r2:=hgf 2
   have r3:=hgf 3
   have r4:=hgf 4
   have i2:=InW.mk hgb
   have e0:=hasC_of g0
   have e1:=hasC_of g1
   have e2:=hasC_of g2
   have e3:=hasC_of g3
   have e4:=hasC_of g4
   have hK:=Lib.hid (kept_set5 S5.kept S5.hr hsz)
   clear hgf S5
   go_wp2
   go_returns
   rw [← hx.out]
   exact ⟨rfl,hK.out _ _ _ _ _⟩
  ·have hka:=actAt_lt (show ¬ actAt ts (a) = 0 by omega)
   have hj0:¬ (j:Int) = 0:=by omega
   simp only [hk,if_neg hj0] at hx
   go_wp2_with fail
   refine (K1.out (a) j _ S1.tkr hj1 hk).mono ?_
   intro e w5 hr
   obtain ⟨rfl,hb⟩:=hr
   have S5:=one_move S1 hka hb
   clear hb S1 hk K0 K1
   have S6:=Lib.hid (one_kind (j:=(j:Int)) S5)
   obtain ⟨d0,d1,d2,d3,d4,hdb,hdf⟩:=five S5.act
   obtain ⟨g0,g1,g2,g3,g4,hgb,hgf⟩:=five S5.res
   have q0:=hdf 0
   have q1:=hdf 1
   have i1:=InW.mk hdb
   have i2:=InW.mk hgb
   clear S5
   go_wp2_with fail
   clear d0 d1 d2 d3 d4 g0 g1 g2 g3 g4 hdf hgf q1 q0 hdb hgb i1 i2
   replace S6:=S6.out
   rcases hre:restT ts [] (j:Int) (a + 1) with x1 | ⟨c,n6⟩
   ·have R:=rest_any hj1 hj5 [] _ (one_rest hB S6)
    rw [hre] at R hx
    have hnz:=restT_nz hre
    refine R.mono ?_
    intro e w7 hr
    obtain ⟨rfl,hK7⟩:=hr
    have hR7:=keptA_blk hK7 S6.res (by have:=S6.hr;have:=S6.ht;omega) S6.ne
    have hk7:=kept_rest S6.kept hK7 S6.ha
    have hr6:=S6.hr
    clear hK7 R hre S6
    obtain ⟨g0,g1,g2,g3,g4,hgb,hgf⟩:=five hR7
    have r0:=hgf 0
    have r1:=hgf 1
    have r2:=hgf 2
    have r3:=hgf 3
    have r4:=hgf 4
    have i2:=InW.mk hgb
    have e0:=hasC_of g0
    have e1:=hasC_of g1
    have e2:=hasC_of g2
    have e3:=hasC_of g3
    have e4:=hasC_of g4
    have hK:=Lib.hid (kept_set5 hk7 hr6 hsz)
    clear hgf hk7 hR7
    go_wp2
    go_returns
    rw [← hx.out]
    exact ⟨rfl,hK.out _ _ _ _ _⟩
   ·have hcc:=restT_cond hre
    have R:=rest_any hj1 hj5 [] _ (one_rest hB S6)
    rw [hre] at R hx
    refine R.mono ?_
    intro e w7 hr
    obtain ⟨xo,xc,rfl,hK7,hT7,hA7,hX7⟩:=hr
    have hR7:=keptA_blk hK7 S6.res (by have:=S6.hr;have:=S6.ht;omega) S6.ne
    have hk7:=kept_rest S6.kept hK7 S6.ha
    have hr6:=S6.hr
    have ht6:=S6.ht
    have hsx:=S6.kept.size
    have hI7:=owns_keptA S6.own hK7 (own_ne S6.own S6.tkr.blk (by decide)) (own_ne S6.own S6.act (by decide))
    have hI8:=Lib.hid (own_set5 hI7 (own_ne hI7 hR7 (by decide)))
    have hX8:=Lib.hid (own_set5 (owns_base hX7 hsx) (own_ne hX7 hR7 (by decide)))
    have hT8:=Lib.hid (blk_set5 (c:=w.heap.size) hT7 (by omega))
    clear hK7 R hre S6
    obtain ⟨g0,g1,g2,g3,g4,hgb,hgf⟩:=five hR7
    obtain ⟨d0,d1,d2,d3,d4,hdb,hdf⟩:=five hA7
    have r0:=hgf 0
    have r1:=hgf 1
    have r2:=hgf 2
    have r3:=hgf 3
    have r4:=hgf 4
    have i1:=InW.mk hdb
    have i2:=InW.mk hgb
    have e0:=hasC_of g0
    have e1:=hasC_of g1
    have e2:=hasC_of g2
    have e3:=hasC_of g3
    have e4:=hasC_of g4
    have hK:=Lib.hid (kept_set5 hk7 hr6 hsz)
    clear hgf hk7 hR7 hdf hA7 hI7 hX7 hT7
    go_wp2
    go_returns
    rw [← hx.out]
    show ∃ iv xv,_
    rw [hcc]
    exact ⟨_,_,rfl,hK.out _ _ _ _ _,hT8.out _ _ _ _ _,hI8.out _ _ _ _ _,hX8.out _ _ _ _ _⟩
 ·rw [hi] at hx
  have hi2:=tkAt_lt hi
  rcases hp:parseT ts ((a + 1:Nat):Int) with x1 | ⟨ns,n⟩
  ·rw [hp] at hx
   have hnz:=parseT_nz hp
   go_enter Tryz.func201,Tryz.ntmps201
   go_wp2_with fail
   refine (T.out ⟨#[105,102]⟩ a true _ S0.tkr hi).mono ?_
   intro e w1 hr
   obtain ⟨rfl,hb⟩:=hr
   have S1:=one_move S0 hi2 (show Below _ _ w1 from hb)
   clear hb S0 hi T K0 K1
   go_wp2_with fail
   refine (X.out (a + 1) _ _ S1.tkr hp).mono ?_
   intro e w2 hr
   obtain ⟨rfl,hb⟩:=hr
   have S2:=one_keep S1 hb
   clear hb S1 hp X
   obtain ⟨g0,g1,g2,g3,g4,hgb,hgf⟩:=five S2.res
   have r0:=hgf 0
   have r1:=hgf 1
   have r2:=hgf 2
   have r3:=hgf 3
   have r4:=hgf 4
   have i2:=InW.mk hgb
   have e0:=hasC_of g0
   have e1:=hasC_of g1
   have e2:=hasC_of g2
   have e3:=hasC_of g3
   have e4:=hasC_of g4
   have hK:=Lib.hid (kept_set5 S2.kept S2.hr hsz)
   clear hgf S2
   go_wp2
   go_returns
   rw [← hx.out]
   exact ⟨rfl,hK.out _ _ _ _ _⟩
  ·obtain ⟨hn1,_⟩:=parseT_at hp
   rw [hp] at hx
   rcases hc:tkAt ts n [58] with _ | _
   ·simp only [hc] at hx
    go_enter Tryz.func201,Tryz.ntmps201
    go_wp2_with fail
    refine (T.out ⟨#[105,102]⟩ a true _ S0.tkr hi).mono ?_
    intro e w1 hr
    obtain ⟨rfl,hb⟩:=hr
    have S1:=one_move S0 hi2 (show Below _ _ w1 from hb)
    clear hb S0 hi K0 K1
    go_wp2_with fail
    refine (X.out (a + 1) _ _ S1.tkr hp).mono ?_
    intro e w2 hr
    obtain ⟨v,rfl,hown,hb⟩:=hr
    have S2:=one_move S1 hn1 hb
    obtain ⟨no,nc,hv⟩:=own_form hown
    subst hv
    clear hb S1 hp X hown
    go_wp2_with fail
    refine (T.out ⟨#[58]⟩ n false _ S2.tkr hc).mono ?_
    intro e w3 hr
    obtain ⟨rfl,hb⟩:=hr
    have S3:=one_keep S2 (show Below _ _ w3 from hb)
    clear hb S2 hc T
    obtain ⟨g0,g1,g2,g3,g4,hgb,hgf⟩:=five S3.res
    have r0:=hgf 0
    have r1:=hgf 1
    have r2:=hgf 2
    have r3:=hgf 3
    have r4:=hgf 4
    have i2:=InW.mk hgb
    have e0:=hasC_of g0
    have e1:=hasC_of g1
    have e2:=hasC_of g2
    have e3:=hasC_of g3
    have e4:=hasC_of g4
    have hK:=Lib.hid (kept_set5 S3.kept S3.hr hsz)
    clear hgf S3
    go_wp2
    go_returns
    rw [← hx.out]
    exact ⟨rfl,hK.out _ _ _ _ _⟩
   ·have hc2:=tkAt_lt hc
    simp only [hc] at hx
    go_enter Tryz.func201,Tryz.ntmps201
    go_wp2_with fail
    refine (T.out ⟨#[105,102]⟩ a true _ S0.tkr hi).mono ?_
    intro e w1 hr
    obtain ⟨rfl,hb⟩:=hr
    have S1:=one_move S0 hi2 (show Below _ _ w1 from hb)
    clear hb S0 hi
    go_wp2_with fail
    refine (X.out (a + 1) _ _ S1.tkr hp).mono ?_
    intro e w2 hr
    obtain ⟨v,rfl,hown,hb⟩:=hr
    have S2:=one_move S1 hn1 hb
    replace hown:=owns_base hown S1.kept.size
    obtain ⟨no,nc,hv⟩:=own_form hown
    subst hv
    clear hb S1 hp X
    go_wp2_with fail
    refine (T.out ⟨#[58]⟩ n true _ S2.tkr hc).mono ?_
    intro e w3 hr
    obtain ⟨rfl,hb⟩:=hr
    have S3:=one_move S2 hc2 (show Below _ _ w3 from hb)
    have hown3:=owns_below (ownsRow_setCell_other hown (own_ne hown S2.tkr.blk (by decide)) (.int .i64 ((n + 1:Nat):Int)) (a:=⟨tb,1,none⟩)) (by rw [size_set];exact hb)
    clear hb S2 hc T hown
    have S4:=Lib.hid (one_cond S3 hown3)
    obtain ⟨d0,d1,d2,d3,d4,hdb,hdf⟩:=five S3.act
    obtain ⟨g0,g1,g2,g3,g4,hgb,hgf⟩:=five S3.res
    have q0:=hdf 0
    have q1:=hdf 1
    have i1:=InW.mk hdb
    have i2:=InW.mk hgb
    clear S3 hown3
    go_wp2_with fail
    clear d0 d1 d2 d3 d4 g0 g1 g2 g3 g4 hdf hgf q1 q0 hdb hgb i1 i2
    replace S4:=S4.out
    rcases actAt_cases ts (n + 1) with hk | ⟨j,hj1,hj5,hk⟩
    ·simp only [hk,↓reduceIte] at hx
     go_wp2_with fail
     refine (K0.out (n + 1) _ S4.tkr hk).mono ?_
     intro e w5 hr
     obtain ⟨rfl,hb⟩:=hr
     have S5:=one_keep S4 hb
     clear hb S4 hk K0 K1
     obtain ⟨g0,g1,g2,g3,g4,hgb,hgf⟩:=five S5.res
     have r0:=hgf 0
     have r1:=hgf 1
     have r2:=hgf 2
     have r3:=hgf 3
     have r4:=hgf 4
     have i2:=InW.mk hgb
     have e0:=hasC_of g0
     have e1:=hasC_of g1
     have e2:=hasC_of g2
     have e3:=hasC_of g3
     have e4:=hasC_of g4
     have hK:=Lib.hid (kept_set5 S5.kept S5.hr hsz)
     clear hgf S5
     go_wp2
     go_returns
     rw [← hx.out]
     exact ⟨rfl,hK.out _ _ _ _ _⟩
    ·have hka:=actAt_lt (show ¬ actAt ts (n + 1) = 0 by omega)
     have hj0:¬ (j:Int) = 0:=by omega
     simp only [hk,if_neg hj0] at hx
     go_wp2_with fail
     refine (K1.out (n + 1) j _ S4.tkr hj1 hk).mono ?_
     intro e w5 hr
     obtain ⟨rfl,hb⟩:=hr
     have S5:=one_move S4 hka hb
     clear hb S4 hk K0 K1
     have S6:=Lib.hid (one_kind (j:=(j:Int)) S5)
     obtain ⟨d0,d1,d2,d3,d4,hdb,hdf⟩:=five S5.act
     obtain ⟨g0,g1,g2,g3,g4,hgb,hgf⟩:=five S5.res
     have q0:=hdf 0
     have q1:=hdf 1
     have i1:=InW.mk hdb
     have i2:=InW.mk hgb
     clear S5
     go_wp2_with fail
     clear d0 d1 d2 d3 d4 g0 g1 g2 g3 g4 hdf hgf q1 q0 hdb hgb i1 i2
     replace S6:=S6.out
     rcases hre:restT ts ns (j:Int) (n + 1 + 1) with x1 | ⟨c,n6⟩
     ·have R:=rest_any hj1 hj5 ns _ (one_rest hB S6)
      rw [hre] at R hx
      have hnz:=restT_nz hre
      refine R.mono ?_
      intro e w7 hr
      obtain ⟨rfl,hK7⟩:=hr
      have hR7:=keptA_blk hK7 S6.res (by have:=S6.hr;have:=S6.ht;omega) S6.ne
      have hk7:=kept_rest S6.kept hK7 S6.ha
      have hr6:=S6.hr
      clear hK7 R hre S6
      obtain ⟨g0,g1,g2,g3,g4,hgb,hgf⟩:=five hR7
      have r0:=hgf 0
      have r1:=hgf 1
      have r2:=hgf 2
      have r3:=hgf 3
      have r4:=hgf 4
      have i2:=InW.mk hgb
      have e0:=hasC_of g0
      have e1:=hasC_of g1
      have e2:=hasC_of g2
      have e3:=hasC_of g3
      have e4:=hasC_of g4
      have hK:=Lib.hid (kept_set5 hk7 hr6 hsz)
      clear hgf hk7 hR7
      go_wp2
      go_returns
      rw [← hx.out]
      exact ⟨rfl,hK.out _ _ _ _ _⟩
     ·have hcc:=restT_cond hre
      have R:=rest_any hj1 hj5 ns _ (one_rest hB S6)
      rw [hre] at R hx
      refine R.mono ?_
      intro e w7 hr
      obtain ⟨xo,xc,rfl,hK7,hT7,hA7,hX7⟩:=hr
      have hR7:=keptA_blk hK7 S6.res (by have:=S6.hr;have:=S6.ht;omega) S6.ne
      have hk7:=kept_rest S6.kept hK7 S6.ha
      have hr6:=S6.hr
      have ht6:=S6.ht
      have hsx:=S6.kept.size
      have hI7:=owns_keptA S6.own hK7 (own_ne S6.own S6.tkr.blk (by decide)) (own_ne S6.own S6.act (by decide))
      have hI8:=Lib.hid (own_set5 hI7 (own_ne hI7 hR7 (by decide)))
      have hX8:=Lib.hid (own_set5 (owns_base hX7 hsx) (own_ne hX7 hR7 (by decide)))
      have hT8:=Lib.hid (blk_set5 (c:=w.heap.size) hT7 (by omega))
      clear hK7 R hre S6
      obtain ⟨g0,g1,g2,g3,g4,hgb,hgf⟩:=five hR7
      obtain ⟨d0,d1,d2,d3,d4,hdb,hdf⟩:=five hA7
      have r0:=hgf 0
      have r1:=hgf 1
      have r2:=hgf 2
      have r3:=hgf 3
      have r4:=hgf 4
      have i1:=InW.mk hdb
      have i2:=InW.mk hgb
      have e0:=hasC_of g0
      have e1:=hasC_of g1
      have e2:=hasC_of g2
      have e3:=hasC_of g3
      have e4:=hasC_of g4
      have hK:=Lib.hid (kept_set5 hk7 hr6 hsz)
      clear hgf hk7 hR7 hdf hA7 hI7 hX7 hT7
      go_wp2
      go_returns
      rw [← hx.out]
      show ∃ iv xv,_
      rw [hcc]
      exact ⟨_,_,rfl,hK.out _ _ _ _ _,hT8.out _ _ _ _ _,hI8.out _ _ _ _ _,hX8.out _ _ _ _ _⟩
end Go.Proofs.YtfgpmcepppcmiaaGreatDoor
namespace Go.Proofs.YtfgpmcepppcmiaaGreatDoor
open Go.RowKit
theorem Tryz.infoAct:(Tryz.prog.info? 235).map (fun i=>(i.zero,i.size,i.bytes)) = some (some (.agg #[.int .i64 0,.slice none 0 0,.string ⟨#[]⟩,.slice none 0 0,.int .i64 0]),5,80):=by kernel_rfl
theorem acRow_keptA {T E t B B' tb:Nat} {w w':World} {v:Value} {cs:List Ac} {cells:Array Value} {fr:Nat × Nat} (h:AcRow T E B w v cs) (hk:KeptA B' tb tb w w') (hb:w.heap[tb]? = some (.cells cells t fr)) (h1:t ≠ T) (h2:t ≠ E):AcRow T E B w' v cs:=by
 obtain ⟨vs,a,b⟩:=h
 exact ⟨vs,acVs_map a fun u n xs hu=>owns_keptA hu hk (own_ne hu hb h1) (own_ne hu hb h1),owns_keptA b hk (own_ne b hb h2) (own_ne b hb h2)⟩
def joinA (cs:List Ac):Except Int (List Ac × Nat) → Except Int (List Ac × Nat)
 | .error x => .error x
 | .ok (ds,q) => .ok (cs ++ ds,q)
theorem joinA_snoc (cs:List Ac) (c:Ac) (z:Except Int (List Ac × Nat)):joinA cs (match z with | .error x => .error x | .ok (ds,q) => .ok (c :: ds,q)) = joinA (cs ++ [c]) z:=by
 cases z with
 | error x=>rfl
 | ok p =>
  obtain ⟨ds,q⟩:=p
  simp [joinA]
def lenV:Value → Nat
 | .slice _ n _=>n
 | _=>0
theorem doA_nz {ts:List Tk} {cond:List Nd} {a:Nat} {x:Int} (h:doA ts cond a = .error x):(x != 0) = true:=by
 rw [doA_rest] at h
 split at h
 ·cases h;rfl
 ·exact restT_nz h
theorem oneA_nz {ts:List Tk} {a:Nat} {x:Int} (h:oneA ts a = .error x):(x != 0) = true:=by
 unfold oneA at h
 split at h
 ·split at h
  ·rename_i hp
   cases h
   exact parseT_nz hp
  ·split at h
   ·exact doA_nz h
   ·cases h;rfl
 ·exact doA_nz h
def TakeIs (x:Except Int (List Ac × Nat)) (w:World) (e:Ending) (w':World):Prop :=
 match x with
 | .error x=>e = .returned (.tuple #[.slice none 0 0,.int .i64 0,.int .i64 x]) ∧ Below w.heap.size w w'
 | .ok (cs,n)=>∃ v,e = .returned (.tuple #[v,.int .i64 (n:Int),.int .i64 0]) ∧ AcRow 239 235 w.heap.size w' v cs ∧ Below w.heap.size w w'
set_option maxRecDepth 100000 in
set_option maxHeartbeats 4000000 in
theorem atake_any (ao:Option Addr) (cap:Nat) (ts:List Tk) (from':Int) (w:World) (hB:Base w ao ts) :
  Calls Tryz.prog 177 #[.slice ao ts.length cap,.int .i64 from'] w (TakeIs (takeT ts from') w):=by
 obtain ⟨x,hx⟩:∃ x,takeT ts from' = x:=⟨_,rfl⟩
 rw [hx]
 unfold takeT at hx
 by_cases hf:from' < 0 ∨ (ts.length:Int) < from'
 ·rw [if_pos hf] at hx
  subst hx
  rcases hf with hf | hf
  ·clear hB
   go_enter Tryz.func177,Tryz.ntmps177
   go_wp2
   go_returns
   exact ⟨rfl,by (first | exact gwT | exact lzT)⟩
  ·have h2:¬ from' < 0:=by omega
   clear hB
   go_enter Tryz.func177,Tryz.ntmps177
   go_wp2
   go_returns
   exact ⟨rfl,by (first | exact gwT | exact lzT)⟩
 ·rw [if_neg hf] at hx
  obtain ⟨a0,rfl⟩:∃ a0:Nat,from' = (a0:Int):=⟨from'.toNat,by omega⟩
  have h1:¬ (a0:Int) < 0:=by omega
  have h2:¬ (ts.length:Int) < (a0:Int):=by omega
  rw [show Int.toNat (a0:Int) = a0 from rfl] at hx
  replace hx:=Lib.hid hx
  obtain ⟨j0,hj,hy1,hy2,hy3⟩:=info_parts Tryz.infoAct
  have A:=Lib.hid (fun (b:Nat) x wx (s:TkrAt w w.heap.size ao cap ts b wx) (hb:oneA ts b = x)=>(by rw [← hb];exact tact_any hB wx s:Calls Tryz.prog 201 #[.pointer (some ⟨w.heap.size,0,none⟩)] wx (ActOneIs w.heap.size w.heap.size ao cap ts x wx)))
  have T:=Lib.hid (fun (t:ByteArray) b bb wx (s:TkrAt w w.heap.size ao cap ts b wx) (hb:tkAt ts b t.data.toList = bb)=>(by rw [← hb];exact ttakes_any t hB wx s:Calls Tryz.prog 202 #[.pointer (some ⟨w.heap.size,0,none⟩),.string t] wx (TookIs w.heap.size bb b wx)))
  have hS0:TkrAt w w.heap.size ao cap ts a0 (w.alloc (tkrB ao cap ts a0)):=⟨heap_alloc_new w _,Nat.le_refl _,by omega,by (first | exact gwT | exact lzT)⟩
  replace hS0:=Lib.hid hS0
  clear hB hf
  go_enter Tryz.func177,Tryz.ntmps177
  go_wp2
  go_loopw [8] (fun v wr=>∃ (cs:List Ac) (a:Nat) (oa:Option Addr) (oc:Nat),v = .slice oa cs.length oc ∧ AcRow 239 235 w.heap.size wr (.slice oa cs.length oc) cs ∧ TkrAt w w.heap.size ao cap ts a wr ∧ cs.length ≤ 8 ∧ x = joinA cs (takeA (8 - cs.length) ts a)) (fun v _=>8 - lenV v)
  case atStart =>
   refine ⟨[],a0,none,0,rfl,acRow_nil _ _ _ _,hS0.out,by decide,?_⟩
   rw [← hx.out]
   cases takeA 8 ts a0 with
   | error x=>simp [joinA, *]
   | ok p=>simp [joinA, *]
  case round =>
   clear hS0 hx
   obtain ⟨cs,a,oa,oc,rfl,hrow,hS,h8,hR⟩:=hrel
   rename World=>wr
   have hz:=hS.env.size
   replace hR:=Lib.hid hR
   by_cases h88:cs.length = 8
   ·have hd:((cs.length:Int) == 8) = true:=by rw [beq_iff_eq];omega
    have hb:=hS.env
    clear hrow hS A T
    go_wp2
    go_returns
    have:=hR.out
    rw [h88] at this
    rw [this]
    exact ⟨rfl,hb⟩
   ·have hd:((cs.length:Int) == 8) = false:=by rw [beq_eq_false_iff_ne];omega
    obtain ⟨f,hff⟩:∃ f,8 - cs.length = f + 1:=⟨7 - cs.length,by omega⟩
    have hR2:=hR.out
    rw [hff,takeA] at hR2
    rcases ho:oneA ts a with x1 | ⟨c,n⟩
    ·rw [ho] at hR2
     replace hR2:=Lib.hid hR2
     have hnz:=oneA_nz ho
     go_wp2_with fail
     refine (A.out a _ wr hS ho).mono ?_
     intro e w1 hr
     obtain ⟨rfl,hK⟩:=hr
     have hb:=hS.env.trans hK.below
     clear hK hrow hS A T ho
     go_wp2
     go_returns
     rw [hR2.out]
     exact ⟨rfl,hb.trans (Below.mono (by (first | exact gwT | exact lzT)) hb.size)⟩
    ·rw [ho] at hR2
     replace hR2:=Lib.hid hR2
     go_wp2_with fail
     refine (A.out a _ wr hS ho).mono ?_
     intro e w1 hr
     obtain ⟨iv,xv,rfl,hK,hT,hI,hX⟩:=hr
     have hn:n ≤ ts.length:=oneA_le ho
     have hrow1:=acRow_keptA hrow hK hS.blk (by decide) (by decide)
     have hS1:TkrAt w w.heap.size ao cap ts n w1:=⟨hT,Nat.le_refl _,hn,hS.env.trans hK.below⟩
     have hz1:=hS1.env.size
     obtain ⟨io,ic,hi1⟩:=own_form hI
     obtain ⟨xo,xc,hx1⟩:=own_form hX
     subst hi1 hx1
     obtain ⟨vs,hV,hO⟩:=hrow1
     have hc:AcV 239 w.heap.size w1 c [.int .i64 c.kind,.slice io c.cond.length ic,.string ⟨c.name.toArray⟩,.slice xo c.x.length xc,.int .i64 c.n]:=⟨_,_,rfl,owns_base hI hz,owns_base hX hz⟩
     replace hV:=Lib.hid hV
     replace hO:=Lib.hid hO
     replace hc:=Lib.hid hc
     replace hS1:=Lib.hid hS1
     clear hI hX hT hK hrow hS ho
     go_wp2_with (at_builtin;refine wpList_append_lies _ rfl _ _ 158 rfl w.heap.size 235 j0 _ 5 80 Tryz.underlying158 hj hy1 hy2 hy3 rfl (by decide) (.slice oa cs.length oc) cs.length vs rfl (owns_below hO.out (by (first | exact gwT | exact lzT))) ⟨_,0,none⟩ 1 1 [.int .i64 c.kind,.slice io c.cond.length ic,.string ⟨c.name.toArray⟩,.slice xo c.x.length xc,.int .i64 c.n] rfl rfl (World.news_of_block (new_at (by simp))) (by intro u hu;simp at hu;rcases hu with rfl | rfl | rfl | rfl | rfl <;> rfl) (by decide) (by unfold maxLen;omega) (by omega) (by simp [go_sem];omega) _ rfl ?_)
     intro g' cap' w2 hown1 hgrow hat1 hg1
     have hl2:cs.length + 1 = (cs ++ [c]).length:=by simp
     have hbW:Below w1.heap.size w1 ((w1.alloc (.cells #[.int .i64 c.kind,.slice io c.cond.length ic,.string ⟨c.name.toArray⟩,.slice xo c.x.length xc,.int .i64 c.n] 235 (0,0))).alloc (.cells #[.int .i64 c.kind,.slice io c.cond.length ic,.string ⟨c.name.toArray⟩,.slice xo c.x.length xc,.int .i64 c.n] 235 (0,0))):=by (first | exact gwT | exact lzT)
     have hrow2:AcRow 239 235 w.heap.size w2 (.slice (some ⟨g',0,none⟩) (cs ++ [c]).length cap') (cs ++ [c]):=by
      rw [← hl2]
      exact acRow_grown (by decide) (acVs_keep hV.out hbW) (owns_below hO.out hbW) (acVs_single (acV_keep hc.out hbW)) hgrow (by simp) hown1
     have hS2:TkrAt w w.heap.size ao cap ts n w2:=⟨grown_blk (owns_below hO.out hbW) (blk_keep hS1.out.blk hbW) (by decide) hgrow,Nat.le_refl _,hn,Below.grown (hS1.out.env.trans (hbW.mono hz1)) hgrow (Nat.le_trans hz1 hbW.size) (fun k hk=>(hO.out.lt k hk).1)⟩
     clear hV hO hc hS1 hbW hgrow hown1 hat1 hg1 A
     rcases hsc:tkAt ts n [59] with _ | _
     ·rw [hsc] at hR2
      go_wp2_with fail
      refine (T.out ⟨#[59]⟩ n false _ hS2 hsc).mono ?_
      intro e w3 hr
      obtain ⟨rfl,hb⟩:=hr
      have hS3:=tkr_keep hS2 (show Below _ _ w3 from hb)
      have hrow3:=Lib.hid (acRow_keep hrow2 (show Below _ _ w3 from hb))
      obtain ⟨t0,t1,t2,t3⟩:=tkr_cells hS3
      have hb3:=hS3.env
      have i1:=InW.mk t2
      clear hb hS2 hrow2 T hS3
      clear hsc
      dsimp only
      go_wp2_with fail
      (refine wp_region_G (by kernel_rfl) (by kernel_rfl) ?_;(repeat (go_big_quiet_step (fail)));refine wpQuiet_nil ?_;intro _ hw';obtain ⟨pg,hw''⟩:=hw';subst hw'')
      go_wp2
      go_returns
      have h3:=hR2.out
      rw [if_neg (by decide)] at h3
      rw [h3]
      refine ⟨_,rfl,?_,hb3.trans (Below.mono (by (first | exact gwT | exact lzT)) hb3.size)⟩
      rw [hl2]
      exact acRow_keep hrow3.out (by (first | exact gwT | exact lzT))
     ·rw [hsc] at hR2
      go_wp2_with fail
      refine (T.out ⟨#[59]⟩ n true _ hS2 hsc).mono ?_
      intro e w3 hr
      obtain ⟨rfl,hb⟩:=hr
      have hS3:=tkr_move hS2 (tkAt_lt hsc) (show Below _ _ w3 from hb)
      have hrow3:=acRow_keptA hrow2 (keptA_moved (B:=w.heap.size) (tb:=w.heap.size) (ab:=w.heap.size) (Nat.le_refl _) hS2.env.size (show Below _ _ w3 from hb)) hS2.blk (by decide) (by decide)
      clear hb hS2 hrow2 T
      replace hS3:=Lib.hid hS3
      replace hrow3:=Lib.hid hrow3
      clear hsc
      dsimp only
      go_wp2_with fail
      go_roundw
      case rel =>
       refine ⟨cs ++ [c],n + 1,_,cap',by rw [← hl2],hrow3.out,hS3.out,by omega,?_⟩
       have:=hR2.out
       rw [if_pos rfl] at this
       rw [← hl2,show 8 - (cs.length + 1) = f by omega]
       exact this.trans (joinA_snoc cs c (takeA f ts (n + 1)))
      case measure =>
       show 8 - (cs.length + 1) < 8 - cs.length
       omega
end Go.Proofs.YtfgpmcepppcmiaaGreatDoor
