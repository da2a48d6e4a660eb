/- Several texts of this proof, joined: PR, PX, PS, PT, PU, PV, PW, PY. -/
import Derived.Test.YtfmaomoifkplbaaGreatDoorW5
import Derived.Test.YtfmaomoifkplbaaGreatDoorW4
import Derived.Test.YtfmaomoifkplbaaGreatDoorW3
import Derived.Test.YtfmaomoifkplbaaGreatDoorQ4
import Derived.WalkKit
import Derived.ProofKit
import Derived.OpenShut
import Derived.Handy
import Derived.BigQuiet
import Derived.Lib.Hide
import Derived.WalkLawsBesides
import Derived.OwnWalk
import Derived.WalkSmall
import Derived.Test.YtfmaomoifkplbaaGreatDoorQ7
import Derived.Deep.AppendLies
import Derived.Deep.RegionHeld3
import Derived.BigRegion
import Derived.Lib.Builder
import Derived.Lib.UnsafeStr
import Derived.Test.YtfmaomoifkplbaaGreatDoorV5
namespace Go.Proofs.YtfmaomoifkplbaaGreatDoor
def PickX (X : Ln → LnX) : Prop := ∀ n,LnOk n → n = flatL (X n) ∧ OkL (X n) ∧ (toksL digT (X n)).length ≤ 120
theorem pick_x : ∃ X,PickX X := Classical.axiomOfChoice (r := fun n x => LnOk n → n = flatL x ∧ OkL x ∧ (toksL digT x).length ≤ 120) fun n => by
 by_cases h : LnOk n
 ·obtain ⟨x,hx⟩ := h
  exact ⟨x,fun _ => hx⟩
 ·exact ⟨lx0 12,fun k => absurd k h⟩
abbrev Ol := Nat × Ln
def txO (X : Ln → LnX) (ls : List Ol) : List UInt8 := ls.flatMap fun p => lineO p.1 (lnText (X p.2))
theorem txO_nil (X : Ln → LnX) : txO X [] = [] := rfl
theorem txO_cons (X : Ln → LnX) (p : Ol) (ls : List Ol) : txO X (p :: ls) = lineO p.1 (lnText (X p.2)) ++ txO X ls := List.flatMap_cons
theorem txO_append (X : Ln → LnX) (a b : List Ol) : txO X (a ++ b) = txO X a ++ txO X b := List.flatMap_append
def closeL : List Nat → Int → List Ol
 | [],_ => []
 | x :: r,i => if (x : Int) = i then [] else (r.length,ln0 12) :: closeL r i
theorem pick_end {X : Ln → LnX} (h : PickX X) : lnText (X (ln0 12)) = lwL 12 := by
 obtain ⟨h1,_,_⟩ := h _ lnOk_end
 have hk : (X (ln0 12)).kind = 12 := by
  have := congrArg Ln.kind h1
  exact (Int.ofNat_inj.1 this).symm
 have := congrArg (fun b : ByteArray => b.data.toList) (end_text hk)
 exact this.symm
theorem close_tx {X : Ln → LnX} (h : PickX X) : ∀ (r : List Nat) (i : Int),closeT r i = txO X (closeL r i)
 | [],_ => rfl
 | x :: r,i => by
  rw [closeT,closeL]
  split
  ·rfl
  ·rw [txO_cons,pick_end h,close_tx h r i]
def stOut (c : Ch) (i : Nat) (k : Nat) : List Ol := (k,stLn (stAt c i)) :: if 5 < (stAt c i).kind then [] else (bodyLn (stAt c i)).map fun n => (k + 1,n)
def stRest (c : Ch) (i : Nat) (r : List Nat) : List Nat := if 5 < (stAt c i).kind then r else i :: r
def progL (c : Ch) : Nat → Nat → List Nat → List Ol
 | 0,_,r => closeL r 0
 | f + 1,i,r => closeL r (stAt c i).parent ++ (stOut c i (closeR r (stAt c i).parent).length ++ progL c f (i + 1) (stRest c i (closeR r (stAt c i).parent)))
def chartPr (c : Ch) : List Ol := (0,{ ln0 1 with name := c.name,start := (stAt c 0).start }) :: (c.vars.map (fun v => (0,vrLn v)) ++ progL c (c.states.length - 1) 1 [])
theorem lineO_pr (k : Nat) (x : LnX) : lineO k (lnText x) = prT (2 * k,x) ++ [10] := by
 unfold lineO prT padT
 simp
theorem txO_print (X : Ln → LnX) : ∀ ls : List Ol,txO X ls = printT (ls.map fun p => (2 * p.1,X p.2))
 | [] => rfl
 | p :: ls => by
  rw [txO_cons,lineO_pr,txO_print X ls]
  unfold printT
  rw [List.map_cons,List.flatMap_cons]
theorem close_ok : ∀ (r : List Nat) (i : Int),∀ p ∈ closeL r i,LnOk p.2
 | [],_,p,h => by cases h
 | x :: r,i,p,h => by
  rw [closeL] at h
  split at h
  ·cases h
  ·rcases List.mem_cons.1 h with rfl | h
   ·exact lnOk_end
   ·exact close_ok r i p h
theorem out_ok {c : Ch} (t : TreeC c) {i k : Nat} (h0 : 0 < i) (hi : i < c.states.length) : ∀ p ∈ stOut c i k,LnOk p.2 := fun p h => by
 unfold stOut at h
 rcases List.mem_cons.1 h with rfl | h
 ·exact t.st i h0 hi
 ·split at h
  ·cases h
  ·obtain ⟨n,hn,rfl⟩ := List.mem_map.1 h
   exact t.body i hi n hn
theorem prog_ok {c : Ch} (t : TreeC c) : ∀ (f i : Nat) (r : List Nat),0 < i → i + f ≤ c.states.length → ∀ p ∈ progL c f i r,LnOk p.2
 | 0,i,r,_,_,p,h => close_ok r 0 p h
 | f + 1,i,r,h0,hi,p,h => by
  rw [progL] at h
  rcases List.mem_append.1 h with h | h
  ·exact close_ok _ _ p h
  ·rcases List.mem_append.1 h with h | h
   ·exact out_ok t h0 (by omega) p h
   ·exact prog_ok t f (i + 1) _ (by omega) (by omega) p h
theorem chart_ok {c : Ch} (t : TreeC c) : ∀ p ∈ chartPr c,LnOk p.2 := fun p h => by
 unfold chartPr at h
 rcases List.mem_cons.1 h with rfl | h
 ·exact t.head
 ·rcases List.mem_append.1 h with h | h
  ·obtain ⟨v,hv,rfl⟩ := List.mem_map.1 h
   exact t.vars v hv
  ·exact prog_ok t _ 1 [] (by decide) (by have := t.some;omega) p h
end Go.Proofs.YtfmaomoifkplbaaGreatDoor
namespace Go.Proofs.YtfmaomoifkplbaaGreatDoor
theorem flat_eq {α β : Type} {f g : α → List β} : ∀ {l : List α},(∀ a ∈ l,f a = g a) → l.flatMap f = l.flatMap g
 | [],_ => rfl
 | a :: l,h => by
  rw [List.flatMap_cons,List.flatMap_cons,h a (by simp),flat_eq fun b hb => h b (by simp [hb])]
section
variable {c : Ch}
def progP (c : Ch) (e : Nat) (r : List Nat) : List Ol := progL c (c.states.length - e) e r
def parO (c : Ch) (e : Nat) : Int := if e < c.states.length then (stAt c e).parent else 0
def pQ (c : Ch) (e : Nat) (r : List Nat) : List Ol := if e < c.states.length then stOut c e r.length ++ progP c (e + 1) (stRest c e r) else []
theorem prog_eq {e : Nat} (he : e ≤ c.states.length) (r : List Nat) : progP c e r = closeL r (parO c e) ++ pQ c e (closeR r (parO c e)) := by
 unfold progP parO pQ
 by_cases h : e < c.states.length
 ·rw [if_pos h,if_pos h,show c.states.length - e = (c.states.length - (e + 1)) + 1 by omega]
  rfl
 ·rw [if_neg h,if_neg h,show c.states.length - e = 0 by omega,List.append_nil]
  rfl
theorem prog_pop {e x : Nat} (he : e ≤ c.states.length) (hx : (x : Int) ≠ parO c e) (r : List Nat) : progP c e (x :: r) = (r.length,ln0 12) :: progP c e r := by
 rw [prog_eq he,prog_eq he,closeL,closeR,if_neg hx,if_neg hx]
 rfl
theorem prog_same {e x : Nat} (he : e < c.states.length) (hx : (stAt c e).parent = (x : Int)) (r : List Nat) : progP c e (x :: r) = pQ c e (x :: r) := by
 have h : (x : Int) = parO c e := by unfold parO;rw [if_pos he,hx]
 rw [prog_eq (Nat.le_of_lt he),closeL,closeR,if_pos h,if_pos h]
 rfl
theorem prog_void (e : Nat) (he : e ≤ c.states.length) : progP c e [] = pQ c e [] := by
 rw [prog_eq he]
 rfl
def stateD (c : Ch) : Nat → Nat → Nat → List Ol
 | 0,_,_ => []
 | f + 1,i,k => (k,stLn (stAt c i)) :: (if 5 < (stAt c i).kind then [] else (bodyLn (stAt c i)).map (fun n => (k + 1,n)) ++ ((kidsFrom c i (c.states.length - 1) 1).flatMap (fun j => stateD c f j (k + 1)) ++ [(k,ln0 12)]))
def chartD (c : Ch) : List Ol := (0,{ ln0 1 with name := c.name,start := (stAt c 0).start }) :: (c.vars.map (fun v => (0,vrLn v)) ++ (kidsFrom c 0 (c.states.length - 1) 1).flatMap (fun j => stateD c c.states.length j 0))
def StateProg (c : Ch) (f i : Nat) : Prop := ∀ r : List Nat,∃ e,i < e ∧ e ≤ c.states.length ∧ (∀ k,i ≤ k → k < e → Sub c i k) ∧ (e < c.states.length → ¬ Sub c i e) ∧ pQ c i r = stateD c f i r.length ++ progP c e r
theorem kids_prog (sh : ShapeC c) (f i : Nat) (s : List Nat) (tail : Nat → List Ol) (S : ∀ k,i < k → k < c.states.length → StateProg c f k)
  (hs1 : ∀ m,m < c.states.length → (stAt c m).parent = (i : Int) → progP c m s = pQ c m s) (hs2 : ∀ m,m ≤ c.states.length → (m < c.states.length → ¬ Sub c i m) → progP c m s = tail m) :
  ∀ (g m : Nat),m + g = c.states.length → i < m → (∀ k,i ≤ k → k < m → Sub c i k) → (m < c.states.length → Sub c i m → (stAt c m).parent = (i : Int)) →
  ∃ e,m ≤ e ∧ e ≤ c.states.length ∧ (∀ k,i ≤ k → k < e → Sub c i k) ∧ (e < c.states.length → ¬ Sub c i e) ∧ progP c m s = (kidsFrom c i g m).flatMap (fun j => stateD c f j s.length) ++ tail e := by
 intro g
 induction g using Nat.strongRecOn with
 | ind g ih =>
  intro m hg him hin hcl
  by_cases hm : m = c.states.length
  ·obtain rfl : g = 0 := by omega
   exact ⟨m,Nat.le_refl _,by omega,hin,fun h => absurd h (by omega),by rw [hs2 m (by omega) fun h => absurd h (by omega)];rfl⟩
  ·obtain ⟨g',rfl⟩ : ∃ k,g = k + 1 := ⟨g - 1,by omega⟩
   by_cases hp : (stAt c m).parent = (i : Int)
   ·rw [kidsFrom,if_pos hp,List.flatMap_cons]
    obtain ⟨e1,h1,h2,h3,h4,h5⟩ := S m him (by omega) s
    have hno : ∀ k,m + 1 ≤ k → k < m + 1 + (e1 - (m + 1)) → (stAt c k).parent ≠ (i : Int) := fun k hk1 hk2 he => by
     have hs := h3 k (by omega) (by omega)
     cases hs with
     | refl => omega
     | up h0 hn hp2 g =>
      rw [he] at hp2
      have := Int.ofNat_inj.1 hp2
      have hle := sub_le sh g
      omega
    have hk := kids_skip (c := c) (i := i) (e1 - (m + 1)) (c.states.length - e1) (m + 1) hno
    rw [show e1 - (m + 1) + (c.states.length - e1) = g' by omega,show m + 1 + (e1 - (m + 1)) = e1 by omega] at hk
    rw [hk,hs1 m (by omega) hp,h5]
    have him1 : Sub c i m := .up (by omega) (by omega) hp (.refl i)
    obtain ⟨e,a1,a2,a3,a4,a5⟩ := ih (c.states.length - e1) (by omega) e1 (by omega) (by omega) (fun k k1 k2 => by
     by_cases hk : k < m
     ·exact hin k k1 hk
     ·exact sub_trans him1 (h3 k (by omega) k2)) (fun k1 k2 => by
     obtain ⟨p,hp1,hp2⟩ := sh.par e1 (by omega) k1
     have hpre := sh.pre (e1 - 1) p (by omega) (by rw [show e1 - 1 + 1 = e1 by omega];exact hp1)
     have hip : Sub c i p := by
      cases k2 with
      | refl => omega
      | up h0 hn hq g =>
       rw [hp1] at hq
       have := Int.ofNat_inj.1 hq
       subst this
       exact g
     rcases sub_chain hpre (h3 (e1 - 1) (by omega) (by omega)) with hc | hc
     ·cases hc with
      | refl => exact absurd (.up (by omega) k1 hp1 (.refl _)) (h4 k1)
      | up h0 hn hq g =>
       rw [hp] at hq
       have e2 := Int.ofNat_inj.1 hq
       have l1 := sub_le sh g
       have l2 := sub_le sh hip
       rw [hp1,show p = i by omega]
     ·exact absurd (.up (by omega) k1 hp1 hc) (h4 k1))
    exact ⟨e,by omega,a2,a3,a4,by rw [a5,List.append_assoc]⟩
   ·have hns : ¬ Sub c i m := fun hs => hp (hcl (by omega) hs)
    have hk : kidsFrom c i (g' + 1) m = [] := kids_none _ _ fun k k1 k2 he => by
     have hns2 := sub_gaps sh (by omega) hns (k - m) (by omega)
     rw [show m + (k - m) = k by omega] at hns2
     exact hns2 (.up (by omega) (by omega) he (.refl i))
    rw [hk]
    exact ⟨m,Nat.le_refl _,by omega,hin,fun _ => hns,by rw [hs2 m (by omega) fun _ => hns];rfl⟩
theorem state_prog (sh : ShapeC c) : ∀ (f i : Nat),0 < i → i < c.states.length → c.states.length - i ≤ f → StateProg c f i
 | 0,i,_,hi,hf => by omega
 | f + 1,i,h0,hi,hf => by
  intro r
  unfold pQ
  rw [if_pos hi,stateD]
  unfold stOut stRest
  by_cases hk : 5 < (stAt c i).kind
  ·rw [if_pos hk,if_pos hk,if_pos hk]
   refine ⟨i + 1,by omega,by omega,fun k k1 k2 => by rw [show k = i by omega];exact .refl i,fun hn hs => ?_,rfl⟩
   have := sh.low (i + 1) i (by omega) hn (kid_first sh hn hs)
   omega
  ·rw [if_neg hk,if_neg hk,if_neg hk]
   obtain ⟨e,e1,e2,e3,e4,e5⟩ := kids_prog sh f i (i :: r) (fun e => (r.length,ln0 12) :: progP c e r) (fun k k1 k2 => state_prog sh f k (by omega) k2 (by omega))
    (fun m hm hp => prog_same hm hp r) (fun m hm hn => prog_pop hm (fun he => by
     unfold parO at he
     split at he
     ·rename_i hlt
      exact hn hlt (.up (by
       rcases Nat.eq_zero_or_pos m with h | h
       ·subst h
        have := sh.root
        rw [this] at he
        simp at he
       ·exact h) hlt he.symm (.refl i))
     ·omega) r)
    (c.states.length - (i + 1)) (i + 1) (by omega) (by omega) (fun k k1 k2 => by rw [show k = i by omega];exact .refl i) (fun hn hs => kid_first sh hn hs)
   refine ⟨e,by omega,e2,e3,e4,?_⟩
   rw [e5,kids_start sh hi]
   simp
theorem chart_prog (sh : ShapeC c) : chartPr c = chartD c := by
 unfold chartPr chartD
 congr 2
 have h := kids_prog sh c.states.length 0 [] (fun _ => []) (fun k k1 k2 => state_prog sh _ k k1 k2 (by omega)) (fun m hm _ => prog_void m (by omega))
  (fun m hm hn => by
   by_cases hlt : m < c.states.length
   ·exact absurd (sub_root sh m hlt) (hn hlt)
   ·rw [prog_void m hm]
    unfold pQ
    rw [if_neg hlt])
  (c.states.length - 1) 1 (by have := sh.some;omega) (by decide) (fun k k1 k2 => by rw [show k = 0 by omega];exact .refl 0) (fun hn hs => kid_first sh (i := 0) hn hs)
 obtain ⟨e,_,_,_,_,h5⟩ := h
 rw [List.append_nil] at h5
 exact h5
theorem stateD_lines : ∀ (f i k : Nat),(stateD c f i k).map (fun p => p.2) = stateLn c f i
 | 0,_,_ => rfl
 | f + 1,i,k => by
  rw [stateD,stateLn,List.map_cons]
  congr 1
  split
  ·rfl
  ·rw [List.map_append,List.map_append,List.map_map,List.map_flatMap,show ((fun p : Ol => p.2) ∘ fun n => (k + 1,n)) = id from rfl,List.map_id,flat_eq fun j _ => stateD_lines f j (k + 1)]
   rfl
theorem chartD_lines : (chartD c).map (fun p => p.2) = chartLn c := by
 unfold chartD chartLn
 rw [List.map_cons,List.map_append,List.map_map,List.map_flatMap]
 rw [flat_eq fun j _ => stateD_lines c.states.length j 0]
 rfl
end
theorem printed_again {X : Ln → LnX} (hX : PickX X) {l : List UInt8} {c d : Ch} (h : chartT l = .ok c) (h2 : chartT (txO X (chartPr c)) = .ok d) : d = c := by
 have ok := chart_ok (tree_chart h)
 rw [txO_print] at h2
 refine chart_again h _ (fun p hp => ?_) ?_ h2
 ·obtain ⟨q,hq,rfl⟩ := List.mem_map.1 hp
  exact (hX _ (ok q hq)).2
 ·rw [← chartD_lines,← chart_prog (shape_chart h),List.map_map]
  apply List.map_congr_left
  intro p hp
  exact (hX _ (ok p hp)).1.symm
end Go.Proofs.YtfmaomoifkplbaaGreatDoor
namespace Go.Proofs.YtfmaomoifkplbaaGreatDoor
open Go.RowKit
theorem line_len {x : LnX} (ok : OkL x) : (lnText x).length ≤ 300000 := by
 have hk := ok.kind
 by_cases h1 : x.kind = 10 ∨ x.kind = 11
 ·have t := trX_of ok h1
  have := trans_len t.ok t.ev
  rw [trans_words x t.kind] at this
  omega
 ·by_cases h2 : x.kind = 8 ∨ x.kind = 9
  ·obtain ⟨a1,a2⟩ := acts_ok ok h2
   have := acts_len x.acts a2.2
   have := a2.1
   have e := congrArg ByteArray.size (acts_line h2 a1)
   rw [bytL_size] at e
   have hz := wdB_size x.kind hk.1 hk.2
   unfold actsB actsT at e
   rw [ByteArray.size_append,ByteArray.size_append,bytL_size] at e
   have : (⟨#[32]⟩ : ByteArray).size = 1 := rfl
   omega
  ·by_cases h3 : x.kind = 12
   ·have e := congrArg ByteArray.size (end_text h3)
    rw [bytL_size] at e
    have hz := wdB_size 12 (by decide) (by decide)
    omega
   ·by_cases h4 : x.kind = 2
    ·obtain ⟨v1,v2⟩ := var_ok ok h4
     have := val_len v1
     have e := congrArg ByteArray.size (var_text h4)
     have hz := wdB_size 2 (by decide) (by decide)
     have : (⟨#[32]⟩ : ByteArray).size = 1 := rfl
     rw [bytL_size,ByteArray.size_append,ByteArray.size_append,ByteArray.size_append,ByteArray.size_append,bytL_size,bytL_size] at e
     omega
    ·have h5 : x.kind = 1 ∨ x.kind = 3 ∨ x.kind = 4 ∨ x.kind = 5 ∨ x.kind = 6 ∨ x.kind = 7 := by omega
     obtain ⟨n1,n2⟩ := names_len ok h5
     have e := congrArg ByteArray.size (names_text h5)
     have hz := wdB_size x.kind hk.1 hk.2
     have : (⟨#[32]⟩ : ByteArray).size = 1 := rfl
     rw [bytL_size] at e
     unfold namesB at e
     split at e
     ·rw [ByteArray.size_append,ByteArray.size_append,bytL_size] at e
      omega
     ·rw [ByteArray.size_append,ByteArray.size_append,ByteArray.size_append,ByteArray.size_append,bytL_size,bytL_size] at e
      omega
section
variable {X : Ln → LnX}
theorem pick_len (hX : PickX X) {n : Ln} (h : LnOk n) : (lnText (X n)).length ≤ 300000 := line_len (hX n h).2.1
theorem pick_kind (hX : PickX X) {n : Ln} (h : LnOk n) : ((X n).kind : Int) = n.kind := (congrArg Ln.kind (hX n h).1).symm
theorem pick_names (hX : PickX X) {n : Ln} (h : LnOk n) (hk : n.kind = 1 ∨ 3 ≤ n.kind ∧ n.kind ≤ 7) (w : World) (hw : Lw w) :
  Calls Tryz.prog 19 #[.agg (lnN n.kind (bytL n.name) (bytL n.start))] w (Ret (.string (bytL (lnText (X n)))) w) := by
 have h1 := pick_kind hX h
 have h2 : n.name = (X n).name := congrArg Ln.name (hX n h).1
 have h3 : n.start = (X n).start := congrArg Ln.start (hX n h).1
 have := text_names (hX n h).2.1 (by omega) w hw
 rw [h1,← h2,← h3] at this
 exact this
theorem pick_var (hX : PickX X) {n : Ln} (h : LnOk n) (hk : n.kind = 2) (w : World) (hw : Az w) :
  Calls Tryz.prog 19 #[.agg (lnVr (bytL n.name) n.vk n.vn (bytL n.vs))] w (Ret (.string (bytL (lnText (X n)))) w) := by
 have h1 := pick_kind hX h
 have h2 : n.name = (X n).name := congrArg Ln.name (hX n h).1
 have h3 : n.vk = (X n).vk := congrArg Ln.vk (hX n h).1
 have h4 : n.vn = (X n).vn := congrArg Ln.vn (hX n h).1
 have h5 : n.vs = (X n).vs := congrArg Ln.vs (hX n h).1
 have := text_var (hX n h).2.1 (by omega) w hw
 rw [← h2,← h3,← h4,← h5] at this
 exact this
theorem pick_acts (hX : PickX X) {n : Ln} (h : LnOk n) (hk : n.kind = 8 ∨ n.kind = 9) (ao : Option Addr) (cap : Nat) (w : World) (hw : Az w) (hA : ActsAt w ao n.acts) :
  Calls Tryz.prog 19 #[.agg (lnAc n.kind (.slice ao n.acts.length cap))] w (Ret (.string (bytL (lnText (X n)))) w) := by
 have h1 := pick_kind hX h
 have h2 : n.acts = (X n).acts.map flatA := congrArg Ln.acts (hX n h).1
 have := text_acts (hX n h).2.1 (by omega) ao cap w hw (h2 ▸ hA)
 rw [h1,← h2] at this
 exact this
theorem pick_trans (hX : PickX X) {t : Tr} (h : LnOk (trLn t)) (io : Option Addr) (ic : Nat) (g gc : Nat) (go : Option Addr) (ao : Option Addr) (ac : Nat) (w : World) (hw : Az w)
  (h1 : NdsAt w io t.cond) (h2 : 0 < t.goes.length → go = some ⟨g,0,none⟩ ∧ g < w.heap.size ∧ ∀ j (h : j < t.goes.length),w.cell? ⟨g,j,none⟩ = some (.string (bytL t.goes[j]))) (h3 : ActsAt w ao t.thn) :
  Calls Tryz.prog 43 #[.agg #[.string (bytL t.event),.slice io t.cond.length ic,.slice go t.goes.length gc,.bool t.inner,.slice ao t.thn.length ac]] w (Ret (.string (bytL (lnText (X (trLn t))))) w) := by
 obtain ⟨e,ok,_⟩ := hX _ h
 have k := pick_kind hX h
 have hk : (trLn t).kind = 10 ∨ (trLn t).kind = 11 := by
  unfold trLn ln0
  simp only
  split
  ·exact .inr rfl
  ·exact .inl rfl
 have e1 : t.event = (X (trLn t)).event := congrArg Ln.event e
 have e2 : t.cond = flatO (X (trLn t)).cond := congrArg Ln.cond e
 have e3 : t.goes = (X (trLn t)).goes := congrArg Ln.goes e
 have e4 : t.inner = (X (trLn t)).inner := congrArg Ln.inner e
 have e5 : t.thn = (X (trLn t)).thn.map flatA := congrArg Ln.thn e
 generalize X (trLn t) = x at *
 obtain ⟨ev,co,gs,inn,th⟩ := t
 simp only at *
 subst e1 e2 e3 e4 e5
 exact tshow_tree (trX_of ok (by omega)) io ic g gc go ao ac w hw h1 h2 h3
end
end Go.Proofs.YtfmaomoifkplbaaGreatDoor
namespace Go.Proofs.YtfmaomoifkplbaaGreatDoor
open Go.RowKit
section
variable {X : Ln → LnX} {w0 wk : World} {pb : Nat} {nm vv sv av bv ov : Value} {l : List UInt8} {op : List Nat} {w w' : World}
def acLn (k : Nat) (a : List Ac) : Ln := { ln0 (k : Int) with acts := a }
def acOl (k n : Nat) (bs : List (List Ac)) : List Ol := bs.map fun a => (n,acLn k a)
set_option maxRecDepth 100000 in
set_option maxHeartbeats 4000000 in
theorem pacts_any (hX : PickX X) (k : Nat) (hk : k = 8 ∨ k = 9) (bs : List (List Ac)) (hbs : bs.length ≤ 8) (hok : ∀ a ∈ bs,LnOk (acLn k a)) (ao : Option Addr) (cap : Nat) (hl : l.length ≤ 70368600000000) (hop : op.length ≤ 60)
  (hZ : ∀ wx,w0.grownBy wx (some pb) → Az wx) {B : Nat} (hR : ∀ wx,w0.grownBy wx (some pb) → BlkRow ct0 B wx (.slice ao bs.length cap) bs) (h : PAt w0 wk pb nm vv sv l op ov w) :
  Calls Tryz.prog 47 #[.pointer (some ⟨pb,0,none⟩),.int .i64 (k : Int),.slice ao bs.length cap] w (PWr (.tuple #[]) w0 wk pb nm vv sv (l ++ txO X (acOl k op.length bs)) op ov) := by
 replace h := Lib.hid h
 replace hZ := Lib.hid hZ
 replace hR := Lib.hid hR
 obtain ⟨T,hT⟩ : ∃ T,Hid (l ++ txO X (acOl k op.length bs) = T) := ⟨_,Lib.hid rfl⟩
 rw [hT.out]
 go_enter Tryz.func47,Tryz.ntmps47
 go_wp2
 go_loopw [10] (fun x wr => ∃ (i : Nat) (l' : List UInt8),x = .int .i64 (i : Int) ∧ i ≤ bs.length ∧ l'.length + (bs.length - i) * 300200 ≤ 70368600000000 + 8 * 300200 ∧ Hid (l' ++ txO X (acOl k op.length (bs.drop i)) = T) ∧ Hid (PAt w0 wk pb nm vv sv l' op ov wr)) (fun x _ => bs.length - (intOf x).toNat)
 case atStart => exact ⟨0,l,rfl,Nat.zero_le _,by have := Nat.mul_le_mul_right 300200 hbs;omega,hT,h⟩
 case round =>
  obtain ⟨i,l',rfl,hi,hll,hT,hP⟩ := hrel
  rename World => wr
  obtain ⟨_,_,_,_,hpb,_⟩ := pat_cells hP.out
  have i0 : InW pb wr := ⟨hpb⟩
  by_cases hlt : i < bs.length
  ·obtain ⟨g,xo,xc,rfl,hg,n1,hA⟩ := blk_at (hR.out wr (pat_env hP.out)) i hlt
   have hok1 := hok _ (List.getElem_mem hlt)
   have hlen := pick_len hX hok1
   have hd : bs.drop i = bs[i] :: bs.drop (i + 1) := List.drop_eq_getElem_cons hlt
   have hT2 : Hid ((l' ++ lineO op.length (lnText (X (acLn k bs[i])))) ++ txO X (acOl k op.length (bs.drop (i + 1))) = T) := Lib.hid (by rw [← hT.out,hd,List.append_assoc];rfl)
   have T1 := pick_acts hX hok1 (by rcases hk with rfl | rfl <;> first | exact .inl rfl | exact .inr rfl) xo xc wr (hZ.out wr (pat_env hP.out)) (acRow_at hA)
   generalize bs[i] = a at *
   have i1 : InW g wr := ⟨hg⟩
   have hI : (i : Int) < (bs.length : Int) := by omega
   replace T1 := Lib.hid T1
   clear hA hd hT
   obtain ⟨tx,htx⟩ : ∃ tx,lnText (X (acLn k a)) = tx := ⟨_,rfl⟩
   rw [htx] at T1 hT2 hlen
   clear htx
   go_wp2_with fail
   refine T1.out.mono ?_
   intro e w2 hr
   obtain ⟨rfl,hb⟩ := hr
   have hS := say_any (bytL tx) (by omega) (by rw [bytL_size];omega) hop (pat_keep hP.out hb)
   rw [bytL_list] at hS
   replace hS := Lib.hid hS
   have i2 : InW pb w2 := ⟨Nat.lt_of_lt_of_le hpb hb.size⟩
   clear T1 hP hb
   go_wp2_with fail
   refine hS.out.mono ?_
   intro e w3 hr
   obtain ⟨rfl,hP3⟩ := hr
   replace hP3 := Lib.hid hP3
   clear hS
   go_wp2
   go_roundw
   case rel => exact ⟨i + 1,l' ++ lineO op.length tx,by go_num,by omega,by rw [List.length_append,lineO_len];omega,hT2,hP3⟩
   case measure => simp [intOf];omega
  ·have hI : ¬ (i : Int) < (bs.length : Int) := by omega
   have h1 : l' = T := by rw [← hT.out,List.drop_eq_nil_of_le (by omega)];simp [acOl,txO]
   subst h1
   clear hT
   go_wp2
   go_end0
   exact ⟨rfl,hP.out⟩
end
end Go.Proofs.YtfmaomoifkplbaaGreatDoor
namespace Go.Proofs.YtfmaomoifkplbaaGreatDoor
open Go.RowKit
section
variable {X : Ln → LnX} {w0 wk : World} {pb : Nat} {nm vv sv av bv ov : Value} {l : List UInt8} {op : List Nat} {w w' : World}
theorem pr_push {g cap n x : Nat} {w1 : World} (h : PAt w0 wk pb nm vv sv l op ov w) (hgrow : w.grownBy w1 ov.ownBlock) (ho : w1.ownsRow w0.heap.size 3 1 (.slice (some ⟨g,0,none⟩) n cap) n (natsC op ++ [.int .i64 (x : Int)])) (hn : n = op.length + 1) :
  PAt w0 wk pb nm vv sv l (op ++ [x]) (.slice (some ⟨g,0,none⟩) n cap) (w1.setCell ⟨pb,5,none⟩ (.slice (some ⟨g,0,none⟩) n cap)) := by
 subst hn
 obtain ⟨av,bv,h⟩ := h
 have hb := grown_blk h.opn h.blk (by decide) hgrow
 have t1 := tp_grown (B := w0.heap.size) h.opn (show 5 ≠ 3 by decide) hgrow _ _ _ _ h.buf
 refine ⟨av,bv,blk_set hb,h.adr,tp_set hb (by decide) _ _ _ _ t1,?_,h.low,grown_at (grown_own h.env hgrow fun b hb => (h.opn.lt b hb).1),kp_trans (kp_trans h.kp (kp_grown h.opn (.inr rfl) hgrow)) (kp_set hb)⟩
 have := tp_set (i := 5) (u := .slice (some ⟨g,0,none⟩) (op.length + 1) cap) hb (show 61 ≠ 3 by decide) _ _ _ _ ho
 rw [show natsC (op ++ [x]) = natsC op ++ [.int .i64 (x : Int)] by simp [natsC],List.length_append]
 exact this
theorem pr_behind {w1 : World} (h : PAt w0 wk pb nm vv sv l op ov w) (hgrow : w.grownBy w1 ov.ownBlock) : w1.cell? ⟨pb,5,none⟩ = some ov ∧ pb < w1.heap.size ∧ ∀ i,w1.frozen? ⟨pb,i,none⟩ = false := by
 obtain ⟨av,bv,h⟩ := h
 have hb := grown_blk h.opn h.blk (by decide) hgrow
 exact ⟨(cell_of_row w1 pb _ _ _ _ hb).trans rfl,lt_of_block hb,fun i => frozen_of_row w1 pb i _ _ hb⟩
abbrev stO (s : St) (ev xv tv : Value) : Obj := .cells #[str s.name,.int .i64 s.kind,.int .i64 s.parent,str s.start,ev,xv,tv] 47 (0,0)
theorem st_cells {b : Nat} {s : St} {ev xv tv : Value} (h : w.heap[b]? = some (stO s ev xv tv)) : w.cell? ⟨b,0,none⟩ = some (str s.name) ∧ w.cell? ⟨b,1,none⟩ = some (.int .i64 s.kind) ∧ w.cell? ⟨b,2,none⟩ = some (.int .i64 s.parent) ∧ w.cell? ⟨b,3,none⟩ = some (str s.start) ∧ w.cell? ⟨b,4,none⟩ = some ev ∧ w.cell? ⟨b,5,none⟩ = some xv ∧ w.cell? ⟨b,6,none⟩ = some tv ∧ b < w.heap.size := by
 refine ⟨?_,?_,?_,?_,?_,?_,?_,lt_of_block h⟩
 all_goals
  rw [cell_of_row w b _ _ _ _ h]
  rfl
structure StIn (B : Nat) (s : St) (i g : Nat) (ev xv tv : Value) (w : World) : Prop where
 lt : g < w.heap.size
 c0 : w.cell? ⟨g,i * 7,none⟩ = some (str s.name)
 c1 : w.cell? ⟨g,i * 7 + 1,none⟩ = some (.int .i64 s.kind)
 c2 : w.cell? ⟨g,i * 7 + 2,none⟩ = some (.int .i64 s.parent)
 c3 : w.cell? ⟨g,i * 7 + 3,none⟩ = some (str s.start)
 c4 : w.cell? ⟨g,i * 7 + 4,none⟩ = some ev
 c5 : w.cell? ⟨g,i * 7 + 5,none⟩ = some xv
 c6 : w.cell? ⟨g,i * 7 + 6,none⟩ = some tv
 r1 : BlkRow ct0 B w ev s.enter
 r2 : BlkRow ct0 B w xv s.exit
 r3 : TrRow ct0 B w tv s.trans
theorem st_in {B n sc g : Nat} {c : Ch} {rv : Nat → Value} (h : ChV ct0 B w c rv vv (.slice (some ⟨g,0,none⟩) n sc)) (i : Nat) (hi : i < c.states.length) : StIn B (stAt c i) i g (rv (3 * i)) (rv (3 * i + 1)) (rv (3 * i + 2)) w := by
 obtain ⟨g',cap',e,hg,_,_,hc⟩ := own_head h.sts (by omega)
 cases e
 have hd : stAt c i = c.states[i] := by simp [stAt,List.getD,hi]
 have hat : ∀ j,j < 7 → ∀ u,(stC c.states[i] (rv (3 * i)) (rv (3 * i + 1)) (rv (3 * i + 2)))[j]? = some u → w.cell? ⟨g,i * 7 + j,none⟩ = some u := fun j hj u hu => hc _ _ (by rw [stsC_at _ _ _ i hi j hj,Nat.zero_add];exact hu)
 rw [hd]
 have k1 := h.ent i
 have k2 := h.exi i
 have k3 := h.trs i
 change BlkRow ct0 B w _ (stAt c i).enter at k1
 change BlkRow ct0 B w _ (stAt c i).exit at k2
 change TrRow ct0 B w _ (stAt c i).trans at k3
 rw [hd] at k1 k2 k3
 exact ⟨hg,hat 0 (by decide) _ rfl,hat 1 (by decide) _ rfl,hat 2 (by decide) _ rfl,hat 3 (by decide) _ rfl,hat 4 (by decide) _ rfl,hat 5 (by decide) _ rfl,hat 6 (by decide) _ rfl,k1,k2,k3⟩
theorem txO_len {X : Ln → LnX} (hX : PickX X) : ∀ ls : List Ol,(∀ p ∈ ls,LnOk p.2 ∧ p.1 ≤ 60) → (txO X ls).length ≤ ls.length * 300200
 | [],_ => by simp [txO]
 | p :: ls,h => by
  have ih := txO_len hX ls fun q hq => h q (by simp [hq])
  obtain ⟨h1,h2⟩ := h p (by simp)
  have := pick_len hX h1
  rw [txO_cons,List.length_append,lineO_len,List.length_cons,Nat.succ_mul]
  omega
def trOl (k : Nat) (ts : List Tr) : List Ol := ts.map fun t => (k,trLn t)
theorem body_ol (s : St) (k : Nat) : ((bodyLn s).map fun n => (k,n)) = acOl 8 k s.enter ++ (acOl 9 k s.exit ++ trOl k s.trans) := by
 unfold bodyLn acOl trOl
 rw [List.map_append,List.map_append,List.map_map,List.map_map,List.map_map]
 rfl
theorem goes_in {B cap : Nat} {go : Option Addr} {gs : List (List UInt8)} (h : w.ownsRow B 9 1 (.slice go gs.length cap) gs.length (strsC gs)) : ∃ g,0 < gs.length → go = some ⟨g,0,none⟩ ∧ g < w.heap.size ∧ ∀ j (h : j < gs.length),w.cell? ⟨g,j,none⟩ = some (.string (bytL gs[j])) := by
 by_cases h0 : 0 < gs.length
 ·obtain ⟨g,cap',e,hg,_,_,hc⟩ := own_head h h0
  cases e
  exact ⟨g,fun _ => ⟨rfl,hg,fun j hj => hc _ _ (by unfold strsC;rw [List.getElem?_map,List.getElem?_eq_getElem hj];rfl)⟩⟩
 ·exact ⟨0,fun h => absurd h h0⟩
def outS (s : St) (k : Nat) : List Ol := (k,stLn s) :: if 5 < s.kind then [] else (bodyLn s).map fun n => (k + 1,n)
def restS (s : St) (i : Nat) (r : List Nat) : List Nat := if 5 < s.kind then r else i :: r
set_option maxRecDepth 100000 in
set_option maxHeartbeats 4000000 in
theorem pstate_any (hX : PickX X) {s : St} (hs1 : LnOk (stLn s)) (hs2 : ∀ n ∈ bodyLn s,LnOk n) {ns sc B g : Nat} {ev xv tv : Value} {rop : List Nat} (i : Nat) (hi : i < ns) (hk : 3 ≤ s.kind ∧ s.kind ≤ 7) (hn1 : s.enter.length ≤ 8) (hn2 : s.exit.length ≤ 8) (hn3 : s.trans.length ≤ 96)
  (hl : l.length ≤ 70368500000000) (hop : rop.length ≤ 50) (hsv : sv = .slice (some ⟨g,0,none⟩) ns sc)
  (hZ : ∀ wx,w0.grownBy wx (some pb) → Az wx) (hC : ∀ wx,w0.grownBy wx (some pb) → StIn B s i g ev xv tv wx) (h : PAt w0 wk pb nm vv sv l rop.reverse ov w) :
  Calls Tryz.prog 21 #[.pointer (some ⟨pb,0,none⟩),.int .i64 (i : Int)] w (PWo (.tuple #[]) w0 wk pb nm vv sv (l ++ txO X (outS s rop.length)) (restS s i rop).reverse) := by
 subst hsv
 obtain ⟨_,_,c2,_,hpb,_⟩ := pat_cells h
 have hin := hC w (pat_env h)
 obtain ⟨eo,ec,rfl⟩ := blkRow_form hin.r1
 obtain ⟨xo,xc,rfl⟩ := blkRow_form hin.r2
 obtain ⟨to',tc,rfl⟩ := trRow_form hin.r3
 obtain ⟨hg,n0,n1,n2,n3,n4,n5,n6,_⟩ := hin
 replace hZ := Lib.hid hZ
 replace hC := Lib.hid hC
 have i0 : InW pb w := ⟨hpb⟩
 have i1 : InW g w := ⟨hg⟩
 have hiI : (i : Int) < (ns : Int) := by omega
 replace h := Lib.hid h
 have T1 : Hid (∀ wx,Below w.heap.size w wx → Calls Tryz.prog 19 #[.agg (lnN s.kind ⟨s.name.toArray⟩ ⟨s.start.toArray⟩)] wx (Ret (.string (bytL (lnText (X (stLn s))))) wx)) :=
  Lib.hid fun wx hb => pick_names hX hs1 (.inr hk) wx (hZ.out wx (grown_trans (pat_env h.out) (grown_of_below hb))).al.lw
 have hlen := pick_len hX hs1
 obtain ⟨T,hT⟩ : ∃ T,Hid (l ++ txO X (outS s rop.length) = T) := ⟨_,Lib.hid rfl⟩
 rw [hT.out]
 go_enter Tryz.func21,Tryz.ntmps21
 go_wp2_with fail
 refine (T1.out _ (by (first | exact gwT | exact lzT))).mono ?_
 intro e w1 hr
 obtain ⟨rfl,hb⟩ := hr
 have hab := blk_keep (heap_alloc_new w (stO s (.slice eo s.enter.length ec) (.slice xo s.exit.length xc) (.slice to' s.trans.length tc))) hb
 have hW : Below w.heap.size w w1 := ((Below.refl _ w).alloc (Nat.le_refl _) (stO s (.slice eo s.enter.length ec) (.slice xo s.exit.length xc) (.slice to' s.trans.length tc))).trans (hb.mono (by simp))
 have hP := pat_keep h.out hW
 have hkp := pat_kp hP
 replace hP := pat_anchor hP
 have hS := say_any (bytL (lnText (X (stLn s)))) (by omega) (by rw [bytL_size];omega) (by rw [List.length_reverse];omega) hP
 rw [bytL_list,List.length_reverse] at hS
 obtain ⟨tx,htx⟩ : ∃ tx,lnText (X (stLn s)) = tx := ⟨_,rfl⟩
 rw [htx] at hS hlen
 have hT2 : Hid ((l ++ lineO rop.length tx) ++ txO X (if 5 < s.kind then [] else (bodyLn s).map fun n => (rop.length + 1,n)) = T) := Lib.hid (by rw [← hT.out,← htx,List.append_assoc];rfl)
 have hl2 : (l ++ lineO rop.length tx).length ≤ 70368500400000 := by rw [List.length_append,lineO_len];omega
 generalize l ++ lineO rop.length tx = l2 at *
 have ia : InW w.heap.size w1 := ⟨lt_of_block hab⟩
 have habs := Lib.hid hab
 have i0' : InW pb w1 := ⟨Nat.lt_of_lt_of_le hpb hW.size⟩
 clear T1 hP hb hW hT h n0 n1 n2 n3 n4 n5 n6 c2 i0 i1 hg hpb
 generalize w.heap.size = ab at *
 replace hS := Lib.hid hS
 go_wp2_with fail
 refine hS.out.mono ?_
 intro e w2 hr
 obtain ⟨rfl,hP2⟩ := hr
 have hab2 := pat_kp hP2 ab _ _ _ hab (by decide) (by decide) (by decide)
 obtain ⟨m0,m1,m2,m3,m4,m5,m6,hla⟩ := st_cells hab2
 obtain ⟨_,_,_,_,hpb2,_⟩ := pat_cells hP2
 clear hS hab ia i0'
 have ia : InW ab w2 := ⟨hla⟩
 have i0 : InW pb w2 := ⟨hpb2⟩
 replace hP2 := Lib.hid hP2
 replace hab2 := Lib.hid hab2
 have S6 := Lib.hid (fun wx => spast_any (str s.name) (.int .i64 s.kind) (.int .i64 s.parent) (str s.start) (.slice eo s.enter.length ec) (.slice xo s.exit.length xc) (.slice to' s.trans.length tc) s.kind rfl wx)
 go_wp2_with fail
 refine (S6.out _).mono ?_
 intro e w3 hr
 obtain ⟨rfl,hb3⟩ := hr
 have hP3 := pat_keep hP2.out hb3
 have hab3 := blk_keep hab2.out hb3
 clear S6 hP2 hab2 hb3 m0 m1 m2 m3 m4 m5 m6 hla ia i0 hpb2
 by_cases h5 : 5 < s.kind
 ·have hp : (s.kind == 6 || s.kind == 7) = true := by
   rcases (by omega : s.kind = 6 ∨ s.kind = 7) with e | e <;> rw [e] <;> rfl
  rw [hp]
  have h1 : l2 = T := by rw [← hT2.out,if_pos h5,txO_nil,List.append_nil]
  subst h1
  have hrs : restS s i rop = rop := if_pos h5
  have hf := Lib.hid (pat_back hP3 hkp)
  clear hP3 hp h5 hT2
  go_wp2
  go_end0
  rw [hrs]
  exact ⟨rfl,_,hf.out⟩
 have hp : (s.kind == 6 || s.kind == 7) = false := by
  rw [Bool.or_eq_false_iff]
  exact ⟨by simp;omega,by simp;omega⟩
 rw [hp]
 obtain ⟨i00,hi0,hz1,hz2,hz3⟩ := info_parts Tryz.infoInt
 obtain ⟨oa,oc,rfl⟩ := own_form (pat_open hP3)
 have hO := pat_open hP3
 rw [List.length_reverse] at hO hP3
 replace hO := Lib.hid hO
 obtain ⟨_,_,_,c5,hpb3,hfr⟩ := pat_cells hP3
 have htop := (pat_env hP3).size
 have f5 := hfr 5
 have i0 : InW pb w3 := ⟨hpb3⟩
 have ia : InW ab w3 := ⟨lt_of_block hab3⟩
 replace hT2 : Hid (l2 ++ txO X ((bodyLn s).map fun n => (rop.length + 1,n)) = T) := Lib.hid (by rw [← hT2.out,if_neg h5])
 replace hP3 := Lib.hid hP3
 replace hab3 := Lib.hid hab3
 clear hp hfr hpb3
 go_wp2_with (at_builtin;go_loud (refine wpList_append_lies _ rfl _ _ 49 rfl w0.heap.size 3 i00 _ 1 8 Tryz.underlying49 hi0 hz1 hz2 hz3 rfl (by decide) (.slice oa rop.length oc) rop.length (natsC rop.reverse) (by rfl) (owns_below hO.out (by (first | exact gwT | exact lzT))) ⟨_,0,none⟩ 1 1 [.int .i64 (i : Int)] (by rfl) rfl (World.news_of_block (new_at (by simp))) (by intro u hu;simp at hu;subst hu;rfl) (by decide) (by unfold maxLen;omega) (by omega) (Nat.le_trans htop (Below.size (B := w3.heap.size) (w := w3) (by (first | exact gwT | exact lzT)))) _ rfl ?_))
 intro gn cap' w4 hown1 hgrow hat1 hg1
 obtain ⟨k3,kl,kf⟩ := pr_behind (pat_keep hP3.out (by (first | exact gwT | exact lzT))) hgrow
 have P4 := pr_push (pat_keep hP3.out (by (first | exact gwT | exact lzT))) hgrow hown1 (by rw [List.length_reverse])
 have hab4 := pat_kp P4 ab _ _ _ habs.out (by decide) (by decide) (by decide)
 clear hown1 hgrow hat1 hg1 hP3 hab3 hO i0 ia c5 f5
 have f5 := kf 5
 have i0 : InW pb w4 := ⟨kl⟩
 clear kf
 go_upto_region 4 with (fail)
 generalize w4.setCell ⟨pb,5,none⟩ (.slice (some ⟨gn,0,none⟩) (rop.length + 1) cap') = w5 at P4 hab4 ⊢
 clear k3 kl f5 i0
 obtain ⟨_,_,_,_,m4,m5,m6,hla⟩ := st_cells hab4
 obtain ⟨_,_,_,_,hpb5,_⟩ := pat_cells P4
 have ia : InW ab w5 := ⟨hla⟩
 have i0 : InW pb w5 := ⟨hpb5⟩
 have ok8 : ∀ a ∈ s.enter,LnOk (acLn 8 a) := fun a ha => hs2 _ (List.mem_append.2 (.inl (List.mem_map.2 ⟨a,ha,rfl⟩)))
 have ok9 : ∀ a ∈ s.exit,LnOk (acLn 9 a) := fun a ha => hs2 _ (List.mem_append.2 (.inr (List.mem_append.2 (.inl (List.mem_map.2 ⟨a,ha,rfl⟩)))))
 have okt : ∀ a ∈ s.trans,LnOk (trLn a) := fun a ha => hs2 _ (List.mem_append.2 (.inr (List.mem_append.2 (.inr (List.mem_map.2 ⟨a,ha,rfl⟩)))))
 have hol : (rop.reverse ++ [i]).length = rop.length + 1 := by simp
 have A8 := pacts_any hX 8 (.inl rfl) s.enter hn1 ok8 eo ec (by omega) (by omega) hZ.out (fun wx hx => (hC.out wx hx).r1) P4
 have hl8 := txO_len hX (acOl 8 (rop.length + 1) s.enter) fun p hp => by
  obtain ⟨a,ha,rfl⟩ := List.mem_map.1 hp
  exact ⟨ok8 a ha,by show rop.length + 1 ≤ 60;omega⟩
 have hl9 := txO_len hX (acOl 9 (rop.length + 1) s.exit) fun p hp => by
  obtain ⟨a,ha,rfl⟩ := List.mem_map.1 hp
  exact ⟨ok9 a ha,by show rop.length + 1 ≤ 60;omega⟩
 have e8 : (acOl 8 (rop.length + 1) s.enter).length = s.enter.length := by simp [acOl]
 have e9 : (acOl 9 (rop.length + 1) s.exit).length = s.exit.length := by simp [acOl]
 rw [hol] at A8
 rw [body_ol,txO_append,txO_append] at hT2
 generalize txO X (acOl 8 (rop.length + 1) s.enter) = t8 at *
 generalize h9 : txO X (acOl 9 (rop.length + 1) s.exit) = t9 at *
 replace h9 := Lib.hid h9
 rw [e8] at hl8
 rw [e9] at hl9
 replace A8 := Lib.hid A8
 clear e8 e9 ok8 P4
 go_wp2_with fail
 refine A8.out.mono ?_
 intro e w6 hr
 obtain ⟨rfl,P6⟩ := hr
 have hab6 := pat_kp P6 ab _ _ _ habs.out (by decide) (by decide) (by decide)
 clear A8 ia i0 hpb5 m4 m5 m6 hla hab4
 obtain ⟨_,_,_,_,m4,m5,m6,hla⟩ := st_cells hab6
 obtain ⟨_,_,_,_,hpb5,_⟩ := pat_cells P6
 have ia : InW ab w6 := ⟨hla⟩
 have i0 : InW pb w6 := ⟨hpb5⟩
 have A9 := pacts_any hX 9 (.inr rfl) s.exit hn2 ok9 xo xc (by rw [List.length_append];omega) (by omega) hZ.out (fun wx hx => (hC.out wx hx).r2) P6
 rw [hol,h9.out] at A9
 replace A9 := Lib.hid A9
 have hT3 : Hid ((l2 ++ t8 ++ t9) ++ txO X (trOl (rop.length + 1) s.trans) = T) := Lib.hid (by rw [← hT2.out,List.append_assoc,List.append_assoc])
 have hl3 : (l2 ++ t8 ++ t9).length ≤ 70368510000000 := by rw [List.length_append,List.length_append];omega
 generalize l2 ++ t8 ++ t9 = l3 at *
 clear hT2 hl8 hl9 h9 ok9 P6
 go_wp2_with fail
 refine A9.out.mono ?_
 intro e w7 hr
 obtain ⟨rfl,P7⟩ := hr
 have hab7 := pat_kp P7 ab _ _ _ habs.out (by decide) (by decide) (by decide)
 clear A9 ia i0 hpb5 m4 m5 m6 hla hab6
 obtain ⟨_,_,_,_,m4,m5,m6,hla⟩ := st_cells hab7
 have ia : InW ab w7 := ⟨hla⟩
 replace P7 := Lib.hid P7
 clear habs hab7 m4 m5
 have hrs : Hid (restS s i rop = i :: rop) := Lib.hid (if_neg (by omega))
 clear h5
 go_wp2
 go_loopw [48] (fun x wr => ∃ (j : Nat) (l' : List UInt8),x = .int .i64 (j : Int) ∧ j ≤ s.trans.length ∧ l'.length + (s.trans.length - j) * 300200 ≤ 70368510000000 + 96 * 300200 ∧ Hid (l' ++ txO X (trOl (rop.length + 1) (s.trans.drop j)) = T) ∧ Hid (PAt w0 w1 pb nm vv (.slice (some ⟨g,0,none⟩) ns sc) l' (rop.reverse ++ [i]) (.slice (some ⟨gn,0,none⟩) (rop.length + 1) cap') wr)) (fun x _ => s.trans.length - (intOf x).toNat)
 case atStart => exact ⟨0,l3,rfl,Nat.zero_le _,by have := Nat.mul_le_mul_right 300200 hn3;omega,hT3,P7⟩
 case round =>
  clear hT3 hl3 P7 m6 hla ia
  obtain ⟨j,l',rfl,hj,hll,hT,hP⟩ := hrel
  rename World => wr
  obtain ⟨_,_,_,_,hpb,_⟩ := pat_cells hP.out
  have i0 : InW pb wr := ⟨hpb⟩
  by_cases hlt : j < s.trans.length
  ·have hjI : (j : Int) < (s.trans.length : Int) := by omega
   obtain ⟨gt,io,ic,go,gc,uo,uc,rfl,hgt,q0,q1,q2,q3,q4,hN,hG,hA⟩ := tr_at (hC.out wr (pat_env hP.out)).r3 j hlt
   have hok1 := okt _ (List.getElem_mem hlt)
   have hlen := pick_len hX hok1
   have hd : s.trans.drop j = s.trans[j] :: s.trans.drop (j + 1) := List.drop_eq_getElem_cons hlt
   have hT2 : Hid ((l' ++ lineO (rop.length + 1) (lnText (X (trLn s.trans[j])))) ++ txO X (trOl (rop.length + 1) (s.trans.drop (j + 1))) = T) := Lib.hid (by rw [← hT.out,hd,List.append_assoc];rfl)
   generalize s.trans[j] = tr at *
   obtain ⟨gg,hgg⟩ := goes_in hG
   have T1 : Hid (∀ wx,Below wr.heap.size wr wx → Calls Tryz.prog 43 #[.agg #[.string ⟨tr.event.toArray⟩,.slice io tr.cond.length ic,.slice go tr.goes.length gc,.bool tr.inner,.slice uo tr.thn.length uc]] wx (Ret (.string (bytL (lnText (X (trLn tr))))) wx)) :=
    Lib.hid fun wx hb => pick_trans hX hok1 io ic gg gc go uo uc wx (hZ.out wx (grown_trans (pat_env hP.out) (grown_of_below hb))) (nds_below (nds_own hN) hb)
     (fun h0 => by
      obtain ⟨e1,e2,e3⟩ := hgg h0
      exact ⟨e1,Nat.lt_of_lt_of_le e2 hb.size,fun k hk => (hb.cell (p := ⟨gg,k,none⟩) e2).trans (e3 k hk)⟩)
     (acts_below (acRow_at hA) hb)
   have i1 : InW gt wr := ⟨hgt⟩
   obtain ⟨tx,htx⟩ : ∃ tx,lnText (X (trLn tr)) = tx := ⟨_,rfl⟩
   rw [htx] at T1 hT2 hlen
   clear htx hd hT hN hG hA hgg hok1
   go_wp2_with fail
   refine (T1.out _ (by (first | exact gwT | exact lzT))).mono ?_
   intro e w8 hr
   obtain ⟨rfl,hb8⟩ := hr
   have hW : Below wr.heap.size wr w8 := ((Below.refl _ wr).alloc (Nat.le_refl _) (.cells #[.string ⟨tr.event.toArray⟩,.slice io tr.cond.length ic,.slice go tr.goes.length gc,.bool tr.inner,.slice uo tr.thn.length uc] 70)).trans (hb8.mono (by simp))
   have hS := say_any (bytL tx) (by omega) (by rw [bytL_size];omega) (by rw [hol];omega) (pat_keep hP.out hW)
   rw [bytL_list,hol] at hS
   replace hS := Lib.hid hS
   have i2 : InW pb w8 := ⟨Nat.lt_of_lt_of_le hpb hW.size⟩
   clear T1 hP hb8 hW i0 i1 hpb
   go_wp2_with fail
   refine hS.out.mono ?_
   intro e w9 hr
   obtain ⟨rfl,hP9⟩ := hr
   replace hP9 := Lib.hid hP9
   clear hS
   go_wp2
   go_roundw
   case rel => exact ⟨j + 1,l' ++ lineO (rop.length + 1) tx,by go_num,by omega,by rw [List.length_append,lineO_len];omega,hT2,hP9⟩
   case measure => simp [intOf];omega
  ·have hjI : ¬ (j : Int) < (s.trans.length : Int) := by omega
   have h1 : l' = T := by rw [← hT.out,List.drop_eq_nil_of_le (by omega)];simp [trOl,txO]
   subst h1
   clear hT
   go_wp2
   go_end0
   rw [hrs.out,List.reverse_cons]
   exact ⟨rfl,_,pat_back hP.out hkp⟩
end
end Go.Proofs.YtfmaomoifkplbaaGreatDoor
namespace Go.Proofs.YtfmaomoifkplbaaGreatDoor
open Go.RowKit
section
variable {w0 wk : World} {pb : Nat} {nm vv sv av bv ov : Value} {l : List UInt8} {op : List Nat} {w w' : World}
set_option maxRecDepth 100000 in
set_option maxHeartbeats 4000000 in
theorem pstring_any (h0 : l ≠ []) (h : PAt w0 wk pb nm vv sv l op ov w) :
  Calls Tryz.prog 22 #[.pointer (some ⟨pb,3,none⟩)] w (fun e w' => e = .returned (.string (bytL l)) ∧ Below w0.heap.size w w') := by
 obtain ⟨av,bv,hP⟩ := h
 have hown := hP.buf
 have hpos : 0 < l.length := List.length_pos_iff.2 h0
 obtain ⟨g,cap,cur,rfl,hbg,hg,hnc,hcm,hcs,_⟩ : ∃ g cap cur,bv = .slice (some ⟨g,0,none⟩) l.length cap ∧ w0.heap.size ≤ g ∧ w.heap[g]? = some (.cells cur 5 (0,0)) ∧ l.length ≤ cap ∧ cap ≤ maxLen ∧ cur.size = cap * 1 ∧ cur.toList.take (l.length * 1) = Lib.byteCells l := by
  rcases hown.2 with ⟨_,h00⟩ | ⟨g,cap,cur,hv,r⟩
  ·omega
  ·exact ⟨g,cap,cur,hv,r⟩
 have hbk : w.drew.heap[pb]? = some (.cells (prC nm vv sv av (.slice (some ⟨g,0,none⟩) l.length cap) ov) 61 (0,0)) := hP.blk
 have c4 : w.drew.cell? ⟨pb,4,none⟩ = some (.slice (some ⟨g,0,none⟩) l.length cap) := by rw [Lib.cell_of_heap hbk];rfl
 have hSD : (Builtin.unsafeSliceData_ #[57] 125 #[.slice (some ⟨g,0,none⟩) l.length cap]).run Tryz.prog w.drew = .ok (.pointer (some ⟨g,0,none⟩)) w.drew :=
  Lib.run_unsafeSliceData_row _ _ _ _ _ _ (by omega)
 have hUS : (Builtin.unsafeString_ #[125,3] 9 #[.pointer (some ⟨g,0,none⟩),.int .i64 l.length]).run Tryz.prog w.drew = .ok (.string (bytL l)) (w.drew.freeze ⟨g,0,none⟩ l.length) := by
  refine Lib.run_unsafeString_row w.drew 125 3 9 5 Tryz.underlying125 (by kernel_rfl) g cur.size (by have hg' : w.drew.heap[g]? = some (.cells cur 5 (0,0)) := hg;simp [World.shape?,hg']) l h0 (by omega) (by unfold maxLen at hcm;omega) ?_
  intro j x hx
  exact hown.cells (g := g) rfl j (.int .u8 x.toNat) (by simp [Lib.byteCells,hx])
 have i0 : InW pb w := ⟨lt_of_block hP.blk⟩
 clear hown hP hg hnc hcm hcs h0
 go_enter Tryz.func22,Tryz.ntmps22
 go_wp2_with fail
 go_region
 all_goals
  go_wp2
  go_returns
  exact ⟨rfl,Lib.below_freeze (Below.drew (Below.refl _ w)) (p := ⟨g,0,none⟩) hbg _⟩
end
end Go.Proofs.YtfmaomoifkplbaaGreatDoor
namespace Go.Proofs.YtfmaomoifkplbaaGreatDoor
open Go.RowKit
theorem close_txl {X : Ln → LnX} (hX : PickX X) (r : List Nat) (i : Int) (hr : r.length ≤ 60) : (txO X (closeL r i)).length ≤ r.length * 200 := by
 rw [← close_tx hX]
 induction r with
 | nil => simp [closeT]
 | cons x r ih =>
  rw [List.length_cons] at hr
  have := ih (by omega)
  rw [closeT]
  split
  ·simp
  ·rw [List.length_append,lineO_len,List.length_cons,Nat.succ_mul,show (lwL 12).length = 3 from rfl]
   omega
theorem out_len {X : Ln → LnX} (hX : PickX X) {s : St} (hs1 : LnOk (stLn s)) (hs2 : ∀ n ∈ bodyLn s,LnOk n) (k : Nat) (hk : k ≤ 59) (hn1 : s.enter.length ≤ 8) (hn2 : s.exit.length ≤ 8) (hn3 : s.trans.length ≤ 96) : (txO X (outS s k)).length ≤ 34000000 := by
 have h1 := txO_len hX (outS s k) fun p hp => by
  unfold outS at hp
  rcases List.mem_cons.1 hp with rfl | hp
  ·exact ⟨hs1,by show k ≤ 60;omega⟩
  ·split at hp
   ·cases hp
   ·obtain ⟨n,hn,rfl⟩ := List.mem_map.1 hp
    exact ⟨hs2 n hn,by show k + 1 ≤ 60;omega⟩
 have h2 : (outS s k).length ≤ 113 := by
  unfold outS
  split
  ·simp
  ·rw [List.length_cons,List.length_map]
   unfold bodyLn
   rw [List.length_append,List.length_append,List.length_map,List.length_map,List.length_map]
   omega
 have := Nat.mul_le_mul_right 300200 h2
 omega
set_option maxRecDepth 100000 in
set_option maxHeartbeats 4000000 in
theorem cprint_any {X : Ln → LnX} (hX : PickX X) {c : Ch} (t : TreeC c) (sh : ShapeC c) {rv : Nat → Value} {vv sv : Value} {B : Nat} (hv : c.vars.length ≤ 16) (hs : c.states.length ≤ 49)
  (hlen : ∀ i,i < c.states.length → (c.states.getD i st0).enter.length ≤ 8 ∧ (c.states.getD i st0).exit.length ≤ 8 ∧ (c.states.getD i st0).trans.length ≤ 96) (w : World) (hw : Az w) (h : ChV ct0 B w c rv vv sv) :
  Calls Tryz.prog 8 #[.agg #[str c.name,vv,sv]] w (Ret (.string (bytL (txO X (chartPr c)))) w) := by
 obtain ⟨va,vc,sa,sc,rfl,rfl⟩ := chV_form h
 have hs0 := t.some
 obtain ⟨g,cap',e,hg,_,_,_⟩ := own_head h.sts (by omega)
 cases e
 have hin := st_in h 0 hs0
 have hI0 : (0 : Int) < (c.states.length : Int) := by omega
 have hIn : ((c.states.length : Int) == 0) = false := by rw [beq_eq_false_iff_ne];omega
 obtain ⟨T,hT⟩ : ∃ T,Hid (txO X (chartPr c) = T) := ⟨_,Lib.hid rfl⟩
 rw [hT.out]
 replace hin := Lib.hid hin
 replace h := Lib.hid h
 replace hw := Lib.hid hw
 go_enter Tryz.func8,Tryz.ntmps8
 go_upto_region 4 with (fail)
 have hblk := heap_alloc_new (w.alloc (.cells #[str c.name,.slice va c.vars.length vc,.slice (some ⟨g,0,none⟩) c.states.length sc] 26)) (.cells (prC (str c.name) (.slice va c.vars.length vc) (.slice (some ⟨g,0,none⟩) c.states.length sc) (.pointer none) (.slice none 0 0) (.slice none 0 0)) 61)
 have hbW : Below w.heap.size w ((w.alloc (.cells #[str c.name,.slice va c.vars.length vc,.slice (some ⟨g,0,none⟩) c.states.length sc] 26)).alloc (.cells (prC (str c.name) (.slice va c.vars.length vc) (.slice (some ⟨g,0,none⟩) c.states.length sc) (.pointer none) (.slice none 0 0) (.slice none 0 0)) 61)) := by (first | exact gwT | exact lzT)
 obtain ⟨W0,hW0⟩ : ∃ W,(w.alloc (.cells #[str c.name,.slice va c.vars.length vc,.slice (some ⟨g,0,none⟩) c.states.length sc] 26)).alloc (.cells (prC (str c.name) (.slice va c.vars.length vc) (.slice (some ⟨g,0,none⟩) c.states.length sc) (.pointer none) (.slice none 0 0) (.slice none 0 0)) 61) = W := ⟨_,rfl⟩
 rw [hW0] at hblk hbW
 rw [World.size_alloc] at hblk
 have hpb0 : w.heap.size ≤ w.heap.size + 1 := by omega
 have hpbW : w.heap.size + 1 < W0.heap.size := lt_of_block hblk
 change Code.wp _ _ _ _ ((w.alloc (.cells #[str c.name,.slice va c.vars.length vc,.slice (some ⟨g,0,none⟩) c.states.length sc] 26)).alloc (.cells (prC (str c.name) (.slice va c.vars.length vc) (.slice (some ⟨g,0,none⟩) c.states.length sc) (.pointer none) (.slice none 0 0) (.slice none 0 0)) 61))
 rw [hW0]
 clear hW0
 generalize w.heap.size + 1 = pb at *
 have hP0 : PAt W0 W0 pb (str c.name) (.slice va c.vars.length vc) (.slice (some ⟨g,0,none⟩) c.states.length sc) [] ([] : List Nat).reverse (.slice none 0 0) W0 := ⟨_,_,hblk,.inl rfl,World.ownsRow_nil _ _ _ _,World.ownsRow_nil _ _ _ _,hpbW,⟨rfl,rfl,rfl,Nat.le_refl _,fun _ _ _ => rfl⟩,kp_refl _⟩
 have hB : ∀ wx,W0.grownBy wx (some pb) → Below w.heap.size w wx := fun wx hx => hbW.grown hx hbW.size fun k e => by cases e;exact hpb0
 have hZ := Lib.hid (fun wx (hx : W0.grownBy wx (some pb)) => az_below hw.out (hB wx hx))
 have hC := Lib.hid (fun wx (hx : W0.grownBy wx (some pb)) => chV_keep h.out (hB wx hx))
 replace hB := Lib.hid hB
 clear hin h hw hblk hbW hpb0
 obtain ⟨c0,c1,c2,_,hpb,_⟩ := pat_cells hP0
 have hin := st_in (hC.out W0 (pat_env hP0)) 0 hs0
 have n3 : W0.cell? ⟨g,3,none⟩ = some (str (stAt c 0).start) := by
  have := hin.c3
  simpa using this
 have i0 : InW pb W0 := ⟨hpb⟩
 have i1 : InW g W0 := ⟨hin.lt⟩
 have hok := t.head
 obtain ⟨n1,hn1⟩ : ∃ n,n = ({ ln0 1 with name := c.name,start := (stAt c 0).start } : Ln) := ⟨_,rfl⟩
 have T1 : Hid (∀ wx,Below W0.heap.size W0 wx → Calls Tryz.prog 19 #[.agg (lnN 1 ⟨c.name.toArray⟩ ⟨(stAt c 0).start.toArray⟩)] wx (Ret (.string (bytL (lnText (X n1)))) wx)) :=
  Lib.hid fun wx hb => by
   subst hn1
   exact pick_names hX hok (.inl rfl) wx (hZ.out wx (grown_trans (pat_env hP0) (grown_of_below hb))).al.lw
 have hlen1 : (lnText (X n1)).length ≤ 300000 := by subst hn1;exact pick_len hX hok
 have hT2 : Hid (([] ++ lineO 0 (lnText (X n1))) ++ (txO X (c.vars.map fun v => (0,vrLn v)) ++ txO X (progL c (c.states.length - 1) 1 [])) = T) := Lib.hid (by
  rw [← hT.out,hn1]
  unfold chartPr
  rw [txO_cons,txO_append]
  rfl)
 obtain ⟨tx,htx⟩ : ∃ tx,lnText (X n1) = tx := ⟨_,rfl⟩
 rw [htx] at T1 hT2 hlen1
 replace hP0 := Lib.hid hP0
 clear hT hin hok htx hn1
 generalize (stAt c 0).start = start at *
 have hTne : T ≠ [] := by
  rw [← hT2.out]
  simp [lineO]
 have hWsz : w.heap.size ≤ W0.heap.size := (hB.out W0 (pat_env hP0.out)).size
 go_still_tail 10,(by kernel_rfl)
 go_wp2_with fail
 refine (T1.out _ (by (first | exact gwT | exact lzT))).mono ?_
 intro e w1 hr
 obtain ⟨rfl,hb1⟩ := hr
 have hb2 : Below W0.heap.size W0 w1 := (Below.drew (Below.refl _ W0)).trans hb1
 have hS := say_any (bytL tx) (by simp) (by rw [bytL_size];omega) (by simp) (pat_keep hP0.out hb2)
 rw [bytL_list] at hS
 change Calls _ _ _ _ (PWr _ _ _ _ _ _ _ ([] ++ lineO 0 tx) _ _) at hS
 have hl1 : ([] ++ lineO 0 tx).length ≤ 300001 := by rw [List.nil_append,lineO_len];omega
 generalize [] ++ lineO 0 tx = l1 at *
 have j0 : InW pb w1 := ⟨Nat.lt_of_lt_of_le hpb hb2.size⟩
 replace hS := Lib.hid hS
 clear T1 hP0 hb1 hb2 i0 i1 c0 c1 c2 n3 hpb
 go_wp2_with fail
 refine hS.out.mono ?_
 intro e w2 hr
 obtain ⟨rfl,hP2⟩ := hr
 obtain ⟨_,c1,_,_,hpb,_⟩ := pat_cells hP2
 have i0 : InW pb w2 := ⟨hpb⟩
 replace hP2 := Lib.hid hP2
 clear hS j0
 go_wp2
 go_loopw [29] (fun x wr => ∃ (i : Nat) (l' : List UInt8),x = .int .i64 (i : Int) ∧ i ≤ c.vars.length ∧ l'.length ≤ 300001 + i * 300200 ∧ Hid (l' ++ (txO X ((c.vars.drop i).map fun v => (0,vrLn v)) ++ txO X (progL c (c.states.length - 1) 1 [])) = T) ∧ Hid (PAt W0 W0 pb (str c.name) (.slice va c.vars.length vc) (.slice (some ⟨g,0,none⟩) c.states.length sc) l' ([] : List Nat).reverse (.slice none 0 0) wr)) (fun x _ => c.vars.length - (intOf x).toNat)
 case atStart => exact ⟨0,l1,rfl,Nat.zero_le _,by omega,hT2,hP2⟩
 case round =>
  clear hT2 hP2 c1 i0 hpb hl1
  obtain ⟨i,l',rfl,hi,hll,hT,hP⟩ := hrel
  rename World => wr
  obtain ⟨_,_,c2,_,hpb,_⟩ := pat_cells hP.out
  have i0 : InW pb wr := ⟨hpb⟩
  by_cases hlt : i < c.vars.length
  ·have hI : (i : Int) < (c.vars.length : Int) := by omega
   obtain ⟨gv,rfl,hgv,q0,q1,q2,q3⟩ := var_at (hC.out wr (pat_env hP.out)) i hlt
   have hok := t.vars _ (List.getElem_mem hlt)
   have hlen2 := pick_len hX hok
   have hd : c.vars.drop i = c.vars[i] :: c.vars.drop (i + 1) := List.drop_eq_getElem_cons hlt
   have hT2 : Hid ((l' ++ lineO 0 (lnText (X (vrLn c.vars[i])))) ++ (txO X ((c.vars.drop (i + 1)).map fun v => (0,vrLn v)) ++ txO X (progL c (c.states.length - 1) 1 [])) = T) := Lib.hid (by rw [← hT.out,hd,List.map_cons,txO_cons,List.append_assoc,List.append_assoc])
   generalize c.vars[i] = v at *
   have T1 : Hid (∀ wx,Below wr.heap.size wr wx → Calls Tryz.prog 19 #[.agg (lnVr ⟨v.name.toArray⟩ v.vk v.vn ⟨v.vs.toArray⟩)] wx (Ret (.string (bytL (lnText (X (vrLn v))))) wx)) :=
    Lib.hid fun wx hb => pick_var hX hok rfl wx (hZ.out wx (grown_trans (pat_env hP.out) (grown_of_below hb)))
   have i1 : InW gv wr := ⟨hgv⟩
   obtain ⟨tx,htx⟩ : ∃ tx,lnText (X (vrLn v)) = tx := ⟨_,rfl⟩
   rw [htx] at T1 hT2 hlen2
   clear htx hd hT hok
   go_wp2_with fail
   refine (T1.out _ (by (first | exact gwT | exact lzT))).mono ?_
   intro e w8 hr
   obtain ⟨rfl,hb8⟩ := hr
   have hW : Below wr.heap.size wr w8 := ((Below.refl _ wr).alloc (Nat.le_refl _) (.cells #[str v.name,.int .i64 v.vk,.int .i64 v.vn,str v.vs] 75)).trans (hb8.mono (by simp))
   have hS := say_any (bytL tx) (by omega) (by rw [bytL_size];omega) (by simp) (pat_keep hP.out hW)
   rw [bytL_list] at hS
   change Calls _ _ _ _ (PWr _ _ _ _ _ _ _ (l' ++ lineO 0 tx) _ _) at hS
   replace hS := Lib.hid hS
   have i2 : InW pb w8 := ⟨Nat.lt_of_lt_of_le hpb hW.size⟩
   clear T1 hP hb8 hW i0 i1 hpb
   go_wp2_with fail
   refine hS.out.mono ?_
   intro e w9 hr
   obtain ⟨rfl,hP9⟩ := hr
   replace hP9 := Lib.hid hP9
   clear hS
   go_wp2
   go_roundw
   case rel => exact ⟨i + 1,l' ++ lineO 0 tx,by go_num,by omega,by rw [List.length_append,lineO_len];omega,hT2,hP9⟩
   case measure => simp [intOf];omega
  ·have hI : ¬ (i : Int) < (c.vars.length : Int) := by omega
   have hT3 : Hid (l' ++ txO X (progL c (c.states.length - 1) 1 []) = T) := Lib.hid (by rw [← hT.out,List.drop_eq_nil_of_le (by omega),List.map_nil,txO_nil,List.nil_append])
   have hl2 : l'.length ≤ 10000000 := by omega
   clear hT hll
   go_wp2_with fail
   go_loopw [6] (fun x wr => ∃ (i : Nat) (rop : List Nat) (l' : List UInt8) (ov : Value),x = .int .i64 (i : Int) ∧ 1 ≤ i ∧ i ≤ c.states.length ∧ rop.length + 1 ≤ i ∧ l'.length ≤ 10000000 + i * 50000000 ∧ Hid (l' ++ txO X (progL c (c.states.length - i) i rop) = T) ∧ Hid (PAt W0 W0 pb (str c.name) (.slice va c.vars.length vc) (.slice (some ⟨g,0,none⟩) c.states.length sc) l' rop.reverse ov wr)) (fun x _ => c.states.length - (intOf x).toNat)
   case atStart => exact ⟨1,[],l',_,rfl,by decide,hs0,by simp,by omega,hT3,hP⟩
   case round =>
    clear hT3 hP c2 i0 hpb hl2
    obtain ⟨i,rop,l',ov,rfl,hi1,hi,hro,hll,hT,hP⟩ := hrel
    rename World => wr
    obtain ⟨_,_,c2,_,hpb,_⟩ := pat_cells hP.out
    have i0 : InW pb wr := ⟨hpb⟩
    by_cases hlt : i < c.states.length
    ·have hI : (i : Int) < (c.states.length : Int) := by omega
     have hin := st_in (hC.out wr (pat_env hP.out)) i hlt
     have q2 := hin.c2
     have i1 : InW g wr := ⟨hin.lt⟩
     have hstep : progL c (c.states.length - i) i rop = closeL rop (stAt c i).parent ++ (outS (stAt c i) (closeR rop (stAt c i).parent).length ++ progL c (c.states.length - (i + 1)) (i + 1) (restS (stAt c i) i (closeR rop (stAt c i).parent))) := by
      rw [show c.states.length - i = (c.states.length - (i + 1)) + 1 by omega]
      rfl
     rw [hstep,txO_append,txO_append] at hT
     have hk := sh.kinds i (by omega) hlt
     have hs1 := t.st i (by omega) hlt
     have hs2 := t.body i hlt
     obtain ⟨hn1,hn2,hn3⟩ := hlen i hlt
     have hC2 := Lib.hid (fun wx (hx : W0.grownBy wx (some pb)) => st_in (hC.out wx hx) i hlt)
     change (stAt c i).enter.length ≤ 8 at hn1
     change (stAt c i).exit.length ≤ 8 at hn2
     change (stAt c i).trans.length ≤ 96 at hn3
     generalize stAt c i = s at *
     have hR := closeR_le rop s.parent
     have hcl := close_txl hX rop s.parent (by omega)
     have hS := close_any rop s.parent (by omega) (by omega) hZ.out hP.out
     rw [close_tx hX] at hS
     generalize closeR rop s.parent = rop2 at *
     have hT2 : Hid ((l' ++ txO X (closeL rop s.parent)) ++ (txO X (outS s rop2.length) ++ txO X (progL c (c.states.length - (i + 1)) (i + 1) (restS s i rop2))) = T) := Lib.hid (by rw [← hT.out,List.append_assoc])
     have hl2 : (l' ++ txO X (closeL rop s.parent)).length ≤ 20000000 + i * 50000000 := by rw [List.length_append];omega
     generalize l' ++ txO X (closeL rop s.parent) = l2 at *
     replace hS := Lib.hid hS
     clear hT hcl hP hin hstep
     go_wp2_with fail
     refine hS.out.mono ?_
     intro e w2 hr
     obtain ⟨rfl,ov2,hP2⟩ := hr
     have hS2 := pstate_any hX hs1 hs2 i hlt hk hn1 hn2 hn3 (by omega) (by omega) rfl hZ.out hC2.out hP2
     have hol := out_len hX hs1 hs2 rop2.length (by omega) hn1 hn2 hn3
     have hT3 : Hid ((l2 ++ txO X (outS s rop2.length)) ++ txO X (progL c (c.states.length - (i + 1)) (i + 1) (restS s i rop2)) = T) := Lib.hid (by rw [← hT2.out,List.append_assoc])
     have hl3 : (l2 ++ txO X (outS s rop2.length)).length ≤ 10000000 + (i + 1) * 50000000 := by rw [List.length_append];omega
     have hrl : (restS s i rop2).length + 1 ≤ i + 1 := by
      unfold restS
      split
      ·omega
      ·rw [List.length_cons];omega
     obtain ⟨_,_,d2,_,dpb,_⟩ := pat_cells hP2
     generalize l2 ++ txO X (outS s rop2.length) = l3 at *
     generalize restS s i rop2 = rop3 at *
     have j0 : InW pb w2 := ⟨dpb⟩
     replace hS2 := Lib.hid hS2
     clear hS hP2 hT2 hl2 hol hC2 hs1 hs2 hk hn1 hn2 hn3 hR q2
     go_wp2_with fail
     refine hS2.out.mono ?_
     intro e w3 hr
     obtain ⟨rfl,ov3,hP3⟩ := hr
     obtain ⟨_,_,_,_,epb,_⟩ := pat_cells hP3
     have j1 : InW pb w3 := ⟨epb⟩
     replace hP3 := Lib.hid hP3
     clear hS2 d2 dpb j0
     go_wp2
     go_roundw
     case rel => exact ⟨i + 1,rop3,l3,ov3,by go_num,by omega,by omega,hrl,hl3,hT3,hP3⟩
     case measure => simp [intOf];omega
    ·have hI : ¬ (i : Int) < (c.states.length : Int) := by omega
     have hS := close_any rop 0 (by omega) (by omega) hZ.out hP.out
     have hT2 : l' ++ closeT rop 0 = T := by
      rw [← hT.out,close_tx hX,show c.states.length - i = 0 by omega]
      rfl
     rw [hT2] at hS
     replace hS := Lib.hid hS
     clear hT hT2 hP
     go_wp2_with fail
     refine hS.out.mono ?_
     intro e w2 hr
     obtain ⟨rfl,ov2,hP2⟩ := hr
     have hS2 := pstring_any hTne hP2
     have hb2 := hB.out w2 (pat_env hP2)
     have j0 : InW pb w2 := ⟨(pat_cells hP2).2.2.2.2.1⟩
     replace hS2 := Lib.hid hS2
     have he2 := Lib.hid hb2
     clear hS hP2 hb2
     go_wp2_with fail
     refine hS2.out.mono ?_
     intro e w3 hr
     obtain ⟨rfl,hb3⟩ := hr
     have hfin := Lib.hid (he2.out.trans (hb3.mono hWsz))
     clear hS2 hb3 he2
     go_wp2
     go_returns
     exact ⟨rfl,hfin.out⟩
end Go.Proofs.YtfmaomoifkplbaaGreatDoor
namespace Go.Proofs.YtfmaomoifkplbaaGreatDoor
open Go.RowKit
section
variable {X : Ln → LnX}
theorem print_told (hX : PickX X) {l : List UInt8} {c : Ch} (h : chartT l = .ok c) {rv : Nat → Value} {vv sv : Value} {B : Nat} (w : World) (hw : Az w) (hc : ChV ct0 B w c rv vv sv) :
  Calls Tryz.prog 8 #[.agg #[str c.name,vv,sv]] w (Ret (.string (bytL (txO X (chartPr c)))) w) :=
 cprint_any hX (tree_chart h) (shape_chart h) (good_chart h).vars (good_chart h).few (lens_of (good_chart h)) w hw hc
theorem prog_txl (hX : PickX X) {c : Ch} (t : TreeC c) (hlen : ∀ i,i < c.states.length → (c.states.getD i st0).enter.length ≤ 8 ∧ (c.states.getD i st0).exit.length ≤ 8 ∧ (c.states.getD i st0).trans.length ≤ 96) :
  ∀ (f i : Nat) (r : List Nat),0 < i → i + f ≤ c.states.length → i + f ≤ 49 → r.length + 1 ≤ i → (txO X (progL c f i r)).length ≤ (f + 1) * 50000000
 | 0,i,r,h0,hi,h9,hr => by
  have := close_txl hX r 0 (by omega)
  rw [progL]
  omega
 | f + 1,i,r,h0,hi,h9,hr => by
  have h1 := close_txl hX r (stAt c i).parent (by omega)
  have h2 := closeR_le r (stAt c i).parent
  obtain ⟨n1,n2,n3⟩ := hlen i (by omega)
  have h3 := out_len hX (t.st i h0 (by omega)) (t.body i (by omega)) (closeR r (stAt c i).parent).length (by omega) n1 n2 n3
  have h4 := prog_txl hX t hlen f (i + 1) (stRest c i (closeR r (stAt c i).parent)) (by omega) (by omega) (by omega) (by
   unfold stRest
   split
   ·omega
   ·rw [List.length_cons];omega)
  rw [progL,txO_append,txO_append,List.length_append,List.length_append]
  change (txO X (stOut c i (closeR r (stAt c i).parent).length)).length ≤ 34000000 at h3
  omega
theorem print_size (hX : PickX X) {l : List UInt8} {c : Ch} (h : chartT l = .ok c) : (txO X (chartPr c)).length ≤ 3000000000 := by
 have t := tree_chart h
 have g := good_chart h
 have g1 := g.few
 have g2 := g.vars
 have g3 := t.some
 have h1 := prog_txl hX t (lens_of g) (c.states.length - 1) 1 [] (by decide) (by omega) (by omega) (by simp)
 have h2 := txO_len hX (c.vars.map fun v => (0,vrLn v)) fun p hp => by
  obtain ⟨v,hv,rfl⟩ := List.mem_map.1 hp
  exact ⟨t.vars v hv,Nat.zero_le _⟩
 have h3 := pick_len hX t.head
 rw [List.length_map] at h2
 unfold chartPr
 rw [txO_cons,txO_append,List.length_append,List.length_append,lineO_len]
 simp only at h3 ⊢
 omega
end
end Go.Proofs.YtfmaomoifkplbaaGreatDoor
