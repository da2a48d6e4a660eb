/- Plain: Check of a chart with one final state more. No program. -/
import Derived.Test.YtpgibloeinphaaaGreatDoorVG
namespace Go.Proofs.YtpgibloeinphaaaGreatDoor
theorem then0 {a b : Int} : thenE a b = 0 ↔ a = 0 ∧ b = 0 := by
 unfold thenE
 by_cases h : a = 0
 ·rw [if_pos h];exact ⟨fun k => ⟨h,k⟩,fun k => k.2⟩
 ·rw [if_neg h];exact ⟨fun k => absurd k h,fun k => absurd k.1 h⟩
theorem first0 {α : Type} {f : α → Int} : ∀ {l : List α},firstE f l = 0 ↔ ∀ a ∈ l,f a = 0
 | [] => ⟨fun _ _ h => (by cases h),fun _ => rfl⟩
 | a :: r => by
  rw [firstE,then0,first0]
  simp
theorem unl0 {b : Bool} {e : Int} (he : e ≠ 0) : unl b e = 0 ↔ b = true := by
 unfold unl
 cases b <;> simp [he]
theorem first_mono {α : Type} {f g : α → Int} {l : List α} (h : ∀ a ∈ l,f a = 0 → g a = 0) (h0 : firstE f l = 0) : firstE g l = 0 :=
 first0.2 fun a ha => h a ha (first0.1 h0 a ha)
section
variable {ss : List St} {F : St}
theorem findA_app (nm : List UInt8) : ∀ (ss : List St) (k : Nat),findA nm (ss ++ [F]) k = match findA nm ss k with
  | some j => some j
  | none => if 0 < k + ss.length ∧ F.name = nm then some (k + ss.length) else none
 | [],k => rfl
 | s :: r,k => by
  rw [List.cons_append,findA,findA]
  split
  ·rfl
  ·rw [findA_app nm r (k + 1),List.length_cons,show k + 1 + r.length = k + (r.length + 1) by omega]
theorem findA_lt {nm : List UInt8} : ∀ {ss : List St} {k j : Nat},findA nm ss k = some j → j < k + ss.length
 | [],_,_,h => by cases h
 | s :: r,k,j,h => by
  rw [findA] at h
  rw [List.length_cons]
  split at h
  ·cases h;omega
  ·have := findA_lt h
   omega
theorem findA_old {nm : List UInt8} {j : Nat} (h : findA nm ss 0 = some j) : findA nm (ss ++ [F]) 0 = some j := by rw [findA_app,h]
theorem findA_no {nm : List UInt8} : ∀ {ss : List St} {k : Nat},(∀ s ∈ ss,s.name ≠ nm) → findA nm ss k = none
 | [],_,_ => rfl
 | s :: r,k,h => by
  rw [findA,if_neg fun e => h s (by simp) e.2,findA_no fun s hs => h s (by simp [hs])]
theorem getD_old {i : Nat} (h : i < ss.length) : (ss ++ [F]).getD i st0 = ss.getD i st0 := by
 rw [List.getD_eq_getElem?_getD,List.getD_eq_getElem?_getD,List.getElem?_append_left h]
theorem getD_new : (ss ++ [F]).getD ss.length st0 = F := by simp
theorem wthT_fuel (hp : Par ss) (o : Int) : ∀ (n i f g : Nat),i ≤ n → i < f → i < g → i < ss.length → wthT ss o f (i : Int) = wthT ss o g (i : Int) := by
 intro n
 induction n with
 | zero =>
  intro i f g h _ _ _
  obtain rfl : i = 0 := by omega
  rw [show ((0 : Nat) : Int) = 0 from rfl,wthT_zero,wthT_zero]
 | succ n ih =>
  intro i f g h hf hg hl
  obtain ⟨f,rfl⟩ : ∃ x,f = x + 1 := ⟨f - 1,by omega⟩
  obtain ⟨g,rfl⟩ : ∃ x,g = x + 1 := ⟨g - 1,by omega⟩
  rw [wthT_more,wthT_more]
  by_cases h0 : i = 0
  ·rw [if_pos h0,if_pos h0]
  ·rw [if_neg h0,if_neg h0]
   obtain ⟨q1,q2⟩ := hp.par i (by omega) hl
   obtain ⟨p,hpp⟩ : ∃ p : Nat,(ss.getD i st0).parent = (p : Int) := ⟨(ss.getD i st0).parent.toNat,by omega⟩
   rw [hpp] at q2 ⊢
   rw [ih p f g (by omega) (by omega) (by omega) (by omega)]
theorem wthT_old (hp : Par ss) (o : Int) : ∀ (f i : Nat),i < ss.length → wthT (ss ++ [F]) o f (i : Int) = wthT ss o f (i : Int)
 | 0,_,_ => rfl
 | f + 1,i,hl => by
  rw [wthT_more,wthT_more,getD_old hl]
  by_cases h0 : i = 0
  ·rw [if_pos h0,if_pos h0]
  ·rw [if_neg h0,if_neg h0]
   obtain ⟨q1,q2⟩ := hp.par i (by omega) hl
   obtain ⟨p,hpp⟩ : ∃ p : Nat,(ss.getD i st0).parent = (p : Int) := ⟨(ss.getD i st0).parent.toNat,by omega⟩
   rw [hpp] at q2 ⊢
   rw [wthT_old hp o f p (by omega)]
theorem wthC_old (hp : Par ss) (o : Int) {i : Nat} (hl : i < ss.length) : wthC (ss ++ [F]) i o = wthC ss i o := by
 unfold wthC
 rw [if_neg (by rw [List.length_append];omega),if_neg (by omega),wthT_old hp o _ i hl,List.length_append]
 exact wthT_fuel hp o i i _ _ (Nat.le_refl _) (by omega) hl hl
theorem wthT_top (hp : Par ss) {m : Nat} (hm : ss.length ≤ m) : ∀ (f i : Nat),i < ss.length → wthT ss (m : Int) f (i : Int) = false
 | 0,_,_ => rfl
 | f + 1,i,hl => by
  rw [wthT_more]
  by_cases h0 : i = 0
  ·rw [if_pos h0]
  ·rw [if_neg h0]
   obtain ⟨q1,q2⟩ := hp.par i (by omega) hl
   obtain ⟨p,hpp⟩ : ∃ p : Nat,(ss.getD i st0).parent = (p : Int) := ⟨(ss.getD i st0).parent.toNat,by omega⟩
   rw [hpp] at q2 ⊢
   rw [if_neg (by omega),wthT_top hp hm f p (by omega)]
theorem wthC_top (hp : Par ss) {m i : Nat} (hm : ss.length ≤ m) (hl : i < ss.length) : wthC ss i (m : Int) = false := by
 unfold wthC
 rw [if_neg (by omega),wthT_top hp hm _ i hl]
theorem lastW_old (hp : Par ss) {a b : Nat} (ha : a < ss.length) (hb : b < ss.length) : ∀ n,lastW (ss ++ [F]) a b n = lastW ss a b n
 | 0 => rfl
 | n + 1 => by rw [lastW,lastW,wthC_old hp _ ha,wthC_old hp _ hb,lastW_old hp ha hb n]
theorem lastW_lt {a b : Int} : ∀ {n i : Nat},lastW ss a b n = some i → i < n
 | 0,_,h => by cases h
 | n + 1,i,h => by
  rw [lastW] at h
  split at h
  ·cases h;omega
  ·have := lastW_lt h
   omega
theorem apart_old (hp : Par ss) {a b : Nat} (ha : a < ss.length) (hb : b < ss.length) : apartE (ss ++ [F]) a b = apartE ss a b := by
 have e : lastW (ss ++ [F]) (a : Int) (b : Int) (ss ++ [F]).length = lastW ss (a : Int) (b : Int) ss.length := by
  rw [List.length_append,List.length_singleton,lastW,lastW_old hp ha hb,wthC_old hp _ ha,wthC_top hp (Nat.le_refl _) ha,Bool.false_and,if_neg Bool.false_ne_true]
 unfold apartE
 rw [wthC_old hp _ ha,wthC_old hp _ hb,e]
 cases h : lastW ss (a : Int) (b : Int) ss.length with
 | none => rfl
 | some i => simp only [getD_old (lastW_lt h)]
theorem kidsA_app (p : Int) : ∀ (ss : List St) (k : Nat),kidsA p (ss ++ [F]) k = kidsA p ss k ++ if F.parent = p then [k + ss.length] else []
 | [],k => by
  show kidsA p (F :: []) k = [] ++ _
  rw [kidsA,List.nil_append]
  split <;> rfl
 | s :: r,k => by
  rw [List.cons_append,kidsA,kidsA,kidsA_app p r (k + 1),List.length_cons,show k + 1 + r.length = k + (r.length + 1) by omega]
  split <;> rfl
theorem kidsA_lt {p : Int} : ∀ {ss : List St} {k j : Nat},j ∈ kidsA p ss k → k ≤ j ∧ j < k + ss.length ∧ (ss.getD (j - k) st0).parent = p
 | [],_,_,h => by cases h
 | s :: r,k,j,h => by
  rw [kidsA] at h
  rw [List.length_cons]
  have key : j ∈ kidsA p r (k + 1) → k ≤ j ∧ j < k + (r.length + 1) ∧ ((s :: r).getD (j - k) st0).parent = p := fun h => by
   obtain ⟨h1,h2,h3⟩ := kidsA_lt h
   refine ⟨by omega,by omega,?_⟩
   rw [show j - k = (j - (k + 1)) + 1 by omega,List.getD_cons_succ]
   exact h3
  split at h
  ·rcases List.mem_cons.1 h with rfl | h
   ·rename_i hp
    refine ⟨Nat.le_refl _,by omega,?_⟩
    rw [Nat.sub_self]
    exact hp
   ·exact key h
  ·exact key h
theorem any_old {q : St → Bool} {ks : List Nat} (h : ∀ k ∈ ks,k < ss.length) : (ks.any fun k => q ((ss ++ [F]).getD k st0)) = ks.any fun k => q (ss.getD k st0) := by
 induction ks with
 | nil => rfl
 | cons k r ih => rw [List.any_cons,List.any_cons,getD_old (h k (by simp)),ih fun k hk => h k (by simp [hk])]
end
theorem linK_nz {vs : List (ByteArray × Int)} {ss : List ByteArray} {e : Int} {j : Nat} : ∀ {ns : List Nd} {ks : List Int},linK (ownR vs ss) ks ns = .error (e,j) → e ≠ 0
 | [],_,h => by cases h
 | n :: r,ks,h => by
  rw [linK] at h
  split at h
  ·rename_i x hx
   cases h
   rcases ownR_err hx with rfl | rfl <;> decide
  ·exact linK_nz h
theorem kd_more {vs : List (ByteArray × Int)} {ss ts : List ByteArray} {x : List Nd} (h : (kdE vs ss x).2 = 0) : kdE vs (ss ++ ts) x = kdE vs ss x := by
 unfold kdE at h ⊢
 cases hr : rightT x with
 | false => rfl
 | true =>
  rw [hr,if_pos rfl] at h
  rw [if_pos rfl,if_pos rfl]
  cases hl : linK (ownR vs ss) [] x with
  | error y =>
   obtain ⟨e,j⟩ := y
   rw [hl] at h
   exact absurd h (linK_nz hl)
  | ok ks =>
   rw [linK_more (fun n a b k hk => by
    have := ownR_more (ws := []) (ts := ts) hk
    rwa [List.append_nil] at this) _ _ _ hl]
section
variable {c : Ch} {nm : List UInt8}
def lkF (c : Ch) (nm : List UInt8) : Lk := lkC (withF c nm)
theorem scS_more (hs : 0 < c.states.length) : (lkF c nm).ss = (lkC c).ss ++ [⟨nm.toArray⟩] := by
 unfold lkF lkC withF scS
 simp only
 rw [List.drop_append_of_le_length (by omega),List.filter_append,List.map_append]
 rfl
theorem kdL_more (hs : 0 < c.states.length) {x : List Nd} (h : (kdL (lkC c) x).2 = 0) : kdL (lkF c nm) x = kdL (lkC c) x := by
 unfold kdL at h ⊢
 rw [scS_more hs]
 exact kd_more h
theorem truE_more (hs : 0 < c.states.length) {x : List Nd} (h : truE (lkC c) x = 0) : truE (lkF c nm) x = 0 := by
 unfold truE at h ⊢
 split at h
 ·rename_i h0
  rw [if_pos h0]
 ·rename_i h0
  rw [if_neg h0]
  have h2 : (kdL (lkC c) x).2 = 0 := by
   unfold isI at h
   split at h
   ·assumption
   ·exact h
  rw [kdL_more hs h2]
  exact h
theorem setE_more (hs : 0 < c.states.length) {a : Ac} (h : setE (lkC c) a = 0) : setE (lkF c nm) a = 0 := by
 unfold setE at h ⊢
 rw [kdL_more hs (then0.1 h).1]
 exact h
theorem actE_more (hs : 0 < c.states.length) {a : Ac} (h : actE (lkC c) a = 0) : actE (lkF c nm) a = 0 := by
 unfold actE at h ⊢
 obtain ⟨h1,h2⟩ := then0.1 h
 refine then0.2 ⟨truE_more hs h1,?_⟩
 split at h2
 ·rename_i hk
  rw [if_pos hk]
  exact setE_more hs h2
 ·rename_i hk
  rw [if_neg hk]
  split at h2
  ·rename_i hk
   rw [if_pos hk,kdL_more hs h2]
   exact h2
  ·rename_i hk
   rw [if_neg hk]
theorem eachE_more (hs : 0 < c.states.length) {b : List Ac} (h : eachE (lkC c) b = 0) : eachE (lkF c nm) b = 0 := first_mono (fun _ _ => actE_more hs) h
theorem tgs_more (hp : Par c.states) : ∀ (gs : List (List UInt8)) (ahead : List Nat),(∀ o ∈ ahead,o < c.states.length) → tgsE c.states gs ahead = 0 → tgsE (c.states ++ [finS nm]) gs ahead = 0
 | [],_,_,_ => rfl
 | g :: r,ahead,ha,h => by
  rw [tgsE] at h ⊢
  cases hf : findA g c.states 0 with
  | none => rw [hf] at h;cases h
  | some a =>
   rw [hf] at h
   have hl : a < c.states.length := by have := findA_lt hf;omega
   have e : (ahead.any fun o => !apartE (c.states ++ [finS nm]) a o) = ahead.any fun o => !apartE c.states a o := by
    clear h
    induction ahead with
    | nil => rfl
    | cons o r ih => rw [List.any_cons,List.any_cons,apart_old hp hl (ha o (by simp)),ih fun o ho => ha o (by simp [ho])]
   simp only [findA_old hf,e] at h ⊢
   split at h
   ·cases h
   ·rename_i hx
    rw [if_neg hx]
    refine tgs_more hp r _ (fun o ho => ?_) h
    rcases List.mem_append.1 ho with ho | ho
    ·exact ha o ho
    ·rw [List.mem_singleton.1 ho];exact hl
theorem way_more (hs : 0 < c.states.length) (hp : Par c.states) {t : Tr} (h : wayE (lkC c) t = 0) : wayE (lkF c nm) t = 0 := by
 unfold wayE at h ⊢
 split at h
 ·cases h
 ·rename_i hx
  rw [if_neg hx]
  obtain ⟨h1,h2⟩ := then0.1 h
  obtain ⟨h2,h3⟩ := then0.1 h2
  exact then0.2 ⟨truE_more hs h1,then0.2 ⟨tgs_more hp _ _ (fun _ h => by cases h) h2,eachE_more hs h3⟩⟩
theorem stL_old {i : Nat} (hi : i < c.states.length) : stL (lkF c nm) i = stL (lkC c) i := getD_old hi
theorem state_more (hs : 0 < c.states.length) (hp : Par c.states) (hk : (c.states.getD 0 st0).kind = 1) {i : Nat} (hi : i < c.states.length) (h : stateE (lkC c) i = 0) : stateE (lkF c nm) i = 0 := by
 unfold stateE at h ⊢
 rw [stL_old hi]
 have ho : onceE (lkC c) i = 0 → onceE (lkF c nm) i = 0 := fun h => by
  unfold onceE at h ⊢
  rw [unl0 (by decide)] at h ⊢
  rw [stL_old hi]
  rcases Nat.eq_zero_or_pos i with rfl | h0
  ·rfl
  ·rw [Bool.or_eq_true] at h ⊢
   refine .inr ?_
   rcases h with h | h
   ·rw [beq_iff_eq] at h;omega
   ·rw [beq_iff_eq] at h ⊢
    unfold fnd at h ⊢
    cases hf : findA (stL (lkC c) i).name (lkC c).c.states 0 with
    | none => rw [hf] at h;simp at h;omega
    | some j =>
     rw [hf] at h
     rw [show findA (stL (lkC c) i).name (lkF c nm).c.states 0 = some j from findA_old hf]
     exact h
 have hfnd : ∀ n,isF (lkC c) n = true → isF (lkF c nm) n = true ∧ fnd (lkF c nm) n = fnd (lkC c) n ∧ fnd (lkC c) n < c.states.length := fun n h => by
  unfold isF fnd at *
  cases hf : findA n (lkC c).c.states 0 with
  | none => rw [hf] at h;cases h
  | some j =>
   rw [show findA n (lkF c nm).c.states 0 = some j from findA_old hf]
   have := findA_lt hf
   refine ⟨rfl,rfl,?_⟩
   show j < c.states.length
   have e : (lkC c).c.states = c.states := rfl
   rw [e] at this
   omega
 split at h
 ·rename_i hx
  rw [if_pos hx]
  obtain ⟨h1,h2⟩ := then0.1 h
  refine then0.2 ⟨ho h1,?_⟩
  unfold pastE at h2 ⊢
  rw [unl0 (by decide)] at h2 ⊢
  rw [stL_old hi]
  simp only [Bool.and_eq_true] at h2 ⊢
  obtain ⟨⟨g1,g2⟩,g3⟩ := h2
  obtain ⟨e1,e2,e3⟩ := hfnd _ g1
  refine ⟨⟨e1,?_⟩,?_⟩
  ·unfold nearE at g2 ⊢
   rw [stL_old hi,e2,stL_old e3,show wthC (lkF c nm).c.states _ _ = wthC (lkC c).c.states _ _ from wthC_old hp _ e3]
   exact g2
  ·rw [e2,stL_old e3]
   exact g3
 ·rename_i hx
  rw [if_neg hx]
  obtain ⟨h1,h2⟩ := then0.1 h
  obtain ⟨h2,h3⟩ := then0.1 h2
  obtain ⟨h3,h4⟩ := then0.1 h3
  obtain ⟨h4,h5⟩ := then0.1 h4
  refine then0.2 ⟨ho h1,then0.2 ⟨?_,then0.2 ⟨?_,then0.2 ⟨?_,?_⟩⟩⟩⟩
  ·unfold kidsE at h2 ⊢
   rw [unl0 (by decide)] at h2 ⊢
   have hlt : ∀ k ∈ kidsA (i : Int) c.states 0,k < c.states.length := fun k hk => by have := (kidsA_lt hk).2.1;omega
   have ek : kidsA (i : Int) (lkF c nm).c.states 0 = kidsA (i : Int) c.states 0 ++ if i = 0 then [0 + c.states.length] else [] := by
    rw [show kidsA (i : Int) (lkF c nm).c.states 0 = kidsA (i : Int) c.states 0 ++ if (0 : Int) = (i : Int) then [0 + c.states.length] else [] from kidsA_app _ _ _]
    by_cases h0 : i = 0
    ·subst h0;rfl
    ·rw [if_neg (by omega),if_neg h0]
   unfold kidsOk at h2 ⊢
   simp only [stL_old hi,ek]
   have a1 := any_old (F := finS nm) (q := fun s => !pastS s) hlt
   have a2 := any_old (F := finS nm) (q := fun s => !partS s) hlt
   by_cases h0 : i = 0
   ·subst h0
    have hk' : (stL (lkC c) 0).kind = 1 := hk
    simp only [hk',Int.reduceEq,if_false] at h2 ⊢
    rw [if_pos trivial,List.any_append,Bool.or_eq_true]
    exact .inl (a1.trans h2)
   ·rw [if_neg h0,List.append_nil]
    rw [show ((kidsA (i : Int) c.states 0).any fun k => !pastS (stL (lkF c nm) k)) = _ from a1,show ((kidsA (i : Int) c.states 0).any fun k => !partS (stL (lkF c nm) k)) = _ from a2]
    exact h2
  ·unfold startE at h3 ⊢
   rw [unl0 (by decide)] at h3 ⊢
   rw [stL_old hi]
   rw [Bool.or_eq_true] at h3 ⊢
   rcases h3 with h3 | h3
   ·exact .inl h3
   ·refine .inr ?_
    unfold ownE at h3 ⊢
    rw [stL_old hi]
    simp only [Bool.and_eq_true] at h3 ⊢
    obtain ⟨⟨g1,g2⟩,g3⟩ := h3
    obtain ⟨e1,e2,e3⟩ := hfnd _ g1
    rw [e2,stL_old e3]
    exact ⟨⟨e1,g2⟩,g3⟩
  ·unfold actsE at h4 ⊢
   rw [stL_old hi]
   exact first_mono (fun _ _ => eachE_more hs) h4
  ·unfold waysE at h5 ⊢
   rw [stL_old hi]
   exact first_mono (fun _ _ => way_more hs hp) h5
theorem state_new (hs : 0 < c.states.length) (hp : Par c.states) (hn : ∀ s ∈ c.states,s.name ≠ nm) : stateE (lkF c nm) c.states.length = 0 := by
 have e : stL (lkF c nm) c.states.length = finS nm := getD_new
 have hk : kidsA (c.states.length : Int) (lkF c nm).c.states 0 = [] := by
  rw [show kidsA (c.states.length : Int) (lkF c nm).c.states 0 = kidsA (c.states.length : Int) c.states 0 ++ if (0 : Int) = (c.states.length : Int) then [0 + c.states.length] else [] from kidsA_app _ _ _,if_neg (by omega),List.append_nil]
  refine List.eq_nil_iff_forall_not_mem.2 fun j hj => ?_
  obtain ⟨_,h2,h3⟩ := kidsA_lt hj
  rw [Nat.sub_zero] at h3
  rcases Nat.eq_zero_or_pos j with rfl | h0
  ·rw [hp.root] at h3;omega
  ·have := (hp.par j h0 (by omega)).2
   omega
 have hf : findA nm (lkF c nm).c.states 0 = some c.states.length := by
  rw [show findA nm (lkF c nm).c.states 0 = _ from findA_app nm c.states 0,findA_no hn,if_pos ⟨by omega,rfl⟩,Nat.zero_add]
 unfold stateE
 rw [e,if_neg (show ¬ pastS (finS nm) = true from fun h => by cases h)]
 refine then0.2 ⟨?_,then0.2 ⟨?_,then0.2 ⟨?_,then0.2 ⟨?_,?_⟩⟩⟩⟩
 ·unfold onceE fnd
  rw [e,show (finS nm).name = nm from rfl,hf]
  simp [unl]
 ·unfold kidsE kidsOk
  simp only [e,hk]
  rfl
 ·unfold startE
  rw [e]
  rfl
 ·unfold actsE
  rw [e]
  rfl
 ·unfold waysE
  rw [e]
  rfl
theorem sts0 {l : Lk} : ∀ {ss : List St} {i : Nat},(stsE l i ss).1 = 0 ↔ ∀ j,j < ss.length → stateE l (i + j) = 0
 | [],_ => ⟨fun _ _ h => absurd h (Nat.not_lt_zero _),fun _ => rfl⟩
 | s :: r,i => by
  rw [stsE]
  by_cases h : stateE l i = 0
  ·rw [if_pos h,sts0]
   constructor
   ·intro k j hj
    cases j with
    | zero => exact h
    | succ j =>
     have := k j (by rw [List.length_cons] at hj;omega)
     rwa [show i + (j + 1) = i + 1 + j by omega]
   ·intro k j hj
    have := k (j + 1) (by rw [List.length_cons];omega)
    rwa [show i + (j + 1) = i + 1 + j by omega] at this
  ·rw [if_neg h]
   exact ⟨fun k => absurd k h,fun k => absurd (k 0 (by simp)) h⟩
theorem check_more (hs : 0 < c.states.length) (hp : Par c.states) (hk : (c.states.getD 0 st0).kind = 1) (hn : ∀ s ∈ c.states,s.name ≠ nm) (h : (checkE c).1 = 0) : (checkE (withF c nm)).1 = 0 := by
 unfold checkE at h ⊢
 rw [if_neg (by omega)] at h
 rw [if_neg (by unfold withF;simp)]
 rw [show (withF c nm).vars = c.vars from rfl]
 cases ht : twiceE [] c.vars with
 | some x => rw [ht] at h;cases h
 | none =>
  rw [ht] at h
  simp only at h ⊢
  refine sts0.2 fun j hj => ?_
  rw [Nat.zero_add]
  rw [show (withF c nm).states.length = c.states.length + 1 by unfold withF;simp] at hj
  by_cases hlt : j < c.states.length
  ·have := sts0.1 h j hlt
   rw [Nat.zero_add] at this
   exact state_more hs hp hk hlt this
  ·obtain rfl : j = c.states.length := by omega
   exact state_new hs hp hn
end
end Go.Proofs.YtpgibloeinphaaaGreatDoor
