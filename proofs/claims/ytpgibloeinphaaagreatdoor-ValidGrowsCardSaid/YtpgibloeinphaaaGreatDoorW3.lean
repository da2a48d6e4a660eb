/- Several texts of this proof, joined: RO, RQ, RS, RP, RB. -/
import Derived.Test.YtpgibloeinphaaaGreatDoorW2
import Derived.Test.YtpgibloeinphaaaGreatDoorP3
import Derived.Test.YtpgibloeinphaaaGreatDoorQ1
namespace Go.Proofs.YtpgibloeinphaaaGreatDoor
section
variable {T : List Tk}
theorem goesA_end : ∀ (f : Nat) (gs : List (List UInt8)) (a : Nat),a ≤ T.length → ∀ {hs : List (List UInt8)} {b : Nat},goesA T f gs a = .ok (hs,b) → b ≤ T.length
 | 0,gs,a,ha,hs,b,h => by
  rw [goesA] at h
  split at h
  ·split at h
   ·cases h
   ·cases h;exact ha
  ·cases h
 | f + 1,gs,a,ha,hs,b,h => by
  rw [goesA] at h
  split at h
  ·split at h
   ·cases h
   ·cases h;exact ha
  ·rename_i hn
   have := nameAt_lt hn
   exact goesA_end f _ _ (by omega) h
theorem ifL_end {a b : Nat} {ns : List Nd} (ha : a ≤ T.length) (h : ifL T a = .ok (ns,b)) : b ≤ T.length := by
 unfold ifL at h
 split at h
 ·exact (parseT_at h).1
 ·cases h;exact ha
theorem goL_end {a b : Nat} {gs : List (List UInt8)} (ha : a ≤ T.length) (h : goL T a = .ok (gs,b)) : b ≤ T.length := by
 unfold goL at h
 split at h
 ·rename_i ht
  have := tkAt_lt ht
  exact goesA_end 4 [] (a + 1) (by omega) h
 ·cases h;exact ha
theorem doL_end {a b : Nat} {cs : List Ac} (ha : a ≤ T.length) (h : doL T a = .ok (cs,b)) : b ≤ T.length := by
 unfold doL at h
 split at h
 ·exact takeT_le h
 ·cases h;exact ha
theorem if_tree (dg : Int → List UInt8) (hT : T.length < 128) (hok : ∀ t ∈ T,TkOk t) {a b : Nat} {ns : List Nd} (h : ifL T a = .ok (ns,b)) : ∃ c,OkO c ∧ ns = flatO c ∧ (ifK dg c).length + a ≤ b := by
 unfold ifL at h
 split at h
 ·obtain ⟨e,o1,o2,rfl,hl,hz⟩ := parse_tree dg hT hok h
  refine ⟨some e,fun x hx => by cases hx;exact ⟨o1,o2,hz⟩,rfl,?_⟩
  rw [ifK,List.length_cons]
  omega
 ·cases h
  exact ⟨none,fun x hx => (by cases hx),rfl,by simp [ifK]⟩
theorem goes_tree (hok : ∀ t ∈ T,TkOk t) : ∀ (f : Nat) (pre : List (List UInt8)) (a b : Nat) (gs : List (List UInt8)),goesA T f pre a = .ok (gs,b) → ∃ more,gs = pre ++ more ∧ more.length ≤ f ∧ (∀ g ∈ more,nmB g = true) ∧ more.length + a ≤ b ∧ gs ≠ []
 | 0,pre,a,b,gs,h => by
  rw [goesA] at h
  split at h
  ·split at h
   ·cases h
   ·rename_i h0
    cases h
    exact ⟨[],by simp,by simp,by simp,by simp,fun e => h0 (by rw [e];rfl)⟩
  ·cases h
 | f + 1,pre,a,b,gs,h => by
  rw [goesA] at h
  split at h
  ·split at h
   ·cases h
   ·rename_i h0
    cases h
    exact ⟨[],by simp,by simp,by simp,by simp,fun e => h0 (by rw [e];rfl)⟩
  ·rename_i s hs
   obtain ⟨more,rfl,h1,h2,h3,h4⟩ := goes_tree hok f _ _ _ _ h
   refine ⟨s :: more,by simp,by simpa using h1,fun g hg => ?_,by rw [List.length_cons];omega,h4⟩
   rcases List.mem_cons.1 hg with rfl | hg
   ·exact (name_ok hok hs).1
   ·exact h2 g hg
theorem go_tree (hok : ∀ t ∈ T,TkOk t) {a b : Nat} {gs : List (List UInt8)} (h : goL T a = .ok (gs,b)) : gs.length ≤ 4 ∧ (∀ g ∈ gs,nmB g = true) ∧ (goK gs).length + a ≤ b := by
 unfold goL at h
 split at h
 ·obtain ⟨more,e,h1,h2,h3,h4⟩ := goes_tree hok 4 [] _ _ _ h
  rw [List.nil_append] at e
  subst e
  refine ⟨h1,h2,?_⟩
  cases gs with
  | nil => exact absurd rfl h4
  | cons g gs =>
   rw [goK,List.length_cons,List.length_map]
   omega
 ·cases h
  exact ⟨by simp,by simp,by simp [goK]⟩
theorem take_tree (dg : Int → List UInt8) (hT : T.length < 128) (hok : ∀ t ∈ T,TkOk t) {a b : Nat} {cs : List Ac} (h : takeT T (a : Int) = .ok (cs,b)) : ∃ xs,cs = xs.map flatA ∧ xs ≠ [] ∧ OkAs xs ∧ (toksAs dg xs).length + a ≤ b := by
 unfold takeT at h
 split at h
 ·cases h
 ·rw [Int.toNat_natCast] at h
  obtain ⟨xs,h1,h2,h3,h4,h5⟩ := acts_tree dg hT hok 8 _ _ _ h
  exact ⟨xs,h1,h2,⟨h3,h4⟩,h5⟩
theorem doL_tree (dg : Int → List UInt8) (hT : T.length < 128) (hok : ∀ t ∈ T,TkOk t) {a b : Nat} {cs : List Ac} (h : doL T a = .ok (cs,b)) : ∃ xs,cs = xs.map flatA ∧ OkAs xs ∧ (dK dg xs).length + a ≤ b := by
 unfold doL at h
 split at h
 ·obtain ⟨xs,h1,h2,h3,h4⟩ := take_tree dg hT hok h
  refine ⟨xs,h1,h3,?_⟩
  cases xs with
  | nil => exact absurd rfl h2
  | cons x xs =>
   rw [dK,List.length_cons]
   omega
 ·cases h
  exact ⟨[],rfl,⟨by simp,by simp⟩,by simp [dK]⟩
theorem trans_tree (dg : Int → List UInt8) (hT : T.length < 128) (hok : ∀ t ∈ T,TkOk t) (y : LnX) {n m : Ln} {a b : Nat} (h : transL T n a = .ok (m,b)) :
  ∃ c gs i cs,m = { n with cond := flatO c,goes := gs,inner := i,thn := cs.map flatA } ∧ OkTr { y with cond := c,goes := gs,inner := i,thn := cs } ∧ (transK dg { y with cond := c,goes := gs,inner := i,thn := cs }).length + a ≤ b ∧ (a ≤ T.length → b ≤ T.length) := by
 unfold transL at h
 split at h
 ·cases h
 ·rename_i cond a1 h1
  split at h
  ·cases h
  ·rename_i goes a2 h2
   split at h
   ·cases h
   ·rename_i thn a3 h3
    cases h
    obtain ⟨c,o1,rfl,l1⟩ := if_tree dg hT hok h1
    obtain ⟨g1,g2,l2⟩ := go_tree hok h2
    obtain ⟨cs,rfl,o3,l3⟩ := doL_tree dg hT hok h3
    have hle : a ≤ T.length → b ≤ T.length := fun ha => by
     have k2 : a2 ≤ T.length := goL_end (ifL_end ha h1) h2
     have k3 : (if innerL T a2 then a2 + 1 else a2) ≤ T.length := by
      split
      ·rename_i hi
       have := tkAt_lt hi
       omega
      ·exact k2
     exact doL_end k3 h3
    refine ⟨c,goes,innerL T a2,cs,rfl,⟨o1,⟨g1,g2⟩,o3⟩,?_,hle⟩
    unfold transK
    simp only [List.length_append]
    cases hi : innerL T a2
    ·rw [hi,if_neg (by simp)] at l3
     simp only [inK,Bool.false_eq_true,if_false,List.length_nil]
     omega
    ·rw [hi,if_pos rfl] at l3
     simp only [inK,if_true,List.length_cons,List.length_nil]
     omega
theorem event_tree {a : Nat} {s : List UInt8} (h : eventL T a = some s) : s = [42] ∨ namedB true s = true := by
 unfold eventL at h
 split at h
 ·rename_i t _
  split at h
  ·rename_i hc
   cases h
   rw [Bool.or_eq_true,Bool.and_eq_true] at hc
   rcases hc with hc | hc
   ·exact .inr hc.2
   ·unfold wordB at hc
    rw [Bool.and_eq_true,beq_iff_eq] at hc
    exact .inl hc.2
  ·cases h
 ·cases h
theorem value_tree (dg : Int → List UInt8) (hok : ∀ t ∈ T,TkOk t) {a b : Nat} {vk vn : Int} {vs : List UInt8} (h : valueL T a = some (vk,vn,vs,b)) : OkV vk vn vs ∧ (valK dg vk vn vs).length + a ≤ b ∧ b ≤ T.length := by
 unfold valueL at h
 split at h
 ·split at h
  ·rename_i t ht
   have hlt := (List.getElem?_eq_some_iff.1 ht).1
   split at h
   ·rename_i hc
    cases h
    have ⟨h0,h64⟩ := (hok t (List.mem_of_getElem? ht)).num (by simpa using hc)
    have hI : I64 (-t.n) := by unfold I64 at h64 ⊢;omega
    refine ⟨.inl ⟨rfl,hI,by rw [Int.neg_neg];exact h64,rfl⟩,?_,by omega⟩
    unfold valK
    rw [if_pos rfl]
    split <;> simp only [List.length_cons,List.length_nil] <;> omega
   ·cases h
  ·cases h
 ·split at h
  ·rename_i t ht
   have hlt := (List.getElem?_eq_some_iff.1 ht).1
   have ok := hok t (List.mem_of_getElem? ht)
   split at h
   ·rename_i hc
    cases h
    have ⟨h0,h64⟩ := ok.num (by simpa using hc)
    have hI : I64 (-t.n) := by unfold I64 at h64 ⊢;omega
    refine ⟨.inl ⟨rfl,h64,hI,rfl⟩,?_,by omega⟩
    unfold valK
    rw [if_pos rfl,if_neg (by omega)]
    simp only [List.length_cons,List.length_nil]
    omega
   ·split at h
    ·rename_i hc
     cases h
     have ⟨h0,h1⟩ := ok.quo (by simpa using hc)
     refine ⟨.inr (.inr ⟨rfl,rfl,h0,h1⟩),?_,by omega⟩
     show 1 + a ≤ _
     omega
    ·split at h
     ·cases h
      refine ⟨.inr (.inl ⟨rfl,.inr rfl,rfl⟩),?_,by omega⟩
      show 1 + a ≤ _
      omega
     ·split at h
      ·cases h
       refine ⟨.inr (.inl ⟨rfl,.inl rfl,rfl⟩),?_,by omega⟩
       show 1 + a ≤ _
       omega
      ·cases h
  ·cases h
theorem named_tree (dg : Int → List UInt8) (hok : ∀ t ∈ T,TkOk t) {k : Nat} (h1 : 1 ≤ k) (h12 : k ≤ 12) (k12 : ¬ k = 12) (k89 : ¬ (k = 8 ∨ k = 9)) (k10 : ¬ k = 10) (k11 : ¬ k = 11) {n : Ln} {b : Nat} (h : namedL T k 1 = some (n,b)) :
  ∃ x : LnX,n = flatL x ∧ OkL x ∧ (restK dg x).length + 1 ≤ b ∧ b ≤ T.length := by
 have hr : ∀ y : LnX,y.kind = k → (restK dg y).length = (if y.kind = 2 then valK dg y.vk y.vn y.vs else startK y.start).length + 1 := fun y hy => by
  unfold restK
  rw [if_neg (by omega),if_neg (by omega),if_neg (by omega),if_neg (by omega),List.length_cons]
 have hr2 : ∀ y : LnX,y.kind = k → y.kind = 2 → (restK dg y).length = (valK dg y.vk y.vn y.vs).length + 1 := fun y hy h2 => by rw [hr y hy,if_pos h2]
 have hr3 : ∀ y : LnX,y.kind = k → ¬ y.kind = 2 → (restK dg y).length = (startK y.start).length + 1 := fun y hy h2 => by rw [hr y hy,if_neg h2]
 have hst : ∀ s : List UInt8,(startK s).length ≤ 1 := fun s => by unfold startK;split <;> simp
 unfold namedL at h
 split at h
 ·cases h
 ·rename_i s hs
  have hn := (name_ok hok hs).1
  have hlt := nameAt_lt hs
  split at h
  ·rename_i k2
   split at h
   ·cases h
   ·rename_i vk vn vs c hv
    cases h
    obtain ⟨v1,v2,v3⟩ := value_tree dg hok hv
    subst k2
    refine ⟨{ lx0 2 with name := s,vk := vk,vn := vn,vs := vs },rfl,⟨⟨h1,h12⟩,.inr (.inr (.inr (.inr (.inl ⟨rfl,rfl,hn,v1⟩))))⟩,?_,v3⟩
    refine Nat.le_trans (Nat.le_of_eq (congrArg Nat.succ (hr2 _ rfl rfl))) ?_
    exact (by omega : (valK dg vk vn vs).length + 1 + 1 ≤ b)
  ·rename_i k2
   split at h
   ·rename_i k13
    split at h
    ·cases h
     refine ⟨{ lx0 k with name := s },rfl,⟨⟨h1,h12⟩,.inr (.inr (.inr (.inr (.inr (.inl ⟨k13,rfl,hn,.inl rfl⟩)))))⟩,?_,by omega⟩
     refine Nat.le_trans (Nat.le_of_eq (congrArg Nat.succ (hr3 _ rfl k2))) ?_
     show 0 + 1 + 1 ≤ 1 + 1
     omega
    ·rename_i t ht
     cases h
     have := nameAt_lt ht
     refine ⟨{ lx0 k with name := s,start := t },rfl,⟨⟨h1,h12⟩,.inr (.inr (.inr (.inr (.inr (.inl ⟨k13,rfl,hn,.inr (name_ok hok ht).1⟩)))))⟩,?_,by omega⟩
     refine Nat.le_trans (Nat.le_of_eq (congrArg Nat.succ (hr3 _ rfl k2))) ?_
     have := hst t
     exact (by omega : (startK t).length + 1 + 1 ≤ 1 + 2)
   ·rename_i k13
    split at h
    ·rename_i k67
     split at h
     ·cases h
     ·rename_i t ht
      cases h
      have := nameAt_lt ht
      refine ⟨{ lx0 k with name := s,start := t },rfl,⟨⟨h1,h12⟩,.inr (.inr (.inr (.inr (.inr (.inr (.inl ⟨k67,rfl,hn,(name_ok hok ht).1⟩))))))⟩,?_,by omega⟩
      refine Nat.le_trans (Nat.le_of_eq (congrArg Nat.succ (hr3 _ rfl k2))) ?_
      have := hst t
      exact (by omega : (startK t).length + 1 + 1 ≤ 1 + 2)
    ·rename_i k67
     cases h
     refine ⟨{ lx0 k with name := s },rfl,⟨⟨h1,h12⟩,.inr (.inr (.inr (.inr (.inr (.inr (.inr ⟨by show k = 4 ∨ k = 5;omega,rfl,hn⟩))))))⟩,?_,by omega⟩
     refine Nat.le_trans (Nat.le_of_eq (congrArg Nat.succ (hr3 _ rfl k2))) ?_
     show 0 + 1 + 1 ≤ 1 + 1
     omega
theorem line_tree (dg : Int → List UInt8) (hT : T.length < 128) (hok : ∀ t ∈ T,TkOk t) {n : Ln} (h : lineT T = .ok n) : ∃ x : LnX,n = flatL x ∧ OkL x ∧ (toksL dg x).length ≤ T.length := by
 unfold lineT at h
 split at h
 ·cases h
 ·rename_i h0
  obtain ⟨h1,h12,hpos⟩ := kindAt_lt h0
  generalize kindAt T 0 = k at *
  split at h
  ·cases h
  ·rename_i n2 b hr
   split at h
   ·cases h
   ·rename_i hb
    cases h
    suffices hs : ∃ x : LnX,n = flatL x ∧ OkL x ∧ (restK dg x).length + 1 ≤ b ∧ b ≤ T.length by
     obtain ⟨x,e1,e2,e3,e4⟩ := hs
     refine ⟨x,e1,e2,?_⟩
     rw [toksL,List.length_cons]
     omega
    clear hb
    unfold restL at hr
    split at hr
    ·rename_i k12
     cases hr
     subst k12
     exact ⟨lx0 12,rfl,⟨⟨by decide,by decide⟩,.inl ⟨rfl,rfl⟩⟩,by show 0 + 1 ≤ 1;omega,by omega⟩
    ·rename_i k12
     split at hr
     ·rename_i k89
      split at hr
      ·cases hr
      ·rename_i cs c ht
       cases hr
       have hle := takeT_le ht
       obtain ⟨xs,rfl,h2,h3,h4⟩ := take_tree dg hT hok (a := 1) ht
       refine ⟨{ lx0 k with acts := xs },rfl,⟨⟨h1,h12⟩,.inr (.inl ⟨k89,rfl,h2,h3⟩)⟩,?_,hle⟩
       have hr : ∀ y : LnX,¬ y.kind = 12 → (y.kind = 8 ∨ y.kind = 9) → (restK dg y).length = (toksAs dg y.acts).length := fun y h1 h2 => by
        unfold restK
        rw [if_neg h1,if_pos h2]
       refine Nat.le_trans (Nat.le_of_eq (congrArg Nat.succ (hr _ k12 k89))) ?_
       exact h4
     ·rename_i k89
      split at hr
      ·rename_i k10
       split at hr
       ·cases hr
       ·rename_i s hs
        obtain ⟨c,gs,i,cs,rfl,h2,h3,h4⟩ := trans_tree dg hT hok { lx0 k with event := s } hr
        have hlt : 2 ≤ T.length := by
         unfold eventL at hs
         split at hs
         ·rename_i t ht
          have := (List.getElem?_eq_some_iff.1 ht).1
          omega
         ·cases hs
        subst k10
        refine ⟨{ lx0 10 with event := s,cond := c,goes := gs,inner := i,thn := cs },rfl,⟨⟨h1,h12⟩,.inr (.inr (.inl ⟨rfl,rfl,event_tree hs,h2⟩))⟩,?_,h4 (by omega)⟩
        show (evK s :: transK dg _).length + 1 ≤ b
        rw [List.length_cons]
        exact (by omega : (transK dg { lx0 10 with event := s,cond := c,goes := gs,inner := i,thn := cs }).length + 1 + 1 ≤ b)
      ·rename_i k10
       split at hr
       ·rename_i k11
        obtain ⟨c,gs,i,cs,rfl,h2,h3,h4⟩ := trans_tree dg hT hok (lx0 k) hr
        subst k11
        exact ⟨{ lx0 11 with cond := c,goes := gs,inner := i,thn := cs },rfl,⟨⟨h1,h12⟩,.inr (.inr (.inr (.inl ⟨rfl,rfl,h2⟩)))⟩,h3,h4 (by omega)⟩
       ·rename_i k11
        split at hr
        ·cases hr
        ·rename_i x hn
         cases hr
         exact named_tree dg hok h1 h12 k12 k89 k10 k11 hn
end
end Go.Proofs.YtpgibloeinphaaaGreatDoor
namespace Go.Proofs.YtpgibloeinphaaaGreatDoor
def joinS : List (List UInt8) → List UInt8
 | [] => []
 | [l] => l
 | l :: m :: ls => l ++ 32 :: joinS (m :: ls)
abbrev Pc := List UInt8 × List Ky
def textP (ps : List Pc) : List UInt8 := joinS (ps.map fun p => p.1)
def keysP (ps : List Pc) : List Ky := ps.flatMap fun p => p.2
theorem lexK_join : ∀ ps : List Pc,ps ≠ [] → (∀ p ∈ ps,LexK p.1 p.2) → LexK (textP ps) (keysP ps)
 | [],h,_ => absurd rfl h
 | [p],_,h => by
  have := h p (by simp)
  simpa [textP,keysP,joinS] using this
 | p :: q :: ps,_,h => by
  have h1 := h p (by simp)
  have h2 := lexK_join (q :: ps) (by simp) fun x hx => h x (by simp at hx ⊢;right;exact hx)
  have := lexK_blank h1 h2
  simpa [textP,keysP,joinS] using this
theorem keysP_append (ps qs : List Pc) : keysP (ps ++ qs) = keysP ps ++ keysP qs := List.flatMap_append
theorem keysP_cons (p : Pc) (ps : List Pc) : keysP (p :: ps) = p.2 ++ keysP ps := List.flatMap_cons
theorem tok_zero2 {l : List UInt8} {t : List UInt8} {n : Int} {z : Nat} (h : tokT l = .ok (2,t,n,z)) : n = 0 := by
 cases l with
 | nil => cases h
 | cons c r =>
  rw [tokT] at h
  split at h
  ·unfold wordT at h
   simp only at h
   split at h
   ·cases h
   ·simp only [Except.ok.injEq,Prod.mk.injEq] at h
    exact h.2.2.1.symm
  ·split at h
   ·unfold numT at h
    simp only at h
    repeat' split at h
    all_goals first | cases h | (simp at h)
   ·split at h
    ·unfold quoT at h
     simp only at h
     repeat' split at h
     all_goals first | cases h | (simp at h)
    ·unfold sgnT at h
     repeat' split at h
     all_goals first | cases h | (simp at h)
theorem lexT_zero2 {m a : Nat} {l : List UInt8} {ts : List Tk} (h : lexT m a l = .ok ts) : ∀ t ∈ ts,t.k = 2 → t.n = 0 := by
 induction m generalizing a l ts with
 | zero =>
  rw [lexT] at h
  split at h
  ·cases h;intro t ht;cases ht
  ·cases h
 | succ m ih =>
  rw [lexT] at h
  split at h
  ·cases h;intro t ht;cases ht
  ·split at h
   ·cases h
   ·rename_i k t n z htk
    split at h
    ·cases h
    ·rename_i us h2
     cases h
     intro u hu hk
     rcases List.mem_cons.1 hu with rfl | hu
     ·simp only at hk
      subst hk
      exact tok_zero2 htk
     ·exact ih h2 u hu hk
theorem lexK_alone {s : List UInt8} (h : aloneK s = 1 ∨ aloneK s = 2) : LexK s [(aloneK s,s,0)] := by
 unfold aloneK at h ⊢
 split at h
 ·rename_i t ht
  split at h
  ·rename_i hs
   have hz : t.n = 0 := by
    rcases h with h | h
    ·exact lexT_zero ht t (by simp) h
    ·exact lexT_zero2 ht t (by simp) h
   have := lexK_of ht
   rw [List.map_cons,List.map_nil] at this
   unfold key at this
   rw [hz,hs] at this
   rw [if_pos hs]
   exact this
  ·omega
 ·omega
theorem lexK_named {ev : Bool} {s : List UInt8} (h : namedB ev s = true) : LexK s [(aloneK s,s,0)] := lexK_alone (named_kind h).1
theorem lexK_event {s : List UInt8} (h : s = [42] ∨ namedB true s = true) : LexK s [evK s] := by
 unfold evK
 split
 ·rename_i h1
  subst h1
  exact lexK_of (ts := [⟨5,[42],0,0⟩]) rfl
 ·rename_i h1
  exact lexK_named (h.resolve_left h1)
theorem lexK_act {k : Nat} (h1 : 1 ≤ k) (h5 : k ≤ 5) : LexK (actW k) [(1,actW k,0)] := by
 rcases (by omega : k = 1 ∨ k = 2 ∨ k = 3 ∨ k = 4 ∨ k = 5) with rfl | rfl | rfl | rfl | rfl <;> exact lexK_of (ts := [⟨1,_,0,0⟩]) rfl
theorem lexK_line {k : Nat} (h1 : 1 ≤ k) (h2 : k ≤ 12) : LexK (lwL k) [(1,lwL k,0)] := by
 rcases (by omega : k = 1 ∨ k = 2 ∨ k = 3 ∨ k = 4 ∨ k = 5 ∨ k = 6 ∨ k = 7 ∨ k = 8 ∨ k = 9 ∨ k = 10 ∨ k = 11 ∨ k = 12) with rfl | rfl | rfl | rfl | rfl | rfl | rfl | rfl | rfl | rfl | rfl | rfl <;> exact lexK_of (ts := [⟨1,_,0,0⟩]) rfl
def exP : Option ExT → List Pc
 | none => []
 | some e => [(textE e,toksE digT e)]
def condP : Option ExT → List Pc
 | none => []
 | some e => [([105,102],[(1,[105,102],0)]),(textE e,toksE digT e),([58],[(5,[58],0)])]
def nameP (c : AcX) : List Pc := if c.kind = 5 then [] else [(c.name,[(aloneK c.name,c.name,0)])]
def numP (c : AcX) : List Pc := if c.kind = 3 then [(digT c.n,[(3,digT c.n,c.n)])] else []
def actP (c : AcX) : List Pc := condP c.cond ++ (actW c.kind,[(1,actW c.kind,0)]) :: (nameP c ++ (exP c.x ++ numP c))
def actsP : List AcX → List Pc
 | [] => []
 | [c] => actP c
 | c :: d :: ds => actP c ++ ([59],[(5,[59],0)]) :: actsP (d :: ds)
theorem keys_act (c : AcX) : keysP (actP c) = toksAc digT c := by
 unfold actP toksAc doK
 rw [keysP_append,keysP_cons,keysP_append,keysP_append]
 have h1 : keysP (condP c.cond) = condK digT c.cond := by
  cases c.cond with
  | none => rfl
  | some e => simp [condP,condK,keysP]
 have h2 : keysP (nameP c) = nameK c := by unfold nameP nameK;split <;> rfl
 have h3 : keysP (exP c.x) = toksO digT c.x := by
  cases c.x with
  | none => rfl
  | some e => simp [exP,toksO,keysP]
 have h4 : keysP (numP c) = numK digT c := by unfold numP numK;split <;> rfl
 rw [h1,h2,h3,h4]
 rfl
theorem keys_acts : ∀ cs : List AcX,keysP (actsP cs) = toksAs digT cs
 | [] => rfl
 | [c] => keys_act c
 | c :: d :: ds => by
  rw [actsP,toksAs,keysP_append,keysP_cons,keys_act,keys_acts (d :: ds)]
  rfl
theorem lex_ex {o : Option ExT} (h : OkO o) : ∀ p ∈ exP o,LexK p.1 p.2 := fun p hp => by
 cases o with
 | none => cases hp
 | some e =>
  obtain ⟨o1,o2,_⟩ := h e rfl
  simp only [exP,List.mem_singleton] at hp
  subst hp
  exact lexK_all e o1 o2
theorem lexK_if : LexK [105,102] [((1,[105,102],0) : Ky)] := lexK_of (ts := [⟨1,[105,102],0,0⟩]) rfl
theorem lex_act {c : AcX} (ok : OkA c) : ∀ p ∈ actP c,LexK p.1 p.2 := fun p hp => by
 unfold actP at hp
 rcases List.mem_append.1 hp with hp | hp
 ·cases hc : c.cond with
  | none => rw [hc] at hp;cases hp
  | some e =>
   obtain ⟨o1,o2,_⟩ := ok.cond e hc
   rw [hc] at hp
   simp only [condP,List.mem_cons,List.not_mem_nil,or_false] at hp
   rcases hp with rfl | rfl | rfl
   ·exact lexK_if
   ·exact lexK_all e o1 o2
   ·exact lexK_of (ts := [⟨5,[58],0,0⟩]) rfl
 ·rcases List.mem_cons.1 hp with rfl | hp
  ·exact lexK_act ok.kind.1 ok.kind.2
  ·rcases List.mem_append.1 hp with hp | hp
   ·unfold nameP at hp
    split at hp
    ·cases hp
    ·rename_i h5
     simp only [List.mem_singleton] at hp
     subst hp
     exact lexK_named (ok.name h5)
   ·rcases List.mem_append.1 hp with hp | hp
    ·exact lex_ex ok.x p hp
    ·unfold numP at hp
     split at hp
     ·rename_i h3
      simp only [List.mem_singleton] at hp
      subst hp
      obtain ⟨u1,u2⟩ := ok.num h3
      exact lexK_of (lex_num c.n u1 (by unfold I64;omega))
     ·cases hp
theorem lex_acts : ∀ cs : List AcX,(∀ c ∈ cs,OkA c) → ∀ p ∈ actsP cs,LexK p.1 p.2
 | [],_,p,hp => by cases hp
 | [c],h,p,hp => lex_act (h c (by simp)) p hp
 | c :: d :: ds,h,p,hp => by
  rw [actsP] at hp
  rcases List.mem_append.1 hp with hp | hp
  ·exact lex_act (h c (by simp)) p hp
  ·rcases List.mem_cons.1 hp with rfl | hp
   ·exact lexK_of (ts := [⟨5,[59],0,0⟩]) rfl
   ·exact lex_acts (d :: ds) (fun x hx => h x (by simp at hx ⊢;right;exact hx)) p hp
def ifP : Option ExT → List Pc
 | none => []
 | some e => [([105,102],[(1,[105,102],0)]),(textE e,toksE digT e)]
def goP : List (List UInt8) → List Pc
 | [] => []
 | g :: gs => ([103,111],[(1,[103,111],0)]) :: (g :: gs).map fun g => (g,[(1,g,0)])
def inP (b : Bool) : List Pc := if b then [([105,110,110,101,114],[(1,[105,110,110,101,114],0)])] else []
def dP : List AcX → List Pc
 | [] => []
 | c :: cs => ([100,111],[(1,[100,111],0)]) :: actsP (c :: cs)
def transP (x : LnX) : List Pc := ifP x.cond ++ (goP x.goes ++ (inP x.inner ++ dP x.thn))
def valX (vk vn : Int) (vs : List UInt8) : List UInt8 :=
 if vk = 1 then if vn < 0 then 45 :: digT (-vn) else digT vn
 else if vk = 3 then 39 :: (vs ++ [39])
 else if vn = 1 then [116,114,117,101] else [102,97,108,115,101]
def startP (s : List UInt8) : List Pc := if s = [] then [] else [(s,[(1,s,0)])]
def restP (x : LnX) : List Pc :=
 if x.kind = 12 then []
 else if x.kind = 8 ∨ x.kind = 9 then actsP x.acts
 else if x.kind = 10 then (x.event,[evK x.event]) :: transP x
 else if x.kind = 11 then transP x
 else (x.name,[(1,x.name,0)]) :: (if x.kind = 2 then [(valX x.vk x.vn x.vs,valK digT x.vk x.vn x.vs)] else startP x.start)
def linePc (x : LnX) : List Pc := (lwL x.kind,[(1,lwL x.kind,0)]) :: restP x
def lnText (x : LnX) : List UInt8 := textP (linePc x)
theorem keys_names : ∀ gs : List (List UInt8),keysP (gs.map fun g => (g,[((1,g,0) : Ky)])) = gs.map fun g => ((1,g,0) : Ky)
 | [] => rfl
 | g :: gs => by
  rw [List.map_cons,List.map_cons,keysP_cons,keys_names gs]
  rfl
theorem lexT_void (m a : Nat) : lexT m a [] = .ok [] := by cases m <;> rfl
theorem keys_trans (x : LnX) : keysP (transP x) = transK digT x := by
 unfold transP transK
 rw [keysP_append,keysP_append,keysP_append]
 have h1 : keysP (ifP x.cond) = ifK digT x.cond := by
  cases x.cond with
  | none => rfl
  | some e => simp [ifP,ifK,keysP]
 have h2 : keysP (goP x.goes) = goK x.goes := by
  cases x.goes with
  | nil => rfl
  | cons g gs =>
   rw [goP,goK,keysP_cons,keys_names]
   rfl
 have h3 : keysP (inP x.inner) = inK x.inner := by cases x.inner <;> rfl
 have h4 : keysP (dP x.thn) = dK digT x.thn := by
  cases x.thn with
  | nil => rfl
  | cons c cs => rw [dP,dK,keysP_cons,keys_acts];rfl
 rw [h1,h2,h3,h4]
theorem keys_line (x : LnX) : keysP (linePc x) = toksL digT x := by
 unfold linePc toksL restP restK
 rw [keysP_cons]
 split
 ·rfl
 ·split
  ·rw [keys_acts];rfl
  ·split
   ·rw [keysP_cons,keys_trans];rfl
   ·split
    ·rw [keys_trans];rfl
    ·rw [keysP_cons]
     split
     ·simp [keysP]
     ·unfold startP startK
      split <;> rfl
theorem lex_trans {x : LnX} (ok : OkTr x) : ∀ p ∈ transP x,LexK p.1 p.2 := fun p hp => by
 unfold transP at hp
 rcases List.mem_append.1 hp with hp | hp
 ·cases hc : x.cond with
  | none => rw [hc] at hp;cases hp
  | some e =>
   obtain ⟨o1,o2,_⟩ := ok.cond e hc
   rw [hc] at hp
   simp only [ifP,List.mem_cons,List.not_mem_nil,or_false] at hp
   rcases hp with rfl | rfl
   ·exact lexK_if
   ·exact lexK_all e o1 o2
 ·rcases List.mem_append.1 hp with hp | hp
  ·cases hg : x.goes with
   | nil => rw [hg] at hp;cases hp
   | cons g gs =>
    rw [hg,goP] at hp
    rcases List.mem_cons.1 hp with rfl | hp
    ·exact lexK_of (ts := [⟨1,[103,111],0,0⟩]) rfl
    ·obtain ⟨y,hy,rfl⟩ := List.mem_map.1 hp
     exact lexK_name (ok.goes.2 y (by rw [hg];exact hy))
  ·rcases List.mem_append.1 hp with hp | hp
   ·unfold inP at hp
    split at hp
    ·simp only [List.mem_singleton] at hp
     subst hp
     exact lexK_of (ts := [⟨1,[105,110,110,101,114],0,0⟩]) rfl
    ·cases hp
   ·cases ht : x.thn with
    | nil => rw [ht] at hp;cases hp
    | cons c cs =>
     rw [ht,dP] at hp
     rcases List.mem_cons.1 hp with rfl | hp
     ·exact lexK_of (ts := [⟨1,[100,111],0,0⟩]) rfl
     ·exact lex_acts (c :: cs) (fun y hy => ok.thn.2 y (by rw [ht];exact hy)) p hp
theorem lex_value {vk vn : Int} {vs : List UInt8} (ok : OkV vk vn vs) : LexK (valX vk vn vs) (valK digT vk vn vs) := by
 rcases ok with ⟨rfl,h64,hm,rfl⟩ | ⟨rfl,hn,rfl⟩ | ⟨rfl,rfl,hp,hl⟩
 ·unfold valX valK
  rw [if_pos rfl,if_pos rfl]
  split
  ·exact lexK_neg (lexK_of (lex_num (-vn) (by omega) hm))
  ·exact lexK_of (lex_num vn (by omega) h64)
 ·rcases hn with rfl | rfl
  ·exact lexK_of (ts := [⟨1,[102,97,108,115,101],0,0⟩]) rfl
  ·exact lexK_of (ts := [⟨1,[116,114,117,101],0,0⟩]) rfl
 ·exact lexK_of (lex_quo vs hp hl)
theorem lex_start {s : List UInt8} (h : s = [] ∨ nmB s = true) : ∀ p ∈ startP s,LexK p.1 p.2 := fun p hp => by
 unfold startP at hp
 split at hp
 ·cases hp
 ·rename_i h0
  simp only [List.mem_singleton] at hp
  subst hp
  exact lexK_name (h.resolve_left h0)
theorem lex_line {x : LnX} (ok : OkL x) : ∀ p ∈ linePc x,LexK p.1 p.2 := fun p hp => by
 unfold linePc at hp
 rcases List.mem_cons.1 hp with rfl | hp
 ·exact lexK_line ok.kind.1 ok.kind.2
 ·unfold restP at hp
  rcases ok.has with ⟨k,hx⟩ | ⟨k,hx,hne,hA⟩ | ⟨k,hx,hev,hT'⟩ | ⟨k,hx,hT'⟩ | ⟨k,hx,hn,hv⟩ | ⟨k,hx,hn,hs⟩ | ⟨k,hx,hn,hs⟩ | ⟨k,hx,hn⟩
  ·rw [if_pos k] at hp
   cases hp
  ·rw [if_neg (by omega),if_pos k] at hp
   exact lex_acts _ hA.2 p hp
  ·rw [if_neg (by omega),if_neg (by omega),if_pos k] at hp
   rcases List.mem_cons.1 hp with rfl | hp
   ·exact lexK_event hev
   ·exact lex_trans hT' p hp
  ·rw [if_neg (by omega),if_neg (by omega),if_neg (by omega),if_pos k] at hp
   exact lex_trans hT' p hp
  ·rw [if_neg (by omega),if_neg (by omega),if_neg (by omega),if_neg (by omega),if_pos k] at hp
   rcases List.mem_cons.1 hp with rfl | hp
   ·exact lexK_name hn
   ·simp only [List.mem_singleton] at hp
    subst hp
    exact lex_value hv
  all_goals
   rw [if_neg (by omega),if_neg (by omega),if_neg (by omega),if_neg (by omega),if_neg (by omega)] at hp
   rcases List.mem_cons.1 hp with rfl | hp
   ·exact lexK_name hn
   ·refine lex_start ?_ p hp
    first
    | exact hs
    | exact .inr hs
    | (rw [hx];exact .inl rfl)
theorem text_again {x : LnX} (ok : OkL x) (hl : (toksL digT x).length ≤ 120) : parseL (lnText x) = .ok (flatL x) := by
 have h := lexK_join (linePc x) (by simp [linePc]) (lex_line ok)
 rw [keys_line] at h
 obtain ⟨us,h1,h2⟩ := h.lex 120 0 [] (.inl rfl) hl
 have he : lexT (120 - (toksL digT x).length) (0 + (textP (linePc x)).length) [] = .ok [] := lexT_void _ _
 rw [List.append_nil,he] at h2
 have h3 : lexT 120 0 (textP (linePc x)) = .ok us := by
  rw [h2]
  simp [pre]
 have hlen : us.length = (toksL digT x).length := by rw [← h1,List.length_map]
 have hE : Ends us 0 (toksL digT x) := by
  refine ⟨fun j hj => ?_,by omega⟩
  refine ⟨us[j]'(by omega),by rw [Nat.zero_add];exact List.getElem?_eq_getElem _,?_⟩
  simp only [← h1,List.getElem_map]
 unfold parseL lnText
 rw [h3]
 exact line_again (by omega) ok hE
theorem read_again {l : List UInt8} {n : Ln} (h : parseL l = .ok n) : ∃ x : LnX,n = flatL x ∧ OkL x ∧ (toksL digT x).length ≤ 120 ∧ parseL (lnText x) = .ok n := by
 unfold parseL at h
 split at h
 ·cases h
 ·rename_i ts hts
  have hl := lexT_count hts
  obtain ⟨x,e,ok,hlen⟩ := line_tree digT (by omega) (lexT_ok hts) h
  exact ⟨x,e,ok,by omega,by rw [e];exact text_again ok (by omega)⟩
end Go.Proofs.YtpgibloeinphaaaGreatDoor
namespace Go.Proofs.YtpgibloeinphaaaGreatDoor
def runLn : List Ln → Ch → Int → Except Int (Ch × Int)
 | [],c,o => .ok (c,o)
 | n :: ns,c,o =>
  match stepT c o n with
  | .error e => .error e
  | .ok (d,p) => runLn ns d p
def enLn (a : List Ac) : Ln := { ln0 8 with acts := a }
def exLn (a : List Ac) : Ln := { ln0 9 with acts := a }
def trLn (t : Tr) : Ln := { ln0 (if t.event = [] then 11 else 10) with event := t.event,cond := t.cond,goes := t.goes,inner := t.inner,thn := t.thn }
def stLn (s : St) : Ln := { ln0 s.kind with name := s.name,start := s.start }
def vrLn (v : Vr) : Ln := { ln0 2 with name := v.name,vk := v.vk,vn := v.vn,vs := v.vs }
def bodyLn (s : St) : List Ln := s.enter.map enLn ++ (s.exit.map exLn ++ s.trans.map trLn)
def stAt (c : Ch) (k : Nat) : St := c.states.getD k st0
def kidsFrom (c : Ch) (i : Nat) : Nat → Nat → List Nat
 | 0,_ => []
 | f + 1,m => if (stAt c m).parent = (i : Int) then m :: kidsFrom c i f (m + 1) else kidsFrom c i f (m + 1)
def stateLn (c : Ch) : Nat → Nat → List Ln
 | 0,_ => []
 | f + 1,i => stLn (stAt c i) :: (if 5 < (stAt c i).kind then [] else bodyLn (stAt c i) ++ ((kidsFrom c i (c.states.length - 1) 1).flatMap (stateLn c f) ++ [ln0 12]))
def chartLn (c : Ch) : List Ln :=
 { ln0 1 with name := c.name,start := (stAt c 0).start } :: (c.vars.map vrLn ++ (kidsFrom c 0 (c.states.length - 1) 1).flatMap (stateLn c c.states.length))
inductive Sub (c : Ch) : Nat → Nat → Prop
 | refl (i : Nat) : Sub c i i
 | up {i k p : Nat} (h0 : 0 < k) (hn : k < c.states.length) (hp : (stAt c k).parent = (p : Int)) (h : Sub c i p) : Sub c i k
structure ShapeC (c : Ch) : Prop where
 some : 0 < c.states.length
 par : ∀ i,0 < i → i < c.states.length → ∃ p : Nat,(stAt c i).parent = (p : Int) ∧ p < i
 root : stAt c 0 = ⟨c.name,1,-1,(stAt c 0).start,[],[],[]⟩
 kinds : ∀ k,0 < k → k < c.states.length → 3 ≤ (stAt c k).kind ∧ (stAt c k).kind ≤ 7
 flat : ∀ k,k < c.states.length → 5 < (stAt c k).kind → (stAt c k).enter = [] ∧ (stAt c k).exit = [] ∧ (stAt c k).trans = []
 low : ∀ (k p : Nat),0 < k → k < c.states.length → (stAt c k).parent = (p : Int) → (stAt c p).kind ≤ 5
 pre : ∀ (k p : Nat),k + 1 < c.states.length → (stAt c (k + 1)).parent = (p : Int) → Sub c p k
section
variable {c : Ch}
theorem sub_trans {i j k : Nat} (h1 : Sub c i j) (h2 : Sub c j k) : Sub c i k := by
 induction h2 with
 | refl => exact h1
 | up h0 hn hp _ ih => exact .up h0 hn hp ih
theorem sub_le (sh : ShapeC c) {i k : Nat} (h : Sub c i k) : i ≤ k := by
 induction h with
 | refl => exact Nat.le_refl _
 | up h0 hn hp _ ih =>
  obtain ⟨p',e,hl⟩ := sh.par _ h0 hn
  rw [hp] at e
  have : p' = _ := (Int.ofNat_inj.1 e).symm
  omega
theorem sub_chain {i j k : Nat} (h1 : Sub c i k) : Sub c j k → Sub c i j ∨ Sub c j i := by
 induction h1 with
 | refl => exact fun h2 => .inr h2
 | up h0 hn hp h ih =>
  intro h2
  cases h2 with
  | refl => exact .inl (.up h0 hn hp h)
  | up g0 gn gp g =>
   rw [hp] at gp
   have := Int.ofNat_inj.1 gp
   subst this
   exact ih g
theorem sub_root (sh : ShapeC c) : ∀ k : Nat,k < c.states.length → Sub c 0 k := by
 intro k
 induction k using Nat.strongRecOn with
 | ind k ih =>
  intro hk
  by_cases h0 : k = 0
  ·subst h0
   exact .refl 0
  ·obtain ⟨p,hp,hl⟩ := sh.par k (by omega) hk
   exact .up (by omega) hk hp (ih p hl (by omega))
theorem sub_gap (sh : ShapeC c) {i k : Nat} (hik : i ≤ k) (h : ¬ Sub c i k) (hn : k + 1 < c.states.length) : ¬ Sub c i (k + 1) := fun h2 => by
 cases h2 with
 | refl => omega
 | up h0 hn2 hp g => exact h (sub_trans g (sh.pre k _ hn hp))
theorem sub_gaps (sh : ShapeC c) {i m : Nat} (hik : i ≤ m) (h : ¬ Sub c i m) : ∀ d,m + d < c.states.length → ¬ Sub c i (m + d)
 | 0,_ => h
 | d + 1,hn => sub_gap sh (k := m + d) (Nat.le_trans hik (Nat.le_add_right m d)) (sub_gaps sh hik h d (by omega)) hn
theorem kids_none {i : Nat} : ∀ (f m : Nat),(∀ k,m ≤ k → k < m + f → (stAt c k).parent ≠ (i : Int)) → kidsFrom c i f m = []
 | 0,_,_ => rfl
 | f + 1,m,h => by
  rw [kidsFrom,if_neg (h m (Nat.le_refl _) (by omega))]
  exact kids_none f (m + 1) fun k h1 h2 => h k (by omega) (by omega)
theorem kids_skip {i : Nat} : ∀ (d f m : Nat),(∀ k,m ≤ k → k < m + d → (stAt c k).parent ≠ (i : Int)) → kidsFrom c i (d + f) m = kidsFrom c i f (m + d)
 | 0,f,m,_ => by rw [Nat.zero_add,Nat.add_zero]
 | d + 1,f,m,h => by
  rw [show d + 1 + f = (d + f) + 1 by omega,kidsFrom,if_neg (h m (Nat.le_refl _) (by omega)),kids_skip d f (m + 1) fun k h1 h2 => h k (by omega) (by omega)]
  congr 1
  omega
theorem set_last (A : List St) (s t : St) : (A ++ [s]).set A.length t = A ++ [t] := by
 rw [List.set_append_right _ _ (Nat.le_refl _),Nat.sub_self]
 rfl
theorem get_last (A : List St) (s : St) : (A ++ [s]).getD A.length st0 = s := by
 rw [getD_snoc,if_neg (by omega),if_pos rfl]
theorem run_enter (nm : List UInt8) (vs : List Vr) (A : List St) (hA : 0 < A.length) (rest : List Ln) (r : Ch × Int) : ∀ (es : List (List Ac)) (s : St),runLn (es.map enLn ++ rest) ⟨nm,vs,A ++ [s]⟩ (A.length : Int) = .ok r →
  runLn rest ⟨nm,vs,A ++ [{ s with enter := s.enter ++ es }]⟩ (A.length : Int) = .ok r
 | [],s,h => by simpa using h
 | a :: es,s,h => by
  rw [List.map_cons,List.cons_append,runLn] at h
  split at h
  ·cases h
  ·rename_i d p hs
   unfold stepT innerT withT enLn at hs
   simp only [ln0,Int.toNat_natCast,get_last,set_last] at hs
   rw [if_neg (by decide),if_neg (by omega),if_neg (by decide),if_pos (by decide),if_neg (by omega),if_pos trivial] at hs
   split at hs
   ·cases hs
   ·cases hs
    have := run_enter nm vs A hA rest r es _ h
    simpa using this
theorem run_exit (nm : List UInt8) (vs : List Vr) (A : List St) (hA : 0 < A.length) (rest : List Ln) (r : Ch × Int) : ∀ (es : List (List Ac)) (s : St),runLn (es.map exLn ++ rest) ⟨nm,vs,A ++ [s]⟩ (A.length : Int) = .ok r →
  runLn rest ⟨nm,vs,A ++ [{ s with exit := s.exit ++ es }]⟩ (A.length : Int) = .ok r
 | [],s,h => by simpa using h
 | a :: es,s,h => by
  rw [List.map_cons,List.cons_append,runLn] at h
  split at h
  ·cases h
  ·rename_i d p hs
   unfold stepT innerT withT exLn at hs
   simp only [ln0,Int.toNat_natCast,get_last,set_last] at hs
   rw [if_neg (by decide),if_neg (by omega),if_neg (by decide),if_pos (by decide),if_neg (by omega),if_neg (by decide),if_pos trivial] at hs
   split at hs
   ·cases hs
   ·cases hs
    have := run_exit nm vs A hA rest r es _ h
    simpa using this
theorem run_trans (nm : List UInt8) (vs : List Vr) (A : List St) (hA : 0 < A.length) (rest : List Ln) (r : Ch × Int) : ∀ (ts : List Tr) (s : St),runLn (ts.map trLn ++ rest) ⟨nm,vs,A ++ [s]⟩ (A.length : Int) = .ok r →
  runLn rest ⟨nm,vs,A ++ [{ s with trans := s.trans ++ ts }]⟩ (A.length : Int) = .ok r
 | [],s,h => by simpa using h
 | t :: ts,s,h => by
  rw [List.map_cons,List.cons_append,runLn] at h
  split at h
  ·cases h
  ·rename_i d p hs
   have hk : (trLn t).kind = 10 ∨ (trLn t).kind = 11 := by
    unfold trLn ln0
    simp only
    split
    ·exact .inr rfl
    ·exact .inl rfl
   have ht : trOf (trLn t) = t := rfl
   unfold stepT innerT withT at hs
   simp only [Int.toNat_natCast,get_last,set_last,ht] at hs
   rw [if_neg (by omega),if_neg (by omega),if_neg (by omega),if_pos (by omega),if_neg (by omega),if_neg (by omega),if_neg (by omega),if_neg (by omega)] at hs
   split at hs
   ·cases hs
   ·cases hs
    have := run_trans nm vs A hA rest r ts _ h
    simpa using this
theorem run_vars (nm : List UInt8) (s : St) (rest : List Ln) (r : Ch × Int) : ∀ (vs us : List Vr),runLn (vs.map vrLn ++ rest) ⟨nm,us,[s]⟩ 0 = .ok r → runLn rest ⟨nm,us ++ vs,[s]⟩ 0 = .ok r
 | [],us,h => by simpa using h
 | v :: vs,us,h => by
  rw [List.map_cons,List.cons_append,runLn] at h
  split at h
  ·cases h
  ·rename_i d p hs
   have hk : (vrLn v).kind = 2 := rfl
   unfold stepT at hs
   rw [if_neg (by omega),if_neg (by decide),if_pos hk,if_neg (by simp)] at hs
   split at hs
   ·cases hs
   ·cases hs
    have hv : (⟨(vrLn v).name,(vrLn v).vk,(vrLn v).vn,(vrLn v).vs⟩ : Vr) = v := rfl
    rw [hv] at h
    have := run_vars nm s rest r vs _ h
    simpa using this
theorem st_flat {s : St} (h1 : s.enter = []) (h2 : s.exit = []) (h3 : s.trans = []) : s = ⟨s.name,s.kind,s.parent,s.start,[],[],[]⟩ := by
 obtain ⟨a,b,c,d,e,f,g⟩ := s
 simp only at h1 h2 h3
 rw [h1,h2,h3]
theorem step_state {c : Ch} {o : Int} {s : St} (h3 : 3 ≤ s.kind) (h7 : s.kind ≤ 7) (ho : 0 ≤ o) {x : Ch × Int} (h : stepT c o (stLn s) = .ok x) :
  x = ({ c with states := c.states ++ [⟨s.name,s.kind,o,s.start,[],[],[]⟩] },if s.kind ≤ 5 then (c.states.length : Int) else o) := by
 have hk : (stLn s).kind = s.kind := rfl
 unfold stepT at h
 rw [if_neg (by omega),if_neg (by omega),if_neg (by omega),if_neg (by omega)] at h
 split at h
 ·cases h
 ·split at h
  ·cases h
  ·split at h
   ·cases h
   ·cases h
    rfl
def takeC (c : Ch) (k : Nat) : Ch := ⟨c.name,c.vars,c.states.take k⟩
theorem takeS_snoc {i : Nat} (h : i < c.states.length) : c.states.take (i + 1) = c.states.take i ++ [stAt c i] := by
 rw [List.take_succ_eq_append_getElem h]
 congr 2
 unfold stAt
 rw [List.getD_eq_getElem?_getD,List.getElem?_eq_getElem h]
 rfl
def StateRun (c : Ch) (f i : Nat) : Prop := ∀ (rest : List Ln) (r : Ch × Int),runLn (stateLn c f i ++ rest) (takeC c i) (stAt c i).parent = .ok r →
 ∃ e,i < e ∧ e ≤ c.states.length ∧ (∀ k,i ≤ k → k < e → Sub c i k) ∧ (e < c.states.length → ¬ Sub c i e) ∧ runLn rest (takeC c e) (stAt c i).parent = .ok r
theorem kids_run (sh : ShapeC c) (f i : Nat) (S : ∀ k,i < k → k < c.states.length → StateRun c f k) :
  ∀ (g m : Nat),m + g = c.states.length → i < m → (∀ k,i ≤ k → k < m → Sub c i k) → (m < c.states.length → Sub c i m → (stAt c m).parent = (i : Int)) →
  ∀ (rest : List Ln) (r : Ch × Int),runLn ((kidsFrom c i g m).flatMap (stateLn c f) ++ rest) (takeC c m) (i : Int) = .ok r →
  ∃ e,m ≤ e ∧ e ≤ c.states.length ∧ (∀ k,i ≤ k → k < e → Sub c i k) ∧ (e < c.states.length → ¬ Sub c i e) ∧ runLn rest (takeC c e) (i : Int) = .ok r := by
 intro g
 induction g using Nat.strongRecOn with
 | ind g ih =>
  intro m hg him hin hcl rest r h
  by_cases hm : m = c.states.length
  ·obtain rfl : g = 0 := by omega
   rw [kidsFrom] at h
   exact ⟨m,Nat.le_refl _,by omega,hin,fun h => absurd h (by omega),h⟩
  ·obtain ⟨g',rfl⟩ : ∃ k,g = k + 1 := ⟨g - 1,by omega⟩
   by_cases hp : (stAt c m).parent = (i : Int)
   ·rw [kidsFrom,if_pos hp,List.flatMap_cons,List.append_assoc] at h
    rw [← hp] at h
    obtain ⟨e1,h1,h2,h3,h4,h5⟩ := S m him (by omega) _ r h
    rw [hp] at h5
    have hno : ∀ k,m + 1 ≤ k → k < m + 1 + (e1 - (m + 1)) → (stAt c k).parent ≠ (i : Int) := fun k hk1 hk2 he => by
     have hs := h3 k (by omega) (by omega)
     cases hs with
     | refl => omega
     | up h0 hn hp2 g =>
      rw [he] at hp2
      have := Int.ofNat_inj.1 hp2
      have hle := sub_le sh g
      omega
    have hk := kids_skip (c := c) (i := i) (e1 - (m + 1)) (c.states.length - e1) (m + 1) hno
    rw [show e1 - (m + 1) + (c.states.length - e1) = g' by omega,show m + 1 + (e1 - (m + 1)) = e1 by omega] at hk
    rw [hk] at h5
    have him1 : Sub c i m := .up (by omega) (by omega) hp (.refl i)
    refine (ih (c.states.length - e1) (by omega) e1 (by omega) (by omega) (fun k k1 k2 => ?_) (fun k1 k2 => ?_) rest r h5).imp fun e ⟨a1,a2,a3,a4,a5⟩ => ⟨by omega,a2,a3,a4,a5⟩
    ·by_cases hk : k < m
     ·exact hin k k1 hk
     ·exact sub_trans him1 (h3 k (by omega) k2)
    ·obtain ⟨p,hp1,hp2⟩ := sh.par e1 (by omega) k1
     have hpre := sh.pre (e1 - 1) p (by omega) (by rw [show e1 - 1 + 1 = e1 by omega];exact hp1)
     have hip : Sub c i p := by
      cases k2 with
      | refl => omega
      | up h0 hn hq g =>
       rw [hp1] at hq
       have := Int.ofNat_inj.1 hq
       subst this
       exact g
     rcases sub_chain hpre (h3 (e1 - 1) (by omega) (by omega)) with hc | hc
     ·cases hc with
      | refl => exact absurd (.up (by omega) k1 hp1 (.refl _)) (h4 k1)
      | up h0 hn hq g =>
       rw [hp] at hq
       have e2 := Int.ofNat_inj.1 hq
       have l1 := sub_le sh g
       have l2 := sub_le sh hip
       rw [hp1,show p = i by omega]
     ·exact absurd (.up (by omega) k1 hp1 hc) (h4 k1)
   ·have hns : ¬ Sub c i m := fun hs => hp (hcl (by omega) hs)
    have hk : kidsFrom c i (g' + 1) m = [] := kids_none _ _ fun k k1 k2 he => by
     have hns2 := sub_gaps sh (by omega) hns (k - m) (by omega)
     rw [show m + (k - m) = k by omega] at hns2
     exact hns2 (.up (by omega) (by omega) he (.refl i))
    rw [hk] at h
    exact ⟨m,Nat.le_refl _,by omega,hin,fun _ => hns,h⟩
theorem kid_first (sh : ShapeC c) {i : Nat} (hn : i + 1 < c.states.length) (hs : Sub c i (i + 1)) : (stAt c (i + 1)).parent = (i : Int) := by
 obtain ⟨p,hp1,hp2⟩ := sh.par (i + 1) (by omega) hn
 have hpre := sh.pre i p hn hp1
 cases hs with
 | up h0 hn2 hq g =>
  rw [hp1] at hq
  have e := Int.ofNat_inj.1 hq
  subst e
  have := sub_le sh g
  rw [hp1,show p = i by omega]
theorem kids_start (sh : ShapeC c) {i : Nat} (hi : i < c.states.length) : kidsFrom c i (c.states.length - 1) 1 = kidsFrom c i (c.states.length - (i + 1)) (i + 1) := by
 have := kids_skip (c := c) (i := i) i (c.states.length - (i + 1)) 1 fun k k1 k2 he => by
  obtain ⟨p,hp1,hp2⟩ := sh.par k (by omega) (by omega)
  rw [he] at hp1
  have := Int.ofNat_inj.1 hp1
  omega
 rw [show i + (c.states.length - (i + 1)) = c.states.length - 1 by omega,Nat.add_comm 1 i] at this
 exact this
theorem state_run (sh : ShapeC c) : ∀ (f i : Nat),0 < i → i < c.states.length → c.states.length - i ≤ f → StateRun c f i
 | 0,i,_,hi,hf => by omega
 | f + 1,i,h0,hi,hf => by
  intro rest r h
  obtain ⟨k3,k7⟩ := sh.kinds i h0 hi
  obtain ⟨p,hp1,hp2⟩ := sh.par i h0 hi
  have hlen : (c.states.take i).length = i := by rw [List.length_take];omega
  rw [stateLn,List.cons_append,runLn] at h
  split at h
  ·cases h
  ·rename_i d o hs
   have hx := step_state k3 k7 (by omega) hs
   simp only [Prod.mk.injEq] at hx
   obtain ⟨rfl,rfl⟩ := hx
   unfold takeC at h
   simp only at h
   by_cases hk : 5 < (stAt c i).kind
   ·rw [if_pos hk,if_neg (by omega),List.nil_append] at h
    obtain ⟨f1,f2,f3⟩ := sh.flat i hi hk
    refine ⟨i + 1,by omega,by omega,fun k k1 k2 => by rw [show k = i by omega];exact .refl i,fun hn hs => ?_,?_⟩
    ·have := sh.low (i + 1) i (by omega) hn (kid_first sh hn hs)
     omega
    ·unfold takeC
     rw [takeS_snoc hi]
     have e := st_flat f1 f2 f3
     rw [e]
     exact h
   ·rw [if_neg hk,if_pos (by omega)] at h
    simp only [bodyLn,List.append_assoc] at h
    have hA : 0 < (c.states.take i).length := by omega
    have h1 := run_enter _ _ _ hA _ _ _ _ h
    have h2 := run_exit _ _ _ hA _ _ _ _ h1
    have h3 := run_trans _ _ _ hA _ _ _ _ h2
    simp only [List.nil_append] at h3
    rw [hlen,show (⟨(stAt c i).name,(stAt c i).kind,(stAt c i).parent,(stAt c i).start,(stAt c i).enter,(stAt c i).exit,(stAt c i).trans⟩ : St) = stAt c i from rfl,← takeS_snoc hi,kids_start sh hi] at h3
    obtain ⟨e,e1,e2,e3,e4,e5⟩ := kids_run sh f i (fun k k1 k2 => state_run sh f k (by omega) k2 (by omega)) (c.states.length - (i + 1)) (i + 1) (by omega) (by omega)
     (fun k k1 k2 => by rw [show k = i by omega];exact .refl i) (fun hn hs => kid_first sh hn hs) _ r h3
    refine ⟨e,by omega,e2,e3,e4,?_⟩
    rw [List.cons_append,List.nil_append,runLn] at e5
    have hst : (takeC c e).states.getD i st0 = stAt c i := by
     unfold takeC stAt
     simp only
     rw [List.getD_eq_getElem?_getD,List.getD_eq_getElem?_getD,List.getElem?_take,if_pos (by omega)]
    have hend : stepT (takeC c e) (i : Int) (ln0 12) = .ok (takeC c e,(stAt c i).parent) := by
     unfold stepT innerT
     simp only [ln0,Int.toNat_natCast,hst]
     rw [if_neg (by decide),if_neg (by omega),if_neg (by decide),if_pos (by decide),if_neg (by omega),if_neg (by decide),if_neg (by decide),if_pos trivial]
    rw [hend] at e5
    exact e5
theorem chart_run (sh : ShapeC c) {d : Ch} {o : Int} (h : runLn (chartLn c) ch0 (-1) = .ok (d,o)) : d = c ∧ o = 0 := by
 unfold chartLn at h
 rw [runLn] at h
 have h1 : stepT ch0 (-1) { ln0 1 with name := c.name,start := (stAt c 0).start } = .ok (⟨c.name,[],[stAt c 0]⟩,0) := by
  rw [sh.root]
  rfl
 rw [h1] at h
 simp only at h
 have h2 := run_vars _ _ _ _ _ _ h
 rw [List.nil_append] at h2
 have h3 : (⟨c.name,c.vars,[stAt c 0]⟩ : Ch) = takeC c 1 := by
  unfold takeC
  rw [show (1 : Nat) = 0 + 1 from rfl,takeS_snoc sh.some]
  rfl
 rw [h3,← List.append_nil (List.flatMap _ _)] at h2
 obtain ⟨e,e1,e2,e3,e4,e5⟩ := kids_run sh c.states.length 0 (fun k k1 k2 => state_run sh _ k k1 k2 (by omega)) (c.states.length - 1) 1 (by have := sh.some;omega) (by omega)
  (fun k k1 k2 => by rw [show k = 0 by omega];exact .refl 0) (fun hn hs => kid_first sh hn hs) [] (d,o) h2
 have he : e = c.states.length := by
  by_cases hx : e < c.states.length
  ·exact absurd (sub_root sh e hx) (e4 hx)
  ·omega
 rw [runLn] at e5
 cases e5
 refine ⟨?_,rfl⟩
 unfold takeC
 rw [he,List.take_length]
end
end Go.Proofs.YtpgibloeinphaaaGreatDoor
namespace Go.Proofs.YtpgibloeinphaaaGreatDoor
theorem sub_mono {c d : Ch} (hl : c.states.length ≤ d.states.length) (hp : ∀ k,k < c.states.length → (stAt d k).parent = (stAt c k).parent) {i k : Nat} (h : Sub c i k) : Sub d i k := by
 induction h with
 | refl => exact .refl _
 | up h0 hn hq _ ih => exact .up h0 (by omega) (by rw [hp _ hn];exact hq) ih
structure OpenC (c : Ch) (o : Nat) : Prop where
 shape : ShapeC c
 lt : o < c.states.length
 kind : (stAt c o).kind ≤ 5
 last : Sub c o (c.states.length - 1)
theorem open_same {c d : Ch} {o : Nat} (h : OpenC c o) (hn : d.name = c.name) (hl : d.states.length = c.states.length) (hp : ∀ k,k < c.states.length → (stAt d k).parent = (stAt c k).parent ∧ (stAt d k).kind = (stAt c k).kind)
  (h0 : stAt d 0 = stAt c 0) (hf : ∀ k,k < c.states.length → 5 < (stAt c k).kind → (stAt d k).enter = [] ∧ (stAt d k).exit = [] ∧ (stAt d k).trans = []) : OpenC d o := by
 have sh := h.shape
 have hm : ∀ {i k : Nat},Sub c i k → Sub d i k := fun g => sub_mono (by omega) (fun k hk => (hp k hk).1) g
 refine ⟨⟨by rw [hl];exact sh.some,fun i i0 i1 => ?_,by rw [h0,hn];exact sh.root,fun k k0 k1 => ?_,fun k k1 k5 => ?_,fun k p k0 k1 kp => ?_,fun k p k1 kp => ?_⟩,by rw [hl];exact h.lt,by rw [(hp o h.lt).2];exact h.kind,by rw [hl];exact hm h.last⟩
 ·rw [hl] at i1
  rw [(hp i i1).1]
  exact sh.par i i0 i1
 ·rw [hl] at k1
  rw [(hp k k1).2]
  exact sh.kinds k k0 k1
 ·rw [hl] at k1
  rw [(hp k k1).2] at k5
  exact hf k k1 k5
 ·rw [hl] at k1
  rw [(hp k k1).1] at kp
  obtain ⟨q,hq,hlt⟩ := sh.par k k0 k1
  rw [kp] at hq
  have := Int.ofNat_inj.1 hq
  rw [(hp p (by omega)).2]
  exact sh.low k p k0 k1 kp
 ·rw [hl] at k1
  rw [(hp (k + 1) k1).1] at kp
  exact hm (sh.pre k p k1 kp)
theorem open_with {c : Ch} {o : Nat} {s : St} (h : OpenC c o) (h0 : o ≠ 0) (h1 : s.parent = (stAt c o).parent) (h2 : s.kind = (stAt c o).kind) : OpenC (withT c (o : Int) s) o := by
 have hg : ∀ k,stAt (withT c (o : Int) s) k = if k = o then s else stAt c k := fun k => by
  unfold withT stAt
  simp only [Int.toNat_natCast]
  exact getD_set h.lt
 refine open_same h rfl (by simp [withT]) (fun k hk => ?_) ?_ (fun k hk h5 => ?_)
 ·rw [hg]
  split
  ·rename_i e
   subst e
   exact ⟨h1,h2⟩
  ·exact ⟨rfl,rfl⟩
 ·rw [hg,if_neg (fun e => h0 e.symm)]
 ·rw [hg,if_neg (fun e => by subst e;have := h.kind;omega)]
  exact h.shape.flat k hk h5
theorem open_snoc {c : Ch} {o : Nat} (h : OpenC c o) {k : Int} {nm st : List UInt8} (k3 : 3 ≤ k) (k7 : k ≤ 7) :
  ∀ p : Nat,p = (if k ≤ 5 then c.states.length else o) → OpenC { c with states := c.states ++ [⟨nm,k,(o : Int),st,[],[],[]⟩] } p := by
 have sh := h.shape
 have hlt := h.lt
 generalize hd : ({ c with states := c.states ++ [⟨nm,k,(o : Int),st,[],[],[]⟩] } : Ch) = d
 have hn : d.name = c.name := by subst hd;rfl
 have hl : d.states.length = c.states.length + 1 := by subst hd;simp
 have ho : ∀ i,i < c.states.length → stAt d i = stAt c i := fun i hi => by
  subst hd
  unfold stAt
  simp only
  rw [getD_snoc,if_pos hi]
 have hx : stAt d c.states.length = ⟨nm,k,(o : Int),st,[],[],[]⟩ := by
  subst hd
  unfold stAt
  simp only
  rw [getD_snoc,if_neg (by omega),if_pos rfl]
 have hm : ∀ {i k : Nat},Sub c i k → Sub d i k := fun g => sub_mono (by omega) (fun k hk => by rw [ho k hk]) g
 have hs := sh.some
 have hup : Sub d o c.states.length := .up (by omega) (by omega) (by rw [hx]) (.refl o)
 have shd : ShapeC d := by
  refine ⟨by omega,fun i i0 i1 => ?_,?_,fun j j0 j1 => ?_,fun j j1 j5 => ?_,fun j p j0 j1 jp => ?_,fun j p j1 jp => ?_⟩
  ·by_cases e : i < c.states.length
   ·rw [ho i e]
    exact sh.par i i0 e
   ·obtain rfl : i = c.states.length := by omega
    rw [hx]
    exact ⟨o,rfl,hlt⟩
  ·rw [ho 0 hs,hn]
   exact sh.root
  ·by_cases e : j < c.states.length
   ·rw [ho j e]
    exact sh.kinds j j0 e
   ·obtain rfl : j = c.states.length := by omega
    rw [hx]
    exact ⟨k3,k7⟩
  ·by_cases e : j < c.states.length
   ·rw [ho j e] at j5 ⊢
    exact sh.flat j e j5
   ·obtain rfl : j = c.states.length := by omega
    rw [hx]
    exact ⟨rfl,rfl,rfl⟩
  ·by_cases e : j < c.states.length
   ·rw [ho j e] at jp
    obtain ⟨q,hq,hql⟩ := sh.par j j0 e
    rw [jp] at hq
    have := Int.ofNat_inj.1 hq
    rw [ho p (by omega)]
    exact sh.low j p j0 e jp
   ·obtain rfl : j = c.states.length := by omega
    rw [hx] at jp
    have := Int.ofNat_inj.1 jp
    subst this
    rw [ho o hlt]
    exact h.kind
  ·by_cases e : j + 1 < c.states.length
   ·rw [ho (j + 1) e] at jp
    exact hm (sh.pre j p e jp)
   ·have e2 : j + 1 = c.states.length := by omega
    rw [e2,hx] at jp
    have := Int.ofNat_inj.1 jp
    subst this
    have hL := h.last
    rw [show c.states.length - 1 = j by omega] at hL
    exact hm hL
 intro p hp
 by_cases h5 : k ≤ 5
 ·rw [if_pos h5] at hp
  subst hp
  exact ⟨shd,by omega,by rw [hx];exact h5,by rw [show d.states.length - 1 = c.states.length by omega];exact .refl _⟩
 ·rw [if_neg h5] at hp
  subst hp
  exact ⟨shd,by omega,by rw [ho p hlt];exact h.kind,by rw [show d.states.length - 1 = c.states.length by omega];exact hup⟩
theorem open_step {c d : Ch} {o p : Int} {n : Ln} (hn : 1 ≤ n.kind) (g : o < 0 ∨ ∃ k : Nat,o = (k : Int) ∧ OpenC c k) (h : stepT c o n = .ok (d,p)) : ∃ k : Nat,p = (k : Int) ∧ OpenC d k := by
 unfold stepT at h
 split at h
 ·split at h
  ·cases h
  ·cases h
   refine ⟨0,rfl,⟨⟨by simp,fun i i0 i1 => ?_,rfl,fun k k0 k1 => ?_,fun k k1 k5 => ?_,fun k q k0 k1 => ?_,fun k q k1 => ?_⟩,by simp,by show (1 : Int) ≤ 5;decide,.refl 0⟩⟩
   ·simp only [List.length_cons,List.length_nil] at i1;omega
   ·simp only [List.length_cons,List.length_nil] at k1;omega
   ·simp only [List.length_cons,List.length_nil] at k1
    obtain rfl : k = 0 := by omega
    exact ⟨rfl,rfl,rfl⟩
   ·simp only [List.length_cons,List.length_nil] at k1;omega
   ·simp only [List.length_cons,List.length_nil] at k1;omega
 ·rename_i k1
  split at h
  ·cases h
  ·rename_i hneg
   have g' := g.resolve_left hneg
   clear g
   obtain ⟨k,rfl,op⟩ := g'
   split at h
   ·split at h
    ·cases h
    ·split at h
     ·cases h
     ·cases h
      exact ⟨k,rfl,open_same op rfl rfl (fun j _ => ⟨rfl,rfl⟩) rfl (fun j hj h5 => op.shape.flat j hj h5)⟩
   ·rename_i k2
    split at h
    ·unfold innerT at h
     split at h
     ·cases h
     ·rename_i hk0
      have h0 : k ≠ 0 := by omega
      simp only [Int.toNat_natCast] at h
      split at h
      ·split at h
       ·cases h
       ·cases h
        exact ⟨k,rfl,open_with op h0 rfl rfl⟩
      ·split at h
       ·split at h
        ·cases h
        ·cases h
         exact ⟨k,rfl,open_with op h0 rfl rfl⟩
       ·split at h
        ·cases h
         obtain ⟨q,hq,hql⟩ := op.shape.par k (by omega) op.lt
         have hlt := op.lt
         refine ⟨q,hq,⟨op.shape,by omega,op.shape.low k q (by omega) op.lt hq,sub_trans (.up (by omega) op.lt hq (.refl q)) op.last⟩⟩
        ·split at h
         ·cases h
         ·cases h
          exact ⟨k,rfl,open_with op h0 rfl rfl⟩
    ·rename_i k8
     have e3 : 3 ≤ n.kind := by omega
     have e7 : n.kind ≤ 7 := by omega
     split at h
     ·cases h
     ·split at h
      ·cases h
      ·split at h
       ·cases h
       ·cases h
        exact ⟨if n.kind ≤ 5 then c.states.length else k,by split <;> rfl,open_snoc op e3 e7 _ rfl⟩
theorem parseL_kind1 {l : List UInt8} {n : Ln} (h : parseL l = .ok n) : 1 ≤ n.kind := by
 obtain ⟨x,rfl,ok,_⟩ := read_again h
 have := ok.kind.1
 show 1 ≤ (x.kind : Int)
 omega
theorem open_run : ∀ (ls : List (List UInt8)) (i : Nat) (c d : Ch) (o p : Int),(o < 0 ∨ ∃ k : Nat,o = (k : Int) ∧ OpenC c k) → runT i ls c o = .ok (d,p) → p < 0 ∨ ∃ k : Nat,p = (k : Int) ∧ OpenC d k
 | [],_,_,_,_,_,g,h => by cases h;exact g
 | l :: ls,i,c,d,o,p,g,h => by
  rw [runT] at h
  split at h
  ·cases h
  ·split at h
   ·cases h
   ·split at h
    ·exact open_run ls _ _ _ _ _ g h
    ·split at h
     ·cases h
     ·rename_i n hp
      split at h
      ·cases h
      ·rename_i c2 o2 hs
       exact open_run ls _ _ _ _ _ (.inr (open_step (parseL_kind1 hp) g hs)) h
theorem shape_chart {l : List UInt8} {c : Ch} (h : chartT l = .ok c) : ShapeC c := by
 unfold chartT at h
 split at h
 ·cases h
 ·rename_i d o hr
  split at h
  ·rename_i h0
   cases h
   rcases open_run _ _ _ _ _ _ (.inl (by decide)) hr with g | ⟨k,_,g⟩
   ·omega
   ·exact g.shape
  ·cases h
end Go.Proofs.YtpgibloeinphaaaGreatDoor
namespace Go.Proofs.YtpgibloeinphaaaGreatDoor
def LnOk (n : Ln) : Prop := ∃ x : LnX,n = flatL x ∧ OkL x ∧ (toksL digT x).length ≤ 120
theorem ln_ok {l : List UInt8} {n : Ln} (h : parseL l = .ok n) : LnOk n := by
 obtain ⟨x,e,ok,hl,_⟩ := read_again h
 exact ⟨x,e,ok,hl⟩
theorem named_ne {ev : Bool} {s : List UInt8} (h : namedB ev s = true) : s ≠ [] := fun e => by
 subst e
 cases ev <;> revert h <;> decide
structure NormL (n : Ln) : Prop where
 one : n.kind = 1 → n = { ln0 1 with name := n.name,start := n.start }
 var : n.kind = 2 → n = vrLn ⟨n.name,n.vk,n.vn,n.vs⟩
 st : 3 ≤ n.kind → n.kind ≤ 7 → ∀ o : Int,n = stLn ⟨n.name,n.kind,o,n.start,[],[],[]⟩
 en : n.kind = 8 → n = enLn n.acts
 ex : n.kind = 9 → n = exLn n.acts
 nd : n.kind = 12 → n = ln0 12
 tr : n.kind = 10 ∨ n.kind = 11 → n = trLn (trOf n)
theorem norm_ln {n : Ln} (h : LnOk n) : NormL n := by
 obtain ⟨x,rfl,ok,_⟩ := h
 have hk : (flatL x).kind = (x.kind : Int) := rfl
 rcases ok.has with ⟨k,hx⟩ | ⟨k,hx,hne,hA⟩ | ⟨k,hx,hev,hT'⟩ | ⟨k,hx,hT'⟩ | ⟨k,hx,hn,hv⟩ | ⟨k,hx,hn,hs⟩ | ⟨k,hx,hn,hs⟩ | ⟨k,hx,hn⟩
 ·refine ⟨fun h => ?_,fun h => ?_,fun h h' => ?_,fun h => ?_,fun h => ?_,fun h => ?_,fun h => ?_⟩
  all_goals first
  | (exfalso;omega)
  | (rw [hx];rfl)
 ·rcases k with k | k
  all_goals
   rw [k] at hx
   refine ⟨fun h => ?_,fun h => ?_,fun h h' => ?_,fun h => ?_,fun h => ?_,fun h => ?_,fun h => ?_⟩
   all_goals first
   | (exfalso;omega)
   | (rw [hx];rfl)
 ·refine ⟨fun h => ?_,fun h => ?_,fun h h' => ?_,fun h => ?_,fun h => ?_,fun h => ?_,fun h => ?_⟩
  all_goals first
  | (exfalso;omega)
  | skip
  have hne : x.event ≠ [] := by
   rcases hev with e | e
   ·rw [e];simp
   ·exact named_ne e
  have hte : (trOf (flatL x)).event = x.event := rfl
  unfold trLn
  rw [hte,if_neg hne]
  rw [hx]
  rfl
 ·refine ⟨fun h => ?_,fun h => ?_,fun h h' => ?_,fun h => ?_,fun h => ?_,fun h => ?_,fun h => ?_⟩
  all_goals first
  | (exfalso;omega)
  | (rw [hx];rfl)
 ·refine ⟨fun h => ?_,fun h => ?_,fun h h' => ?_,fun h => ?_,fun h => ?_,fun h => ?_,fun h => ?_⟩
  all_goals first
  | (exfalso;omega)
  | (rw [hx];rfl)
 ·rcases k with k | k
  all_goals
   rw [k] at hx
   refine ⟨fun h => ?_,fun h => ?_,fun h h' o => ?_,fun h => ?_,fun h => ?_,fun h => ?_,fun h => ?_⟩
   all_goals first
   | (exfalso;omega)
   | (rw [hx];rfl)
 ·rcases k with k | k
  all_goals
   rw [k] at hx
   refine ⟨fun h => ?_,fun h => ?_,fun h h' o => ?_,fun h => ?_,fun h => ?_,fun h => ?_,fun h => ?_⟩
   all_goals first
   | (exfalso;omega)
   | (rw [hx];rfl)
 ·rcases k with k | k
  all_goals
   rw [k] at hx
   refine ⟨fun h => ?_,fun h => ?_,fun h h' o => ?_,fun h => ?_,fun h => ?_,fun h => ?_,fun h => ?_⟩
   all_goals first
   | (exfalso;omega)
   | (rw [hx];rfl)
structure TreeC (c : Ch) : Prop where
 some : 0 < c.states.length
 head : LnOk { ln0 1 with name := c.name,start := (stAt c 0).start }
 vars : ∀ v ∈ c.vars,LnOk (vrLn v)
 st : ∀ k,0 < k → k < c.states.length → LnOk (stLn (stAt c k))
 body : ∀ k,k < c.states.length → ∀ n ∈ bodyLn (stAt c k),LnOk n
theorem tree_with {c : Ch} {k : Nat} {s : St} (h : TreeC c) (hk : k < c.states.length) (h1 : stLn s = stLn (stAt c k)) (h2 : ∀ n ∈ bodyLn s,LnOk n) : TreeC (withT c (k : Int) s) := by
 have hg : ∀ j,stAt (withT c (k : Int) s) j = if j = k then s else stAt c j := fun j => by
  unfold withT stAt
  simp only [Int.toNat_natCast]
  exact getD_set hk
 have hst : s.start = (stAt c k).start := by
  have := congrArg Ln.start h1
  exact this
 have hl : (withT c (k : Int) s).states.length = c.states.length := by simp [withT]
 refine ⟨by rw [hl];exact h.some,?_,h.vars,fun j j0 j1 => ?_,fun j j1 n hn => ?_⟩
 ·have : (stAt (withT c (k : Int) s) 0).start = (stAt c 0).start := by
   rw [hg]
   split
   ·rename_i e
    rw [hst,← e]
   ·rfl
  rw [this]
  exact h.head
 ·rw [hl] at j1
  rw [hg]
  split
  ·rename_i e
   rw [h1,← e]
   exact h.st j j0 j1
  ·exact h.st j j0 j1
 ·rw [hl] at j1
  rw [hg] at hn
  split at hn
  ·exact h2 n hn
  ·exact h.body j j1 n hn
theorem tree_step {c d : Ch} {o p : Int} {n : Ln} (hn : LnOk n) (h1 : 1 ≤ n.kind) (g : o < 0 ∨ TreeC c ∧ 0 ≤ o ∧ o < (c.states.length : Int)) (h : stepT c o n = .ok (d,p)) : TreeC d := by
 have N := norm_ln hn
 unfold stepT at h
 split at h
 ·rename_i k1
  split at h
  ·cases h
  ·cases h
   have e := N.one k1
   refine ⟨by simp,?_,fun v hv => (by cases hv),fun k k0 k1 => ?_,fun k k1 m hm => ?_⟩
   ·have : LnOk { ln0 1 with name := n.name,start := n.start } := e ▸ hn
    exact this
   ·simp only [List.length_cons,List.length_nil] at k1;omega
   ·simp only [List.length_cons,List.length_nil] at k1
    obtain rfl : k = 0 := by omega
    cases hm
 ·rename_i k1
  split at h
  ·cases h
  ·rename_i hneg
   obtain ⟨t,h0,hlt⟩ := g.resolve_left hneg
   obtain ⟨k,rfl⟩ : ∃ k : Nat,o = (k : Int) := ⟨o.toNat,by omega⟩
   have hkl : k < c.states.length := by omega
   split at h
   ·rename_i k2
    split at h
    ·cases h
    ·split at h
     ·cases h
     ·cases h
      refine ⟨t.some,t.head,fun v hv => ?_,t.st,t.body⟩
      rcases List.mem_append.1 hv with hv | hv
      ·exact t.vars v hv
      ·simp only [List.mem_singleton] at hv
       subst hv
       exact (N.var k2) ▸ hn
   ·rename_i k2
    split at h
    ·unfold innerT at h
     split at h
     ·cases h
     ·simp only [Int.toNat_natCast] at h
      have hb := t.body k hkl
      have hbody : ∀ (en ex : List (List Ac)) (tr : List Tr),(∀ a ∈ en,LnOk (enLn a)) → (∀ a ∈ ex,LnOk (exLn a)) → (∀ a ∈ tr,LnOk (trLn a)) → ∀ (nm st : List UInt8) (kd pa : Int),∀ m ∈ bodyLn ⟨nm,kd,pa,st,en,ex,tr⟩,LnOk m := fun en ex tr a1 a2 a3 nm st kd pa m hm => by
       unfold bodyLn at hm
       rcases List.mem_append.1 hm with hm | hm
       ·obtain ⟨y,hy,rfl⟩ := List.mem_map.1 hm
        exact a1 y hy
       ·rcases List.mem_append.1 hm with hm | hm
        ·obtain ⟨y,hy,rfl⟩ := List.mem_map.1 hm
         exact a2 y hy
        ·obtain ⟨y,hy,rfl⟩ := List.mem_map.1 hm
         exact a3 y hy
      have b1 : ∀ a ∈ (stAt c k).enter,LnOk (enLn a) := fun a ha => hb _ (List.mem_append.2 (.inl (List.mem_map.2 ⟨a,ha,rfl⟩)))
      have b2 : ∀ a ∈ (stAt c k).exit,LnOk (exLn a) := fun a ha => hb _ (List.mem_append.2 (.inr (List.mem_append.2 (.inl (List.mem_map.2 ⟨a,ha,rfl⟩)))))
      have b3 : ∀ a ∈ (stAt c k).trans,LnOk (trLn a) := fun a ha => hb _ (List.mem_append.2 (.inr (List.mem_append.2 (.inr (List.mem_map.2 ⟨a,ha,rfl⟩)))))
      split at h
      ·rename_i k8
       split at h
       ·cases h
       ·cases h
        refine tree_with t hkl rfl (hbody _ _ _ (fun a ha => ?_) b2 b3 _ _ _ _)
        rcases List.mem_append.1 ha with ha | ha
        ·exact b1 a ha
        ·simp only [List.mem_singleton] at ha
         subst ha
         exact (N.en k8) ▸ hn
      ·split at h
       ·rename_i k9
        split at h
        ·cases h
        ·cases h
         refine tree_with t hkl rfl (hbody _ _ _ b1 (fun a ha => ?_) b3 _ _ _ _)
         rcases List.mem_append.1 ha with ha | ha
         ·exact b2 a ha
         ·simp only [List.mem_singleton] at ha
          subst ha
          exact (N.ex k9) ▸ hn
       ·split at h
        ·cases h
         exact t
        ·split at h
         ·cases h
         ·cases h
          refine tree_with t hkl rfl (hbody _ _ _ b1 b2 (fun a ha => ?_) _ _ _ _)
          rcases List.mem_append.1 ha with ha | ha
          ·exact b3 a ha
          ·simp only [List.mem_singleton] at ha
           subst ha
           have hk : n.kind = 10 ∨ n.kind = 11 := by
            obtain ⟨x,rfl,ok,_⟩ := hn
            have h12 := ok.kind
            have hkk : (flatL x).kind = (x.kind : Int) := rfl
            omega
           exact (N.tr hk) ▸ hn
    ·rename_i k8
     have e3 : 3 ≤ n.kind := by omega
     have e7 : n.kind ≤ 7 := by omega
     split at h
     ·cases h
     ·split at h
      ·cases h
      ·split at h
       ·cases h
       ·cases h
        have ho : ∀ i,i < c.states.length → stAt { c with states := c.states ++ [⟨n.name,n.kind,(k : Int),n.start,[],[],[]⟩] } i = stAt c i := fun i hi => by
         unfold stAt
         simp only
         rw [getD_snoc,if_pos hi]
        have hx : stAt { c with states := c.states ++ [⟨n.name,n.kind,(k : Int),n.start,[],[],[]⟩] } c.states.length = ⟨n.name,n.kind,(k : Int),n.start,[],[],[]⟩ := by
         unfold stAt
         simp only
         rw [getD_snoc,if_neg (by omega),if_pos rfl]
        have hl : (c.states ++ [(⟨n.name,n.kind,(k : Int),n.start,[],[],[]⟩ : St)]).length = c.states.length + 1 := by simp
        refine ⟨by simp,by rw [ho 0 t.some];exact t.head,t.vars,fun j j0 j1 => ?_,fun j j1 m hm => ?_⟩
        ·simp only [hl] at j1
         by_cases e : j < c.states.length
         ·rw [ho j e]
          exact t.st j j0 e
         ·obtain rfl : j = c.states.length := by omega
          rw [hx]
          exact (N.st e3 e7 k) ▸ hn
        ·simp only [hl] at j1
         by_cases e : j < c.states.length
         ·rw [ho j e] at hm
          exact t.body j e m hm
         ·obtain rfl : j = c.states.length := by omega
          rw [hx] at hm
          cases hm
theorem tree_run : ∀ (ls : List (List UInt8)) (i : Nat) (c d : Ch) (o p : Int),(o < 0 ∨ (TreeC c ∧ ∃ k : Nat,o = (k : Int) ∧ OpenC c k)) → runT i ls c o = .ok (d,p) → p < 0 ∨ TreeC d
 | [],_,_,_,_,_,g,h => by cases h;exact g.imp_right fun x => x.1
 | l :: ls,i,c,d,o,p,g,h => by
  rw [runT] at h
  split at h
  ·cases h
  ·split at h
   ·cases h
   ·split at h
    ·exact tree_run ls _ _ _ _ _ g h
    ·split at h
     ·cases h
     ·rename_i n hp
      split at h
      ·cases h
      ·rename_i c2 o2 hs
       have h1 := tree_step (ln_ok hp) (parseL_kind1 hp) (g.imp_right fun ⟨t,k,e,op⟩ => ⟨t,by omega,by have := op.lt;omega⟩) hs
       have h2 := open_step (parseL_kind1 hp) (g.imp_right fun x => x.2) hs
       exact tree_run ls _ _ _ _ _ (.inr ⟨h1,h2⟩) h
theorem tree_chart {l : List UInt8} {c : Ch} (h : chartT l = .ok c) : TreeC c := by
 unfold chartT at h
 split at h
 ·cases h
 ·rename_i d o hr
  split at h
  ·rename_i h0
   cases h
   rcases tree_run _ _ _ _ _ _ (.inl (by decide)) hr with g | g
   ·omega
   ·exact g
  ·cases h
end Go.Proofs.YtpgibloeinphaaaGreatDoor
