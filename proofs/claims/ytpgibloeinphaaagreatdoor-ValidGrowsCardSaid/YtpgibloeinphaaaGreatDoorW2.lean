/- Several texts of this proof, joined: RV, RW, RX, RY, RZ. -/
import Derived.Test.YtpgibloeinphaaaGreatDoorW1
import Derived.Test.YtpgibloeinphaaaGreatDoorP1
import Derived.Lib.ItoaNum
import Derived.Test.YtpgibloeinphaaaGreatDoorY9
import Derived.Test.YtpgibloeinphaaaGreatDoorV1
namespace Go.Proofs.YtpgibloeinphaaaGreatDoor
def digT (n : Int) : List UInt8 := Lib.decDigits n.toNat
def textE : ExT → List UInt8
 | .num n => digT n
 | .tru b => if b then [116,114,117,101] else [102,97,108,115,101]
 | .quo s => 39 :: (s ++ [39])
 | .name s => s
 | .ins s => [105,110,40] ++ s ++ [41]
 | .sgn neg e => (if neg then [45] else [110,111,116,32]) ++ (if topE e < 6 then 40 :: (textE e ++ [41]) else textE e)
 | .bin op l r => (if topE l < leftI op then 40 :: (textE l ++ [41]) else textE l) ++ 32 :: (signL.getD op.toNat [] ++ 32 :: (if topE r < tightI op + 1 then 40 :: (textE r ++ [41]) else textE r))
def partX (least : Int) (e : ExT) : List UInt8 := if topE e < least then 40 :: (textE e ++ [41]) else textE e
theorem text_sgn (neg : Bool) (e : ExT) : textE (.sgn neg e) = (if neg then [45] else [110,111,116,32]) ++ partX 6 e := by rw [textE,partX]
theorem text_bin (op : Int) (l r : ExT) : textE (.bin op l r) = partX (leftI op) l ++ 32 :: (signL.getD op.toNat [] ++ 32 :: partX (tightI op + 1) r) := by rw [textE,partX,partX]
theorem valL_snoc (l : List UInt8) (c : UInt8) : valL (l ++ [c]) = valL l * 10 + (c.toNat - 48) := by
 unfold valL
 rw [List.foldl_append]
 rfl
theorem dig_ofNat {k : Nat} (h : k < 10) : (UInt8.ofNat (48 + k)).toNat = 48 + k := by
 rw [UInt8.toNat_ofNat']
 omega
theorem dec_facts : ∀ (u : Nat),valL (Lib.decDigits u) = u ∧ (∀ c ∈ Lib.decDigits u,digB c = true) ∧ Lib.decDigits u ≠ [] ∧ (0 < u → (Lib.decDigits u).head? ≠ some 48) := by
 intro u
 induction u using Nat.strongRecOn with
 | _ u ih =>
  have hd : ∀ k,k < 10 → digB (UInt8.ofNat (48 + k)) = true := fun k hk => by
   unfold digB
   rw [dig_ofNat hk]
   simp
   omega
  by_cases h : u < 10
  ·rw [Lib.decDigits_one h]
   refine ⟨?_,fun c hc => ?_,by simp,fun h0 => ?_⟩
   ·show 0 * 10 + ((UInt8.ofNat (48 + u)).toNat - 48) = u
    rw [dig_ofNat h]
    omega
   ·rw [List.mem_singleton.1 hc]
    exact hd u h
   ·simp only [List.head?_cons,ne_eq,Option.some.injEq]
    intro e
    have := congrArg UInt8.toNat e
    rw [dig_ofNat h] at this
    have e2 : (48 : UInt8).toNat = 48 := rfl
    omega
  ·rw [Lib.decDigits,dif_neg h]
   obtain ⟨i1,i2,i3,i4⟩ := ih (u / 10) (by omega)
   refine ⟨?_,fun c hc => ?_,by simp,fun _ => ?_⟩
   ·rw [valL_snoc,i1,dig_ofNat (by omega)]
    omega
   ·rw [List.mem_append] at hc
    rcases hc with hc | hc
    ·exact i2 c hc
    ·rw [List.mem_singleton.1 hc]
     exact hd _ (by omega)
   ·have := i4 (by omega)
    cases hq : Lib.decDigits (u / 10) with
    | nil => exact absurd hq i3
    | cons d q => rw [hq] at this;exact this
theorem span_all {p : List UInt8 → Bool} {r : List UInt8} (hr : spanL p r = 0) : ∀ l : List UInt8,(∀ c q,c ∈ l → p (c :: q) = true) → spanL p (l ++ r) = l.length
 | [],_ => hr
 | c :: l,h => by
  rw [List.cons_append,span_yes (h c _ (by simp)),span_all hr l fun d q hd => h d q (by simp [hd])]
  rfl
theorem one_tok {l : List UInt8} {k : Int} {s : List UInt8} {n : Int} {c : UInt8} {q : List UInt8} (e : l = c :: q) (hb : ((c.toNat : Int) == 32) = false) (h : tokT l = .ok (k,s,n,l.length)) : lexT 120 0 l = .ok [⟨k,s,n,0⟩] := by
 subst e
 rw [lexT_tok 119 0 c q k s n _ hb h,List.drop_length,lexT_end]
 rfl
theorem lex_num (n : Int) (h0 : 0 ≤ n) (h64 : I64 n) : lexT 120 0 (digT n) = .ok [⟨3,digT n,n,0⟩] := by
 obtain ⟨h1,h2,h3,h4⟩ := dec_facts n.toNat
 unfold digT
 cases hd : Lib.decDigits n.toNat with
 | nil => exact absurd hd h3
 | cons c q =>
  have hc : digB c = true := h2 c (by rw [hd];simp)
  have hlet : letB c = false := by
   unfold digB at hc
   unfold letB
   simp only [Bool.and_eq_true,decide_eq_true_eq] at hc
   rw [Bool.and_eq_false_iff]
   left
   rw [decide_eq_false_iff_not]
   omega
  have hsp : spanL digL (c :: q) = (c :: q).length := by
   have := span_all (p := digL) (r := []) rfl (c :: q) (fun d q' hm => h2 d (by rw [hd];exact hm))
   rwa [List.append_nil] at this
  have hnb : ((c.toNat : Int) == 32) = false := by
   rw [beq_eq_false_iff_ne]
   unfold digB at hc
   simp only [Bool.and_eq_true,decide_eq_true_eq] at hc
   omega
  refine one_tok (c := c) (q := q) rfl hnb ?_
  rw [tokT,if_neg (by rw [hlet];decide),if_pos hc]
  unfold numT
  simp only
  rw [hsp,List.take_length]
  have hv : valL (c :: q) = n.toNat := by rw [← hd];exact h1
  rw [hv]
  have hb : (decide (1 < (c :: q).length) && (c :: q).head? == some 48) = false := by
   by_cases hn : 0 < n.toNat
   ·have := h4 hn
    rw [hd] at this
    rw [Bool.and_eq_false_iff]
    right
    rw [beq_eq_false_iff_ne]
    exact this
   ·have hz : n.toNat = 0 := by omega
    rw [hz,Lib.decDigits_one (by decide)] at hd
    have : q = [] := by cases hd;rfl
    subst this
    rfl
  rw [hb,if_neg (by decide),if_neg (by unfold I64 at h64;omega)]
  rw [show ((n.toNat : Nat) : Int) = n by omega]
theorem lex_quo (s : List UInt8) (h : plainB s = true) (hl : s.length ≤ 48) : lexT 120 0 (39 :: (s ++ [39])) = .ok [⟨4,s,0,0⟩] := by
 have hall : ∀ c ∈ s,okc c = true := by
  unfold plainB at h
  rw [Bool.and_eq_true] at h
  exact List.all_eq_true.1 h.2
 have hsp : spanL textL (s ++ [39]) = s.length := span_all (p := textL) (r := [39]) rfl s fun c q hc => by
  have := hall c hc
  show (!((c.toNat : Int) == 39)) = true
  cases hq : ((c.toNat : Int) == 39)
  ·rfl
  ·rw [okc_q hq] at this
   cases this
 refine one_tok (c := 39) rfl rfl ?_
 rw [tokT,if_neg (by decide),if_neg (by decide),if_pos (by rfl)]
 unfold quoT
 simp only
 rw [hsp,if_neg (by simp),if_neg (by omega),List.take_left,if_pos h]
 simp
structure LexK (l : List UInt8) (ks : List Ky) : Prop where
 lex : ∀ (m p : Nat) (r : List UInt8),BehindP r → ks.length ≤ m → ∃ us : List Tk,us.map key = ks ∧ lexT m p (l ++ r) = pre us (lexT (m - ks.length) (p + l.length) r)
theorem lexK_of {l : List UInt8} {ts : List Tk} (h : lexT 120 0 l = .ok ts) : LexK l (ts.map key) := by
 refine ⟨fun m p r hr hm => ?_⟩
 rw [List.length_map] at hm
 obtain ⟨us,h1,h2⟩ := lexT_key (b := p) h
 rw [Nat.zero_add] at h1
 have hl : us.length = ts.length := by simpa using congrArg List.length h2
 have h3 := lexT_fit 120 m p l us h1 (by omega)
 refine ⟨us,h2,?_⟩
 rw [lexT_aheadP r hr m p l us h3,List.length_map,hl]
theorem lexT_sgn1 {m p : Nat} {c : UInt8} {r : List UInt8} (hc : c = 40 ∨ c = 41 ∨ c = 45) : lexT (m + 1) p (c :: r) = pre [⟨5,[c],0,p⟩] (lexT m (p + 1) r) := by
 have ht : tokT (c :: r) = .ok (5,[c],0,1) := by rcases hc with rfl | rfl | rfl <;> rfl
 rw [lexT_tok m p c r 5 [c] 0 1 (by rcases hc with rfl | rfl | rfl <;> rfl) ht]
 rfl
theorem lexK_paren {l : List UInt8} {ks : List Ky} (h : LexK l ks) : LexK (40 :: (l ++ [41])) ((5,[40],0) :: ks ++ [(5,[41],0)]) := by
 refine ⟨fun m p r hr hm => ?_⟩
 simp only [List.cons_append,List.length_cons,List.length_append,List.length_nil] at hm ⊢
 obtain ⟨m,rfl⟩ : ∃ k,m = k + 1 := ⟨m - 1,by omega⟩
 obtain ⟨us,h1,h2⟩ := h.lex m (p + 1) (41 :: r) (.inr ⟨_,_,rfl,.inr rfl⟩) (by omega)
 obtain ⟨k,hk⟩ : ∃ k,m - ks.length = k + 1 := ⟨m - ks.length - 1,by omega⟩
 refine ⟨⟨5,[40],0,p⟩ :: (us ++ [⟨5,[41],0,p + 1 + l.length⟩]),by simp [key,h1],?_⟩
 rw [lexT_sgn1 (.inl rfl),List.append_assoc,List.singleton_append,h2,hk,lexT_sgn1 (.inr (.inl rfl)),pre_pre,pre_pre]
 rw [show m + 1 - (ks.length + 1 + 1) = k by omega,show p + (l.length + 1 + 1) = p + 1 + l.length + 1 by omega]
 rfl
theorem lexK_blank {l q : List UInt8} {ks js : List Ky} (h : LexK l ks) (k : LexK q js) : LexK (l ++ 32 :: q) (ks ++ js) := by
 refine ⟨fun m p r hr hm => ?_⟩
 rw [List.length_append] at hm
 obtain ⟨us,h1,h2⟩ := h.lex m p (32 :: (q ++ r)) (.inr ⟨_,_,rfl,.inl rfl⟩) (by omega)
 obtain ⟨vs,k1,k2⟩ := k.lex (m - ks.length) (p + l.length + 1) r hr (by omega)
 refine ⟨us ++ vs,by rw [List.map_append,h1,k1],?_⟩
 rw [List.append_assoc,List.cons_append,h2,lexT_blank _ _ _ _ rfl,k2,pre_pre]
 rw [List.length_append,List.length_append,List.length_cons,show m - ks.length - js.length = m - (ks.length + js.length) by omega,show p + l.length + 1 + q.length = p + (l.length + (q.length + 1)) by omega]
theorem lexK_neg {q : List UInt8} {js : List Ky} (k : LexK q js) : LexK (45 :: q) ((5,[45],0) :: js) := by
 refine ⟨fun m p r hr hm => ?_⟩
 rw [List.length_cons] at hm
 obtain ⟨m,rfl⟩ : ∃ k,m = k + 1 := ⟨m - 1,by omega⟩
 obtain ⟨vs,k1,k2⟩ := k.lex m (p + 1) r hr (by omega)
 refine ⟨⟨5,[45],0,p⟩ :: vs,by simp [key,k1],?_⟩
 rw [List.cons_append,lexT_sgn1 (.inr (.inr rfl)),k2,pre_pre,List.length_cons,List.length_cons,show m + 1 - (js.length + 1) = m - js.length by omega,show p + 1 + q.length = p + (q.length + 1) by omega]
 rfl
theorem lexK_sign {op : Int} (h : 3 ≤ op ∧ op ≤ 15) : LexK (signL.getD op.toNat []) [opK op] := by
 have : ∃ t,lexT 120 0 (signL.getD op.toNat []) = .ok [t] ∧ key t = opK op := by
  rcases (by omega : op = 3 ∨ op = 4 ∨ op = 5 ∨ op = 6 ∨ op = 7 ∨ op = 8 ∨ op = 9 ∨ op = 10 ∨ op = 11 ∨ op = 12 ∨ op = 13 ∨ op = 14 ∨ op = 15) with rfl | rfl | rfl | rfl | rfl | rfl | rfl | rfl | rfl | rfl | rfl | rfl | rfl <;> exact ⟨_,rfl,rfl⟩
 obtain ⟨t,h1,h2⟩ := this
 have := lexK_of h1
 rwa [List.map_cons,List.map_nil,h2] at this
theorem tokT_zero {l : List UInt8} {t : List UInt8} {n : Int} {z : Nat} (h : tokT l = .ok (1,t,n,z)) : n = 0 := by
 cases l with
 | nil => cases h
 | cons c r =>
  rw [tokT] at h
  split at h
  ·unfold wordT at h
   simp only at h
   split at h
   ·cases h
   ·simp only [Except.ok.injEq,Prod.mk.injEq] at h
    exact h.2.2.1.symm
  ·split at h
   ·unfold numT at h
    simp only at h
    repeat' split at h
    all_goals first | cases h | (simp at h)
   ·split at h
    ·unfold quoT at h
     simp only at h
     repeat' split at h
     all_goals first | cases h | (simp at h)
    ·unfold sgnT at h
     repeat' split at h
     all_goals first | cases h | (simp at h)
theorem lexT_zero {m a : Nat} {l : List UInt8} {ts : List Tk} (h : lexT m a l = .ok ts) : ∀ t ∈ ts,t.k = 1 → t.n = 0 := by
 induction m generalizing a l ts with
 | zero =>
  rw [lexT] at h
  split at h
  ·cases h;intro t ht;cases ht
  ·cases h
 | succ m ih =>
  rw [lexT] at h
  split at h
  ·cases h;intro t ht;cases ht
  ·split at h
   ·cases h
   ·rename_i k t n z htk
    split at h
    ·cases h
    ·rename_i us h2
     cases h
     intro u hu hk
     rcases List.mem_cons.1 hu with rfl | hu
     ·simp only at hk
      subst hk
      exact tokT_zero htk
     ·exact ih h2 u hu hk
theorem lexK_name {s : List UInt8} (h : nmB s = true) : LexK s [(1,s,0)] := by
 obtain ⟨n,a,h1,_⟩ := name_one h
 have hn := lexT_zero h1 ⟨1,s,n,a⟩ (by simp) rfl
 simp only at hn
 subst hn
 exact lexK_of h1
theorem lexK_ins {s : List UInt8} (h : nmB s = true) : LexK ([105,110,40] ++ s ++ [41]) [(1,[105,110],0),(5,[40],0),(1,s,0),(5,[41],0)] := by
 have hp := lexK_paren (lexK_name h)
 refine ⟨fun m p r hr hm => ?_⟩
 obtain ⟨m,rfl⟩ : ∃ k,m = k + 1 := ⟨m - 1,by simp at hm;omega⟩
 obtain ⟨us,h1,h2⟩ := hp.lex m (p + 2) r hr (by simpa using hm)
 have ht : tokT (105 :: 110 :: (40 :: (s ++ [41]) ++ r)) = .ok (1,[105,110],0,2) := by rfl
 refine ⟨⟨1,[105,110],0,p⟩ :: us,by simp [key,h1],?_⟩
 rw [show [105,110,40] ++ s ++ [41] ++ r = 105 :: 110 :: (40 :: (s ++ [41]) ++ r) by simp,lexT_tok m p 105 _ 1 [105,110] 0 2 (by rfl) ht]
 rw [show (105 :: 110 :: (40 :: (s ++ [41]) ++ r)).drop 2 = 40 :: (s ++ [41]) ++ r from rfl,h2,pre_pre]
 simp only [List.length_append,List.length_cons,List.length_nil]
 rw [show m + 1 - (0 + 1 + 1 + 1 + 1) = m - (0 + 1 + (0 + 1) + 1) by omega]
 congr 2
 omega
theorem lexK_part {dg : Int → List UInt8} {e : ExT} (h : LexK (textE e) (toksE dg e)) (least : Int) : LexK (partX least e) (partK dg least e) := by
 unfold partX partK
 split
 ·exact lexK_paren h
 ·exact h
theorem lexK_all : ∀ e : ExT,okE e → valE e → LexK (textE e) (toksE digT e)
 | .num n,_,hv => lexK_of (lex_num n hv.1 hv.2)
 | .tru true,_,_ => lexK_of (ts := [⟨1,[116,114,117,101],0,0⟩]) rfl
 | .tru false,_,_ => lexK_of (ts := [⟨1,[102,97,108,115,101],0,0⟩]) rfl
 | .quo s,_,hv => lexK_of (lex_quo s hv.1 hv.2)
 | .name s,ho,_ => lexK_name ho
 | .ins s,ho,_ => lexK_ins ho
 | .sgn true e,ho,hv => by
  rw [text_sgn,toks_sgn]
  exact lexK_neg (lexK_part (lexK_all e ho hv) 6)
 | .sgn false e,ho,hv => by
  rw [text_sgn,toks_sgn]
  have hw : LexK [110,111,116] [((1,[110,111,116],0) : Ky)] := lexK_of (ts := [⟨1,[110,111,116],0,0⟩]) rfl
  exact lexK_blank hw (lexK_part (lexK_all e ho hv) 6)
 | .bin op l r,ho,hv => by
  rw [text_bin,toks_bin]
  exact lexK_blank (lexK_part (lexK_all l ho.2.1 hv.1) (leftI op)) (lexK_blank (lexK_sign ho.1) (lexK_part (lexK_all r ho.2.2 hv.2) (tightI op + 1)))
end Go.Proofs.YtpgibloeinphaaaGreatDoor
namespace Go.Proofs.YtpgibloeinphaaaGreatDoor
def SubE (ns : List Nd) (o : Nat) (e : ExT) : Prop := o + sizeE e ≤ ns.length ∧ ∀ j,j < sizeE e → ns.getD (o + j) nd0 = (flatE o e).getD j nd0
end Go.Proofs.YtpgibloeinphaaaGreatDoor
namespace Go.Proofs.YtpgibloeinphaaaGreatDoor
section
variable {T : List Tk}
theorem whole_some (hT : T.length < 128) {a f : Nat} (ha : a ≤ T.length) {out : List Nd} {b : Nat} (h : rdT f 0 T a [] = some (out,b)) : whole 128 T ⟨a,[],[],[],0⟩ = some ⟨b,out,[out.length - 1],[],0⟩ := by
 have I := (rd_all hT f).1 0 ⟨a,[],[],[],0⟩ (by decide) (good_start T a ha) (.inr fun o u e => by cases e)
 unfold RdOk at I
 simp only at I
 rw [h] at I
 simp only at I
 obtain ⟨⟨R1,h1⟩,_⟩ := I
 have hw : R1.within = 0 := h1.wth
 have hJ : finish 1 R1 = ⟨b,out,[out.length - 1],[],0⟩ := h1.fin 1 (by decide) (by decide)
 rw [h1.run,closes_stop (fun h => by omega)]
 have key : ∃ r2,more T R1 = (false,r2) ∧ finish 1 r2 = finish 1 R1 := by
  rcases h1.stop with h | h | ⟨h2,h3⟩
  ·refine ⟨R1,?_,rfl⟩
   unfold more
   rw [h1.at_,h]
   rfl
  ·rcases between_in T b with h2 | h2
   ·refine ⟨R1,?_,rfl⟩
    unfold more
    rw [h1.at_,h2]
    rfl
   ·have := (tight_bin h2).1
    omega
  ·have hl : leftI (between T b) = 4 := by unfold leftI;rw [if_pos h2]
   have hb : ¬ between T b = 0 := by
    intro e
    rw [e] at h2
    revert h2
    decide
   refine ⟨finish 4 R1,?_,finL_two (by decide) _ _⟩
   unfold more
   rw [h1.at_,if_neg (by rw [beq_iff_eq];exact hb),hl,h2,if_pos h3]
 obtain ⟨r2,e1,e2⟩ := key
 unfold contW
 rw [e1]
 simp only
 rw [e2,hJ,if_pos rfl]
theorem toks_pos (dg : Int → List UInt8) : ∀ e : ExT,0 < (toksE dg e).length
 | .num _ | .tru _ | .quo _ | .name _ | .ins _ => by simp [toksE]
 | .sgn neg e => by rw [toks_sgn,List.length_cons];omega
 | .bin op l r => by rw [toks_bin,List.length_append,List.length_cons];omega
theorem parse_again (hT : T.length < 128) {dg : Int → List UInt8} {e : ExT} (ho : okE e) {a : Nat} (hk : KeysAt T a (toksE dg e)) (hb : between T (a + (toksE dg e).length) = 0) (hz : sizeT (flatE 0 e) = 0) : parseT T (a : Int) = .ok (flatE 0 e,a + (toksE dg e).length) := by
 have ha : a ≤ T.length := by
  have hp : 0 < (toksE dg e).length := toks_pos dg e
  obtain ⟨t,h1,_⟩ := hk 0 hp
  have := (List.getElem?_eq_some_iff.1 h1).1
  omega
 obtain ⟨f,hf⟩ := (reads_all dg e ho T a [] hk).2 0 _ (by decide) (by have := (top_pos e ho).1;omega) (.inl hb) (rms_stop (.inl hb))
 have h0 := hf 0
 rw [List.nil_append,List.length_nil] at h0
 unfold parseT
 rw [if_neg (by omega),Int.toNat_natCast,whole_some hT ha h0]
 simp only
 rw [if_neg (by rw [hz];simp)]
theorem parse_tree (dg : Int → List UInt8) (hT : T.length < 128) (hok : ∀ t ∈ T,TkOk t) {a : Nat} {ns : List Nd} {b : Nat} (h : parseT T (a : Int) = .ok (ns,b)) : ∃ e,okE e ∧ valE e ∧ ns = flatE 0 e ∧ (toksE dg e).length + a ≤ b ∧ sizeT (flatE 0 e) = 0 := by
 unfold parseT at h
 split at h
 ·cases h
 ·rename_i ha
  rw [Int.toNat_natCast,whole_rd hT a (by omega)] at h
  cases hr : rdT 1100 0 T a [] with
  | none => rw [hr] at h;cases h
  | some p =>
   obtain ⟨out,c⟩ := p
   rw [hr] at h
   simp only at h
   split at h
   ·cases h
   ·rename_i hs
    cases h
    obtain ⟨e,t⟩ := (tree_rd dg hok 1100).1 0 a [] ns b (by decide) hr
    have hl := t.len
    rw [part_none (by have := (top_pos e t.ok).1;exact this)] at hl
    have ho := t.out
    rw [List.nil_append,List.length_nil] at ho
    exact ⟨e,t.ok,t.val,ho,hl,by rw [← ho];exact Decidable.not_not.1 hs⟩
end
end Go.Proofs.YtpgibloeinphaaaGreatDoor
namespace Go.Proofs.YtpgibloeinphaaaGreatDoor
structure AcX where
 kind : Nat
 cond : Option ExT
 name : List UInt8
 x : Option ExT
 n : Int
def flatO : Option ExT → List Nd
 | none => []
 | some e => flatE 0 e
def flatA (c : AcX) : Ac := ⟨c.kind,flatO c.cond,c.name,flatO c.x,c.n⟩
def actWs : List (List UInt8) := [[],[115,101,116],[114,97,105,115,101],[115,101,110,100],[99,97,110,99,101,108],[108,111,103]]
def actW (k : Nat) : List UInt8 := actWs.getD k []
def toksO (dg : Int → List UInt8) : Option ExT → List Ky
 | none => []
 | some e => toksE dg e
def condK (dg : Int → List UInt8) : Option ExT → List Ky
 | none => []
 | some e => (1,[105,102],0) :: (toksE dg e ++ [(5,[58],0)])
def nameK (c : AcX) : List Ky := if c.kind = 5 then [] else [(aloneK c.name,c.name,0)]
def numK (dg : Int → List UInt8) (c : AcX) : List Ky := if c.kind = 3 then [(3,dg c.n,c.n)] else []
def doK (dg : Int → List UInt8) (c : AcX) : List Ky := (1,actW c.kind,0) :: (nameK c ++ (toksO dg c.x ++ numK dg c))
theorem doK5 (dg : Int → List UInt8) (co : Option ExT) (name : List UInt8) (e : ExT) (n : Int) : doK dg ⟨5,co,name,some e,n⟩ = (1,actW 5,0) :: toksE dg e := by simp [doK,nameK,numK,toksO]
theorem doK1 (dg : Int → List UInt8) (co : Option ExT) (name : List UInt8) (e : ExT) (n : Int) : doK dg ⟨1,co,name,some e,n⟩ = (1,actW 1,0) :: (aloneK name,name,0) :: toksE dg e := by simp [doK,nameK,numK,toksO]
theorem doK3 (dg : Int → List UInt8) (co : Option ExT) (name : List UInt8) (n : Int) : doK dg ⟨3,co,name,none,n⟩ = [(1,actW 3,0),(aloneK name,name,0),(3,dg n,n)] := by simp [doK,nameK,numK,toksO]
theorem doKn {k : Nat} (h5 : ¬ k = 5) (h3 : ¬ k = 3) (dg : Int → List UInt8) (co : Option ExT) (name : List UInt8) (n : Int) : doK dg ⟨k,co,name,none,n⟩ = [(1,actW k,0),(aloneK name,name,0)] := by simp [doK,nameK,numK,toksO,h5,h3]
def toksAc (dg : Int → List UInt8) (c : AcX) : List Ky := condK dg c.cond ++ doK dg c
def toksAs (dg : Int → List UInt8) : List AcX → List Ky
 | [] => []
 | [c] => toksAc dg c
 | c :: d :: ds => toksAc dg c ++ (5,[59],0) :: toksAs dg (d :: ds)
def OkO (o : Option ExT) : Prop := ∀ e,o = some e → okE e ∧ valE e ∧ sizeT (flatE 0 e) = 0
structure OkA (c : AcX) : Prop where
 kind : 1 ≤ c.kind ∧ c.kind ≤ 5
 cond : OkO c.cond
 x : OkO c.x
 has : c.kind = 1 ∨ c.kind = 5 → ∃ e,c.x = some e
 no : ¬ (c.kind = 1 ∨ c.kind = 5) → c.x = none
 name : c.kind ≠ 5 → namedB (decide (1 < c.kind)) c.name = true
 noname : c.kind = 5 → c.name = []
 num : c.kind = 3 → 0 ≤ c.n ∧ c.n ≤ 1048576
 nonum : c.kind ≠ 3 → c.n = 0
theorem named_kind {ev : Bool} {s : List UInt8} (h : namedB ev s = true) : (aloneK s = 1 ∨ aloneK s = 2) ∧ meansB s = false := by
 unfold namedB at h
 cases ev
 ·simp only [Bool.false_eq_true,if_false,Bool.and_eq_true,beq_iff_eq,Bool.not_eq_true'] at h
  exact ⟨.inl h.1,h.2⟩
 ·simp only [if_true,Bool.and_eq_true,Bool.or_eq_true,beq_iff_eq,Bool.not_eq_true'] at h
  exact h
section
variable {T : List Tk}
theorem between_none {a : Nat} {t : Tk} {k n : Int} {s : List UInt8} (h : T[a]? = some t) (hk : key t = (k,s,n)) (h0 : opFrom ⟨k,s,n,0⟩ 13 3 = 0) : between T a = 0 := by
 obtain ⟨k',s',n',p⟩ := t
 unfold key at hk
 simp only [Prod.mk.injEq] at hk
 obtain ⟨rfl,rfl,rfl⟩ := hk
 unfold between
 rw [h]
 exact h0
theorem act_at {a : Nat} {t : Tk} {k : Nat} (h1 : 1 ≤ k) (h5 : k ≤ 5) (h : T[a]? = some t) (hk : key t = (1,actW k,0)) : actAt T a = k := by
 unfold actAt
 simp only [tkAt_ky h hk]
 rcases (by omega : k = 1 ∨ k = 2 ∨ k = 3 ∨ k = 4 ∨ k = 5) with rfl | rfl | rfl | rfl | rfl <;> rfl
theorem event_at {a : Nat} {t : Tk} {ev : Bool} {s : List UInt8} (hn : namedB ev s = true) (h : T[a]? = some t) (hk : key t = (aloneK s,s,0)) : eventAt ev T a = some s := by
 unfold key at hk
 simp only [Prod.mk.injEq] at hk
 unfold eventAt
 rw [h]
 simp only
 rw [hk.1,hk.2.1,hn]
 rcases (named_kind hn).1 with e | e <;> rw [e] <;> rfl
theorem num_at {a : Nat} {t : Tk} {s : List UInt8} {n : Int} (h : T[a]? = some t) (hk : key t = (3,s,n)) : numAt T a = some n := by
 unfold key at hk
 simp only [Prod.mk.injEq] at hk
 unfold numAt
 rw [h]
 simp only
 rw [hk.1,hk.2.2]
 rfl
theorem do_again (hT : T.length < 128) {dg : Int → List UInt8} {c : AcX} (ok : OkA c) (cond : List Nd) {a : Nat} (hk : KeysAt T a (doK dg c)) (hb : between T (a + (doK dg c).length) = 0) :
  doA T cond a = .ok (⟨c.kind,cond,c.name,flatO c.x,c.n⟩,a + (doK dg c).length) := by
 obtain ⟨k,co,name,x,n⟩ := c
 obtain ⟨⟨h1,h5⟩,_,hx,hh,hno,hn,hnn,hu,hnu⟩ := ok
 simp only at h1 h5 hx hh hno hn hnn hu hnu
 have hd : decide ((1 : Int) < (k : Int)) = decide (1 < k) := by
  by_cases h : 1 < k
  ·rw [decide_eq_true (by omega),decide_eq_true h]
  ·rw [decide_eq_false (by omega),decide_eq_false h]
 have ha : actAt T a = k := by
  obtain ⟨⟨t,e1,e2⟩,_⟩ := keys_cons hk
  exact act_at h1 h5 e1 e2
 have hE : k ≠ 5 → eventAt (decide ((1 : Int) < (k : Int))) T (a + 1) = some name := fun h => by
  rw [doK,nameK,if_neg h] at hk
  obtain ⟨_,hk⟩ := keys_cons hk
  rw [List.cons_append] at hk
  obtain ⟨⟨t2,e3,e4⟩,_⟩ := keys_cons hk
  rw [hd]
  exact event_at (hn h) e3 e4
 unfold doA
 rw [ha,if_neg (by omega)]
 by_cases h : k = 5
 ·subst h
  obtain ⟨e,rfl⟩ := hh (.inr rfl)
  obtain ⟨o1,o2,o3⟩ := hx e rfl
  obtain rfl := hnn rfl
  obtain rfl := hnu (by decide)
  rw [doK5] at hk hb ⊢
  obtain ⟨_,hk⟩ := keys_cons hk
  rw [List.length_cons] at hb ⊢
  rw [if_pos (show ((5 : Nat) : Int) = 5 from rfl)]
  unfold tailA
  rw [if_pos (.inr rfl),parse_again hT o1 hk (by rw [← hb];congr 1;omega) o3]
  simp only [flatO]
  rw [show a + 1 + (toksE dg e).length = a + ((toksE dg e).length + 1) by omega]
  rfl
 ·rw [if_neg (by omega),hE h]
  simp only
  unfold tailA
  by_cases hk1 : k = 1
  ·subst hk1
   obtain ⟨e,rfl⟩ := hh (.inl rfl)
   obtain ⟨o1,o2,o3⟩ := hx e rfl
   obtain rfl := hnu (by decide)
   rw [doK1] at hk hb ⊢
   obtain ⟨_,hk⟩ := keys_cons (keys_cons hk).2
   rw [List.length_cons,List.length_cons] at hb ⊢
   have hp := parse_again hT o1 hk (by rw [← hb];congr 1;omega) o3
   rw [if_pos (.inl rfl),show a + 2 = a + 1 + 1 from rfl,hp]
   simp only [flatO]
   rw [show a + 1 + 1 + (toksE dg e).length = a + ((toksE dg e).length + 1 + 1) by omega]
  ·obtain rfl := hno (by omega)
   rw [if_neg (by omega)]
   by_cases hk3 : k = 3
   ·subst hk3
    obtain ⟨u1,u2⟩ := hu rfl
    rw [doK3] at hk ⊢
    obtain ⟨⟨t3,e5,e6⟩,_⟩ := keys_cons (keys_cons (keys_cons hk).2).2
    rw [if_pos (show ((3 : Nat) : Int) = 3 from rfl),show a + 2 = a + 1 + 1 from rfl,num_at e5 e6]
    simp only
    rw [if_neg (by omega)]
    rfl
   ·obtain rfl := hnu hk3
    rw [if_neg (by omega),doKn h hk3]
    rfl
theorem word_if {k : Nat} (h1 : 1 ≤ k) (h5 : k ≤ 5) : (actW k == [105,102]) = false := by
 rcases (by omega : k = 1 ∨ k = 2 ∨ k = 3 ∨ k = 4 ∨ k = 5) with rfl | rfl | rfl | rfl | rfl <;> rfl
theorem one_again (hT : T.length < 128) {dg : Int → List UInt8} {c : AcX} (ok : OkA c) {a : Nat} (hk : KeysAt T a (toksAc dg c)) (hb : between T (a + (toksAc dg c).length) = 0) :
  oneA T a = .ok (flatA c,a + (toksAc dg c).length) := by
 unfold toksAc at hk hb ⊢
 unfold oneA
 obtain ⟨hk1,hk2⟩ := keys_append hk
 rw [List.length_append] at hb ⊢
 cases hc : c.cond with
 | none =>
  rw [hc,condK] at hk2 hb
  rw [condK]
  simp only [List.length_nil,Nat.zero_add,Nat.add_zero] at hk2 hb ⊢
  have hi : tkAt T a [105,102] = false := by
   obtain ⟨⟨t,e1,e2⟩,_⟩ := keys_cons hk2
   rw [tkAt_ky e1 e2,word_if ok.kind.1 ok.kind.2]
   rfl
  rw [hi,if_neg (by simp),do_again hT ok [] hk2 hb]
  unfold flatA
  rw [hc]
  rfl
 | some e =>
  obtain ⟨o1,o2,o3⟩ := ok.cond e hc
  rw [hc,condK] at hk1 hk2 hb
  rw [condK]
  obtain ⟨⟨t,e1,e2⟩,hk1⟩ := keys_cons hk1
  obtain ⟨hk1,hk3⟩ := keys_append hk1
  obtain ⟨⟨t2,e3,e4⟩,_⟩ := keys_cons hk3
  have hi : tkAt T a [105,102] = true := by rw [tkAt_ky e1 e2];rfl
  have hcl : tkAt T (a + 1 + (toksE dg e).length) [58] = true := by rw [tkAt_ky e3 e4];rfl
  simp only [List.length_cons,List.length_append,List.length_nil] at hk2 hb ⊢
  rw [hi,if_pos rfl,parse_again hT o1 hk1 (between_none e3 e4 rfl) o3]
  simp only
  rw [hcl,if_pos rfl]
  rw [show a + ((toksE dg e).length + (0 + 1) + 1) = a + 1 + (toksE dg e).length + 1 by omega] at hk2
  rw [do_again hT ok _ hk2 (by rw [← hb];congr 1;omega)]
  unfold flatA
  rw [hc]
  simp only [flatO]
  rw [show a + 1 + (toksE dg e).length + 1 + (doK dg c).length = a + ((toksE dg e).length + (0 + 1) + 1 + (doK dg c).length) by omega]
theorem acts_again (hT : T.length < 128) {dg : Int → List UInt8} : ∀ (cs : List AcX) (f a : Nat),cs ≠ [] → cs.length ≤ f → (∀ c ∈ cs,OkA c) → KeysAt T a (toksAs dg cs) →
  between T (a + (toksAs dg cs).length) = 0 → tkAt T (a + (toksAs dg cs).length) [59] = false → takeA f T a = .ok (cs.map flatA,a + (toksAs dg cs).length)
 | [],_,_,h,_,_,_,_,_ => absurd rfl h
 | [c],0,_,_,h,_,_,_,_ => by simp at h
 | [c],f + 1,a,_,_,ok,hk,hb,hs => by
  rw [toksAs] at hk hb hs
  rw [takeA,one_again hT (ok c (by simp)) hk hb]
  simp only
  rw [hs,if_neg (by simp),toksAs]
  rfl
 | c :: d :: ds,0,_,_,h,_,_,_,_ => by simp at h
 | c :: d :: ds,f + 1,a,_,h,ok,hk,hb,hs => by
  rw [toksAs] at hk hb hs
  obtain ⟨hk1,hk2⟩ := keys_append hk
  obtain ⟨⟨t,e1,e2⟩,hk2⟩ := keys_cons hk2
  have hsm : tkAt T (a + (toksAc dg c).length) [59] = true := by rw [tkAt_ky e1 e2];rfl
  rw [List.length_append,List.length_cons] at hb hs
  have e0 : a + ((toksAc dg c).length + ((toksAs dg (d :: ds)).length + 1)) = a + (toksAc dg c).length + 1 + (toksAs dg (d :: ds)).length := by omega
  rw [e0] at hb hs
  rw [takeA,one_again hT (ok c (by simp)) hk1 (between_none e1 e2 rfl)]
  simp only
  rw [hsm,if_pos rfl,acts_again hT (d :: ds) f _ (by simp) (by simp at h ⊢;omega) (fun x hx => ok x (by simp at hx ⊢;right;exact hx)) hk2 hb hs]
  simp only
  rw [toksAs,List.length_append,List.length_cons,e0]
  rfl
theorem act_word {a : Nat} (h : ¬ actAt T a = 0) : ∃ k : Nat,actAt T a = k ∧ 1 ≤ k ∧ k ≤ 5 := by
 unfold actAt at h ⊢
 split
 ·exact ⟨1,rfl,by decide,by decide⟩
 ·split
  ·exact ⟨2,rfl,by decide,by decide⟩
  ·split
   ·exact ⟨3,rfl,by decide,by decide⟩
   ·split
    ·exact ⟨4,rfl,by decide,by decide⟩
    ·split
     ·exact ⟨5,rfl,by decide,by decide⟩
     ·rename_i h1 h2 h3 h4 h5
      rw [if_neg h1,if_neg h2,if_neg h3,if_neg h4,if_neg h5] at h
      exact absurd rfl h
theorem event_ok {ev : Bool} {a : Nat} {s : List UInt8} (h : eventAt ev T a = some s) : namedB ev s = true := by
 unfold eventAt at h
 split at h
 ·split at h
  ·rename_i hc
   cases h
   rw [Bool.and_eq_true] at hc
   exact hc.2
  ·cases h
 ·cases h
theorem num_ok (hok : ∀ t ∈ T,TkOk t) {a : Nat} {n : Int} (h : numAt T a = some n) : 0 ≤ n := by
 unfold numAt at h
 split at h
 ·rename_i t ht
  split at h
  ·rename_i hc
   cases h
   exact ((hok t (List.mem_of_getElem? ht)).num (by simpa using hc)).1
  ·cases h
 ·cases h
theorem do_tree (dg : Int → List UInt8) (hT : T.length < 128) (hok : ∀ t ∈ T,TkOk t) (co : Option ExT) (hco : OkO co) {a b : Nat} {c : Ac} (h : doA T (flatO co) a = .ok (c,b)) :
  ∃ x : AcX,x.cond = co ∧ OkA x ∧ c = flatA x ∧ (doK dg x).length + a ≤ b := by
 unfold doA at h
 split at h
 ·cases h
 ·rename_i hn
  obtain ⟨k,hk,h1,h5⟩ := act_word hn
  rw [hk] at h
  split at h
  ·rename_i hk5
   obtain rfl : k = 5 := by omega
   unfold tailA at h
   rw [if_pos (.inr rfl)] at h
   split at h
   ·cases h
   ·rename_i ns n hp
    cases h
    obtain ⟨e,o1,o2,rfl,hl,hz⟩ := parse_tree dg hT hok hp
    refine ⟨⟨5,co,[],some e,0⟩,rfl,⟨⟨h1,h5⟩,hco,fun x hx => (by cases hx;exact ⟨o1,o2,hz⟩),fun _ => ⟨e,rfl⟩,fun h => absurd (.inr rfl) h,fun h => absurd rfl h,fun _ => rfl,fun h => (by cases h),fun _ => rfl⟩,rfl,?_⟩
    rw [doK5,List.length_cons]
    omega
  ·rename_i hk5
   have hd : decide ((1 : Int) < (k : Int)) = decide (1 < k) := by
    by_cases h : 1 < k
    ·rw [decide_eq_true (by omega),decide_eq_true h]
    ·rw [decide_eq_false (by omega),decide_eq_false h]
   split at h
   ·cases h
   ·rename_i name he
    rw [hd] at he
    have hN := event_ok he
    unfold tailA at h
    by_cases hk1 : k = 1
    ·subst hk1
     rw [if_pos (.inl rfl)] at h
     split at h
     ·cases h
     ·rename_i ns n hp
      cases h
      obtain ⟨e,o1,o2,rfl,hl,hz⟩ := parse_tree dg hT hok (a := a + 2) hp
      refine ⟨⟨1,co,name,some e,0⟩,rfl,⟨⟨h1,h5⟩,hco,fun x hx => (by cases hx;exact ⟨o1,o2,hz⟩),fun _ => ⟨e,rfl⟩,fun h => absurd (.inl rfl) h,fun _ => hN,fun h => (by cases h),fun h => (by cases h),fun _ => rfl⟩,rfl,?_⟩
      rw [doK1,List.length_cons,List.length_cons]
      omega
    ·rw [if_neg (by omega)] at h
     by_cases hk3 : k = 3
     ·subst hk3
      rw [if_pos (show ((3 : Nat) : Int) = 3 from rfl)] at h
      split at h
      ·cases h
      ·rename_i n hn
       split at h
       ·cases h
       ·cases h
        have hz := num_ok hok hn
        refine ⟨⟨3,co,name,none,n⟩,rfl,⟨⟨h1,h5⟩,hco,fun x hx => (by cases hx),fun h => (by simp at h),fun _ => rfl,fun _ => hN,fun h => (by cases h),fun _ => ⟨hz,Int.not_lt.1 ‹_›⟩,fun h => absurd rfl h⟩,rfl,?_⟩
        rw [doK3]
        simp only [List.length_cons,List.length_nil]
        omega
     ·rw [if_neg (by omega)] at h
      cases h
      have hk5' : ¬ k = 5 := by omega
      refine ⟨⟨k,co,name,none,0⟩,rfl,⟨⟨h1,h5⟩,hco,fun x hx => (by cases hx),fun h => (h.elim (fun h => absurd h hk1) (fun h => absurd h hk5')),fun _ => rfl,fun _ => hN,fun h => absurd h hk5',fun h => absurd h hk3,fun _ => rfl⟩,rfl,?_⟩
      rw [doKn hk5' hk3]
      simp only [List.length_cons,List.length_nil]
      omega
theorem one_tree (dg : Int → List UInt8) (hT : T.length < 128) (hok : ∀ t ∈ T,TkOk t) {a b : Nat} {c : Ac} (h : oneA T a = .ok (c,b)) :
  ∃ x : AcX,OkA x ∧ c = flatA x ∧ (toksAc dg x).length + a ≤ b := by
 unfold oneA at h
 split at h
 ·split at h
  ·cases h
  ·rename_i ns n hp
   split at h
   ·obtain ⟨e,o1,o2,rfl,hl,hz⟩ := parse_tree dg hT hok hp
    obtain ⟨x,hx,ok,e1,e2⟩ := do_tree dg hT hok (some e) (fun y hy => by cases hy;exact ⟨o1,o2,hz⟩) (a := n + 1) h
    refine ⟨x,ok,e1,?_⟩
    rw [toksAc,hx,condK,List.length_append,List.length_cons,List.length_append]
    simp only [List.length_cons,List.length_nil]
    omega
   ·cases h
 ·obtain ⟨x,hx,ok,e1,e2⟩ := do_tree dg hT hok none (fun y hy => by cases hy) (a := a) h
  refine ⟨x,ok,e1,?_⟩
  rw [toksAc,hx,condK,List.nil_append]
  exact e2
theorem acts_tree (dg : Int → List UInt8) (hT : T.length < 128) (hok : ∀ t ∈ T,TkOk t) : ∀ (f a b : Nat) (cs : List Ac),takeA f T a = .ok (cs,b) →
  ∃ xs : List AcX,cs = xs.map flatA ∧ xs ≠ [] ∧ xs.length ≤ f ∧ (∀ x ∈ xs,OkA x) ∧ (toksAs dg xs).length + a ≤ b
 | 0,_,_,_,h => by rw [takeA] at h;cases h
 | f + 1,a,b,cs,h => by
  rw [takeA] at h
  split at h
  ·cases h
  ·rename_i c n h1
   obtain ⟨x,ok,rfl,hl⟩ := one_tree dg hT hok h1
   split at h
   ·split at h
    ·cases h
    ·rename_i ds q h2
     cases h
     obtain ⟨xs,rfl,hne,hf,oks,hl2⟩ := acts_tree dg hT hok f _ _ _ h2
     refine ⟨x :: xs,rfl,by simp,by simp;exact hf,fun y hy => ?_,?_⟩
     ·rcases List.mem_cons.1 hy with rfl | hy
      ·exact ok
      ·exact oks y hy
     ·cases xs with
      | nil => exact absurd rfl hne
      | cons y ys =>
       rw [toksAs,List.length_append,List.length_cons]
       omega
   ·cases h
    refine ⟨[x],rfl,by simp,by simp,fun y hy => by simp at hy;subst hy;exact ok,?_⟩
    rw [toksAs]
    exact hl
end
end Go.Proofs.YtpgibloeinphaaaGreatDoor
namespace Go.Proofs.YtpgibloeinphaaaGreatDoor
structure LnX where
 kind : Nat
 name : List UInt8
 start : List UInt8
 vk : Int
 vn : Int
 vs : List UInt8
 acts : List AcX
 event : List UInt8
 cond : Option ExT
 goes : List (List UInt8)
 inner : Bool
 thn : List AcX
def lx0 (k : Nat) : LnX := ⟨k,[],[],0,0,[],[],[],none,[],false,[]⟩
def flatL (x : LnX) : Ln := ⟨x.kind,x.name,x.start,x.vk,x.vn,x.vs,x.acts.map flatA,x.event,flatO x.cond,x.goes,x.inner,x.thn.map flatA⟩
def valK (dg : Int → List UInt8) (vk vn : Int) (vs : List UInt8) : List Ky :=
 if vk = 1 then if vn < 0 then [(5,[45],0),(3,dg (-vn),-vn)] else [(3,dg vn,vn)]
 else if vk = 3 then [(4,vs,0)]
 else if vn = 1 then [(1,[116,114,117,101],0)] else [(1,[102,97,108,115,101],0)]
def ifK (dg : Int → List UInt8) : Option ExT → List Ky
 | none => []
 | some e => (1,[105,102],0) :: toksE dg e
def goK : List (List UInt8) → List Ky
 | [] => []
 | g :: gs => (1,[103,111],0) :: (g :: gs).map fun g => (1,g,0)
def inK (b : Bool) : List Ky := if b then [(1,[105,110,110,101,114],0)] else []
def dK (dg : Int → List UInt8) : List AcX → List Ky
 | [] => []
 | c :: cs => (1,[100,111],0) :: toksAs dg (c :: cs)
def transK (dg : Int → List UInt8) (x : LnX) : List Ky := ifK dg x.cond ++ (goK x.goes ++ (inK x.inner ++ dK dg x.thn))
def evK (s : List UInt8) : Ky := if s = [42] then (5,[42],0) else (aloneK s,s,0)
def startK (s : List UInt8) : List Ky := if s = [] then [] else [(1,s,0)]
def restK (dg : Int → List UInt8) (x : LnX) : List Ky :=
 if x.kind = 12 then []
 else if x.kind = 8 ∨ x.kind = 9 then toksAs dg x.acts
 else if x.kind = 10 then evK x.event :: transK dg x
 else if x.kind = 11 then transK dg x
 else (1,x.name,0) :: (if x.kind = 2 then valK dg x.vk x.vn x.vs else startK x.start)
def toksL (dg : Int → List UInt8) (x : LnX) : List Ky := (1,lwL x.kind,0) :: restK dg x
def OkAs (cs : List AcX) : Prop := cs.length ≤ 8 ∧ ∀ c ∈ cs,OkA c
def OkV (vk vn : Int) (vs : List UInt8) : Prop := (vk = 1 ∧ I64 vn ∧ I64 (-vn) ∧ vs = []) ∨ (vk = 2 ∧ (vn = 0 ∨ vn = 1) ∧ vs = []) ∨ (vk = 3 ∧ vn = 0 ∧ plainB vs = true ∧ vs.length ≤ 48)
section
variable {T : List Tk}
def Ends (T : List Tk) (a : Nat) (ks : List Ky) : Prop := KeysAt T a ks ∧ a + ks.length = T.length
def tkHd (ks : List Ky) (x : List UInt8) : Bool :=
 match ks with
 | [] => false
 | (k,s,_) :: _ => (k == 1 || k == 5) && s == x
def nmHd (ks : List Ky) : Option (List UInt8) :=
 match ks with
 | [] => none
 | (k,s,_) :: _ => if k == 1 && !meansB s then some s else none
def btHd (ks : List Ky) : Int :=
 match ks with
 | [] => 0
 | (k,s,n) :: _ => opFrom ⟨k,s,n,0⟩ 13 3
theorem opFrom_at (k n : Int) (s : List UInt8) (p q : Nat) : ∀ f i,opFrom ⟨k,s,n,p⟩ f i = opFrom ⟨k,s,n,q⟩ f i
 | 0,_ => rfl
 | f + 1,i => by rw [opFrom,opFrom,opFrom_at k n s p q f];rfl
theorem ends_none {a : Nat} (h : Ends T a []) : T[a]? = none := by
 have := h.2
 simp only [List.length_nil,Nat.add_zero] at this
 rw [List.getElem?_eq_none (by omega)]
theorem ends_tk {a : Nat} {ks : List Ky} (h : Ends T a ks) (x : List UInt8) : tkAt T a x = tkHd ks x := by
 cases ks with
 | nil => unfold tkAt;rw [ends_none h];rfl
 | cons k ks =>
  obtain ⟨k,s,n⟩ := k
  obtain ⟨⟨t,e1,e2⟩,_⟩ := keys_cons h.1
  exact tkAt_ky e1 e2 x
theorem ends_nm {a : Nat} {ks : List Ky} (h : Ends T a ks) : nameAt T a = nmHd ks := by
 cases ks with
 | nil => unfold nameAt;rw [ends_none h];rfl
 | cons k ks =>
  obtain ⟨k,s,n⟩ := k
  obtain ⟨⟨t,e1,e2⟩,_⟩ := keys_cons h.1
  exact nameAt_ky e1 e2
theorem ends_bt {a : Nat} {ks : List Ky} (h : Ends T a ks) : between T a = btHd ks := by
 cases ks with
 | nil => unfold between;rw [ends_none h];rfl
 | cons k ks =>
  obtain ⟨k,s,n⟩ := k
  obtain ⟨⟨t,e1,e2⟩,_⟩ := keys_cons h.1
  obtain ⟨k',s',n',p⟩ := t
  unfold key at e2
  simp only [Prod.mk.injEq] at e2
  obtain ⟨rfl,rfl,rfl⟩ := e2
  unfold between
  rw [e1]
  exact opFrom_at _ _ _ _ _ _ _
theorem ends_cons {a : Nat} {k : Ky} {ks : List Ky} (h : Ends T a (k :: ks)) : (∃ t,T[a]? = some t ∧ key t = k) ∧ Ends T (a + 1) ks := by
 obtain ⟨h1,h2⟩ := keys_cons h.1
 refine ⟨h1,h2,?_⟩
 have := h.2
 rw [List.length_cons] at this
 omega
theorem ends_append {a : Nat} {ks js : List Ky} (h : Ends T a (ks ++ js)) : KeysAt T a ks ∧ Ends T (a + ks.length) js := by
 obtain ⟨h1,h2⟩ := keys_append h.1
 refine ⟨h1,h2,?_⟩
 have := h.2
 rw [List.length_append] at this
 omega
theorem if_again (hT : T.length < 128) {dg : Int → List UInt8} {c : Option ExT} (hc : OkO c) {gs : List (List UInt8)} {i : Bool} {cs : List AcX} {a : Nat} (h : Ends T a (ifK dg c ++ (goK gs ++ (inK i ++ dK dg cs)))) :
  ifL T a = .ok (flatO c,a + (ifK dg c).length) := by
 unfold ifL
 rw [ends_tk h]
 cases c with
 | none =>
  rw [if_neg (by cases gs <;> cases i <;> cases cs <;> simp [ifK,goK,inK,dK,tkHd])]
  rfl
 | some e =>
  obtain ⟨o1,o2,o3⟩ := hc e rfl
  rw [if_pos (by rfl)]
  have h1 := (ends_cons h).2
  obtain ⟨h2,h3⟩ := ends_append (ks := toksE dg e) h1
  rw [parse_again hT o1 h2 (by rw [ends_bt h3];cases gs <;> cases i <;> cases cs <;> rfl) o3,ifK,List.length_cons,flatO]
  rw [show a + 1 + (toksE dg e).length = a + ((toksE dg e).length + 1) by omega]
theorem goes_again : ∀ (gs : List (List UInt8)) (f : Nat) (pre : List (List UInt8)) (a : Nat),gs.length ≤ f → (∀ g ∈ gs,nmB g = true) → KeysAt T a (gs.map fun g => ((1,g,0) : Ky)) → nameAt T (a + gs.length) = none → pre ++ gs ≠ [] →
  goesA T f pre a = .ok (pre ++ gs,a + gs.length)
 | [],f,pre,a,_,_,_,hn,hp => by
  rw [List.length_nil,Nat.add_zero] at hn
  have : ¬ pre.length = 0 := fun h => hp (by rw [List.append_nil];exact List.length_eq_zero_iff.1 h)
  cases f <;> rw [goesA,hn] <;> simp only <;> rw [if_neg this,List.append_nil] <;> rfl
 | g :: gs,0,_,_,hl,_,_,_,_ => by simp at hl
 | g :: gs,f + 1,pre,a,hl,hg,hk,hn,_ => by
  rw [List.map_cons] at hk
  obtain ⟨⟨t,e1,e2⟩,hk⟩ := keys_cons hk
  have hm : nameAt T a = some g := by
   rw [nameAt_ky e1 e2,nameW g (hg g (by simp))]
   rfl
  rw [goesA,hm]
  simp only
  rw [goes_again gs f (pre ++ [g]) (a + 1) (by simpa using hl) (fun x hx => hg x (by simp [hx])) hk (by rw [← hn,List.length_cons];congr 1;omega) (by simp),List.append_assoc,List.length_cons]
  rw [show a + 1 + gs.length = a + (gs.length + 1) by omega]
  rfl
theorem go_again {dg : Int → List UInt8} {gs : List (List UInt8)} (hl : gs.length ≤ 4) (hg : ∀ g ∈ gs,nmB g = true) {i : Bool} {cs : List AcX} {a : Nat} (h : Ends T a (goK gs ++ (inK i ++ dK dg cs))) : goL T a = .ok (gs,a + (goK gs).length) := by
 unfold goL
 rw [ends_tk h]
 cases gs with
 | nil =>
  rw [if_neg (by cases i <;> cases cs <;> simp [goK,inK,dK,tkHd])]
  rfl
 | cons g gs =>
  rw [if_pos (by rfl)]
  have h1 := (ends_cons h).2
  obtain ⟨h2,h3⟩ := ends_append (ks := (g :: gs).map fun g => ((1,g,0) : Ky)) h1
  rw [List.length_map] at h3
  rw [goes_again (g :: gs) 4 [] (a + 1) hl hg h2 (by rw [ends_nm h3];cases i <;> cases cs <;> rfl) (by simp)]
  simp only [goK,List.length_cons,List.length_map,List.nil_append]
  rw [show a + 1 + (gs.length + 1) = a + (gs.length + 1 + 1) by omega]
theorem inner_again {dg : Int → List UInt8} {i : Bool} {cs : List AcX} {a : Nat} (h : Ends T a (inK i ++ dK dg cs)) : innerL T a = i ∧ Ends T (if i then a + 1 else a) (dK dg cs) := by
 unfold innerL
 rw [ends_tk h]
 cases i
 ·exact ⟨by cases cs <;> rfl,h⟩
 ·exact ⟨rfl,(ends_cons h).2⟩
theorem take_again (hT : T.length < 128) {dg : Int → List UInt8} {cs : List AcX} (h0 : cs ≠ []) (ok : OkAs cs) {a : Nat} (h : Ends T a (toksAs dg cs)) : takeT T (a : Int) = .ok (cs.map flatA,T.length) := by
 have hl := h.2
 unfold takeT
 rw [if_neg (by omega),Int.toNat_natCast,acts_again hT cs 8 a h0 ok.1 ok.2 h.1 (by rw [hl];unfold between;rw [List.getElem?_eq_none (Nat.le_refl _)]) (by rw [hl];unfold tkAt;rw [List.getElem?_eq_none (Nat.le_refl _)]),hl]
theorem do_acts (hT : T.length < 128) {dg : Int → List UInt8} {cs : List AcX} (ok : OkAs cs) {a : Nat} (h : Ends T a (dK dg cs)) : doL T a = .ok (cs.map flatA,T.length) := by
 unfold doL
 rw [ends_tk h]
 cases cs with
 | nil =>
  rw [if_neg (by simp [dK,tkHd])]
  have := h.2
  simp only [dK,List.length_nil,Nat.add_zero] at this
  rw [this]
  rfl
 | cons c cs =>
  rw [if_pos (by rfl),take_again hT (by simp) ok (ends_cons h).2]
structure OkTr (x : LnX) : Prop where
 cond : OkO x.cond
 goes : x.goes.length ≤ 4 ∧ ∀ g ∈ x.goes,nmB g = true
 thn : OkAs x.thn
theorem trans_again (hT : T.length < 128) {dg : Int → List UInt8} {x : LnX} (ok : OkTr x) (n : Ln) {a : Nat} (h : Ends T a (transK dg x)) :
  transL T n a = .ok ({ n with cond := flatO x.cond,goes := x.goes,inner := x.inner,thn := x.thn.map flatA },T.length) := by
 unfold transK at h
 have h1 := (ends_append h).2
 have h2 := (ends_append h1).2
 obtain ⟨h3,h4⟩ := inner_again h2
 unfold transL
 rw [if_again hT ok.cond h]
 simp only
 rw [go_again ok.goes.1 ok.goes.2 h1]
 simp only
 rw [h3,do_acts hT ok.thn h4]
theorem kind_again {a k : Nat} {t : Tk} (h1 : 1 ≤ k) (h2 : k ≤ 12) (h : T[a]? = some t) (hk : key t = (1,lwL k,0)) : kindAt T a = k := by
 have hw : ∀ x,tkAt T a x = (lwL k == x) := fun x => by rw [tkAt_ky h hk];rfl
 unfold kindAt
 simp only [kindFrom,hw]
 rcases (by omega : k = 1 ∨ k = 2 ∨ k = 3 ∨ k = 4 ∨ k = 5 ∨ k = 6 ∨ k = 7 ∨ k = 8 ∨ k = 9 ∨ k = 10 ∨ k = 11 ∨ k = 12) with rfl | rfl | rfl | rfl | rfl | rfl | rfl | rfl | rfl | rfl | rfl | rfl <;> rfl
theorem value_again {dg : Int → List UInt8} {vk vn : Int} {vs : List UInt8} (ok : OkV vk vn vs) {a : Nat} (h : Ends T a (valK dg vk vn vs)) : valueL T a = some (vk,vn,vs,T.length) := by
 unfold valueL
 rw [ends_tk h]
 rcases ok with ⟨rfl,h64,hm,rfl⟩ | ⟨rfl,hn,rfl⟩ | ⟨rfl,rfl,hp,hl⟩
 ·unfold valK at h ⊢
  rw [if_pos rfl] at h ⊢
  by_cases h0 : vn < 0
  ·rw [if_pos h0] at h ⊢
   rw [if_pos (by rfl)]
   obtain ⟨⟨t,e1,e2⟩,he⟩ := ends_cons (ends_cons h).2
   have := he.2
   unfold key at e2
   simp only [Prod.mk.injEq] at e2
   rw [e1]
   simp only
   rw [e2.1,e2.2.2,if_pos (by rfl),Int.neg_neg]
   simp only [List.length_nil] at this
   rw [show a + 2 = T.length by omega]
  ·rw [if_neg h0] at h ⊢
   rw [if_neg (by simp [tkHd])]
   obtain ⟨⟨t,e1,e2⟩,he⟩ := ends_cons h
   have := he.2
   unfold key at e2
   simp only [Prod.mk.injEq] at e2
   rw [e1]
   simp only
   rw [e2.1,e2.2.2,if_pos (by rfl)]
   simp only [List.length_nil] at this
   rw [show a + 1 = T.length by omega]
 ·rcases hn with rfl | rfl
  ·have e : valK dg 2 0 [] = [(1,[102,97,108,115,101],0)] := rfl
   rw [e] at h ⊢
   rw [if_neg (by simp [tkHd])]
   obtain ⟨⟨t,e1,e2⟩,he⟩ := ends_cons h
   have := he.2
   simp only [List.length_nil] at this
   obtain ⟨k,s,n,p⟩ := t
   unfold key at e2
   simp only [Prod.mk.injEq] at e2
   obtain ⟨rfl,rfl,rfl⟩ := e2
   rw [e1,show T.length = a + 1 by omega]
   rfl
  ·have e : valK dg 2 1 [] = [(1,[116,114,117,101],0)] := rfl
   rw [e] at h ⊢
   rw [if_neg (by simp [tkHd])]
   obtain ⟨⟨t,e1,e2⟩,he⟩ := ends_cons h
   have := he.2
   simp only [List.length_nil] at this
   obtain ⟨k,s,n,p⟩ := t
   unfold key at e2
   simp only [Prod.mk.injEq] at e2
   obtain ⟨rfl,rfl,rfl⟩ := e2
   rw [e1,show T.length = a + 1 by omega]
   rfl
 ·have e : valK dg 3 0 vs = [(4,vs,0)] := rfl
  rw [e] at h ⊢
  rw [if_neg (by simp [tkHd])]
  obtain ⟨⟨t,e1,e2⟩,he⟩ := ends_cons h
  have := he.2
  simp only [List.length_nil] at this
  obtain ⟨k,s,n,p⟩ := t
  unfold key at e2
  simp only [Prod.mk.injEq] at e2
  obtain ⟨rfl,rfl,rfl⟩ := e2
  rw [e1,show T.length = a + 1 by omega]
  rfl
theorem eventL_again {s : List UInt8} (hs : s = [42] ∨ namedB true s = true) {a : Nat} {t : Tk} (h : T[a]? = some t) (hk : key t = evK s) : eventL T a = some s := by
 unfold eventL
 rw [h]
 unfold key evK at hk
 by_cases h1 : s = [42]
 ·rw [if_pos h1] at hk
  simp only [Prod.mk.injEq] at hk
  have hw : wordB t [42] = true := by unfold wordB;rw [hk.1,hk.2.1];rfl
  simp only
  rw [hw,Bool.or_true,if_pos rfl,hk.2.1,h1]
 ·rw [if_neg h1] at hk
  simp only [Prod.mk.injEq] at hk
  have hn := hs.resolve_left h1
  simp only
  rw [hk.1,hk.2.1,hn]
  rcases (named_kind hn).1 with e | e <;> rw [e] <;> rfl
structure OkL (x : LnX) : Prop where
 kind : 1 ≤ x.kind ∧ x.kind ≤ 12
 has : (x.kind = 12 ∧ x = lx0 12) ∨
  ((x.kind = 8 ∨ x.kind = 9) ∧ x = { lx0 x.kind with acts := x.acts } ∧ x.acts ≠ [] ∧ OkAs x.acts) ∨
  (x.kind = 10 ∧ x = { lx0 10 with event := x.event,cond := x.cond,goes := x.goes,inner := x.inner,thn := x.thn } ∧ (x.event = [42] ∨ namedB true x.event = true) ∧ OkTr x) ∨
  (x.kind = 11 ∧ x = { lx0 11 with cond := x.cond,goes := x.goes,inner := x.inner,thn := x.thn } ∧ OkTr x) ∨
  (x.kind = 2 ∧ x = { lx0 2 with name := x.name,vk := x.vk,vn := x.vn,vs := x.vs } ∧ nmB x.name = true ∧ OkV x.vk x.vn x.vs) ∨
  ((x.kind = 1 ∨ x.kind = 3) ∧ x = { lx0 x.kind with name := x.name,start := x.start } ∧ nmB x.name = true ∧ (x.start = [] ∨ nmB x.start = true)) ∨
  ((x.kind = 6 ∨ x.kind = 7) ∧ x = { lx0 x.kind with name := x.name,start := x.start } ∧ nmB x.name = true ∧ nmB x.start = true) ∨
  ((x.kind = 4 ∨ x.kind = 5) ∧ x = { lx0 x.kind with name := x.name } ∧ nmB x.name = true)
theorem nm_ne {s : List UInt8} (h : nmB s = true) : ¬ s = [] := fun e => by
 subst e
 revert h
 decide
theorem name_at {s : List UInt8} (hn : nmB s = true) {a : Nat} {t : Tk} (h : T[a]? = some t) (hk : key t = (1,s,0)) : nameAt T a = some s := by
 rw [nameAt_ky h hk,nameW s hn]
 rfl
theorem line_again (hT : T.length < 128) {dg : Int → List UInt8} {x : LnX} (ok : OkL x) (h : Ends T 0 (toksL dg x)) : lineT T = .ok (flatL x) := by
 unfold toksL at h
 obtain ⟨⟨t,e1,e2⟩,hr⟩ := ends_cons h
 have hk := kind_again ok.kind.1 ok.kind.2 e1 e2
 have h12 := ok.kind
 rw [Nat.zero_add] at hr
 unfold lineT
 rw [hk,if_neg (by omega)]
 suffices hs : restL T x.kind 1 = .ok (flatL x,T.length) by
  rw [hs]
  simp only
  rw [if_neg (by omega)]
 unfold restK at hr
 unfold restL
 rcases ok.has with ⟨k,hx⟩ | ⟨k,hx,hne,hA⟩ | ⟨k,hx,hev,hT'⟩ | ⟨k,hx,hT'⟩ | ⟨k,hx,hn,hv⟩ | ⟨k,hx,hn,hs⟩ | ⟨k,hx,hn,hs⟩ | ⟨k,hx,hn⟩
 ·rw [k,if_pos rfl] at hr
  have := hr.2
  simp only [List.length_nil] at this
  rw [k,if_pos rfl,hx,show T.length = 1 by omega]
  rfl
 ·rw [if_neg (by omega),if_pos k] at hr
  rw [if_neg (by omega),if_pos k,take_again hT hne hA hr]
  simp only
  rw [hx]
  rfl
 ·rw [if_neg (by omega),if_neg (by omega),if_pos k] at hr
  obtain ⟨⟨t2,e3,e4⟩,hr⟩ := ends_cons hr
  rw [if_neg (by omega),if_neg (by omega),if_pos k,eventL_again hev e3 e4]
  simp only
  rw [trans_again hT hT' _ hr,k,hx]
  rfl
 ·rw [if_neg (by omega),if_neg (by omega),if_neg (by omega),if_pos k] at hr
  rw [if_neg (by omega),if_neg (by omega),if_neg (by omega),if_pos k,trans_again hT hT' _ hr,k,hx]
  rfl
 ·rw [if_neg (by omega),if_neg (by omega),if_neg (by omega),if_neg (by omega),if_pos k] at hr
  obtain ⟨⟨t2,e3,e4⟩,hr⟩ := ends_cons hr
  rw [if_neg (by omega),if_neg (by omega),if_neg (by omega),if_neg (by omega)]
  unfold namedL
  rw [name_at hn e3 e4]
  simp only
  rw [if_pos k,value_again hv hr]
  simp only
  rw [k,hx]
  rfl
 ·rw [if_neg (by omega),if_neg (by omega),if_neg (by omega),if_neg (by omega),if_neg (by omega)] at hr
  obtain ⟨⟨t2,e3,e4⟩,hr⟩ := ends_cons hr
  rw [if_neg (by omega),if_neg (by omega),if_neg (by omega),if_neg (by omega)]
  unfold namedL
  rw [name_at hn e3 e4]
  simp only
  rw [if_neg (by omega),if_pos k]
  by_cases h0 : x.start = []
  ·rw [startK,if_pos h0] at hr
   have := hr.2
   simp only [List.length_nil] at this
   rw [ends_nm hr]
   simp only [nmHd]
   rw [hx,h0,show T.length = 1 + 1 by omega]
   rfl
  ·rw [startK,if_neg h0] at hr
   obtain ⟨⟨t3,e5,e6⟩,he⟩ := ends_cons hr
   have := he.2
   simp only [List.length_nil] at this
   rw [name_at (hs.resolve_left h0) e5 e6]
   simp only
   rw [hx,show T.length = 1 + 2 by omega]
   rfl
 ·rw [if_neg (by omega),if_neg (by omega),if_neg (by omega),if_neg (by omega),if_neg (by omega)] at hr
  obtain ⟨⟨t2,e3,e4⟩,hr⟩ := ends_cons hr
  rw [if_neg (by omega),if_neg (by omega),if_neg (by omega),if_neg (by omega)]
  unfold namedL
  rw [name_at hn e3 e4]
  simp only
  rw [if_neg (by omega),if_neg (by omega),if_pos k]
  rw [startK,if_neg (nm_ne hs)] at hr
  obtain ⟨⟨t3,e5,e6⟩,he⟩ := ends_cons hr
  have := he.2
  simp only [List.length_nil] at this
  rw [name_at hs e5 e6]
  simp only
  rw [hx,show T.length = 1 + 2 by omega]
  rfl
 ·rw [if_neg (by omega),if_neg (by omega),if_neg (by omega),if_neg (by omega),if_neg (by omega)] at hr
  obtain ⟨⟨t2,e3,e4⟩,hr⟩ := ends_cons hr
  rw [if_neg (by omega),if_neg (by omega),if_neg (by omega),if_neg (by omega)]
  unfold namedL
  rw [name_at hn e3 e4]
  simp only
  rw [if_neg (by omega),if_neg (by omega),if_neg (by omega)]
  have hst : x.start = [] := by rw [hx];rfl
  rw [startK,if_pos hst] at hr
  have := hr.2
  simp only [List.length_nil] at this
  rw [hx,show T.length = 1 + 1 by omega]
  rfl
end
end Go.Proofs.YtpgibloeinphaaaGreatDoor
