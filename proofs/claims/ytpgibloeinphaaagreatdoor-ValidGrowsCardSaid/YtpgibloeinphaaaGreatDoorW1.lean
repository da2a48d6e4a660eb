/- Several texts of this proof, joined: RM, RT, RU. -/
import Derived.Test.YtpgibloeinphaaaGreatDoorV1
import Derived.Test.YtpgibloeinphaaaGreatDoorY1
namespace Go.Proofs.YtpgibloeinphaaaGreatDoor
mutual
def rdT : Nat → Nat → List Tk → Nat → List Nd → Option (List Nd × Nat)
 | 0,_,_,_,_ => none
 | f + 1,lv,ts,a,ns =>
  if lv = 6 then
   if tkAt ts a [105,110] then
    if tkAt ts (a + 1) [40] then
     match nameAt ts (a + 2) with
     | some s => if tkAt ts (a + 3) [41] then some (ns ++ [⟨17,0,0,[],s,0,0⟩],a + 4) else none
     | none => none
    else none
   else if tkAt ts a [40] then
    match rdT f 0 ts (a + 1) ns with
    | some (out,b) => if tkAt ts b [41] then some (out,b + 1) else none
    | none => none
   else
    match nameAt ts a with
    | some s => some (ns ++ [⟨16,0,0,[],s,0,0⟩],a + 1)
    | none =>
     match valueAt ts a with
     | some n => some (ns ++ [n],a + 1)
     | none => none
  else if lv = 5 then
   if tkAt ts a [110,111,116] then
    match rdT f 5 ts (a + 1) ns with
    | some (out,b) => some (out ++ [opn 1 [out.length - 1]],b)
    | none => none
   else if tkAt ts a [45] then
    match rdT f 5 ts (a + 1) ns with
    | some (out,b) => some (out ++ [opn 2 [out.length - 1]],b)
    | none => none
   else rdT f 6 ts a ns
  else
   match rdT f (lv + 1) ts a ns with
   | some (out,b) => rdM f lv ts b out
   | none => none
def rdM : Nat → Nat → List Tk → Nat → List Nd → Option (List Nd × Nat)
 | 0,_,_,_,_ => none
 | f + 1,lv,ts,b,out =>
  if between ts b = 0 ∨ tightI (between ts b) ≠ (lv : Int) + 1 then some (out,b)
  else
   match rdT f (lv + 1) ts (b + 1) out with
   | some (out2,c) => if lv = 2 then some (out2 ++ [opn (between ts b) [out.length - 1,out2.length - 1]],c) else rdM f lv ts c (out2 ++ [opn (between ts b) [out.length - 1,out2.length - 1]])
   | none => none
end
section
variable {T : List Tk}
def J (R : Rd) (out : List Nd) (b : Nat) : Rd := ⟨b,out,(out.length - 1) :: R.parts,R.wait,R.within⟩
def limL (lv : Nat) : Int := if 5 ≤ lv then 6 else (lv : Int) + 1
def LowW (lv : Nat) (ws : List Int) : Prop := 5 ≤ lv ∨ ∀ o u,ws = o :: u → tightI o ≤ (lv : Int)
def StopL (lv : Nat) (T : List Tk) (R1 : Rd) (b : Nat) : Prop := between T b = 0 ∨ tightI (between T b) ≤ (lv : Int) ∨ (tightI (between T b) = 3 ∧ topIs (finish 4 R1).wait 3 = true)
structure ReadL (lv : Nat) (T : List Tk) (R : Rd) (out : List Nd) (b : Nat) (R1 : Rd) : Prop where
 good : Good 1 T R1
 run : whole 128 T R = contW 128 T (closes 128 T R1)
 at_ : R1.at_ = b
 wth : R1.within = R.within
 fin : ∀ least,1 ≤ least → least ≤ limL lv → finish least R1 = finish least (J R out b)
 stop : StopL lv T R1 b
 lt : R.at_ < b
 le : b ≤ T.length
theorem cont_same (hT : T.length < 128) {r : Rd} (g : Good 1 T r) : contW 127 T r = contW 128 T r := by
 unfold contW
 obtain ⟨m1,_⟩ := more_good g
 cases hm : more T r with
 | mk b r2 =>
  rw [hm] at m1
  cases b with
  | true =>
   obtain ⟨g2,e2⟩ := m1 rfl
   exact whole_stable T 127 128 _ g2 (by simp only at e2;have := g.at_;omega) (by omega)
  | false => rfl
theorem whole_one (hT : T.length < 128) {R r1 : Rd} (g : Good 0 T R) (h : one T R = some r1) : whole 128 T R = contW 128 T r1 := by
 rw [whole_step (f := 127) h,cont_same hT (one_good g h).1]
theorem whole_no {R : Rd} (h : one T R = none) : whole 128 T R = none := by
 show whole (127 + 1) T R = none
 rw [whole,h]
theorem whole_aheadR (hT : T.length < 128) {R R' : Rd} (h : ahead T R = some R') : whole 128 T R = whole 128 T R' := by
 have e : aheads 128 T R = aheads 128 T R' := by
  have e1 : aheads 128 T R = aheads 127 T R' := by
   show aheads (127 + 1) T R = _
   rw [aheads,h]
  rw [e1]
  have := (ahead_at h).1
  have := (ahead_at h).2
  exact aheads_stable T 127 128 _ (by omega) (by omega)
 show whole (127 + 1) T R = whole (127 + 1) T R'
 rw [whole,whole]
 unfold one
 rw [e]
theorem whole_atom (hT : T.length < 128) {R r1 : Rd} (g : Good 0 T R) (h : ahead T R = none) (ha : atom T R = some r1) : whole 128 T R = contW 128 T (closes 128 T r1) := by
 have e : aheads 128 T R = R := by
  show aheads (127 + 1) T R = _
  rw [aheads,h]
 refine whole_one hT g ?_
 unfold one
 rw [e,ha]
theorem whole_noatom {R : Rd} (h : ahead T R = none) (ha : atom T R = none) : whole 128 T R = none := by
 have e : aheads 128 T R = R := by
  show aheads (127 + 1) T R = _
  rw [aheads,h]
 refine whole_no ?_
 unfold one
 rw [e,ha]
theorem fin_base {least : Int} {R : Rd} {out : List Nd} {b : Nat} (h : ∀ o u,R.wait = o :: u → tightI o < least) : finish least (J R out b) = J R out b := by
 unfold finish J
 cases hw : R.wait with
 | nil => rfl
 | cons o u => rw [finL,if_pos (h o u hw)]
theorem fin_pop {least op : Int} {R R' : Rd} {out out2 : List Nd} {c : Nat} (h1 : R'.wait = op :: R.wait) (h2 : ¬ tightI op < least) (hin : R'.within = R.within)
  (hp : (((out2.length - 1) :: R'.parts).take (cnt op)).reverse = (if cnt op = 1 then [out2.length - 1] else [out.length - 1,out2.length - 1])) (hd : ((out2.length - 1) :: R'.parts).drop (cnt op) = R.parts) :
  finish least (J R' out2 c) = finish least (J R (out2 ++ [opn op (if cnt op = 1 then [out2.length - 1] else [out.length - 1,out2.length - 1])]) c) := by
 unfold finish J
 rw [h1]
 simp only
 rw [finL,if_neg h2]
 congr 1
 unfold popOp Rd.add
 simp only [Rd.mk.injEq]
 rw [hp,hd]
 refine ⟨?_,?_,?_,?_,hin⟩
 ·first | trivial | rfl
 ·first | trivial | rfl
 ·simp
 ·first | trivial | rfl
structure ReadM (lv : Nat) (T : List Tk) (R : Rd) (out : List Nd) (b : Nat) (R1 : Rd) : Prop where
 good : Good 1 T R1
 run : whole 128 T R = contW 128 T (closes 128 T R1)
 at_ : R1.at_ = b
 wth : R1.within = R.within
 fin : ∀ least,1 ≤ least → least ≤ (if lv = 2 then 4 else (lv : Int) + 1) → finish least R1 = finish least (J R out b)
 stop : between T b = 0 ∨ tightI (between T b) ≤ (lv : Int) + 1 ∨ (tightI (between T b) = 3 ∧ topIs (finish 4 R1).wait 3 = true)
 lt : R.at_ < b
 le : b ≤ T.length
theorem readM_of {lv : Nat} {R R1 : Rd} {out : List Nd} {b : Nat} (h4 : lv ≤ 4) (h : ReadL (lv + 1) T R out b R1) : ReadM lv T R out b R1 := by
 refine ⟨h.good,h.run,h.at_,h.wth,fun least h1 h2 => h.fin least h1 ?_,?_,h.lt,h.le⟩
 ·unfold limL
  split at h2 <;> split <;> omega
 ·rcases h.stop with h1 | h1 | h1
  ·exact .inl h1
  ·exact .inr (.inl (by omega))
  ·exact .inr (.inr h1)
theorem not_close {b : Nat} (hb : ¬ between T b = 0) : tkAt T b [41] = false := by
 have hlt := between_lt hb
 rw [← Bool.not_eq_true]
 intro hc
 apply hb
 unfold tkAt at hc
 unfold between
 rw [List.getElem?_eq_getElem hlt] at hc ⊢
 simp only [wordB,Bool.and_eq_true,beq_iff_eq] at hc
 simp [opFrom,hc.2,wordB,signL]
theorem tight_bin {op : Int} (h : 3 ≤ op ∧ op ≤ 15) : 1 ≤ tightI op ∧ tightI op ≤ 5 := by
 unfold tightI
 repeat' split
 all_goals omega
theorem stop_high {lv : Nat} {R1 : Rd} {b : Nat} (h : 5 ≤ lv) : StopL lv T R1 b := by
 rcases between_in T b with h1 | h1
 ·exact .inl h1
 ·have := (tight_bin h1).2
  exact .inr (.inl (by omega))
def RdOk (f lv : Nat) (T : List Tk) (R : Rd) : Prop :=
 match rdT f lv T R.at_ R.nodes with
 | some (out,b) => (∃ R1,ReadL lv T R out b R1) ∧ R.nodes.length < out.length
 | none => 8 * (T.length - R.at_) + (7 - lv) ≤ f → whole 128 T R = none
def RmOk (f lv : Nat) (T : List Tk) (R : Rd) (out : List Nd) (b : Nat) : Prop :=
 match rdM f lv T b out with
 | some (out2,c) => (∃ R2,ReadL lv T R out2 c R2) ∧ R.nodes.length < out2.length
 | none => 8 * (T.length - b) + 1 ≤ f → whole 128 T R = none
theorem cnt_bin {op : Int} (h : 3 ≤ op ∧ op ≤ 15) : cnt op = 2 := by
 unfold cnt
 rw [if_neg (by omega),if_pos h]
theorem rdM_step (f : Nat)
  (IH : ∀ lv R,lv ≤ 5 → Good 0 T R → LowW lv R.wait → RdOk f lv T R)
  (IM : ∀ lv R out b R1,lv ≤ 4 → Good 0 T R → LowW lv R.wait → ReadM lv T R out b R1 → R.nodes.length < out.length → RmOk f lv T R out b)
  (lv : Nat) (R : Rd) (out : List Nd) (b : Nat) (R1 : Rd) (h4 : lv ≤ 4) (g : Good 0 T R) (hw : LowW lv R.wait) (h : ReadM lv T R out b R1) (hlen : R.nodes.length < out.length) : RmOk (f + 1) lv T R out b := by
 unfold RmOk
 rw [rdM]
 by_cases hc : between T b = 0 ∨ tightI (between T b) ≠ (lv : Int) + 1
 ·rw [if_pos hc]
  refine ⟨⟨R1,h.good,h.run,h.at_,h.wth,fun least h1 h2 => h.fin least h1 ?_,?_,h.lt,h.le⟩,hlen⟩
  ·unfold limL at h2
   rw [if_neg (by omega)] at h2
   split <;> omega
  ·rcases h.stop with h1 | h1 | h1
   ·exact .inl h1
   ·rcases hc with h2 | h2
    ·exact .inl h2
    ·exact .inr (.inl (by omega))
   ·exact .inr (.inr h1)
 ·rw [if_neg hc]
  have hb : ¬ between T b = 0 := fun e => hc (.inl e)
  have ht : tightI (between T b) = (lv : Int) + 1 := by
   by_cases e : tightI (between T b) = (lv : Int) + 1
   ·exact e
   ·exact absurd (.inr e) hc
  have hin := (between_in T b).resolve_left hb
  have hblt := between_lt hb
  obtain ⟨op,hop⟩ : ∃ op,between T b = op := ⟨_,rfl⟩
  have hlow : ∀ o u,R.wait = o :: u → tightI o ≤ (lv : Int) := hw.resolve_left (by omega)
  have hleft : leftI op = if lv = 2 then 4 else (lv : Int) + 1 := by
   unfold leftI
   rw [← hop,ht]
   split <;> split <;> omega
  have hfin : finish (leftI op) R1 = J R out b := by
   rw [h.fin (leftI op) (by rw [hleft];split <;> omega) (by rw [hleft];exact Int.le_refl _)]
   refine fin_base fun o u e => ?_
   have := hlow o u e
   rw [hleft]
   split <;> omega
  have htop : topIs R.wait (tightI op) = false := by
   cases hwt : R.wait with
   | nil => rfl
   | cons o u =>
    have := hlow o u hwt
    simp only [topIs]
    rw [beq_eq_false_iff_ne,← hop,ht]
    omega
  obtain ⟨R',hR'⟩ : ∃ R' : Rd,R' = ⟨b + 1,out,(out.length - 1) :: R.parts,op :: R.wait,R.within⟩ := ⟨_,rfl⟩
  have hmore : more T R1 = (true,R') := by
   unfold more
   rw [h.at_,hop,if_neg (by rw [beq_iff_eq,← hop];exact hb),hfin]
   rw [if_neg (by rw [show (J R out b).wait = R.wait from rfl,htop];decide),hR']
   rfl
  have hg' : Good 0 T R' := by
   have := (more_good h.good).1
   rw [hmore] at this
   exact (this rfl).1
  have hrun : whole 128 T R = whole 128 T R' := by
   rw [h.run,closes_stop (fun hcl => by rw [h.at_,not_close hb] at hcl;cases hcl.2)]
   unfold contW
   rw [hmore]
  have hlow' : LowW (lv + 1) R'.wait := by
   by_cases h5 : 5 ≤ lv + 1
   ·exact .inl h5
   ·refine .inr fun o u e => ?_
    rw [hR'] at e
    cases e
    rw [← hop,ht]
    omega
  have I := IH (lv + 1) R' (by omega) hg' hlow'
  unfold RdOk at I
  have e1 : R'.at_ = b + 1 := by rw [hR']
  have e2 : R'.nodes = out := by rw [hR']
  rw [e1,e2] at I
  cases hr : rdT f (lv + 1) T (b + 1) out with
  | none =>
   rw [hr] at I
   simp only at I ⊢
   intro hn
   rw [hrun]
   exact I (by omega)
  | some p =>
   obtain ⟨out2,c⟩ := p
   rw [hr] at I
   simp only at I ⊢
   obtain ⟨⟨R2,h2⟩,hlen2⟩ := I
   have hlt := h2.lt
   have hle := h2.le
   rw [e1] at hlt
   rw [hop]
   have hpop : ∀ least,1 ≤ least → least ≤ (lv : Int) + 1 → finish least R2 = finish least (J R (out2 ++ [opn op [out.length - 1,out2.length - 1]]) c) := by
    intro least l1 l2
    rw [h2.fin least l1 (by unfold limL;split <;> omega)]
    have hc2 : cnt op = 2 := cnt_bin (by rw [← hop];exact hin)
    have := fin_pop (least := least) (op := op) (R := R) (R' := R') (out := out) (out2 := out2) (c := c) (by rw [hR']) (by rw [← hop,ht];omega) (by rw [hR']) (by rw [hc2,hR'];rfl) (by rw [hc2,hR'];rfl)
    rw [hc2,if_neg (by decide)] at this
    exact this
   have hwth : R2.within = R.within := by rw [h2.wth,hR']
   have hlen3 : R.nodes.length < (out2 ++ [opn op [out.length - 1,out2.length - 1]]).length := by
    rw [List.length_append]
    omega
   by_cases hl2 : lv = 2
   ·rw [if_pos hl2]
    refine ⟨⟨R2,h2.good,by rw [hrun,h2.run],h2.at_,hwth,fun least l1 l2 => hpop least l1 ?_,?_,by have := h.lt;omega,hle⟩,hlen3⟩
    ·unfold limL at l2
     rw [if_neg (by omega)] at l2
     exact l2
    ·rcases h2.stop with h1 | h1 | h1
     ·exact .inl h1
     ·by_cases h3 : tightI (between T c) = 3
      ·refine .inr (.inr ⟨h3,?_⟩)
       rw [h2.fin 4 (by decide) (by unfold limL;rw [if_neg (by omega)];omega),fin_base (fun o u e => by rw [hR'] at e;cases e;rw [← hop,ht];omega)]
       show topIs R'.wait 3 = true
       rw [hR']
       simp only [topIs]
       rw [beq_iff_eq,← hop,ht]
       omega
      ·exact .inr (.inl (by omega))
     ·exact .inr (.inr h1)
   ·rw [if_neg hl2]
    have M := IM lv R (out2 ++ [opn op [out.length - 1,out2.length - 1]]) c R2 h4 g hw ⟨h2.good,by rw [hrun,h2.run],h2.at_,hwth,fun least l1 l2 => hpop least l1 (by rw [if_neg hl2] at l2;exact l2),by
     rcases h2.stop with h1 | h1 | h1
     ·exact .inl h1
     ·exact .inr (.inl (by omega))
     ·exact .inr (.inr h1),by have := h.lt;omega,hle⟩ hlen3
    unfold RmOk at M
    cases hm : rdM f lv T c (out2 ++ [opn op [out.length - 1,out2.length - 1]]) with
    | none =>
     rw [hm] at M
     simp only at M ⊢
     exact fun hn => M (by omega)
    | some p =>
     rw [hm] at M
     exact M
theorem tkAt_other {a : Nat} {x y : List UInt8} (h : tkAt T a x = true) (hne : x ≠ y) : tkAt T a y = false := by
 unfold tkAt at h ⊢
 split at h
 ·rename_i t e
  simp only [wordB,Bool.and_eq_true,beq_iff_eq] at h
  simp only [wordB,h.2]
  rw [beq_eq_false_iff_ne.2 hne,Bool.and_false]
 ·cases h
theorem ahead_no {R : Rd} (h1 : tkAt T R.at_ [110,111,116] = false) (h2 : tkAt T R.at_ [45] = false) (h3 : tkAt T R.at_ [40] = false) : ahead T R = none := by
 unfold ahead
 rw [h1,h2,h3]
 rfl
theorem readL_whole {lv : Nat} {R R1 : Rd} {out : List Nd} {b : Nat} (h5 : 5 ≤ lv) (he : R1 = J R out b) (hg : Good 1 T R1) (hr : whole 128 T R = contW 128 T (closes 128 T R1)) (h1 : R.at_ < b) (h2 : b ≤ T.length) : ReadL lv T R out b R1 :=
 ⟨hg,hr,by rw [he];rfl,by rw [he];rfl,fun _ _ _ => by rw [he],stop_high h5,h1,h2⟩
theorem cont_no {R1 : Rd} {b : Nat} (ha : R1.at_ = b) (hs : StopL 0 T R1 b) (hw : 0 < R1.within) (hc : tkAt T b [41] = false) : contW 128 T (closes 128 T R1) = none := by
 rw [closes_stop (fun h => by rw [ha,hc] at h;cases h.2)]
 have hz : ∀ r2 : Rd,r2.within = R1.within → ¬ (finish 1 r2).within = 0 := fun r2 e => by
  rw [(finish_at 1 r2).2,e]
  omega
 have key : ∃ r2,more T R1 = (false,r2) ∧ r2.within = R1.within := by
  rcases hs with h | h | ⟨h1,h2⟩
  ·refine ⟨R1,?_,rfl⟩
   unfold more
   rw [ha,h]
   rfl
  ·rcases between_in T b with h1 | h1
   ·refine ⟨R1,?_,rfl⟩
    unfold more
    rw [ha,h1]
    rfl
   ·have := (tight_bin h1).1
    omega
  ·have hl : leftI (between T b) = 4 := by unfold leftI;rw [if_pos h1]
   have hb : ¬ between T b = 0 := by
    intro e
    rw [e] at h1
    revert h1
    decide
   refine ⟨finish 4 R1,?_,(finish_at 4 R1).2⟩
   unfold more
   rw [ha,if_neg (by rw [beq_iff_eq];exact hb),hl,h1,if_pos h2]
 obtain ⟨r2,e1,e2⟩ := key
 unfold contW
 rw [e1]
 simp only
 rw [if_neg (hz r2 e2)]
theorem rd6 (hT : T.length < 128) (f : Nat) (IH : ∀ R',Good 0 T R' → LowW 0 R'.wait → RdOk f 0 T R') (R : Rd) (g : Good 0 T R) (hn : tkAt T R.at_ [110,111,116] = false) (hm : tkAt T R.at_ [45] = false) : RdOk (f + 1) 6 T R := by
 unfold RdOk
 rw [rdT,if_pos rfl]
 by_cases hi : tkAt T R.at_ [105,110] = true
 ·rw [if_pos hi]
  have hah := ahead_no hn hm (tkAt_other hi (by decide))
  have e1 : takes T [105,110] R = some { R with at_ := R.at_ + 1 } := by unfold takes;rw [if_pos hi]
  by_cases h1 : tkAt T (R.at_ + 1) [40] = true
  ·rw [if_pos h1]
   have e2 : takes T [40] { R with at_ := R.at_ + 1 } = some { R with at_ := R.at_ + 2 } := by unfold takes;rw [if_pos h1]
   cases hname : nameAt T (R.at_ + 2) with
   | none =>
    simp only
    intro _
    refine whole_noatom hah ?_
    unfold atom
    rw [e1]
    simp only
    rw [e2]
    simp only
    unfold rname
    simp only
    rw [hname]
   | some s =>
    simp only
    have e3 : rname 17 T { R with at_ := R.at_ + 2 } = some (J R (R.nodes ++ [⟨17,0,0,[],s,0,0⟩]) (R.at_ + 3)) := by
     unfold rname
     simp only
     rw [hname]
     simp [J,Rd.add]
    by_cases h3 : tkAt T (R.at_ + 3) [41] = true
    ·rw [if_pos h3]
     simp only
     have ha : atom T R = some (J R (R.nodes ++ [⟨17,0,0,[],s,0,0⟩]) (R.at_ + 4)) := by
      unfold atom
      rw [e1]
      simp only
      rw [e2]
      simp only
      rw [e3]
      simp only
      unfold takes
      rw [show (J R (R.nodes ++ [⟨17,0,0,[],s,0,0⟩]) (R.at_ + 3)).at_ = R.at_ + 3 from rfl,if_pos h3]
      rfl
     exact ⟨⟨_,readL_whole (by decide) rfl (atom_good g ha).1 (whole_atom hT g hah ha) (by omega) (tkAt_lt h3)⟩,by simp⟩
    ·rw [if_neg h3]
     simp only
     intro _
     refine whole_noatom hah ?_
     unfold atom
     rw [e1]
     simp only
     rw [e2]
     simp only
     rw [e3]
     simp only
     unfold takes
     rw [show (J R (R.nodes ++ [⟨17,0,0,[],s,0,0⟩]) (R.at_ + 3)).at_ = R.at_ + 3 from rfl,if_neg h3]
  ·rw [if_neg h1]
   simp only
   intro _
   refine whole_noatom hah ?_
   unfold atom
   rw [e1]
   simp only
   unfold takes
   simp only
   rw [if_neg h1]
 ·rw [if_neg hi]
  by_cases hp : tkAt T R.at_ [40] = true
  ·rw [if_pos hp]
   obtain ⟨R',hR'⟩ : ∃ R' : Rd,R' = ⟨R.at_ + 1,R.nodes,R.parts,-1 :: R.wait,R.within + 1⟩ := ⟨_,rfl⟩
   have hah : ahead T R = some R' := by
    unfold ahead
    rw [hn,hm,if_neg (by decide),if_neg (by decide),if_pos hp,hR']
   have hg := (ahead_good g hah).1
   have hrun := whole_aheadR hT hah
   have I := IH R' hg (.inr fun o u e => by rw [hR'] at e;cases e;decide)
   have hlt := tkAt_lt hp
   unfold RdOk at I
   rw [show R'.at_ = R.at_ + 1 by rw [hR'],show R'.nodes = R.nodes by rw [hR']] at I
   cases hr : rdT f 0 T (R.at_ + 1) R.nodes with
   | none =>
    rw [hr] at I
    simp only at I ⊢
    intro hnn
    rw [hrun]
    exact I (by omega)
   | some p =>
    obtain ⟨out,b⟩ := p
    rw [hr] at I
    simp only at I ⊢
    obtain ⟨⟨R1,h1⟩,hlen⟩ := I
    have hw1 : R1.within = R.within + 1 := by rw [h1.wth,hR']
    by_cases hcl : tkAt T b [41] = true
    ·rw [if_pos hcl]
     simp only
     have hfin : finish 1 R1 = J R' out b := by
      rw [h1.fin 1 (by decide) (by decide)]
      refine fin_base fun o u e => ?_
      rw [hR'] at e
      cases e
      decide
     have hc : close R1 = J R out (b + 1) := by
      rw [close_eq,hfin,h1.at_,hw1,hR']
      rfl
     have hcl' : 0 < R1.within ∧ tkAt T R1.at_ [41] = true := ⟨by omega,by rw [h1.at_];exact hcl⟩
     refine ⟨⟨_,readL_whole (by decide) hc (close_good h1.good hcl'.1 hcl'.2).1 ?_ (by have := h1.lt;rw [hR'] at this;simp only at this;omega) (tkAt_lt hcl)⟩,hlen⟩
     rw [hrun,h1.run,closes_step hT hcl']
    ·rw [if_neg hcl]
     simp only
     intro _
     rw [hrun,h1.run]
     exact cont_no h1.at_ h1.stop (by omega) (by simpa using hcl)
  ·rw [if_neg hp]
   have hah := ahead_no hn hm (by simpa using hp)
   have e1 : takes T [105,110] R = none := by unfold takes;rw [if_neg hi]
   cases hname : nameAt T R.at_ with
   | some s =>
    simp only
    have ha : atom T R = some (J R (R.nodes ++ [⟨16,0,0,[],s,0,0⟩]) (R.at_ + 1)) := by
     unfold atom
     rw [e1]
     simp only
     unfold rname
     rw [hname]
     simp [J,Rd.add]
    exact ⟨⟨_,readL_whole (by decide) rfl (atom_good g ha).1 (whole_atom hT g hah ha) (by omega) (nameAt_lt hname)⟩,by simp⟩
   | none =>
    simp only
    cases hv : valueAt T R.at_ with
    | some n =>
     simp only
     have ha : atom T R = some (J R (R.nodes ++ [n]) (R.at_ + 1)) := by
      unfold atom
      rw [e1]
      simp only
      unfold rname
      rw [hname]
      simp only
      unfold rvalue
      rw [hv]
      simp [J,Rd.add]
     exact ⟨⟨_,readL_whole (by decide) rfl (atom_good g ha).1 (whole_atom hT g hah ha) (by omega) (valueAt_lt hv)⟩,by simp⟩
    | none =>
     simp only
     intro _
     refine whole_noatom hah ?_
     unfold atom
     rw [e1]
     simp only
     unfold rname
     rw [hname]
     simp only
     unfold rvalue
     rw [hv]
theorem rd_sign (hT : T.length < 128) (f : Nat) (IH : ∀ R',Good 0 T R' → LowW 5 R'.wait → RdOk f 5 T R') (R R' : Rd) (g : Good 0 T R) {op : Int} (hop : op = 1 ∨ op = 2) (hah : ahead T R = some R') (hR' : R' = ⟨R.at_ + 1,R.nodes,R.parts,op :: R.wait,R.within⟩) :
  match rdT f 5 T (R.at_ + 1) R.nodes with
  | some (out,b) => (∃ R1,ReadL 5 T R (out ++ [opn op [out.length - 1]]) b R1) ∧ R.nodes.length < (out ++ [opn op [out.length - 1]]).length
  | none => 8 * (T.length - R.at_) + 2 ≤ f + 1 → whole 128 T R = none := by
 have hg := (ahead_good g hah).1
 have hrun := whole_aheadR hT hah
 have hlt := (ahead_at hah).2
 have I := IH R' hg (.inl (by decide))
 unfold RdOk at I
 rw [show R'.at_ = R.at_ + 1 by rw [hR'],show R'.nodes = R.nodes by rw [hR']] at I
 cases hr : rdT f 5 T (R.at_ + 1) R.nodes with
 | none =>
  rw [hr] at I
  simp only at I ⊢
  intro hnn
  rw [hrun]
  exact I (by omega)
 | some p =>
  obtain ⟨out,b⟩ := p
  rw [hr] at I
  simp only at I ⊢
  obtain ⟨⟨R1,h1⟩,hlen⟩ := I
  have hc1 : cnt op = 1 := by unfold cnt;rw [if_pos hop]
  have ht : tightI op = 6 := by rcases hop with rfl | rfl <;> decide
  refine ⟨⟨R1,h1.good,by rw [hrun,h1.run],h1.at_,by rw [h1.wth,hR'],fun least l1 l2 => ?_,stop_high (by decide),by have := h1.lt;rw [hR'] at this;simp only at this;omega,h1.le⟩,by rw [List.length_append];omega⟩
  rw [h1.fin least l1 l2]
  have l3 : least ≤ 6 := l2
  have := fin_pop (least := least) (op := op) (R := R) (R' := R') (out := []) (out2 := out) (c := b) (by rw [hR']) (by rw [ht];omega) (by rw [hR']) (by rw [hc1,hR'];rfl) (by rw [hc1,hR'];rfl)
  rw [hc1,if_pos rfl] at this
  exact this
theorem rdT_step (hT : T.length < 128) (f : Nat)
  (IH : ∀ lv R,lv ≤ 5 → Good 0 T R → LowW lv R.wait → RdOk f lv T R)
  (I6 : ∀ R,Good 0 T R → tkAt T R.at_ [110,111,116] = false → tkAt T R.at_ [45] = false → RdOk f 6 T R)
  (IM : ∀ lv R out b R1,lv ≤ 4 → Good 0 T R → LowW lv R.wait → ReadM lv T R out b R1 → R.nodes.length < out.length → RmOk f lv T R out b)
  (lv : Nat) (R : Rd) (h5 : lv ≤ 5) (g : Good 0 T R) (hw : LowW lv R.wait) : RdOk (f + 1) lv T R := by
 unfold RdOk
 rw [rdT,if_neg (by omega)]
 by_cases he : lv = 5
 ·subst he
  rw [if_pos rfl]
  by_cases hn : tkAt T R.at_ [110,111,116] = true
  ·rw [if_pos hn]
   have hah : ahead T R = some ⟨R.at_ + 1,R.nodes,R.parts,1 :: R.wait,R.within⟩ := by unfold ahead;rw [if_pos hn]
   have S := rd_sign hT f (fun R' g' w' => IH 5 R' (by decide) g' w') R _ g (.inl rfl) hah rfl
   cases hr : rdT f 5 T (R.at_ + 1) R.nodes with
   | none => rw [hr] at S;exact S
   | some p => rw [hr] at S;exact S
  ·rw [if_neg hn]
   by_cases hm : tkAt T R.at_ [45] = true
   ·rw [if_pos hm]
    have hah : ahead T R = some ⟨R.at_ + 1,R.nodes,R.parts,2 :: R.wait,R.within⟩ := by unfold ahead;rw [if_neg hn,if_pos hm]
    have S := rd_sign hT f (fun R' g' w' => IH 5 R' (by decide) g' w') R _ g (.inr rfl) hah rfl
    cases hr : rdT f 5 T (R.at_ + 1) R.nodes with
    | none => rw [hr] at S;exact S
    | some p => rw [hr] at S;exact S
   ·rw [if_neg hm]
    have I := I6 R g (by simpa using hn) (by simpa using hm)
    unfold RdOk at I
    cases hr : rdT f 6 T R.at_ R.nodes with
    | none =>
     rw [hr] at I
     simp only at I ⊢
     exact fun hnn => I (by omega)
    | some p =>
     obtain ⟨out,b⟩ := p
     rw [hr] at I
     simp only at I ⊢
     obtain ⟨⟨R1,h1⟩,hlen⟩ := I
     exact ⟨⟨R1,h1.good,h1.run,h1.at_,h1.wth,h1.fin,stop_high (by decide),h1.lt,h1.le⟩,hlen⟩
 ·rw [if_neg he]
  have I := IH (lv + 1) R (by omega) g (by
   rcases hw with h | h
   ·exact .inl (by omega)
   ·exact .inr fun o u e => by have := h o u e;omega)
  unfold RdOk at I
  cases hr : rdT f (lv + 1) T R.at_ R.nodes with
  | none =>
   rw [hr] at I
   simp only at I ⊢
   exact fun hnn => I (by omega)
  | some p =>
   obtain ⟨out,b⟩ := p
   rw [hr] at I
   simp only at I ⊢
   obtain ⟨⟨R1,h1⟩,hlen⟩ := I
   have M := IM lv R out b R1 (by omega) g hw (readM_of (by omega) h1) hlen
   unfold RmOk at M
   have := h1.lt
   have := h1.le
   cases hm : rdM f lv T b out with
   | none =>
    rw [hm] at M
    simp only at M ⊢
    exact fun hnn => M (by omega)
   | some p => rw [hm] at M;exact M
theorem rd_all (hT : T.length < 128) : ∀ f,(∀ lv R,lv ≤ 5 → Good 0 T R → LowW lv R.wait → RdOk f lv T R) ∧ (∀ R,Good 0 T R → tkAt T R.at_ [110,111,116] = false → tkAt T R.at_ [45] = false → RdOk f 6 T R) ∧
  (∀ lv R out b R1,lv ≤ 4 → Good 0 T R → LowW lv R.wait → ReadM lv T R out b R1 → R.nodes.length < out.length → RmOk f lv T R out b) := by
 intro f
 induction f with
 | zero =>
  refine ⟨fun lv R h _ _ => ?_,fun R _ _ _ => ?_,fun lv R out b R1 _ _ _ _ _ => ?_⟩
  ·unfold RdOk
   rw [rdT]
   intro hn
   omega
  ·unfold RdOk
   rw [rdT]
   intro hn
   omega
  ·unfold RmOk
   rw [rdM]
   intro hn
   omega
 | succ f ih =>
  obtain ⟨I1,I2,I3⟩ := ih
  exact ⟨fun lv R h g w => rdT_step hT f I1 I2 I3 lv R h g w,fun R g h1 h2 => rd6 hT f (fun R' g' w' => I1 0 R' (by decide) g' w') R g h1 h2,fun lv R out b R1 h g w m hl => rdM_step f I1 I3 lv R out b R1 h g w m hl⟩
theorem finL_two {l1 l2 : Int} (h : l1 ≤ l2) : ∀ (ws : List Int) (r : Rd),finL l1 (finL l2 ws r).wait (finL l2 ws r) = finL l1 ws r
 | [],r => by simp [finL]
 | op :: ws,r => by
  rw [finL]
  split
  ·rename_i ht
   simp only
   rw [finL,finL]
   split <;> rfl
  ·rename_i ht
   rw [finL_two h ws,finL,if_neg (by omega)]
theorem whole_rd (hT : T.length < 128) (a : Nat) (ha : a ≤ T.length) : whole 128 T ⟨a,[],[],[],0⟩ = match rdT 1100 0 T a [] with
  | some (out,b) => some ⟨b,out,[out.length - 1],[],0⟩
  | none => none := by
 have I := (rd_all hT 1100).1 0 ⟨a,[],[],[],0⟩ (by decide) (good_start T a ha) (.inr fun o u e => by cases e)
 unfold RdOk at I
 simp only at I
 cases hr : rdT 1100 0 T a [] with
 | none =>
  rw [hr] at I
  simp only at I ⊢
  exact I (by omega)
 | some p =>
  obtain ⟨out,b⟩ := p
  rw [hr] at I
  simp only at I ⊢
  obtain ⟨⟨R1,h1⟩,_⟩ := I
  have hw : R1.within = 0 := h1.wth
  have hJ : finish 1 R1 = ⟨b,out,[out.length - 1],[],0⟩ := h1.fin 1 (by decide) (by decide)
  rw [h1.run,closes_stop (fun h => by omega)]
  have key : ∃ r2,more T R1 = (false,r2) ∧ finish 1 r2 = finish 1 R1 := by
   rcases h1.stop with h | h | ⟨h2,h3⟩
   ·refine ⟨R1,?_,rfl⟩
    unfold more
    rw [h1.at_,h]
    rfl
   ·rcases between_in T b with h2 | h2
    ·refine ⟨R1,?_,rfl⟩
     unfold more
     rw [h1.at_,h2]
     rfl
    ·have := (tight_bin h2).1
     omega
   ·have hl : leftI (between T b) = 4 := by unfold leftI;rw [if_pos h2]
    have hb : ¬ between T b = 0 := by
     intro e
     rw [e] at h2
     revert h2
     decide
    refine ⟨finish 4 R1,?_,finL_two (by decide) _ _⟩
    unfold more
    rw [h1.at_,if_neg (by rw [beq_iff_eq];exact hb),hl,h2,if_pos h3]
  obtain ⟨r2,e1,e2⟩ := key
  unfold contW
  rw [e1]
  simp only
  rw [e2,hJ,if_pos rfl]
end
end Go.Proofs.YtpgibloeinphaaaGreatDoor
namespace Go.Proofs.YtpgibloeinphaaaGreatDoor
inductive ExT
 | num (n : Int)
 | tru (b : Bool)
 | quo (s : List UInt8)
 | name (s : List UInt8)
 | ins (s : List UInt8)
 | sgn (neg : Bool) (e : ExT)
 | bin (op : Int) (l r : ExT)
def sizeE : ExT → Nat
 | .sgn _ e => sizeE e + 1
 | .bin _ l r => sizeE l + sizeE r + 1
 | _ => 1
def flatE : Nat → ExT → List Nd
 | _,.num n => [⟨0,1,n,[],[],0,0⟩]
 | _,.tru b => [⟨0,2,if b then 1 else 0,[],[],0,0⟩]
 | _,.quo s => [⟨0,3,0,s,[],0,0⟩]
 | _,.name s => [⟨16,0,0,[],s,0,0⟩]
 | _,.ins s => [⟨17,0,0,[],s,0,0⟩]
 | o,.sgn neg e => flatE o e ++ [opn (if neg then 2 else 1) [o + sizeE e - 1]]
 | o,.bin op l r => flatE o l ++ flatE (o + sizeE l) r ++ [opn op [o + sizeE l - 1,o + sizeE l + sizeE r - 1]]
theorem flatE_len : ∀ (e : ExT) (o : Nat),(flatE o e).length = sizeE e
 | .num _,_ | .tru _,_ | .quo _,_ | .name _,_ | .ins _,_ => rfl
 | .sgn _ e,o => by simp [flatE,sizeE,flatE_len e]
 | .bin _ l r,o => by simp [flatE,sizeE,flatE_len l,flatE_len r];omega
def topE : ExT → Int
 | .bin op _ _ => tightI op
 | _ => 6
def okE : ExT → Prop
 | .num _ => True
 | .tru _ => True
 | .quo _ => True
 | .name s => nmB s = true
 | .ins s => nmB s = true
 | .sgn _ e => okE e
 | .bin op l r => (3 ≤ op ∧ op ≤ 15) ∧ okE l ∧ okE r
abbrev Ky := Int × List UInt8 × Int
def opK (op : Int) : Ky := (if op = 14 ∨ op = 15 then 1 else 5,signL.getD op.toNat [],0)
def toksE (dg : Int → List UInt8) : ExT → List Ky
 | .num n => [(3,dg n,n)]
 | .tru b => [(1,if b then [116,114,117,101] else [102,97,108,115,101],0)]
 | .quo s => [(4,s,0)]
 | .name s => [(1,s,0)]
 | .ins s => [(1,[105,110],0),(5,[40],0),(1,s,0),(5,[41],0)]
 | .sgn neg e => (if neg then (5,[45],0) else (1,[110,111,116],0)) :: (if topE e < 6 then (5,[40],0) :: toksE dg e ++ [(5,[41],0)] else toksE dg e)
 | .bin op l r => (if topE l < leftI op then (5,[40],0) :: toksE dg l ++ [(5,[41],0)] else toksE dg l) ++ opK op :: (if topE r < tightI op + 1 then (5,[40],0) :: toksE dg r ++ [(5,[41],0)] else toksE dg r)
def partK (dg : Int → List UInt8) (least : Int) (e : ExT) : List Ky := if topE e < least then (5,[40],0) :: toksE dg e ++ [(5,[41],0)] else toksE dg e
theorem toks_sgn (dg : Int → List UInt8) (neg : Bool) (e : ExT) : toksE dg (.sgn neg e) = (if neg then (5,[45],0) else (1,[110,111,116],0)) :: partK dg 6 e := by rw [toksE,partK]
theorem toks_bin (dg : Int → List UInt8) (op : Int) (l r : ExT) : toksE dg (.bin op l r) = partK dg (leftI op) l ++ opK op :: partK dg (tightI op + 1) r := by rw [toksE,partK,partK]
def KeysAt (T : List Tk) (a : Nat) (ks : List Ky) : Prop := ∀ j (h : j < ks.length),∃ t,T[a + j]? = some t ∧ key t = ks[j]
theorem keys_cons {T : List Tk} {a : Nat} {k : Ky} {ks : List Ky} (h : KeysAt T a (k :: ks)) : (∃ t,T[a]? = some t ∧ key t = k) ∧ KeysAt T (a + 1) ks := by
 refine ⟨h 0 (by simp),fun j hj => ?_⟩
 have := h (j + 1) (by simpa using hj)
 rw [show a + 1 + j = a + (j + 1) by omega]
 simpa using this
theorem keys_append {T : List Tk} {a : Nat} {ks js : List Ky} (h : KeysAt T a (ks ++ js)) : KeysAt T a ks ∧ KeysAt T (a + ks.length) js := by
 refine ⟨fun j hj => ?_,fun j hj => ?_⟩
 ·have := h j (by rw [List.length_append];omega)
  rwa [List.getElem_append_left hj] at this
 ·have := h (ks.length + j) (by rw [List.length_append];omega)
  rw [List.getElem_append_right (by omega)] at this
  rw [show a + ks.length + j = a + (ks.length + j) by omega]
  simpa using this
section
variable {T : List Tk} {a : Nat}
theorem tkAt_ky {t : Tk} {k : Int} {s : List UInt8} {n : Int} (h : T[a]? = some t) (hk : key t = (k,s,n)) (x : List UInt8) : tkAt T a x = ((k == 1 || k == 5) && s == x) := by
 unfold key at hk
 simp only [Prod.mk.injEq] at hk
 unfold tkAt
 rw [h]
 simp only [wordB]
 rw [hk.1,hk.2.1]
theorem nameAt_ky {t : Tk} {k : Int} {s : List UInt8} {n : Int} (h : T[a]? = some t) (hk : key t = (k,s,n)) : nameAt T a = if k == 1 && !meansB s then some s else none := by
 unfold key at hk
 simp only [Prod.mk.injEq] at hk
 unfold nameAt
 rw [h]
 simp only
 rw [hk.1,hk.2.1]
theorem between_ky {t : Tk} {op : Int} (h : T[a]? = some t) (hk : key t = opK op) (ho : 3 ≤ op ∧ op ≤ 15) : between T a = op := by
 obtain ⟨k,s,n,p⟩ := t
 unfold key opK at hk
 simp only [Prod.mk.injEq] at hk
 obtain ⟨rfl,rfl,_⟩ := hk
 unfold between
 rw [h]
 rcases (by omega : op = 3 ∨ op = 4 ∨ op = 5 ∨ op = 6 ∨ op = 7 ∨ op = 8 ∨ op = 9 ∨ op = 10 ∨ op = 11 ∨ op = 12 ∨ op = 13 ∨ op = 14 ∨ op = 15) with rfl | rfl | rfl | rfl | rfl | rfl | rfl | rfl | rfl | rfl | rfl | rfl | rfl <;> rfl
theorem between_shut {t : Tk} (h : T[a]? = some t) (hk : key t = (5,[41],0)) : between T a = 0 := by
 obtain ⟨k,s,n,p⟩ := t
 unfold key at hk
 simp only [Prod.mk.injEq] at hk
 obtain ⟨rfl,rfl,_⟩ := hk
 unfold between
 rw [h]
 rfl
end
theorem rd_mono (T : List Tk) : ∀ f : Nat,(∀ (lv a : Nat) (ns : List Nd) (x : List Nd × Nat),rdT f lv T a ns = some x → rdT (f + 1) lv T a ns = some x) ∧ (∀ (lv b : Nat) (out : List Nd) (x : List Nd × Nat),rdM f lv T b out = some x → rdM (f + 1) lv T b out = some x) := by
 intro f
 induction f with
 | zero => exact ⟨fun lv a ns x h => (by rw [rdT] at h;cases h),fun lv b out x h => (by rw [rdM] at h;cases h)⟩
 | succ f ih =>
  obtain ⟨I,M⟩ := ih
  refine ⟨fun lv a ns x h => ?_,fun lv b out x h => ?_⟩
  ·rw [rdT] at h ⊢
   split at h
   ·rename_i h6
    rw [if_pos h6]
    split at h
    ·rename_i hi
     rw [if_pos hi]
     exact h
    ·rename_i hi
     rw [if_neg hi]
     split at h
     ·rename_i hp
      rw [if_pos hp]
      split at h
      ·rename_i out b hr
       rw [I _ _ _ _ hr]
       exact h
      ·cases h
     ·rename_i hp
      rw [if_neg hp]
      exact h
   ·rename_i h6
    rw [if_neg h6]
    split at h
    ·rename_i h5
     rw [if_pos h5]
     split at h
     ·rename_i hn
      rw [if_pos hn]
      split at h
      ·rename_i out b hr
       rw [I _ _ _ _ hr]
       exact h
      ·cases h
     ·rename_i hn
      rw [if_neg hn]
      split at h
      ·rename_i hm
       rw [if_pos hm]
       split at h
       ·rename_i out b hr
        rw [I _ _ _ _ hr]
        exact h
       ·cases h
      ·rename_i hm
       rw [if_neg hm]
       exact I _ _ _ _ h
    ·rename_i h5
     rw [if_neg h5]
     split at h
     ·rename_i out b hr
      rw [I _ _ _ _ hr]
      exact M _ _ _ _ h
     ·cases h
  ·rw [rdM] at h ⊢
   split at h
   ·rename_i hc
    rw [if_pos hc]
    exact h
   ·rename_i hc
    rw [if_neg hc]
    split at h
    ·rename_i out2 c hr
     rw [I _ _ _ _ hr]
     simp only
     split at h
     ·rename_i h2
      rw [if_pos h2]
      exact h
     ·rename_i h2
      rw [if_neg h2]
      exact M _ _ _ _ h
    ·cases h
def Rds (T : List Tk) (lv a : Nat) (ns : List Nd) (x : List Nd × Nat) : Prop := ∃ f,∀ g,rdT (f + g) lv T a ns = some x
def Rms (T : List Tk) (lv b : Nat) (out : List Nd) (x : List Nd × Nat) : Prop := ∃ f,∀ g,rdM (f + g) lv T b out = some x
theorem rds_of {T : List Tk} {f lv a : Nat} {ns : List Nd} {x : List Nd × Nat} (h : rdT f lv T a ns = some x) : Rds T lv a ns x := by
 refine ⟨f,fun g => ?_⟩
 induction g with
 | zero => exact h
 | succ g ih => exact (rd_mono T (f + g)).1 _ _ _ _ ih
section
variable {T : List Tk}
theorem rds_up {lv a b : Nat} {ns out : List Nd} {x : List Nd × Nat} (h4 : lv ≤ 4) (h : Rds T (lv + 1) a ns (out,b)) (m : Rms T lv b out x) : Rds T lv a ns x := by
 obtain ⟨f1,h1⟩ := h
 obtain ⟨f2,h2⟩ := m
 refine ⟨f1 + f2 + 1,fun g => ?_⟩
 rw [show f1 + f2 + 1 + g = (f1 + (f2 + g)) + 1 by omega,rdT,if_neg (by omega),if_neg (by omega),h1]
 simp only
 rw [show f1 + (f2 + g) = f2 + (f1 + g) by omega]
 exact h2 _
theorem rms_stop {lv b : Nat} {out : List Nd} (h : between T b = 0 ∨ tightI (between T b) ≠ (lv : Int) + 1) : Rms T lv b out (out,b) :=
 ⟨1,fun g => by rw [show 1 + g = g + 1 by omega,rdM,if_pos h]⟩
theorem rms_only {lv b : Nat} {out : List Nd} {x : List Nd × Nat} (h : between T b = 0 ∨ tightI (between T b) ≠ (lv : Int) + 1) (m : Rms T lv b out x) : x = (out,b) := by
 obtain ⟨f,hf⟩ := m
 have := hf 1
 rw [rdM,if_pos h] at this
 exact (Option.some.inj this).symm
theorem rms_go {lv b c : Nat} {out out2 : List Nd} {op : Int} {x : List Nd × Nat} (h : between T b = op) (h0 : ¬ op = 0) (ht : tightI op = (lv : Int) + 1) (hr : Rds T (lv + 1) (b + 1) out (out2,c))
  (hm : if lv = 2 then x = (out2 ++ [opn op [out.length - 1,out2.length - 1]],c) else Rms T lv c (out2 ++ [opn op [out.length - 1,out2.length - 1]]) x) : Rms T lv b out x := by
 obtain ⟨f1,h1⟩ := hr
 have hcond : ¬ (between T b = 0 ∨ tightI (between T b) ≠ (lv : Int) + 1) := by
  rw [h]
  intro e
  rcases e with e | e
  ·exact h0 e
  ·exact e ht
 by_cases h2 : lv = 2
 ·rw [if_pos h2] at hm
  refine ⟨f1 + 1,fun g => ?_⟩
  rw [show f1 + 1 + g = (f1 + g) + 1 by omega,rdM,if_neg hcond,h1]
  simp only
  rw [if_pos h2,h,hm]
 ·rw [if_neg h2] at hm
  obtain ⟨f2,hf2⟩ := hm
  refine ⟨f1 + f2 + 1,fun g => ?_⟩
  rw [show f1 + f2 + 1 + g = (f1 + (f2 + g)) + 1 by omega,rdM,if_neg hcond,h1]
  simp only
  rw [if_neg h2,h,show f1 + (f2 + g) = f2 + (f1 + g) by omega]
  exact hf2 _
theorem rds_sgn {a b : Nat} {ns out : List Nd} {neg : Bool} (h : ∃ t,T[a]? = some t ∧ key t = (if neg then ((5,[45],0) : Ky) else (1,[110,111,116],0))) (hr : Rds T 5 (a + 1) ns (out,b)) : Rds T 5 a ns (out ++ [opn (if neg then 2 else 1) [out.length - 1]],b) := by
 obtain ⟨f,hf⟩ := hr
 obtain ⟨t,h1,h2⟩ := h
 refine ⟨f + 1,fun g => ?_⟩
 rw [show f + 1 + g = (f + g) + 1 by omega,rdT,if_neg (by omega),if_pos rfl]
 cases neg
 ·have e : tkAt T a [110,111,116] = true := by rw [tkAt_ky h1 h2];rfl
  rw [if_pos e,hf]
  rfl
 ·have e : tkAt T a [110,111,116] = false := by rw [tkAt_ky h1 h2];rfl
  have e2 : tkAt T a [45] = true := by rw [tkAt_ky h1 h2];rfl
  rw [if_neg (by rw [e];decide),if_pos e2,hf]
  rfl
theorem rds_one {a : Nat} {ns : List Nd} {x : List Nd × Nat} (h1 : tkAt T a [110,111,116] = false) (h2 : tkAt T a [45] = false) (hr : Rds T 6 a ns x) : Rds T 5 a ns x := by
 obtain ⟨f,hf⟩ := hr
 refine ⟨f + 1,fun g => ?_⟩
 rw [show f + 1 + g = (f + g) + 1 by omega,rdT,if_neg (by omega),if_pos rfl,if_neg (by rw [h1];decide),if_neg (by rw [h2];decide)]
 exact hf _
theorem rds_paren {a b : Nat} {ns out : List Nd} (h1 : ∃ t,T[a]? = some t ∧ key t = ((5,[40],0) : Ky)) (hr : Rds T 0 (a + 1) ns (out,b)) (h2 : ∃ t,T[b]? = some t ∧ key t = ((5,[41],0) : Ky)) : Rds T 5 a ns (out,b + 1) := by
 obtain ⟨f,hf⟩ := hr
 obtain ⟨t,h1,k1⟩ := h1
 obtain ⟨u,h2,k2⟩ := h2
 refine rds_one (by rw [tkAt_ky h1 k1];rfl) (by rw [tkAt_ky h1 k1];rfl) ⟨f + 1,fun g => ?_⟩
 have e1 : tkAt T a [105,110] = false := by rw [tkAt_ky h1 k1];rfl
 have e2 : tkAt T a [40] = true := by rw [tkAt_ky h1 k1];rfl
 have e3 : tkAt T b [41] = true := by rw [tkAt_ky h2 k2];rfl
 rw [show f + 1 + g = (f + g) + 1 by omega,rdT,if_pos rfl,if_neg (by rw [e1];decide),if_pos e2,hf]
 simp only
 rw [if_pos e3]
theorem rds_down {a b : Nat} {ns out : List Nd} : ∀ (d lv : Nat) {x : List Nd × Nat},lv + d ≤ 4 → Rds T (lv + d + 1) a ns (out,b) → (between T b = 0 ∨ tightI (between T b) ≤ (lv : Int) + 1) → Rms T lv b out x → Rds T lv a ns x
 | 0,lv,x,h4,h,_,m => rds_up (by omega) h m
 | d + 1,lv,x,h4,h,hs,m => by
  refine rds_up (by omega) (rds_down d (lv + 1) (by omega) (by rw [show lv + 1 + d + 1 = lv + (d + 1) + 1 by omega];exact h) ?_ (rms_stop ?_)) m
  ·rcases hs with h1 | h1
   ·exact .inl h1
   ·exact .inr (by omega)
  ·rcases hs with h1 | h1
   ·exact .inl h1
   ·exact .inr (by omega)
theorem rds_from5 {a b : Nat} {ns out : List Nd} {lv : Nat} {x : List Nd × Nat} (h4 : lv ≤ 4) (h : Rds T 5 a ns (out,b)) (hs : between T b = 0 ∨ tightI (between T b) ≤ (lv : Int) + 1) (m : Rms T lv b out x) : Rds T lv a ns x :=
 rds_down (4 - lv) lv (by omega) (by rw [show lv + (4 - lv) + 1 = 5 by omega];exact h) hs m
def NextE (T : List Tk) (lv b : Nat) (top : Int) : Prop := between T b = 0 ∨ tightI (between T b) ≤ (lv : Int) ∨ (tightI (between T b) = (lv : Int) + 1 ∧ ¬ (lv = 2 ∧ top = 3))
def ReadsE (dg : Int → List UInt8) (e : ExT) : Prop := ∀ (T : List Tk) (a : Nat) (ns : List Nd),KeysAt T a (toksE dg e) →
 (topE e = 6 → Rds T 5 a ns (ns ++ flatE ns.length e,a + (toksE dg e).length)) ∧
 ∀ (lv : Nat) (x : List Nd × Nat),lv ≤ 4 → (lv : Int) + 1 ≤ topE e → NextE T lv (a + (toksE dg e).length) (topE e) → Rms T lv (a + (toksE dg e).length) (ns ++ flatE ns.length e) x → Rds T lv a ns x
theorem next_low {lv b : Nat} {top : Int} (h : NextE T lv b top) : between T b = 0 ∨ tightI (between T b) ≤ (lv : Int) + 1 := by
 rcases h with h | h | h
 ·exact .inl h
 ·exact .inr (by omega)
 ·exact .inr (by omega)
theorem reads_tight {dg : Int → List UInt8} {e : ExT} (h : ∀ (T : List Tk) (a : Nat) (ns : List Nd),KeysAt T a (toksE dg e) → Rds T 5 a ns (ns ++ flatE ns.length e,a + (toksE dg e).length)) : ReadsE dg e := fun T a ns hk =>
 ⟨fun _ => h T a ns hk,fun _ _ h4 _ hn m => rds_from5 h4 (h T a ns hk) (next_low hn) m⟩
theorem reads_part {dg : Int → List UInt8} {e : ExT} (h : ReadsE dg e) (h1 : 1 ≤ topE e) (least : Int) (a : Nat) (ns : List Nd) (hk : KeysAt T a (partK dg least e)) :
  (least = 6 → topE e ≤ 6 → Rds T 5 a ns (ns ++ flatE ns.length e,a + (partK dg least e).length)) ∧
  ∀ (lv : Nat) (x : List Nd × Nat),lv ≤ 4 → (lv : Int) + 1 ≤ least → (between T (a + (partK dg least e).length) = 0 ∨ tightI (between T (a + (partK dg least e).length)) ≤ (lv : Int) ∨ (tightI (between T (a + (partK dg least e).length)) = (lv : Int) + 1 ∧ ¬ (lv = 2 ∧ least ≤ 3))) → Rms T lv (a + (partK dg least e).length) (ns ++ flatE ns.length e) x → Rds T lv a ns x := by
 unfold partK at hk ⊢
 by_cases hp : topE e < least
 ·rw [if_pos hp] at hk ⊢
  obtain ⟨k1,hk⟩ := keys_cons hk
  obtain ⟨hk,k2⟩ := keys_append hk
  obtain ⟨k2,_⟩ := keys_cons k2
  obtain ⟨_,hr⟩ := h T (a + 1) ns hk
  have hb : between T (a + 1 + (toksE dg e).length) = 0 := by
   obtain ⟨t,e1,e2⟩ := k2
   exact between_shut e1 e2
  have hlen : a + ((5,[40],0) :: toksE dg e ++ [((5,[41],0) : Ky)]).length = a + 1 + (toksE dg e).length + 1 := by simp;omega
  have h5 := rds_paren k1 (hr 0 _ (by decide) (by simpa using h1) (.inl hb) (rms_stop (.inl hb))) k2
  rw [hlen]
  exact ⟨fun _ _ => h5,fun lv x h4 _ hn m => rds_from5 h4 h5 (by
   rcases hn with hn | hn | hn
   ·exact .inl hn
   ·exact .inr (by omega)
   ·exact .inr (by omega)) m⟩
 ·rw [if_neg hp] at hk ⊢
  obtain ⟨h5,hr⟩ := h T a ns hk
  refine ⟨fun e6 e7 => h5 (by omega),fun lv x h4 hl hn m => hr lv x h4 (by omega) ?_ m⟩
  rcases hn with hn | hn | hn
  ·exact .inl hn
  ·exact .inr (.inl hn)
  ·exact .inr (.inr ⟨hn.1,fun h2 => hn.2 ⟨h2.1,by omega⟩⟩)
theorem top_pos (e : ExT) (h : okE e) : 1 ≤ topE e ∧ topE e ≤ 6 := by
 cases e with
 | bin op l r =>
  have := tight_bin h.1
  simp only [topE]
  omega
 | _ => simp [topE]
theorem nm_not {s x : List UInt8} (h : nmB s = true) (hx : nmB x = false) : (s == x) = false := by
 rw [beq_eq_false_iff_ne]
 rintro rfl
 rw [h] at hx
 cases hx
theorem nameW (s : List UInt8) (h : nmB s = true) : meansB s = false := by
 unfold nmB at h
 simp only [Bool.and_eq_true,Bool.not_eq_true'] at h
 exact h.2
theorem leaf5 {a : Nat} {ns : List Nd} {x : List Nd × Nat} {t : Tk} {k : Int} {s : List UInt8} {n : Int} (h : T[a]? = some t) (hk : key t = (k,s,n)) (h1 : ((k == 1 || k == 5) && s == [110,111,116]) = false) (h2 : ((k == 1 || k == 5) && s == [45]) = false) (hr : Rds T 6 a ns x) : Rds T 5 a ns x :=
 rds_one (by rw [tkAt_ky h hk];exact h1) (by rw [tkAt_ky h hk];exact h2) hr
theorem rds_val {a : Nat} {ns : List Nd} {t : Tk} {k : Int} {s : List UInt8} {n : Int} {v : Nd} (h : T[a]? = some t) (hk : key t = (k,s,n)) (h1 : ((k == 1 || k == 5) && s == [105,110]) = false) (h2 : ((k == 1 || k == 5) && s == [40]) = false) (h3 : (k == 1 && !meansB s) = false) (hv : valueAt T a = some v) : Rds T 6 a ns (ns ++ [v],a + 1) := by
 refine rds_of (f := 1) ?_
 rw [rdT,if_pos rfl,if_neg (by rw [tkAt_ky h hk,h1];decide),if_neg (by rw [tkAt_ky h hk,h2];decide),nameAt_ky h hk,h3]
 rw [if_neg (by decide)]
 simp only
 rw [hv]
theorem valueAt_ky {a : Nat} {t : Tk} {k : Int} {s : List UInt8} {n : Int} (h : T[a]? = some t) (hk : key t = (k,s,n)) : valueAt T a = if k == 3 then some ⟨0,1,n,[],[],0,0⟩ else if k == 4 then some ⟨0,3,0,s,[],0,0⟩ else if (k == 1 || k == 5) && s == [116,114,117,101] then some ⟨0,2,1,[],[],0,0⟩ else if (k == 1 || k == 5) && s == [102,97,108,115,101] then some ⟨0,2,0,[],[],0,0⟩ else none := by
 obtain ⟨k',s',n',p⟩ := t
 unfold key at hk
 simp only [Prod.mk.injEq] at hk
 obtain ⟨rfl,rfl,rfl⟩ := hk
 unfold valueAt
 rw [h]
 rfl
end
theorem reads_all (dg : Int → List UInt8) : ∀ e : ExT,okE e → ReadsE dg e
 | .num n,_ => reads_tight fun T a ns hk => by
  obtain ⟨⟨t,h1,h2⟩,_⟩ := keys_cons hk
  exact leaf5 h1 h2 rfl rfl (rds_val h1 h2 rfl rfl rfl (by rw [valueAt_ky h1 h2];rfl))
 | .tru b,_ => reads_tight fun T a ns hk => by
  obtain ⟨⟨t,h1,h2⟩,_⟩ := keys_cons hk
  cases b
  ·exact leaf5 h1 h2 rfl rfl (rds_val h1 h2 rfl rfl (by decide) (by rw [valueAt_ky h1 h2];rfl))
  ·exact leaf5 h1 h2 rfl rfl (rds_val h1 h2 rfl rfl (by decide) (by rw [valueAt_ky h1 h2];rfl))
 | .quo s,_ => reads_tight fun T a ns hk => by
  obtain ⟨⟨t,h1,h2⟩,_⟩ := keys_cons hk
  exact leaf5 h1 h2 rfl rfl (rds_val h1 h2 rfl rfl rfl (by rw [valueAt_ky h1 h2];rfl))
 | .name s,ho => reads_tight fun T a ns hk => by
  obtain ⟨⟨t,h1,h2⟩,_⟩ := keys_cons hk
  have hm := nameW s ho
  have hq : ∀ x,nmB x = false → (((1 : Int) == 1 || (1 : Int) == 5) && s == x) = false := fun x hx => by rw [nm_not ho hx];rfl
  refine leaf5 h1 h2 (hq _ (by decide)) (hq _ (by decide)) (rds_of (f := 1) ?_)
  rw [rdT,if_pos rfl,if_neg (by rw [tkAt_ky h1 h2,hq _ (by decide)];decide),if_neg (by rw [tkAt_ky h1 h2,hq _ (by decide)];decide),nameAt_ky h1 h2,hm]
  rfl
 | .ins s,ho => reads_tight fun T a ns hk => by
  obtain ⟨⟨t,h1,h2⟩,hk⟩ := keys_cons hk
  obtain ⟨⟨t3,h3,h4⟩,hk⟩ := keys_cons hk
  obtain ⟨⟨t5,h5,h6⟩,hk⟩ := keys_cons hk
  obtain ⟨⟨t7,h7,h8⟩,_⟩ := keys_cons hk
  have hm := nameW s ho
  refine leaf5 h1 h2 rfl rfl (rds_of (f := 1) ?_)
  have e5 : nameAt T (a + 2) = some s := by rw [nameAt_ky h5 h6,hm];rfl
  rw [rdT,if_pos rfl,if_pos (by rw [tkAt_ky h1 h2];rfl),if_pos (by rw [tkAt_ky h3 h4];rfl),e5]
  simp only
  rw [if_pos (by rw [tkAt_ky h7 h8];rfl)]
  rfl
 | .sgn neg e,ho => reads_tight fun T a ns hk => by
  rw [toks_sgn] at hk ⊢
  obtain ⟨hs,hk⟩ := keys_cons hk
  have hp := top_pos e ho
  have h5 := (reads_part (reads_all dg e ho) hp.1 6 (a + 1) ns hk).1 rfl hp.2
  have := rds_sgn hs h5
  rw [flatE,← List.append_assoc,List.length_cons,show a + ((partK dg 6 e).length + 1) = a + 1 + (partK dg 6 e).length by omega]
  rw [List.length_append,flatE_len] at this
  exact this
 | .bin op l r,ho => by
  obtain ⟨hop,hl,hr⟩ := ho
  have ht := tight_bin hop
  have hpl := top_pos l hl
  have hpr := top_pos r hr
  have IL := reads_all dg l hl
  have IR := reads_all dg r hr
  have hleft : leftI op = if tightI op = 3 then 4 else tightI op := rfl
  intro T a ns hk
  rw [toks_bin] at hk ⊢
  refine ⟨fun h6 => by simp only [topE] at h6;omega,?_⟩
  obtain ⟨kl,hk⟩ := keys_append hk
  obtain ⟨⟨t,h1,h2⟩,kr⟩ := keys_cons hk
  have hb : between T (a + (partK dg (leftI op) l).length) = op := between_ky h1 h2 hop
  have hlen : a + (partK dg (leftI op) l ++ opK op :: partK dg (tightI op + 1) r).length = a + (partK dg (leftI op) l).length + 1 + (partK dg (tightI op + 1) r).length := by
   rw [List.length_append,List.length_cons]
   omega
  have RL := reads_part (T := T) IL hpl.1 (leftI op) a ns kl
  have RR := reads_part (T := T) IR hpr.1 (tightI op + 1) (a + (partK dg (leftI op) l).length + 1) (ns ++ flatE ns.length l) kr
  rw [hlen]
  generalize a + (partK dg (leftI op) l).length + 1 + (partK dg (tightI op + 1) r).length = b at *
  generalize a + (partK dg (leftI op) l).length = b1 at *
  obtain ⟨lv0,hlv⟩ : ∃ k : Nat,tightI op = (k : Int) + 1 := ⟨(tightI op - 1).toNat,by omega⟩
  have hflat : ns ++ flatE ns.length (.bin op l r) = (ns ++ flatE ns.length l ++ flatE (ns ++ flatE ns.length l).length r) ++ [opn op [(ns ++ flatE ns.length l).length - 1,(ns ++ flatE ns.length l ++ flatE (ns ++ flatE ns.length l).length r).length - 1]] := by
   rw [flatE]
   simp only [List.length_append,flatE_len,List.append_assoc,Nat.add_assoc]
  have own : ∀ x,NextE T lv0 b (tightI op) → Rms T lv0 b (ns ++ flatE ns.length (.bin op l r)) x → Rds T lv0 a ns x := by
   intro x hn m
   have hlow := next_low hn
   refine RL.2 lv0 x (by omega) (by rw [hleft];split <;> omega) (.inr (.inr ⟨by rw [hb];exact hlv,fun hc => by have := hc.2;rw [hleft] at this;rw [if_pos (by omega)] at this;omega⟩)) ?_
   refine rms_go hb (by omega) hlv (out2 := ns ++ flatE ns.length l ++ flatE (ns ++ flatE ns.length l).length r) (c := b) ?_ ?_
   ·by_cases h4 : lv0 = 4
    ·subst h4
     exact RR.1 (by omega) hpr.2
    ·refine RR.2 (lv0 + 1) _ (by omega) (by omega) ?_ (rms_stop ?_)
     ·rcases hlow with h | h
      ·exact .inl h
      ·exact .inr (.inl (by omega))
     ·rcases hlow with h | h
      ·exact .inl h
      ·exact .inr (by omega)
   ·rw [← hflat]
    split
    ·rename_i h2
     refine rms_only ?_ m
     rcases hn with h | h | h
     ·exact .inl h
     ·exact .inr (by omega)
     ·exact absurd ⟨h2,by omega⟩ h.2
    ·exact m
  intro lv x h4 hlv1 hn m
  simp only [topE] at hlv1 hn
  by_cases he : lv = lv0
  ·subst he
   exact own x hn m
  ·have hlt : lv < lv0 := by omega
   have hn0 : NextE T lv0 b (tightI op) := by
    rcases next_low hn with h | h
    ·exact .inl h
    ·exact .inr (.inl (by omega))
   have h0 := own (ns ++ flatE ns.length (.bin op l r),b) hn0 (rms_stop (by
    rcases next_low hn with h | h
    ·exact .inl h
    ·exact .inr (by omega)))
   exact rds_down (lv0 - lv - 1) lv (by omega) (by rw [show lv + (lv0 - lv - 1) + 1 = lv0 by omega];exact h0) (next_low hn) m
end Go.Proofs.YtpgibloeinphaaaGreatDoor
namespace Go.Proofs.YtpgibloeinphaaaGreatDoor
def valE : ExT → Prop
 | .num n => 0 ≤ n ∧ I64 n
 | .tru _ => True
 | .quo s => plainB s = true ∧ s.length ≤ 48
 | .name s => s.length ≤ 32
 | .ins s => s.length ≤ 32
 | .sgn _ e => valE e
 | .bin _ l r => valE l ∧ valE r
def minL (lv : Nat) : Int := if 5 ≤ lv then 6 else (lv : Int) + 1
theorem part_le {dg : Int → List UInt8} {l1 l2 : Int} (h : l1 ≤ l2) (e : ExT) : (partK dg l1 e).length ≤ (partK dg l2 e).length := by
 unfold partK
 split
 ·rw [if_pos (by omega)]
  exact Nat.le_refl _
 ·split
  ·simp
   omega
  ·exact Nat.le_refl _
theorem part_two {dg : Int → List UInt8} (l : Int) (e : ExT) : (partK dg l e).length ≤ (toksE dg e).length + 2 := by
 unfold partK
 split
 ·simp
 ·omega
theorem part_none {dg : Int → List UInt8} {l : Int} {e : ExT} (h : l ≤ topE e) : partK dg l e = toksE dg e := by
 unfold partK
 rw [if_neg (by omega)]
structure TreeRd (dg : Int → List UInt8) (least : Int) (ns : List Nd) (a : Nat) (out : List Nd) (b : Nat) (e : ExT) : Prop where
 ok : okE e
 val : valE e
 out : out = ns ++ flatE ns.length e
 len : (partK dg least e).length + a ≤ b
theorem tree_leaf {dg : Int → List UInt8} {ns : List Nd} {a b : Nat} {n : Nd} {e : ExT} (h6 : topE e = 6) (h1 : okE e) (h2 : valE e) (h3 : ∀ o,flatE o e = [n]) (h4 : (toksE dg e).length + a ≤ b) : TreeRd dg 6 ns a (ns ++ [n]) b e :=
 ⟨h1,h2,by rw [h3],by rw [part_none (by omega)];exact h4⟩
theorem tree_sgn {dg : Int → List UInt8} {ns out : List Nd} {a b : Nat} {e : ExT} (neg : Bool) (h : TreeRd dg 6 ns (a + 1) out b e) : TreeRd dg 6 ns a (out ++ [opn (if neg then 2 else 1) [out.length - 1]]) b (.sgn neg e) := by
 refine ⟨h.ok,h.val,?_,?_⟩
 ·rw [h.out,flatE,List.append_assoc,List.length_append,flatE_len]
 ·rw [part_none (by simp [topE]),toks_sgn,List.length_cons]
  have := h.len
  omega
section
variable {T : List Tk} (dg : Int → List UInt8) (hok : ∀ t ∈ T,TkOk t)
include hok
theorem name_ok {a : Nat} {s : List UInt8} (h : nameAt T a = some s) : nmB s = true ∧ s.length ≤ 32 := by
 unfold nameAt at h
 split at h
 ·rename_i t ht
  split at h
  ·rename_i hc
   cases h
   simp only [Bool.and_eq_true,beq_iff_eq,Bool.not_eq_true'] at hc
   exact (hok t (List.mem_of_getElem? ht)).word hc.1 hc.2
  ·cases h
 ·cases h
theorem tree_val {ns : List Nd} {a : Nat} {n : Nd} (h : valueAt T a = some n) : ∃ e,TreeRd dg 6 ns a (ns ++ [n]) (a + 1) e := by
 unfold valueAt at h
 split at h
 ·rename_i t ht
  have k := hok t (List.mem_of_getElem? ht)
  split at h
  ·rename_i hc
   cases h
   exact ⟨.num t.n,tree_leaf rfl trivial (k.num (by simpa using hc)) (fun _ => rfl) (by simp [toksE];omega)⟩
  ·split at h
   ·rename_i hc
    cases h
    exact ⟨.quo t.s,tree_leaf rfl trivial (k.quo (by simpa using hc)) (fun _ => rfl) (by simp [toksE];omega)⟩
   ·split at h
    ·cases h
     exact ⟨.tru true,tree_leaf rfl trivial trivial (fun _ => rfl) (by simp [toksE];omega)⟩
    ·split at h
     ·cases h
      exact ⟨.tru false,tree_leaf rfl trivial trivial (fun _ => rfl) (by simp [toksE];omega)⟩
     ·cases h
 ·cases h
theorem tree_rd : ∀ f : Nat,(∀ (lv a : Nat) (ns out : List Nd) (b : Nat),lv ≤ 6 → rdT f lv T a ns = some (out,b) → ∃ e,TreeRd dg (minL lv) ns a out b e) ∧
  (∀ (lv a b c : Nat) (ns out out2 : List Nd) (e : ExT),lv ≤ 4 → TreeRd dg (if lv = 2 then 4 else (lv : Int) + 1) ns a out b e → rdM f lv T b out = some (out2,c) → ∃ e2,TreeRd dg (minL lv) ns a out2 c e2) := by
 intro f
 induction f with
 | zero => exact ⟨fun lv a ns out b _ h => (by rw [rdT] at h;cases h),fun lv a b c ns out out2 e _ _ h => (by rw [rdM] at h;cases h)⟩
 | succ f ih =>
  obtain ⟨I,M⟩ := ih
  refine ⟨fun lv a ns out b h6 h => ?_,fun lv a b c ns out out2 e h4 te h => ?_⟩
  ·rw [rdT] at h
   split at h
   ·rename_i hl
    subst hl
    split at h
    ·split at h
     ·split at h
      ·rename_i s hn
       split at h
       ·cases h
        obtain ⟨h1,h2⟩ := name_ok hok hn
        exact ⟨.ins s,tree_leaf rfl h1 h2 (fun _ => rfl) (by simp [toksE];omega)⟩
       ·cases h
      ·cases h
     ·cases h
    ·split at h
     ·split at h
      ·rename_i out1 b1 hr
       split at h
       ·cases h
        obtain ⟨e,te⟩ := I 0 (a + 1) ns out b1 (by decide) hr
        have hp := (top_pos e te.ok).1
        have hl := te.len
        rw [part_none (by unfold minL;rw [if_neg (by decide)];simpa using hp)] at hl
        have := part_two (dg := dg) 6 e
        exact ⟨e,te.ok,te.val,te.out,by unfold minL;rw [if_pos (by decide)];omega⟩
       ·cases h
      ·cases h
     ·split at h
      ·rename_i s hn
       cases h
       obtain ⟨h1,h2⟩ := name_ok hok hn
       exact ⟨.name s,tree_leaf rfl h1 h2 (fun _ => rfl) (by simp [toksE];omega)⟩
      ·split at h
       ·rename_i n hv
        cases h
        exact tree_val dg hok hv
       ·cases h
   ·rename_i hl6
    split at h
    ·rename_i hl
     subst hl
     split at h
     ·split at h
      ·rename_i out1 b1 hr
       cases h
       obtain ⟨e,te⟩ := I 5 (a + 1) ns out1 b (by decide) hr
       exact ⟨_,tree_sgn false te⟩
      ·cases h
     ·split at h
      ·split at h
       ·rename_i out1 b1 hr
        cases h
        obtain ⟨e,te⟩ := I 5 (a + 1) ns out1 b (by decide) hr
        exact ⟨_,tree_sgn true te⟩
       ·cases h
      ·exact I 6 a ns out b (by decide) h
    ·rename_i hl5
     split at h
     ·rename_i out1 b1 hr
      obtain ⟨e,te⟩ := I (lv + 1) a ns out1 b1 (by omega) hr
      have hle := part_le (dg := dg) (l1 := if lv = 2 then 4 else (lv : Int) + 1) (l2 := minL (lv + 1)) (by unfold minL;split <;> split <;> omega) e
      have := te.len
      exact M lv a b1 b ns out1 out e (by omega) ⟨te.ok,te.val,te.out,by omega⟩ h
     ·cases h
  ·rw [rdM] at h
   split at h
   ·cases h
    have hle := part_le (dg := dg) (l1 := minL lv) (l2 := if lv = 2 then 4 else (lv : Int) + 1) (by unfold minL;split <;> split <;> omega) e
    have := te.len
    exact ⟨e,te.ok,te.val,te.out,by omega⟩
   ·rename_i hc
    have hb : ¬ between T b = 0 := fun x => hc (.inl x)
    have ht : tightI (between T b) = (lv : Int) + 1 := by
     by_cases x : tightI (between T b) = (lv : Int) + 1
     ·exact x
     ·exact absurd (.inr x) hc
    have hin := (between_in T b).resolve_left hb
    split at h
    ·rename_i o2 c2 hr
     obtain ⟨r,tr⟩ := I (lv + 1) (b + 1) out o2 c2 (by omega) hr
     have hn : TreeRd dg (minL lv) ns a (o2 ++ [opn (between T b) [out.length - 1,o2.length - 1]]) c2 (.bin (between T b) e r) := by
      refine ⟨⟨hin,te.ok,tr.ok⟩,⟨te.val,tr.val⟩,?_,?_⟩
      ·have e1 := te.out
       have e2 := tr.out
       rw [e2,flatE]
       rw [e1]
       simp only [List.length_append,flatE_len,List.append_assoc,Nat.add_assoc]
      ·rw [part_none (by simp only [topE,ht];unfold minL;split <;> omega),toks_bin,List.length_append,List.length_cons]
       have l1 := te.len
       have l2 := tr.len
       have e1 : leftI (between T b) = if lv = 2 then 4 else (lv : Int) + 1 := by
        unfold leftI
        rw [ht]
        split <;> split <;> omega
       have e2 : tightI (between T b) + 1 = minL (lv + 1) := by
        rw [ht]
        unfold minL
        split <;> omega
       rw [e1,e2]
       omega
     split at h
     ·cases h
      exact ⟨_,hn⟩
     ·rename_i h2
      refine M lv a c2 c ns _ out2 (.bin (between T b) e r) h4 ?_ h
      rw [if_neg h2]
      have : minL lv = (lv : Int) + 1 := by unfold minL;rw [if_neg (by omega)]
      rw [this] at hn
      exact hn
    ·cases h
end
end Go.Proofs.YtpgibloeinphaaaGreatDoor
