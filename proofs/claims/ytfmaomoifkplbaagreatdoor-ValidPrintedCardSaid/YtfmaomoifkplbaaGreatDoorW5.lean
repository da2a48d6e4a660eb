/- Several texts of this proof, joined: PJ, PK, PN, PO, PP, PQ. -/
import Derived.Test.YtfmaomoifkplbaaGreatDoorW2
import Derived.Test.YtfmaomoifkplbaaGreatDoorP6
import Derived.WalkKit
import Derived.ProofKit
import Derived.OpenShut
import Derived.Handy
import Derived.BigQuiet
import Derived.Lib.Hide
import Derived.WalkLawsBesides
import Derived.Test.YtfmaomoifkplbaaGreatDoorW3
import Derived.Test.YtfmaomoifkplbaaGreatDoorP5
import Derived.Test.YtfmaomoifkplbaaGreatDoorV4
import Derived.Test.YtfmaomoifkplbaaGreatDoorZ4
import Derived.Test.YtfmaomoifkplbaaGreatDoorW4
namespace Go.Proofs.YtfmaomoifkplbaaGreatDoor
open Go.RowKit
theorem right_sub : ∀ (e : ExT) (o : Nat) (op : List Nat) (r : List Nd),okE e → valE e → rightL o op (flatE o e ++ r) = rightL (o + sizeE e) ((o + sizeE e - 1) :: op) r
 | .num n,o,op,r,_,hv => by
  have h : nright ⟨0,1,n,[],[],0,0⟩ [] = true := by simp [nright,rightB,hv.1]
  simp [flatE,sizeE,rightL,cnt,h]
 | .tru b,o,op,r,_,_ => by
  have h : nright ⟨0,2,if b then 1 else 0,[],[],0,0⟩ [] = true := by cases b <;> simp [nright,rightB]
  simp [flatE,sizeE,rightL,cnt,h]
 | .quo s,o,op,r,_,hv => by
  have h : nright ⟨0,3,0,s,[],0,0⟩ [] = true := by simp [nright,rightB,hv.1]
  simp [flatE,sizeE,rightL,cnt,h]
 | .name s,o,op,r,ho,_ => by
  have h : nright ⟨16,0,0,[],s,0,0⟩ [] = true := by simp [nright];exact ho
  simp [flatE,sizeE,rightL,cnt,h]
 | .ins s,o,op,r,ho,_ => by
  have h : nright ⟨17,0,0,[],s,0,0⟩ [] = true := by simp [nright];exact ho
  simp [flatE,sizeE,rightL,cnt,h]
 | .sgn neg e,o,op,r,ho,hv => by
  have hp := sizeE_pos e
  rw [flatE,List.append_assoc,right_sub e o op _ ho hv,List.singleton_append,rightL]
  have hc : cnt (opn (if neg then 2 else 1) [o + sizeE e - 1]).op = 1 := by cases neg <;> rfl
  rw [hc,if_neg (by simp)]
  have h : nright (opn (if neg then 2 else 1) [o + sizeE e - 1]) (((((o + sizeE e - 1) :: op).take 1).reverse).map fun (p : Nat) => (p : Int)) = true := by
   cases neg <;> simp [nright,opn]
  rw [if_pos h]
  show rightL (o + sizeE e + 1) ((o + sizeE e) :: op) r = _
  rw [show sizeE (.sgn neg e) = sizeE e + 1 from rfl,show o + (sizeE e + 1) - 1 = o + sizeE e by omega,Nat.add_assoc]
 | .bin p l q,o,op,r,ho,hv => by
  have hp1 := sizeE_pos l
  have hp2 := sizeE_pos q
  obtain ⟨⟨h3,h15⟩,ho1,ho2⟩ := ho
  rw [flatE,List.append_assoc,List.append_assoc,right_sub l o op _ ho1 hv.1,right_sub q (o + sizeE l) _ _ ho2 hv.2,List.singleton_append,rightL]
  have hc : cnt (opn p [o + sizeE l - 1,o + sizeE l + sizeE q - 1]).op = 2 := by
   show cnt p = 2
   unfold cnt
   rw [if_neg (by omega),if_pos ⟨h3,h15⟩]
  rw [hc,if_neg (by simp)]
  have h : nright (opn p [o + sizeE l - 1,o + sizeE l + sizeE q - 1]) ((((o + sizeE l + sizeE q - 1) :: (o + sizeE l - 1) :: op).take 2).reverse.map fun (p : Nat) => (p : Int)) = true := by
   have e0 : ¬ p = 0 := by omega
   have e1 : ¬ (p = 16 ∨ p = 17) := by omega
   have e2 : 1 ≤ p ∧ p ≤ 15 := ⟨by omega,h15⟩
   simp [nright,opn,e0,e1,e2]
  rw [if_pos h]
  show rightL (o + sizeE l + sizeE q + 1) ((o + sizeE l + sizeE q) :: op) r = _
  rw [show sizeE (.bin p l q) = sizeE l + sizeE q + 1 from rfl,show o + (sizeE l + sizeE q + 1) - 1 = o + sizeE l + sizeE q by omega,show o + (sizeE l + sizeE q + 1) = o + sizeE l + sizeE q + 1 by omega]
theorem right_tree {e : ExT} (ho : okE e) (hv : valE e) (hs : sizeT (flatE 0 e) = 0) : rightT (flatE 0 e) = true := by
 unfold rightT
 rw [if_neg (by rw [hs];simp)]
 have := right_sub e 0 [] [] ho hv
 rw [List.append_nil] at this
 rw [this]
 rfl
theorem size_tree {e : ExT} (hs : sizeT (flatE 0 e) = 0) : sizeE e ≤ 32 := by
 unfold sizeT at hs
 rw [flatE_len] at hs
 split at hs
 ·cases hs
 ·omega
theorem texts_sub : ∀ (e : ExT) (o : Nat),valE e → ∀ n ∈ flatE o e,n.s.length ≤ 48 ∧ n.name.length ≤ 32
 | .num _,_,_,n,h | .tru _,_,_,n,h => by
  simp [flatE] at h
  subst h
  exact ⟨by simp,by simp⟩
 | .quo s,_,hv,n,h => by
  simp [flatE] at h
  subst h
  exact ⟨hv.2,by simp⟩
 | .name s,_,hv,n,h | .ins s,_,hv,n,h => by
  simp [flatE] at h
  subst h
  exact ⟨by simp,hv⟩
 | .sgn _ e,o,hv,n,h => by
  rw [flatE,List.mem_append,List.mem_singleton] at h
  rcases h with h | rfl
  ·exact texts_sub e o hv n h
  ·exact ⟨by simp [opn],by simp [opn]⟩
 | .bin _ l r,o,hv,n,h => by
  rw [flatE,List.mem_append,List.mem_append,List.mem_singleton] at h
  rcases h with (h | h) | rfl
  ·exact texts_sub l o hv.1 n h
  ·exact texts_sub r _ hv.2 n h
  ·exact ⟨by simp [opn],by simp [opn]⟩
theorem sub_self (e : ExT) : SubE (flatE 0 e) 0 e := ⟨by rw [flatE_len,Nat.zero_add];exact Nat.le_refl _,fun j _ => by rw [Nat.zero_add]⟩
def textB (e : ExT) : ByteArray := ⟨(textE e).toArray⟩
theorem textB_size {e : ExT} (ho : okE e) (hv : valE e) (hs : sizeT (flatE 0 e) = 0) : (textE e).length ≤ 1920 := by
 have h1 := text_len e ho hv
 have h2 := size_tree hs
 omega
theorem xshow_tree {e : ExT} (ho : okE e) (hv : valE e) (hs : sizeT (flatE 0 e) = 0) (io : Option Addr) (ic : Nat) (w : World) (hw : Az w) (h : NdsAt w io (flatE 0 e)) :
  Calls Tryz.prog 91 #[.slice io (flatE 0 e).length ic] w (Ret (.string (textB e)) w) := by
 have h32 := size_tree hs
 have hp := sizeE_pos e
 have hl := flatE_len e 0
 obtain ⟨h1,h2⟩ := shown_all e (flatE 0 e) 0 ho hv (sub_self e)
 have hsh : ∀ i,i < (flatE 0 e).length → ShownE (flatE 0 e) (60 * sizeE e) i := fun i hi => h2 i (Nat.zero_le _) (by omega)
 have := xshow_any io ic (flatE 0 e) (by omega) (by omega) (fun n hn => ⟨Nat.le_trans (texts_sub e 0 hv n hn).1 (by decide),Nat.le_trans (texts_sub e 0 hv n hn).2 (by decide)⟩) w h hw.al.ax.lb hw.tab hw.al.ax.eg (right_tree ho hv hs)
  (fun i hi => (hsh i hi).ok) (fun t ht => by
   obtain ⟨i,hi,rfl⟩ := List.getElem_of_mem ht
   rw [showsB_length] at hi
   have hg := shows_getD (flatE 0 e) i (flatE 0 e).length hi
   rw [List.getD_eq_getElem?_getD,List.getElem?_eq_getElem (by rw [showsB_length];exact hi),Option.getD_some] at hg
   rw [hg]
   have := (hsh i hi).size
   omega)
 rw [shows_getD _ _ _ (by omega),show (flatE 0 e).length - 1 = 0 + sizeE e - 1 by omega,h1] at this
 exact this
end Go.Proofs.YtfmaomoifkplbaaGreatDoor
namespace Go.Proofs.YtfmaomoifkplbaaGreatDoor
open Go.RowKit
def bytL (l : List UInt8) : ByteArray := ⟨l.toArray⟩
def optB : Option ExT → ByteArray
 | some e => textB e
 | none => ⟨#[]⟩
def wordsX (c : AcX) : List ByteArray := (actP c).map fun p => bytL p.1
theorem flatO_pos {o : Option ExT} : 0 < (flatO o).length ↔ ∃ e,o = some e := by
 cases o with
 | none => simp [flatO]
 | some e =>
  have := sizeE_pos e
  have := flatE_len e 0
  simp [flatO]
  omega
theorem show_opt {o : Option ExT} (ok : OkO o) {io : Option Addr} {ic : Nat} {w : World} (hw : Az w) (h : NdsAt w io (flatO o)) (h0 : 0 < (flatO o).length) : ∀ wx,Below w.heap.size w wx → Calls Tryz.prog 91 #[.slice io (flatO o).length ic] wx (Ret (.string (optB o)) wx) := fun wx hb => by
 obtain ⟨e,rfl⟩ := flatO_pos.1 h0
 obtain ⟨h1,h2,h3⟩ := ok e rfl
 exact xshow_tree h1 h2 h3 io ic wx (az_below hw hb) (nds_below h hb)
theorem itoa_dig {n : Int} (h : 0 ≤ n) : itoaS n = bytL (digT n) := by
 unfold itoaS bytL digT
 rw [Lib.itoa,if_neg (by omega)]
theorem words_same {c : AcX} (ok : OkA c) {f1 f2 f3 f4 : Bool} (hf : (f1 || f2) = !(decide (c.kind = 5))) (h3 : f3 = decide (c.kind = 1 ∨ c.kind = 5)) (h4 : f4 = decide (c.kind = 3)) :
  wordsG (flatO c.cond).length (bytL (actW c.kind)) (bytL c.name) f1 f2 f3 f4 (optB c.cond) (optB c.x) (bytL (digT c.n)) = wordsX c := by
 unfold wordsG wordsX actP
 rw [List.map_append,List.map_cons,List.map_append,List.map_append]
 have e1 : wordsC (flatO c.cond).length (optB c.cond) = (condP c.cond).map fun p => bytL p.1 := by
  unfold wordsC
  cases hc : c.cond with
  | none => rfl
  | some e =>
   have := (flatO_pos (o := some e)).2 ⟨e,rfl⟩
   rw [if_neg (by omega)]
   rfl
 have e2 : (if f1 || f2 then [bytL c.name] else []) = (nameP c).map fun p => bytL p.1 := by
  rw [hf]
  unfold nameP
  by_cases h : c.kind = 5 <;> simp [h]
 have e3 : (if f3 then [optB c.x] else []) = (exP c.x).map fun p => bytL p.1 := by
  rw [h3]
  by_cases h : c.kind = 1 ∨ c.kind = 5
  ·obtain ⟨e,he⟩ := ok.has h
   rw [he]
   simp [h,exP,optB,textB,bytL]
  ·rw [ok.no h]
   simp [h,exP]
 have e4 : (if f4 then [bytL (digT c.n)] else []) = (numP c).map fun p => bytL p.1 := by
  rw [h4]
  unfold numP
  by_cases h : c.kind = 3 <;> simp [h]
 rw [e1,e2,e3,e4]
 simp
theorem words_tree {c : AcX} (ok : OkA c) (io : Option Addr) (ic : Nat) (xo : Option Addr) (xc : Nat) (w : World) (hw : Az w) (h1 : NdsAt w io (flatO c.cond)) (h2 : NdsAt w xo (flatO c.x)) :
  Calls Tryz.prog 93 #[.agg #[.int .i64 (c.kind : Int),.slice io (flatO c.cond).length ic,.string (bytL c.name),.slice xo (flatO c.x).length xc,.int .i64 c.n]] w (WordsIs (wordsX c) w) := by
 have F := fun (k : Nat) (h1 : 1 ≤ k) (h5 : k ≤ 5) (wx : World) (hb : Below w.heap.size w wx) => form_any k h1 h5 (.slice io (flatO c.cond).length ic) (.string (bytL c.name)) (.slice xo (flatO c.x).length xc) (.int .i64 c.n) wx (ax_below hw.al.ax hb).fg
 have hS := fun (h0 : 0 < (flatO c.cond).length) => show_opt (ic := ic) ok.cond hw h1 h0
 have hX := fun (h0 : c.kind = 1 ∨ c.kind = 5) => show_opt (ic := xc) ok.x hw h2 (by obtain ⟨e,he⟩ := ok.has h0;exact flatO_pos.2 ⟨e,he⟩)
 have hk := ok.kind
 obtain ⟨kind,cond,name,x,n⟩ := c
 simp only at *
 rcases (by omega : kind = 1 ∨ kind = 2 ∨ kind = 3 ∨ kind = 4 ∨ kind = 5) with rfl | rfl | rfl | rfl | rfl
 ·rw [← words_same ok (f1 := true) (f2 := false) (f3 := true) (f4 := false) rfl rfl rfl]
  exact words_T _ _ io _ ic xo _ xc n _ false true false _ _ _ w (F 1 (by decide) (by decide)) hS (fun _ => hX (.inl rfl)) (fun h => by cases h)
 ·rw [← words_same ok (f1 := false) (f2 := true) (f3 := false) (f4 := false) rfl rfl rfl]
  exact words_F _ _ io _ ic xo _ xc n _ true false false _ _ _ w (F 2 (by decide) (by decide)) hS (fun h => by cases h) (fun h => by cases h)
 ·rw [← words_same ok (f1 := false) (f2 := true) (f3 := false) (f4 := true) rfl rfl rfl]
  obtain ⟨n0,n1⟩ : 0 ≤ n ∧ n ≤ 1048576 := ok.num rfl
  refine words_F _ _ io _ ic xo _ xc n _ true false true _ _ _ w (F 3 (by decide) (by decide)) hS (fun h => by cases h) (fun _ wx hb => ?_)
  rw [← itoa_dig n0]
  exact fmt_any n ⟨by omega,by omega⟩ wx (tab_below hw.tab hb)
 ·rw [← words_same ok (f1 := false) (f2 := true) (f3 := false) (f4 := false) rfl rfl rfl]
  exact words_F _ _ io _ ic xo _ xc n _ true false false _ _ _ w (F 4 (by decide) (by decide)) hS (fun h => by cases h) (fun h => by cases h)
 ·rw [← words_same ok (f1 := false) (f2 := false) (f3 := true) (f4 := false) rfl rfl rfl]
  exact words_F _ _ io _ ic xo _ xc n _ false true false _ _ _ w (F 5 (by decide) (by decide)) hS (fun _ => hX (.inr rfl)) (fun h => by cases h)
theorem joinTail_cons (sep : List UInt8) (x : List UInt8) (r : List (List UInt8)) : Lib.joinTail sep (x :: r) = sep ++ (x ++ Lib.joinTail sep r) := by
 unfold Lib.joinTail
 simp
theorem join_sp : ∀ (ls : List (List UInt8)),joinB (ls.map bytL) spB = joinS ls
 | [] => rfl
 | [l] => by
  rw [List.map_cons,joinB_cons]
  simp [bytL,joinS,Lib.joinTail]
 | l :: m :: ls => by
  have ih := join_sp (m :: ls)
  rw [List.map_cons,joinB_cons] at ih ⊢
  rw [List.map_cons,List.map_cons,joinTail_cons,joinS,← ih]
  simp [bytL,spB]
theorem joinS_append : ∀ (a b : List (List UInt8)),a ≠ [] → b ≠ [] → joinS (a ++ b) = joinS a ++ 32 :: joinS b
 | [],_,h,_ => absurd rfl h
 | [l],b,_,h => by
  cases b with
  | nil => exact absurd rfl h
  | cons m ms => rfl
 | l :: m :: ls,b,_,h => by
  have ih := joinS_append (m :: ls) b (by simp) h
  rw [List.cons_append] at ih
  rw [List.cons_append,List.cons_append,joinS,ih,joinS]
  simp
theorem actP_ne (c : AcX) : actP c ≠ [] := by
 unfold actP
 simp
def textA (c : AcX) : List UInt8 := textP (actP c)
theorem words_text (c : AcX) : joinB (wordsX c) spB = textA c := by
 unfold wordsX textA textP
 rw [← join_sp,List.map_map]
 rfl
def acXB (c : AcX) : ByteArray := bytL (textA c)
theorem acts_text : ∀ (cs : List AcX),joinB (cs.map acXB) semiB = textP (actsP cs)
 | [] => rfl
 | [c] => by
  rw [List.map_cons,joinB_cons]
  simp [acXB,bytL,actsP,Lib.joinTail,textA]
 | c :: d :: cs => by
  have ih := acts_text (d :: cs)
  rw [List.map_cons,joinB_cons] at ih ⊢
  rw [List.map_cons,List.map_cons,joinTail_cons,actsP]
  have hd : actsP (d :: cs) ≠ [] := by
   cases cs with
   | nil => exact actP_ne d
   | cons e es =>
    rw [actsP]
    simp
  unfold textP at ih ⊢
  rw [List.map_append,joinS_append _ _ (by simpa using actP_ne c) (by simp),List.map_cons]
  have h2 : joinS (([59] : List UInt8) :: (actsP (d :: cs)).map fun p => p.1) = 59 :: 32 :: joinS ((actsP (d :: cs)).map fun p => p.1) := by
   cases h : (actsP (d :: cs)).map fun p => p.1 with
   | nil => simp at h;exact absurd h hd
   | cons m ms => rfl
  rw [h2,← ih]
  simp [acXB,bytL,semiB,textA,textP]
end Go.Proofs.YtfmaomoifkplbaaGreatDoor
namespace Go.Proofs.YtfmaomoifkplbaaGreatDoor
theorem tok_word_len {l : List UInt8} {k : Int} {t : List UInt8} {n : Int} {z : Nat} (hk : k = 1 ∨ k = 2) (h : tokT l = .ok (k,t,n,z)) : t.length ≤ 32 := by
 cases l with
 | nil => cases h
 | cons c r =>
  rw [tokT] at h
  split at h
  ·unfold wordT at h
   simp only at h
   split at h
   ·cases h
   ·rename_i hlen
    simp only [Except.ok.injEq,Prod.mk.injEq] at h
    obtain ⟨_,rfl,_,_⟩ := h
    simp only [Bool.or_eq_true,decide_eq_true_eq,not_or] at hlen
    omega
  ·split at h
   ·obtain ⟨hk',_⟩ := num_full h
    omega
   ·split at h
    ·rename_i hc
     obtain ⟨hk',_⟩ := quo_full hc h
     omega
    ·obtain ⟨hk',_⟩ := sgn_full h
     omega
theorem alone_len {s : List UInt8} (h : aloneK s = 1 ∨ aloneK s = 2) : s.length ≤ 32 := by
 unfold aloneK at h
 split at h
 ·rename_i t ht
  split at h
  ·rename_i hs
   obtain ⟨l',z,hz⟩ := lexT_good ht t (by simp)
   rw [← hs]
   exact tok_word_len h hz
  ·omega
 ·omega
theorem named_len {ev : Bool} {s : List UInt8} (h : namedB ev s = true) : s.length ≤ 32 := alone_len (named_kind h).1
theorem nm_len {s : List UInt8} (h : nmB s = true) : s.length ≤ 32 := alone_len (.inl (by
 unfold nmB at h
 simp at h
 exact h.1))
theorem joinS_len : ∀ (ls : List (List UInt8)) (m : Nat),(∀ l ∈ ls,l.length ≤ m) → (joinS ls).length ≤ ls.length * (m + 1)
 | [],_,_ => by simp [joinS]
 | [l],m,h => by
  have := h l (by simp)
  simp [joinS]
  omega
 | l :: k :: ls,m,h => by
  have h1 := h l (by simp)
  have h2 := joinS_len (k :: ls) m fun x hx => h x (by simp at hx ⊢;right;exact hx)
  rw [joinS,List.length_append,List.length_cons,List.length_cons (a := l),Nat.succ_mul]
  omega
theorem ex_len {o : Option ExT} (ok : OkO o) : ∀ p ∈ exP o,p.1.length ≤ 1920 := fun p hp => by
 cases o with
 | none => cases hp
 | some e =>
  obtain ⟨h1,h2,h3⟩ := ok e rfl
  simp [exP] at hp
  subst hp
  exact textB_size h1 h2 h3
theorem cond_len {o : Option ExT} (ok : OkO o) : (∀ p ∈ condP o,p.1.length ≤ 1920) ∧ (condP o).length ≤ 3 := by
 cases o with
 | none => exact ⟨fun p hp => (by cases hp),by simp [condP]⟩
 | some e =>
  obtain ⟨h1,h2,h3⟩ := ok e rfl
  refine ⟨fun p hp => ?_,by simp [condP]⟩
  simp [condP] at hp
  rcases hp with rfl | rfl | rfl
  ·decide
  ·exact textB_size h1 h2 h3
  ·decide
theorem dig_len {n : Int} (h : n ≤ 9223372036854775807) : (digT n).length ≤ 1920 := by
 have := text_len (.num (if 0 ≤ n then n else 0)) trivial ⟨by split <;> omega,by unfold I64;split <;> omega⟩
 simp [textE,sizeE] at this
 by_cases h0 : 0 ≤ n
 ·rw [if_pos h0] at this
  omega
 ·rw [if_neg h0] at this
  have e : digT n = digT 0 := by unfold digT;rw [show n.toNat = 0 by omega];rfl
  rw [e]
  omega
theorem actW_len {k : Nat} (h1 : 1 ≤ k) (h5 : k ≤ 5) : (actW k).length ≤ 1920 := by
 rcases (by omega : k = 1 ∨ k = 2 ∨ k = 3 ∨ k = 4 ∨ k = 5) with rfl | rfl | rfl | rfl | rfl <;> decide
theorem act_len {c : AcX} (ok : OkA c) : (∀ p ∈ actP c,p.1.length ≤ 1920) ∧ (actP c).length ≤ 7 := by
 obtain ⟨c1,c2⟩ := cond_len ok.cond
 have hx := ex_len ok.x
 refine ⟨fun p hp => ?_,?_⟩
 ·unfold actP at hp
  rw [List.mem_append,List.mem_cons,List.mem_append,List.mem_append] at hp
  rcases hp with hp | rfl | hp | hp | hp
  ·exact c1 p hp
  ·exact actW_len ok.kind.1 ok.kind.2
  ·unfold nameP at hp
   split at hp
   ·cases hp
   ·rename_i h5
    rw [List.mem_singleton] at hp
    subst hp
    exact Nat.le_trans (named_len (ok.name h5)) (by decide)
  ·exact hx p hp
  ·unfold numP at hp
   split at hp
   ·rename_i h3
    rw [List.mem_singleton] at hp
    subst hp
    exact dig_len (by have := (ok.num h3).2;omega)
   ·cases hp
 ·unfold actP
  rw [List.length_append,List.length_cons,List.length_append,List.length_append]
  have h1 : (nameP c).length ≤ 1 := by unfold nameP;split <;> simp
  have h2 : (exP c.x).length ≤ 1 := by cases c.x <;> simp [exP]
  have h3 : (numP c).length ≤ 1 := by unfold numP;split <;> simp
  omega
theorem textA_len {c : AcX} (ok : OkA c) : (textA c).length ≤ 13500 := by
 obtain ⟨h1,h2⟩ := act_len ok
 have := joinS_len ((actP c).map fun p => p.1) 1920 fun l hl => by
  obtain ⟨p,hp,rfl⟩ := List.mem_map.1 hl
  exact h1 p hp
 rw [List.length_map] at this
 have h3 := Nat.mul_le_mul_right (1920 + 1) h2
 unfold textA textP
 omega
theorem acts_len : ∀ (cs : List AcX),(∀ c ∈ cs,OkA c) → (textP (actsP cs)).length ≤ cs.length * 13600
 | [],_ => by simp [actsP,textP,joinS]
 | [c],h => by
  have := textA_len (h c (by simp))
  unfold textA at this
  simp [actsP]
  omega
 | c :: d :: cs,h => by
  have h1 := textA_len (h c (by simp))
  have h2 := acts_len (d :: cs) fun x hx => h x (by simp at hx ⊢;right;exact hx)
  have h3 := acts_text (c :: d :: cs)
  have h4 := acts_text (d :: cs)
  rw [← h3]
  rw [← h4] at h2
  rw [List.map_cons,joinB_cons] at h2 ⊢
  rw [List.map_cons,List.map_cons,joinTail_cons]
  unfold textA at h1
  have e : (acXB c).data.toList.length = (textP (actP c)).length := by simp [acXB,bytL,textA]
  have e2 : semiB.data.toList.length = 3 := rfl
  simp only [List.length_append,List.length_cons] at h2 ⊢
  omega
end Go.Proofs.YtfmaomoifkplbaaGreatDoor
namespace Go.Proofs.YtfmaomoifkplbaaGreatDoor
open Go.RowKit
def actsT (cs : List AcX) : ByteArray := bytL (textP (actsP cs))
theorem shows_tree {cs : List AcX} (ok : OkAs cs) : ShowsBy (cs.map flatA) (fun i => wordsX (cs.getD i ⟨0,none,[],none,0⟩)) (cs.map acXB) := by
 have hg : ∀ i (h : i < cs.length),cs.getD i ⟨0,none,[],none,0⟩ = cs[i] := fun i h => by simp [List.getD,h]
 refine ⟨by simp,by rw [List.length_map];have := ok.1;omega,fun i h => ?_,fun i h => ?_,?_⟩
 ·rw [List.length_map] at h
  rw [List.getElem_map,hg i h,words_text]
  rfl
 ·rw [List.length_map] at h
  rw [hg i h,words_text]
  have hok := ok.2 _ (List.getElem_mem h)
  obtain ⟨_,h2⟩ := act_len hok
  have h3 := textA_len hok
  refine ⟨?_,?_,by omega⟩
  ·unfold wordsX
   rw [List.length_map]
   exact List.length_pos_iff.2 (actP_ne _)
  ·unfold wordsX
   rw [List.length_map]
   omega
 ·rw [acts_text]
  have := acts_len cs ok.2
  have := ok.1
  omega
theorem ashow_tree {cs : List AcX} (ok : OkAs cs) (ao : Option Addr) (cap : Nat) (w : World) (hw : Az w) (h : ActsAt w ao (cs.map flatA)) :
  Calls Tryz.prog 44 #[.slice ao (cs.map flatA).length cap] w (Ret (.string (actsT cs)) w) := by
 have := ashow_any ao cap (cs.map flatA) _ _ (shows_tree ok) w h fun i hi io ic xo xc wx hb h1 h2 => by
  have hi' : i < cs.length := by simpa using hi
  have hg : cs.getD i ⟨0,none,[],none,0⟩ = cs[i] := by simp [List.getD,hi']
  have hm : (cs.map flatA)[i] = flatA cs[i] := by simp
  simp only [hm,hg] at h1 h2 ⊢
  exact words_tree (ok.2 _ (List.getElem_mem hi')) io ic xo xc wx (az_below hw hb) h1 h2
 rw [acts_text] at this
 exact this
end Go.Proofs.YtfmaomoifkplbaaGreatDoor
namespace Go.Proofs.YtfmaomoifkplbaaGreatDoor
open Go.RowKit
def hdX (x : LnX) : List (List UInt8) := if x.event = [] then [[97,117,116,111]] else [[111,110],x.event]
def midX (x : LnX) : List (List UInt8) := hdX x ++ ((ifP x.cond).map (fun p => p.1) ++ ((goP x.goes).map (fun p => p.1) ++ (inP x.inner).map fun p => p.1))
def doX (x : LnX) : List (List UInt8) := if x.thn = [] then [] else [[100,111],textP (actsP x.thn)]
theorem joinS_nest : ∀ (a b : List (List UInt8)),b ≠ [] → joinS (a ++ [joinS b]) = joinS (a ++ b)
 | [],b,_ => rfl
 | l :: a,b,h => by
  cases a with
  | nil =>
   cases b with
   | nil => exact absurd rfl h
   | cons m ms => rfl
  | cons k a =>
   have ih := joinS_nest (k :: a) b h
   rw [List.cons_append] at ih ⊢
   rw [List.cons_append,joinS,ih]
   rfl
theorem actsP_ne : ∀ (c : AcX) (cs : List AcX),actsP (c :: cs) ≠ []
 | c,[] => actP_ne c
 | c,d :: ds => by
  rw [actsP]
  simp
theorem trans_words (x : LnX) (hk : x.kind = 10 ∧ x.event ≠ [] ∨ x.kind = 11 ∧ x.event = []) : joinS (midX x ++ doX x) = lnText x := by
 have hd : (dP x.thn).map (fun p => p.1) = if x.thn = [] then [] else [100,111] :: (actsP x.thn).map fun p => p.1 := by
  cases x.thn with
  | nil => rfl
  | cons c cs => rfl
 have h1 : (linePc x).map (fun p => p.1) = midX x ++ (dP x.thn).map fun p => p.1 := by
  unfold linePc restP transP midX hdX
  rcases hk with ⟨k,he⟩ | ⟨k,he⟩
  ·rw [if_neg (by omega),if_neg (by omega),if_pos k,if_neg he,k]
   simp [show lwL 10 = [111,110] from rfl]
  ·rw [if_neg (by omega),if_neg (by omega),if_neg (by omega),if_pos k,if_pos he,k]
   simp [show lwL 11 = [97,117,116,111] from rfl]
 unfold lnText textP
 rw [h1,hd]
 unfold doX
 cases ht : x.thn with
 | nil => rfl
 | cons c cs =>
  rw [if_neg (by simp),if_neg (by simp)]
  have := joinS_nest (midX x ++ [[100,111]]) ((actsP (c :: cs)).map fun p => p.1) (by simpa using actsP_ne c cs)
  rw [List.append_assoc,List.append_assoc] at this
  exact this
theorem bytL_ne {l : List UInt8} : bytL l = ⟨#[]⟩ ↔ l = [] := by
 unfold bytL
 constructor
 ·intro h
  have := congrArg (fun b : ByteArray => b.data.toList) h
  simpa using this
 ·rintro rfl
  rfl
theorem trans_map (x : LnX) : transW (bytL x.event) (flatO x.cond).length (optB x.cond) (x.goes.map bytL) x.inner (x.thn.map flatA).length (actsT x.thn) = (midX x ++ doX x).map bytL := by
 unfold transW midX doX hdX
 have e1 : headT (bytL x.event) = (if x.event = [] then [[97,117,116,111]] else [[111,110],x.event] : List (List UInt8)).map bytL := by
  unfold headT
  by_cases h : x.event = []
  ·rw [if_pos (bytL_ne.2 h),if_pos h]
   rfl
  ·rw [if_neg (fun e => h (bytL_ne.1 e)),if_neg h]
   rfl
 have e2 : ifT (flatO x.cond).length (optB x.cond) = ((ifP x.cond).map fun p => p.1).map bytL := by
  unfold ifT
  cases hc : x.cond with
  | none => rfl
  | some e =>
   have := (flatO_pos (o := some e)).2 ⟨e,rfl⟩
   rw [if_neg (by omega)]
   rfl
 have e3 : goT (x.goes.map bytL) = ((goP x.goes).map fun p => p.1).map bytL := by
  unfold goT
  cases x.goes with
  | nil => rfl
  | cons g gs =>
   rw [if_neg (by simp)]
   simp [goP]
   rfl
 have e4 : inT x.inner = ((inP x.inner).map fun p => p.1).map bytL := by cases x.inner <;> rfl
 have e5 : doT (x.thn.map flatA).length (actsT x.thn) = (if x.thn = [] then [] else [[100,111],textP (actsP x.thn)] : List (List UInt8)).map bytL := by
  unfold doT
  cases x.thn with
  | nil => rfl
  | cons c cs =>
   rw [if_neg (by simp),if_neg (by simp)]
   rfl
 rw [e1,e2,e3,e4,e5]
 simp only [List.map_append,List.append_assoc]
theorem mid_len {x : LnX} (ok : OkTr x) (he : x.event.length ≤ 32) : (∀ l ∈ midX x,l.length ≤ 1920) ∧ (midX x).length ≤ 10 ∧ midX x ≠ [] := by
 refine ⟨fun l hl => ?_,?_,?_⟩
 ·unfold midX at hl
  rw [List.mem_append,List.mem_append,List.mem_append] at hl
  rcases hl with hl | hl | hl | hl
  ·unfold hdX at hl
   split at hl
   ·simp at hl
    subst hl
    decide
   ·simp at hl
    rcases hl with rfl | rfl
    ·decide
    ·omega
  ·obtain ⟨p,hp,rfl⟩ := List.mem_map.1 hl
   cases hc : x.cond with
   | none => rw [hc] at hp;cases hp
   | some e =>
    obtain ⟨h1,h2,h3⟩ := ok.cond e hc
    rw [hc] at hp
    simp [ifP] at hp
    rcases hp with rfl | rfl
    ·decide
    ·exact textB_size h1 h2 h3
  ·obtain ⟨p,hp,rfl⟩ := List.mem_map.1 hl
   cases hg : x.goes with
   | nil => rw [hg] at hp;cases hp
   | cons g gs =>
    rw [hg,goP] at hp
    rcases List.mem_cons.1 hp with rfl | hp
    ·decide
    ·obtain ⟨y,hy,rfl⟩ := List.mem_map.1 hp
     exact Nat.le_trans (nm_len (ok.goes.2 y (by rw [hg];exact hy))) (by decide)
  ·obtain ⟨p,hp,rfl⟩ := List.mem_map.1 hl
   unfold inP at hp
   split at hp
   ·simp at hp
    subst hp
    decide
   ·cases hp
 ·unfold midX hdX
  have h1 : ((ifP x.cond).map fun p => p.1).length ≤ 2 := by cases x.cond <;> simp [ifP]
  have h2 : ((goP x.goes).map fun p => p.1).length ≤ 5 := by
   have := ok.goes.1
   cases hg : x.goes with
   | nil => simp [goP]
   | cons g gs =>
    rw [hg] at this
    simp [goP] at this ⊢
    omega
  have h3 : ((inP x.inner).map fun p => p.1).length ≤ 1 := by cases x.inner <;> simp [inP]
  rw [List.length_append,List.length_append,List.length_append]
  split <;> simp only [List.length_cons,List.length_nil] <;> omega
 ·unfold midX hdX
  split <;> simp
theorem trans_len {x : LnX} (ok : OkTr x) (he : x.event.length ≤ 32) : (joinS (midX x ++ doX x)).length ≤ 250000 := by
 obtain ⟨h1,h2,h3⟩ := mid_len ok he
 have h4 := joinS_len _ _ h1
 have h5 := Nat.mul_le_mul_right (1920 + 1) h2
 unfold doX
 cases ht : x.thn with
 | nil =>
  rw [if_pos rfl,List.append_nil]
  omega
 | cons c cs =>
  rw [if_neg (by simp),joinS_append _ _ h3 (by simp)]
  have h6 := acts_len x.thn ok.thn.2
  have h7 := ok.thn.1
  rw [ht] at h6 h7
  simp only [joinS,List.length_append,List.length_cons,List.length_nil]
  omega
structure TrX (x : LnX) : Prop where
 kind : x.kind = 10 ∧ x.event ≠ [] ∨ x.kind = 11 ∧ x.event = []
 ok : OkTr x
 ev : x.event.length ≤ 32
theorem trX_of {x : LnX} (ok : OkL x) (hk : x.kind = 10 ∨ x.kind = 11) : TrX x := by
 rcases ok.has with ⟨k,hx⟩ | ⟨k,hx,hne,hA⟩ | ⟨k,hx,hev,hT'⟩ | ⟨k,hx,hT'⟩ | ⟨k,hx,hn,hv⟩ | ⟨k,hx,hn,hs⟩ | ⟨k,hx,hn,hs⟩ | ⟨k,hx,hn⟩
 ·omega
 ·omega
 ·refine ⟨.inl ⟨k,?_⟩,hT',?_⟩
  ·rcases hev with e | e
   ·rw [e];simp
   ·exact named_ne e
  ·rcases hev with e | e
   ·rw [e];decide
   ·exact named_len e
 ·have : x.event = [] := by rw [hx];rfl
  exact ⟨.inr ⟨k,this⟩,hT',by rw [this];decide⟩
 ·omega
 ·omega
 ·omega
 ·omega
theorem tshow_tree {x : LnX} (t : TrX x) (io : Option Addr) (ic : Nat) (g gc : Nat) (go : Option Addr) (ao : Option Addr) (ac : Nat) (w : World) (hw : Az w)
  (h1 : NdsAt w io (flatO x.cond)) (h2 : 0 < x.goes.length → go = some ⟨g,0,none⟩ ∧ g < w.heap.size ∧ ∀ j (h : j < x.goes.length),w.cell? ⟨g,j,none⟩ = some (.string (bytL x.goes[j]))) (h3 : ActsAt w ao (x.thn.map flatA)) :
  Calls Tryz.prog 43 #[.agg #[.string (bytL x.event),.slice io (flatO x.cond).length ic,.slice go x.goes.length gc,.bool x.inner,.slice ao (x.thn.map flatA).length ac]] w (Ret (.string (bytL (lnText x))) w) := by
 have hl := trans_len t.ok t.ev
 have hj : joinB (transW (bytL x.event) (flatO x.cond).length (optB x.cond) (x.goes.map bytL) x.inner (x.thn.map flatA).length (actsT x.thn)) spB = lnText x := by
  rw [trans_map,join_sp,trans_words x t.kind]
 rw [trans_words x t.kind] at hl
 have := ltshow_any (bytL x.event) io (flatO x.cond).length ic g gc go (x.goes.map bytL) x.inner ao (x.thn.map flatA).length ac (optB x.cond) (actsT x.thn) w hw.al
  (by rw [List.length_map];have := t.ok.goes.1;omega)
  (fun h0 => by
   rw [List.length_map] at h0
   obtain ⟨e1,e2,e3⟩ := h2 h0
   refine ⟨e1,e2,fun j h => ?_⟩
   rw [List.length_map] at h
   rw [List.getElem_map]
   exact e3 j h)
  (show_opt (ic := ic) t.ok.cond hw h1)
  (fun _ wx hb => ashow_tree t.ok.thn ao ac wx (az_below hw hb) (acts_below h3 hb))
  (by rw [hj];omega)
 rw [hj,List.length_map] at this
 exact this
end Go.Proofs.YtfmaomoifkplbaaGreatDoor
namespace Go.Proofs.YtfmaomoifkplbaaGreatDoor
open Go.RowKit
theorem bytL_list (l : List UInt8) : (bytL l).data.toList = l := rfl
theorem bytL_append (a b : List UInt8) : bytL a ++ bytL b = bytL (a ++ b) := by
 apply ByteArray.ext
 simp [bytL]
theorem bytL_size (l : List UInt8) : (bytL l).size = l.length := by
 rw [Lib.size_eq,bytL_list]
theorem wdB_byt (k : Nat) : wdB k = bytL (lwL k) := rfl
theorem sp_byt : (⟨#[32]⟩ : ByteArray) = bytL [32] := rfl
theorem names_text {x : LnX} (h : x.kind = 1 ∨ x.kind = 3 ∨ x.kind = 4 ∨ x.kind = 5 ∨ x.kind = 6 ∨ x.kind = 7) : namesB x.kind (bytL x.name) (bytL x.start) = bytL (lnText x) := by
 have h1 : lnText x = joinS (lwL x.kind :: x.name :: (startP x.start).map fun p => p.1) := by
  unfold lnText textP linePc restP
  rw [if_neg (by omega),if_neg (by omega),if_neg (by omega),if_neg (by omega),if_neg (by omega)]
  rfl
 rw [h1]
 unfold namesB startP
 by_cases hs : x.start = []
 ·rw [if_pos (bytL_ne.2 hs),if_pos hs]
  rw [wdB_byt,sp_byt,bytL_append,bytL_append]
  simp [joinS]
 ·rw [if_neg (fun e => hs (bytL_ne.1 e)),if_neg hs]
  rw [wdB_byt,sp_byt,bytL_append,bytL_append,bytL_append,bytL_append]
  simp [joinS]
theorem names_len {x : LnX} (ok : OkL x) (h : x.kind = 1 ∨ x.kind = 3 ∨ x.kind = 4 ∨ x.kind = 5 ∨ x.kind = 6 ∨ x.kind = 7) : x.name.length ≤ 32 ∧ x.start.length ≤ 32 := by
 rcases ok.has with ⟨k,hx⟩ | ⟨k,hx,hne,hA⟩ | ⟨k,hx,hev,hT'⟩ | ⟨k,hx,hT'⟩ | ⟨k,hx,hn,hv⟩ | ⟨k,hx,hn,hs⟩ | ⟨k,hx,hn,hs⟩ | ⟨k,hx,hn⟩
 ·omega
 ·omega
 ·omega
 ·omega
 ·omega
 ·refine ⟨nm_len hn,?_⟩
  rcases hs with e | e
  ·rw [e];decide
  ·exact nm_len e
 ·exact ⟨nm_len hn,nm_len hs⟩
 ·refine ⟨nm_len hn,?_⟩
  have : x.start = [] := by rw [hx];rfl
  rw [this]
  decide
theorem text_names {x : LnX} (ok : OkL x) (h : x.kind = 1 ∨ x.kind = 3 ∨ x.kind = 4 ∨ x.kind = 5 ∨ x.kind = 6 ∨ x.kind = 7) (w : World) (hw : Lw w) :
  Calls Tryz.prog 19 #[.agg (lnN (x.kind : Int) (bytL x.name) (bytL x.start))] w (Ret (.string (bytL (lnText x))) w) := by
 obtain ⟨h1,h2⟩ := names_len ok h
 have := ltext_names x.kind h (bytL x.name) (bytL x.start) (by rw [bytL_size];omega) (by rw [bytL_size];omega) w hw
 rw [names_text h] at this
 exact this
theorem show_valX {vk vn : Int} {vs : List UInt8} (ok : OkV vk vn vs) : showS vk vn (bytL vs) = bytL (valX vk vn vs) := by
 rcases ok with ⟨rfl,h64,hm,rfl⟩ | ⟨rfl,hn,rfl⟩ | ⟨rfl,rfl,hp,hl⟩
 ·unfold showS valX
  rw [if_pos rfl,if_pos rfl]
  by_cases h0 : vn < 0
  ·rw [if_pos h0,itoaS_neg h0,itoa_dig (by omega),show (⟨#[45]⟩ : ByteArray) = bytL [45] from rfl,bytL_append]
   rfl
  ·rw [if_neg h0]
   exact itoa_dig (by omega)
 ·unfold showS valX
  rcases hn with rfl | rfl <;> rfl
 ·unfold showS valX
  rw [if_neg (by decide),if_neg (by decide),if_neg (by decide),if_pos rfl]
  unfold quote
  rw [show (⟨#[39]⟩ : ByteArray) = bytL [39] from rfl,bytL_append,bytL_append]
  simp
theorem val_len {vk vn : Int} {vs : List UInt8} (ok : OkV vk vn vs) : (valX vk vn vs).length ≤ 2000 := by
 rcases ok with ⟨rfl,h64,hm,rfl⟩ | ⟨rfl,hn,rfl⟩ | ⟨rfl,rfl,hp,hl⟩
 ·unfold valX
  rw [if_pos rfl]
  unfold I64 at h64 hm
  split
  ·have := dig_len (n := -vn) (by omega)
   rw [List.length_cons]
   omega
  ·have := dig_len (n := vn) (by omega)
   omega
 ·unfold valX
  rcases hn with rfl | rfl <;> decide
 ·unfold valX
  rw [if_neg (by decide),if_pos rfl]
  simp
  omega
theorem right_val {vk vn : Int} {vs : List UInt8} (ok : OkV vk vn vs) : rightB vk vn (bytL vs) = true ∧ I64 vn := by
 have e : (bytL []).toList.isEmpty = true := by rw [Lib.toList_data];rfl
 rcases ok with ⟨rfl,h64,hm,rfl⟩ | ⟨rfl,hn,rfl⟩ | ⟨rfl,rfl,hp,hl⟩
 ·exact ⟨by unfold rightB;rw [e];rfl,h64⟩
 ·rcases hn with rfl | rfl <;> exact ⟨by unfold rightB;rw [e];rfl,by unfold I64;decide⟩
 ·refine ⟨?_,by unfold I64;decide⟩
  unfold rightB
  rw [bytL_list,hp]
  simp
theorem var_text {x : LnX} (h : x.kind = 2) : bytL (lnText x) = wdB 2 ++ ⟨#[32]⟩ ++ bytL x.name ++ ⟨#[32]⟩ ++ bytL (valX x.vk x.vn x.vs) := by
 have h1 : lnText x = joinS [lwL 2,x.name,valX x.vk x.vn x.vs] := by
  unfold lnText textP linePc restP
  rw [if_neg (by omega),if_neg (by omega),if_neg (by omega),if_neg (by omega),if_pos h,h]
  rfl
 rw [h1,wdB_byt,sp_byt,bytL_append,bytL_append,bytL_append,bytL_append]
 simp [joinS]
theorem var_ok {x : LnX} (ok : OkL x) (h : x.kind = 2) : OkV x.vk x.vn x.vs ∧ x.name.length ≤ 32 := by
 rcases ok.has with ⟨k,hx⟩ | ⟨k,hx,hne,hA⟩ | ⟨k,hx,hev,hT'⟩ | ⟨k,hx,hT'⟩ | ⟨k,hx,hn,hv⟩ | ⟨k,hx,hn,hs⟩ | ⟨k,hx,hn,hs⟩ | ⟨k,hx,hn⟩
 all_goals first
 | omega
 | exact ⟨hv,nm_len hn⟩
theorem text_var {x : LnX} (ok : OkL x) (h : x.kind = 2) (w : World) (hw : Az w) :
  Calls Tryz.prog 19 #[.agg (lnVr (bytL x.name) x.vk x.vn (bytL x.vs))] w (Ret (.string (bytL (lnText x))) w) := by
 obtain ⟨h1,h2⟩ := var_ok ok h
 obtain ⟨h3,h4⟩ := right_val h1
 have h5 := val_len h1
 have := ltext_var (bytL x.name) (bytL x.vs) x.vk x.vn h3 h4 (by rw [bytL_size];omega) (by rw [show_valX h1,bytL_size];omega) w hw
 unfold varB at this
 rw [show_valX h1,← var_text h] at this
 exact this
theorem acts_line {x : LnX} (h : x.kind = 8 ∨ x.kind = 9) (hne : x.acts ≠ []) : actsB x.kind (actsT x.acts) = bytL (lnText x) := by
 have h1 : lnText x = lwL x.kind ++ 32 :: textP (actsP x.acts) := by
  unfold lnText linePc restP
  rw [if_neg (by omega),if_pos h]
  unfold textP
  rw [List.map_cons]
  cases ha : x.acts with
  | nil => exact absurd ha hne
  | cons c cs =>
   cases hp : (actsP (c :: cs)).map fun p => p.1 with
   | nil => simp at hp;exact absurd hp (actsP_ne c cs)
   | cons m ms => rfl
 rw [h1]
 unfold actsB actsT
 rw [wdB_byt,sp_byt,bytL_append,bytL_append]
 simp
theorem acts_ok {x : LnX} (ok : OkL x) (h : x.kind = 8 ∨ x.kind = 9) : x.acts ≠ [] ∧ OkAs x.acts := by
 rcases ok.has with ⟨k,hx⟩ | ⟨k,hx,hne,hA⟩ | ⟨k,hx,hev,hT'⟩ | ⟨k,hx,hT'⟩ | ⟨k,hx,hn,hv⟩ | ⟨k,hx,hn,hs⟩ | ⟨k,hx,hn,hs⟩ | ⟨k,hx,hn⟩
 all_goals first
 | omega
 | exact ⟨hne,hA⟩
theorem text_acts {x : LnX} (ok : OkL x) (h : x.kind = 8 ∨ x.kind = 9) (ao : Option Addr) (cap : Nat) (w : World) (hw : Az w) (hA : ActsAt w ao (x.acts.map flatA)) :
  Calls Tryz.prog 19 #[.agg (lnAc (x.kind : Int) (.slice ao (x.acts.map flatA).length cap))] w (Ret (.string (bytL (lnText x))) w) := by
 obtain ⟨h1,h2⟩ := acts_ok ok h
 have hl := acts_len x.acts h2.2
 have hm := h2.1
 have := ltext_acts x.kind h ao (x.acts.map flatA).length cap (actsT x.acts) (by unfold actsT;rw [bytL_size];omega) w hw.al.lw fun wx hb => ashow_tree h2 ao cap wx (az_below hw hb) (acts_below hA hb)
 rw [acts_line h h1] at this
 exact this
theorem end_text {x : LnX} (h : x.kind = 12) : wdB 12 = bytL (lnText x) := by
 unfold lnText linePc restP textP
 rw [if_pos h,h]
 rfl
end Go.Proofs.YtfmaomoifkplbaaGreatDoor
