/- Several texts of this proof, joined: H, I, J. -/
import Derived.Test.YtpgibloeinphaaaGreatDoorZ1
import Derived.WalkKit
import Derived.ProofKit
import Derived.OpenShut
import Derived.Handy
import Derived.BigQuiet
import Derived.Lib.Hide
import Derived.WalkLawsBesides
namespace Go.Proofs.YtpgibloeinphaaaGreatDoor
open Go.RowKit
def rightB (k n : Int) (s : ByteArray) : Bool := (k == 1 && s.toList.isEmpty) || (k == 2 && s.toList.isEmpty && (n == 0 || n == 1)) || (k == 3 && n == 0 && plainB s.data.toList)
theorem right_any (k n : Int) (s : ByteArray) (w : World) (hs : s.size ≤ maxLen) : Calls Tryz.prog 291 #[.agg #[.int .i64 k,.int .i64 n,.string s]] w (Ret (.bool (rightB k n s)) w) := by
 have hp := fun wx => Lib.hid (plain_any s wx hs)
 have hp := Lib.hid hp
 have hd : Hid (rightB k n s = ((k == 1 && s.toList.isEmpty) || (k == 2 && s.toList.isEmpty && (n == 0 || n == 1)) || (k == 3 && n == 0 && plainB s.data.toList))) := rfl
 by_cases h1 : k = 1
 ·subst h1
  go_enter Tryz.func291,Tryz.ntmps291
  go_wp2_with ((with_reducible refine ((hp.out _).out).mono ?_);rintro e w1 ⟨rfl,rfl⟩)
  all_goals go_returns
  all_goals exact ⟨ret_bl (by rw [hd.out];simp [*]),by (first | exact gwT | exact lzT)⟩
 ·by_cases h2 : k = 2
  ·subst h2
   rcases h3 : s.toList.isEmpty <;> by_cases h4 : n = 0 <;> by_cases h5 : n = 1
   all_goals try (exfalso;omega)
   all_goals try subst h4
   all_goals try subst h5
   all_goals
    try have h4' : (n == 0) = false := by simpa using h4
    try have h5' : (n == 1) = false := by simpa using h5
    have h3' := Lib.hid h3
    go_enter Tryz.func291,Tryz.ntmps291
    go_wp2_with ((with_reducible refine ((hp.out _).out).mono ?_);rintro e w1 ⟨rfl,rfl⟩)
    all_goals go_returns
    all_goals exact ⟨ret_bl (by rw [hd.out,h3'.out];simp [*]),by (first | exact gwT | exact lzT)⟩
  ·by_cases h6 : k = 3
   ·subst h6
    by_cases h4 : n = 0
    ·subst h4
     go_enter Tryz.func291,Tryz.ntmps291
     go_wp2_with ((with_reducible refine ((hp.out _).out).mono ?_);rintro e w1 ⟨rfl,rfl⟩)
     all_goals go_returns
     all_goals exact ⟨ret_bl (by rw [hd.out];simp [*]),by (first | exact gwT | exact lzT)⟩
    ·have h4' : (n == 0) = false := by simpa using h4
     go_enter Tryz.func291,Tryz.ntmps291
     go_wp2_with ((with_reducible refine ((hp.out _).out).mono ?_);rintro e w1 ⟨rfl,rfl⟩)
     all_goals go_returns
     all_goals exact ⟨ret_bl (by rw [hd.out];simp [*]),by (first | exact gwT | exact lzT)⟩
   ·have h1' : (k == 1) = false := by simpa using h1
    have h2' : (k == 2) = false := by simpa using h2
    have h6' : (k == 3) = false := by simpa using h6
    go_enter Tryz.func291,Tryz.ntmps291
    go_wp2_with ((with_reducible refine ((hp.out _).out).mono ?_);rintro e w1 ⟨rfl,rfl⟩)
    all_goals go_returns
    all_goals exact ⟨ret_bl (by rw [hd.out];simp [*]),by (first | exact gwT | exact lzT)⟩
end Go.Proofs.YtpgibloeinphaaaGreatDoor
namespace Go.Proofs.YtpgibloeinphaaaGreatDoor
open Go.RowKit
theorem drop_cons (s : ByteArray) (k : Nat) (h : k < s.size) : s.data.toList.drop k = s[k] :: s.data.toList.drop (k + 1) := by
 rw [List.drop_eq_getElem_cons (by simpa using h)];rfl
end Go.Proofs.YtpgibloeinphaaaGreatDoor
namespace Go.Proofs.YtpgibloeinphaaaGreatDoor
open Go.RowKit
def aloneB (op : Int) : Bool := op == 1 || op == 2
theorem alone_any (op : Int) (w : World) : Calls Tryz.prog 334 #[.int .i64 op] w (RetW (.bool (aloneB op)) w) := by
 by_cases h1 : op = 1
 ·subst h1
  go_enter Tryz.func334,Tryz.ntmps334
  go_wp2
  go_returns
  exact ⟨rfl,rfl⟩
 ·have h1' : (op == 1) = false := by simpa using h1
  go_enter Tryz.func334,Tryz.ntmps334
  go_wp2
  go_returns
  exact ⟨ret_bl (by simp [aloneB,h1']),rfl⟩
def takesB (op k : Int) : Bool :=
 if op = 2 ∨ op = 3 ∨ op = 4 ∨ op = 5 ∨ op = 7 then k == 1
 else if op = 6 ∨ op = 8 ∨ op = 9 ∨ op = 10 ∨ op = 11 then k == 1 || k == 3
 else if op = 12 ∨ op = 13 then k == 1 || k == 2 || k == 3
 else if op = 1 ∨ op = 14 ∨ op = 15 then k == 2 else false
theorem op_cases (op : Int) : op = 1 ∨ op = 2 ∨ op = 3 ∨ op = 4 ∨ op = 5 ∨ op = 6 ∨ op = 7 ∨ op = 8 ∨ op = 9 ∨ op = 10 ∨ op = 11 ∨ op = 12 ∨ op = 13 ∨ op = 14 ∨ op = 15 ∨ (op ≠ 1 ∧ op ≠ 2 ∧ op ≠ 3 ∧ op ≠ 4 ∧ op ≠ 5 ∧ op ≠ 6 ∧ op ≠ 7 ∧ op ≠ 8 ∧ op ≠ 9 ∧ op ≠ 10 ∧ op ≠ 11 ∧ op ≠ 12 ∧ op ≠ 13 ∧ op ≠ 14 ∧ op ≠ 15) := by omega
theorem takes_other (op k : Int) (h : op ≠ 1 ∧ op ≠ 2 ∧ op ≠ 3 ∧ op ≠ 4 ∧ op ≠ 5 ∧ op ≠ 6 ∧ op ≠ 7 ∧ op ≠ 8 ∧ op ≠ 9 ∧ op ≠ 10 ∧ op ≠ 11 ∧ op ≠ 12 ∧ op ≠ 13 ∧ op ≠ 14 ∧ op ≠ 15) : takesB op k = false := by
 unfold takesB
 repeat rw [if_neg (by omega)]
theorem takes_any (op k : Int) (w : World) : Calls Tryz.prog 333 #[.int .i64 op,.int .i64 k] w (RetW (.bool (takesB op k)) w) := by
 rcases op_cases op with rfl | rfl | rfl | rfl | rfl | rfl | rfl | rfl | rfl | rfl | rfl | rfl | rfl | rfl | rfl | h
 case' inr.inr.inr.inr.inr.inr.inr.inr.inr.inr.inr.inr.inr.inr.inr =>
  have ht := Lib.hid (takes_other op k h)
  have e := fun i (hi : op ≠ i) => (beq_eq_false_iff_ne.2 hi : (op == i) = false)
  obtain ⟨h1,h2,h3,h4,h5,h6,h7,h8,h9,h10,h11,h12,h13,h14,h15⟩ := h
  have e1 := e _ h1;have e2 := e _ h2;have e3 := e _ h3;have e4 := e _ h4;have e5 := e _ h5;have e6 := e _ h6;have e7 := e _ h7;have e8 := e _ h8;have e9 := e _ h9;have e10 := e _ h10;have e11 := e _ h11;have e12 := e _ h12;have e13 := e _ h13;have e14 := e _ h14;have e15 := e _ h15
  clear e
  go_enter Tryz.func333,Tryz.ntmps333
  go_wp2
  all_goals go_returns
  all_goals exact ⟨ret_bl ht.out.symm,rfl⟩
 all_goals
  go_enter Tryz.func333,Tryz.ntmps333
  go_wp2
  all_goals go_returns
  all_goals exact ⟨ret_bl (by simp [takesB];try simp [*]),rfl⟩
def resB (op a b : Int) : Bool := takesB op a && (aloneB op || a == b)
def resK (op a b : Int) : Int := if resB op a b then (if op = 2 ∨ op = 3 ∨ op = 4 ∨ op = 5 ∨ op = 6 ∨ op = 7 then a else 2) else 0
theorem resK_f {op a b : Int} (h : resB op a b = false) : resK op a b = 0 := by simp [resK,h]
theorem resK_a {op a b : Int} (h : resB op a b = true) (ho : op = 2 ∨ op = 3 ∨ op = 4 ∨ op = 5 ∨ op = 6 ∨ op = 7) : resK op a b = a := by simp only [resK,h,if_true,if_pos ho]
theorem resK_2 {op a b : Int} (h : resB op a b = true) (ho : ¬ (op = 2 ∨ op = 3 ∨ op = 4 ∨ op = 5 ∨ op = 6 ∨ op = 7)) : resK op a b = 2 := by simp only [resK,h,if_true,if_neg ho]
theorem resB_takes {op a b : Int} (h : resB op a b = true) : takesB op a = true := by simp [resB] at h;exact h.1
theorem result_any (op a b : Int) (w : World) : Calls Tryz.prog 317 #[.int .i64 op,.int .i64 a,.int .i64 b] w (RetW (.tuple #[.int .i64 (resK op a b),.bool (resB op a b)]) w) := by
 rcases ht : takesB op a
 ·have hr : resB op a b = false := by simp [resB,ht]
  have hk := Lib.hid (resK_f hr)
  have hr' := Lib.hid hr
  have ht' := Lib.hid ht
  clear ht hr
  go_enter Tryz.func317,Tryz.ntmps317
  go_wp2_with ((with_reducible refine (takes_any _ _ _).mono ?_);rintro e w1 ⟨rfl,rfl⟩;rw [ht'.out])
  go_returns
  exact ⟨ret_tup2 (ret_num hk.out.symm) (ret_bool hr'.out.symm),rfl⟩
 ·rcases hb : (aloneB op || a == b)
  ·have hr : resB op a b = false := by simp only [resB,ht,hb,Bool.and_false]
   have hk := Lib.hid (resK_f hr)
   have hr' := Lib.hid hr
   have ht' := Lib.hid ht
   have ha : Hid (aloneB op = false) := by simp at hb;exact hb.1
   have hn : (a == b) = false := by simp at hb;simpa using hb.2
   have hn' : (a != b) = true := by rw [bne,hn];rfl
   clear ht hr hb
   go_enter Tryz.func317,Tryz.ntmps317
   go_wp2_with (first | ((with_reducible refine (takes_any _ _ _).mono ?_);rintro e w1 ⟨rfl,rfl⟩;rw [ht'.out]) | ((with_reducible refine (alone_any _ _).mono ?_);rintro e w1 ⟨rfl,rfl⟩;rw [ha.out]))
   go_returns
   exact ⟨ret_tup2 (ret_num hk.out.symm) (ret_bool hr'.out.symm),rfl⟩
  ·have hr : resB op a b = true := by simp only [resB,ht,hb,Bool.and_self]
   have hr' := Lib.hid hr
   have ht' := Lib.hid ht
   have hk : (op = 2 ∨ op = 3 ∨ op = 4 ∨ op = 5 ∨ op = 6 ∨ op = 7) → Hid (resK op a b = a) := resK_a hr
   have hk2 : ¬ (op = 2 ∨ op = 3 ∨ op = 4 ∨ op = 5 ∨ op = 6 ∨ op = 7) → Hid (resK op a b = 2) := resK_2 hr
   have hk := Lib.hid hk
   have hk2 := Lib.hid hk2
   have hc : (aloneB op = true) ∨ (aloneB op = false ∧ (a == b) = true) := by
    rcases h : aloneB op
    ·rw [h] at hb;exact Or.inr ⟨rfl,by simpa using hb⟩
    ·exact Or.inl rfl
   clear ht hr hb
   rcases hc with ha | ⟨ha,hn⟩
   all_goals
    have ha' := Lib.hid ha
    try have hn' : (a != b) = false := by rw [bne,hn];rfl
    clear ha
    rcases op_cases op with rfl | rfl | rfl | rfl | rfl | rfl | rfl | rfl | rfl | rfl | rfl | rfl | rfl | rfl | rfl | h
    case' inr.inr.inr.inr.inr.inr.inr.inr.inr.inr.inr.inr.inr.inr.inr => have := takes_other op a h;rw [ht'.out] at this;cases this
    all_goals
     go_enter Tryz.func317,Tryz.ntmps317
     go_wp2_with (first | ((with_reducible refine (takes_any _ _ _).mono ?_);rintro e w1 ⟨rfl,rfl⟩;rw [ht'.out]) | ((with_reducible refine (alone_any _ _).mono ?_);rintro e w1 ⟨rfl,rfl⟩;rw [ha'.out]))
     go_returns
     exact ⟨ret_tup2 (ret_num (by first | exact (hk.out (of_decide_eq_true rfl)).out.symm | exact (hk2.out (of_decide_eq_true rfl)).out.symm)) (ret_bool hr'.out.symm),rfl⟩
end Go.Proofs.YtpgibloeinphaaaGreatDoor
