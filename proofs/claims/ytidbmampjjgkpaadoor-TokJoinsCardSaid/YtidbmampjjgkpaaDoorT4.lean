import Derived.Test.YtidbmampjjgkpaaDoorT3
import Derived.WalkKit
import Derived.ProofKit
import Derived.OpenShut
import Derived.Handy
import Derived.BigQuiet
import Derived.OwnWalk
import Derived.Deep.AppendLies
import Derived.Lib.Hide
import Derived.WalkSmall
import Derived.WalkLawsBesides
namespace Go.Proofs.YtidbmampjjgkpaaDoor
open Go.RowKit
/-- A token's cells. -/
def tkC (t : Tk) : List Value := [.int .i64 t.k, .string ⟨t.s.toArray⟩, .int .i64 t.n, .int .i64 (t.a : Int)]
def tksC (ts : List Tk) : List Value := ts.flatMap tkC
theorem tksC_snoc (ts : List Tk) (t : Tk) : tksC (ts ++ [t]) = tksC ts ++ tkC t := by simp [tksC]
theorem owns_below {w w' : World} {b e s : Nat} {v : Value} {n : Nat} {xs : List Value} (h : w.ownsRow b e s v n xs) (hb : Below w.heap.size w w') : w'.ownsRow b e s v n xs := by
  refine ⟨h.1, ?_⟩
  rcases h.2 with hn | ⟨g, cap, cur, rfl, hg, hgg, rest⟩
  · exact .inl hn
  · refine .inr ⟨g, cap, cur, rfl, hg, ?_, rest⟩
    rw [hb.block g (Array.getElem?_eq_some_iff.1 hgg).1]
    exact hgg
/-- What lexing a line answers; ty: the tokens' type. -/
def LexIs (ty : TypeId) (l : List UInt8) (w : World) (e : Ending) (w' : World) : Prop :=
  match lexT 120 0 l with
  | .ok ts => ∃ v, e = .returned (.tuple #[v, .int .i64 0, .int .i64 0]) ∧ w'.ownsRow w.heap.size ty 4 v ts.length (tksC ts) ∧ Below w.heap.size w w'
  | .error (x, p) => e = .returned (.tuple #[.slice none 0 0, .int .i64 x, .int .i64 (p : Int)]) ∧ Below w.heap.size w w'
theorem lexIs_ok {ty : TypeId} {l : List UInt8} {w : World} {e : Ending} {w' : World} {ts : List Tk} (h : lexT 120 0 l = .ok ts) :
    LexIs ty l w e w' = ∃ v, e = .returned (.tuple #[v, .int .i64 0, .int .i64 0]) ∧ w'.ownsRow w.heap.size ty 4 v ts.length (tksC ts) ∧ Below w.heap.size w w' := by unfold LexIs; rw [h]
theorem lexIs_err {ty : TypeId} {l : List UInt8} {w : World} {e : Ending} {w' : World} {x : Int} {p : Nat} (h : lexT 120 0 l = .error (x, p)) :
    LexIs ty l w e w' = (e = .returned (.tuple #[.slice none 0 0, .int .i64 x, .int .i64 (p : Int)]) ∧ Below w.heap.size w w') := by unfold LexIs; rw [h]
/-- Where the lexer stands: ts are the tokens so far, p is the place. -/
def AtL (l : List UInt8) (ts : List Tk) (p : Nat) : Prop := ts.length ≤ 120 ∧ lexT 120 0 l = pre ts (lexT (120 - ts.length) p (l.drop p))
theorem atL_zero (l : List UInt8) : AtL l [] 0 := ⟨by simp, by rw [pre_nil]; rfl⟩
theorem atL_blanks {l : List UInt8} {ts : List Tk} {p z : Nat} (hz : p + spanL blankL (l.drop p) = z) (h : AtL l ts p) : AtL l ts z := by
  refine ⟨h.1, ?_⟩
  rw [h.2, lexT_blanks, hz, List.drop_drop, hz]
theorem atL_end {l : List UInt8} {ts : List Tk} {p : Nat} (hp : l.length ≤ p) (h : AtL l ts p) : lexT 120 0 l = .ok ts := by
  rw [h.2, List.drop_of_length_le hp, lexT_end]
  simp [pre]
theorem atL_many {l : List UInt8} {ts : List Tk} {p : Nat} {c : UInt8} {r : List UInt8} (hl : l.drop p = c :: r) (hb : ((c.toNat : Int) == 32) = false) (hn : ts.length = 120) (h : AtL l ts p) : lexT 120 0 l = .error (13, p) := by
  rw [h.2, hl, hn, Nat.sub_self, lexT_many _ _ _ hb]
  rfl
theorem atL_bad {l : List UInt8} {ts : List Tk} {p : Nat} {c : UInt8} {r : List UInt8} {x : Int} (hl : l.drop p = c :: r) (hb : ((c.toNat : Int) == 32) = false) (hn : ts.length < 120) (ht : tokT (c :: r) = .error x) (h : AtL l ts p) : lexT 120 0 l = .error (x, p) := by
  obtain ⟨m, hm⟩ : ∃ m, 120 - ts.length = m + 1 := ⟨120 - ts.length - 1, by omega⟩
  rw [h.2, hl, hm, lexT_bad _ _ _ _ _ hb ht]
  rfl
theorem atL_tok {l : List UInt8} {ts : List Tk} {p : Nat} {c : UInt8} {r : List UInt8} {k : Int} {t : List UInt8} {n : Int} {z : Nat} (hl : l.drop p = c :: r) (hb : ((c.toNat : Int) == 32) = false) (hn : ts.length < 120) (ht : tokT (c :: r) = .ok (k, t, n, z)) (h : AtL l ts p) : AtL l (ts ++ [⟨k, t, n, p⟩]) (p + z) := by
  obtain ⟨m, hm⟩ : ∃ m, 120 - ts.length = m + 1 := ⟨120 - ts.length - 1, by omega⟩
  refine ⟨by simp; omega, ?_⟩
  rw [h.2, hl, hm, lexT_tok _ _ _ _ _ _ _ _ hb ht, pre_pre]
  rw [← hl, List.drop_drop]
  congr 2
  simp; omega
theorem span_again (p : List UInt8 → Bool) : ∀ l : List UInt8, spanL p (l.drop (spanL p l)) = 0
  | [] => rfl
  | c :: r => by
    cases h : p (c :: r)
    · rw [span_no h, List.drop_zero, span_no h]
    · rw [span_yes h, List.drop_succ_cons, span_again p r]
theorem blanks_le (s : ByteArray) (p z : Nat) (hp : p ≤ s.size) (hz : p + spanL blankL (s.data.toList.drop p) = z) : z ≤ s.size ∧ p ≤ z ∧ spanL blankL (s.data.toList.drop z) = 0 := by
  have h := spanL_le blankL (s.data.toList.drop p)
  have e : s.data.toList.length = s.size := by simp
  rw [List.length_drop] at h
  refine ⟨by omega, by omega, ?_⟩
  rw [← hz, ← List.drop_drop, span_again]
theorem wordT_len {c : UInt8} {r : List UInt8} {k : Int} {t : List UInt8} {n : Int} {z : Nat} (hc : letB c = true) (h : wordT (c :: r) = .ok (k, t, n, z)) : 1 ≤ z ∧ z ≤ (c :: r).length ∧ t.length ≤ z := by
  have hw : wordL (c :: r) = true := by simp [wordL, innB, hc]
  have hs := spanL_le wordL (c :: r)
  have h1 := span_yes hw
  unfold wordT at h
  simp only at h
  split at h
  · cases h
  · simp only [Except.ok.injEq, Prod.mk.injEq] at h
    obtain ⟨_, rfl, _, rfl⟩ := h
    rw [List.length_take]
    omega
theorem numT_len {c : UInt8} {r : List UInt8} {k : Int} {t : List UInt8} {n : Int} {z : Nat} (hc : digB c = true) (h : numT (c :: r) = .ok (k, t, n, z)) : 1 ≤ z ∧ z ≤ (c :: r).length ∧ t.length ≤ z := by
  have hs := spanL_le digL (c :: r)
  have h1 := span_yes (p := digL) (c := c) (r := r) hc
  unfold numT at h
  simp only at h
  split at h
  · cases h
  · split at h
    · cases h
    · simp only [Except.ok.injEq, Prod.mk.injEq] at h
      obtain ⟨_, rfl, _, rfl⟩ := h
      rw [List.length_take]
      omega
theorem quoT_len {c : UInt8} {r : List UInt8} {k : Int} {t : List UInt8} {n : Int} {z : Nat} (h : quoT r = .ok (k, t, n, z)) : 1 ≤ z ∧ z ≤ (c :: r).length ∧ t.length ≤ z := by
  have hs := spanL_le textL r
  unfold quoT at h
  simp only at h
  split at h
  · cases h
  · split at h
    · cases h
    · split at h
      · simp only [Except.ok.injEq, Prod.mk.injEq] at h
        obtain ⟨_, rfl, _, rfl⟩ := h
        rw [List.length_take, List.length_cons]
        omega
      · cases h
theorem sgnT_len {c : UInt8} {r : List UInt8} {k : Int} {t : List UInt8} {n : Int} {z : Nat} (h : sgnT c r = .ok (k, t, n, z)) : 1 ≤ z ∧ z ≤ (c :: r).length ∧ t.length ≤ z := by
  unfold sgnT at h
  split at h
  · rename_i h2
    simp only [Except.ok.injEq, Prod.mk.injEq] at h
    obtain ⟨_, rfl, _, rfl⟩ := h
    cases r with
    | nil => simp [eqL] at h2
    | cons d r => simp
  · split at h
    · simp only [Except.ok.injEq, Prod.mk.injEq] at h
      obtain ⟨_, rfl, _, rfl⟩ := h
      simp
    · cases h
theorem tokT_len {l : List UInt8} {k : Int} {t : List UInt8} {n : Int} {z : Nat} (h : tokT l = .ok (k, t, n, z)) : 1 ≤ z ∧ z ≤ l.length ∧ t.length ≤ z := by
  cases l with
  | nil => cases h
  | cons c r =>
    rw [tokT] at h
    split at h
    · exact wordT_len ‹_› h
    · split at h
      · exact numT_len ‹_› h
      · split at h
        · exact quoT_len h
        · exact sgnT_len h
theorem tokT_err {l : List UInt8} {x : Int} (h : tokT l = .error x) : (x == 0) = false := by
  rw [beq_eq_false_iff_ne]
  rintro rfl
  cases l with
  | nil => cases h
  | cons c r =>
    simp only [tokT, wordT, numT, quoT, sgnT] at h
    repeat (first | (split at h) | (cases h))
theorem clone_any (t : ByteArray) (ht : t.size ≤ 100000) (w : World) : Calls Tryd.prog 64 #[.string t] w (Ret (.string t) w) := by
  have C := fun wx => Lib.hid (show Calls Tryd.prog 90 #[.string t] wx (Ret (.string t) wx) from Any.stringslite_Clone Tryd.laysM316 t wx (by omega))
  replace C := Lib.hid C
  go_enter Tryd.func64, Tryd.ntmps64
  go_wp2_with ((with_reducible refine ((C.out _).out).mono ?_); intro e w1 hr; obtain ⟨rfl, p, rfl⟩ := hr.out; clear hr)
  go_returns
  exact ⟨rfl, by repeat' (first | (with_reducible exact Below.refl _ _) | (with_reducible assumption) | (with_reducible refine Below.alloc ?_ ?_ _) | (with_reducible refine Below.drew ?_) | (with_reducible refine belowN ?_ _) | (with_reducible refine Below.setCell ?_ ?_ _) | (with_reducible refine belowG ?_ ?_) | (with_reducible exact Nat.le_refl _) | (with_reducible refine le_sizeG ?_) | (with_reducible refine le_sizeA ?_) | (with_reducible refine le_sizeC ?_) | (with_reducible refine le_sizeD ?_) | (with_reducible refine le_sizeN ?_) | go_size | (simp [go_sem]; done))⟩
theorem Tryd.infoTok : (Tryd.prog.info? 58).map (fun i => (i.zero, i.size, i.bytes)) = some (some (.agg #[.int .i64 0, .string ⟨#[]⟩, .int .i64 0, .int .i64 0]), 4, 40) := by kernel_rfl
set_option maxRecDepth 100000 in
set_option maxHeartbeats 2000000 in
theorem tlex_any (s : ByteArray) (hs : s.size ≤ 100000) (w : World) (hw : Lb w) :
    Calls Tryd.prog 33 #[.string s] w (LexIs 58 s.data.toList w) := by
  have hlen : s.data.toList.length = s.size := by simp
  have R := fun a ha wx h => Lib.hid (tread_any s a ha hs wx (lb_below hw h))
  replace R := Lib.hid R
  have B := fun a z hz ha wx => Lib.hid (blanks_any s a z hz ha (by omega) wx)
  replace B := Lib.hid B
  obtain ⟨z0, hz0⟩ : ∃ z, 0 + spanL blankL (s.data.toList.drop 0) = z := ⟨_, rfl⟩
  have B0 := Lib.hid (show ∀ wx, Calls Tryd.prog 62 #[.string s, .int .i64 0] wx (Ret (.int .i64 z0) wx) from fun wx => blanks_any s 0 z0 hz0 (Nat.zero_le _) (by omega) wx)
  obtain ⟨i0, hi, hz1, hz2, hz3⟩ := info_parts Tryd.infoTok
  replace hw := Lib.hid hw
  go_enter Tryd.func33, Tryd.ntmps33
  go_wp2_with ((with_reducible refine (B0.out _).mono ?_); intro e w1 hr; obtain ⟨rfl, p, rfl⟩ := hr.out; clear hr)
  go_loopw [5, 6] (fun v x wr => ∃ (ts : List Tk) (p : Nat) (ao : Option Addr) (cap : Nat), v = .slice ao ts.length cap ∧ x = .int .i64 p ∧ p ≤ s.size ∧ wr.ownsRow w.heap.size 58 4 (.slice ao ts.length cap) ts.length (tksC ts) ∧
      AtL s.data.toList ts p ∧ spanL blankL (s.data.toList.drop p) = 0 ∧ Below w.heap.size w wr) (fun _ x _ => s.size - (intOf x).toNat)
  case atStart =>
    refine ⟨[], z0, none, 0, rfl, rfl, ?_, World.ownsRow_nil _ _ _ _, atL_blanks hz0 (atL_zero _), ?_, by repeat' (first | (with_reducible exact Below.refl _ _) | (with_reducible assumption) | (with_reducible refine Below.alloc ?_ ?_ _) | (with_reducible refine Below.drew ?_) | (with_reducible refine belowN ?_ _) | (with_reducible refine Below.setCell ?_ ?_ _) | (with_reducible refine belowG ?_ ?_) | (with_reducible exact Nat.le_refl _) | (with_reducible refine le_sizeG ?_) | (with_reducible refine le_sizeA ?_) | (with_reducible refine le_sizeC ?_) | (with_reducible refine le_sizeD ?_) | (with_reducible refine le_sizeN ?_) | go_size | (simp [go_sem]; done))⟩
    · exact (blanks_le s 0 z0 (Nat.zero_le _) hz0).1
    · exact (blanks_le s 0 z0 (Nat.zero_le _) hz0).2.2
  case round =>
    obtain ⟨ts, j, ao, cap, rfl, rfl, hj, hown, hat, hsp, hb⟩ := hrel
    rename World => wr
    have hwz := hb.size
    by_cases hlt : j < s.size
    · have hd := dropK s j hlt
      have hnb : ((s[j].toNat : Int) == 32) = false := by
        rw [← Bool.not_eq_true]
        intro h
        rw [hd, span_yes (p := blankL) h] at hsp
        omega
      by_cases hm : ts.length = 120
      · have hres := Lib.hid (atL_many hd hnb hm hat)
        clear hnb hd hsp hat
        go_wp2
        go_returns
        rw [lexIs_err hres.out]
        exact ⟨rfl, by repeat' (first | (with_reducible exact Below.refl _ _) | (with_reducible assumption) | (with_reducible refine Below.alloc ?_ ?_ _) | (with_reducible refine Below.drew ?_) | (with_reducible refine belowN ?_ _) | (with_reducible refine Below.setCell ?_ ?_ _) | (with_reducible refine belowG ?_ ?_) | (with_reducible exact Nat.le_refl _) | (with_reducible refine le_sizeG ?_) | (with_reducible refine le_sizeA ?_) | (with_reducible refine le_sizeC ?_) | (with_reducible refine le_sizeD ?_) | (with_reducible refine le_sizeN ?_) | go_size | (simp [go_sem]; done))⟩
      · have hm' : ts.length < 120 := by have := hat.1; omega
        rcases ht : tokT (s[j] :: s.data.toList.drop (j + 1)) with x | ⟨k, t, n, z⟩
        · have hres := Lib.hid (atL_bad hd hnb hm' ht hat)
          have hx := tokT_err ht
          have R := R.out j hlt
          rw [hd, ht, rdV_err] at R
          replace R := Lib.hid R
          clear hnb hd hsp hat ht
          go_wp2_with ((with_reducible refine ((R.out _ (by repeat' (first | (with_reducible exact Below.refl _ _) | (with_reducible assumption) | (with_reducible refine Below.alloc ?_ ?_ _) | (with_reducible refine Below.drew ?_) | (with_reducible refine belowN ?_ _) | (with_reducible refine Below.setCell ?_ ?_ _) | (with_reducible refine belowG ?_ ?_) | (with_reducible exact Nat.le_refl _) | (with_reducible refine le_sizeG ?_) | (with_reducible refine le_sizeA ?_) | (with_reducible refine le_sizeC ?_) | (with_reducible refine le_sizeD ?_) | (with_reducible refine le_sizeN ?_) | go_size | (simp [go_sem]; done)))).out).mono ?_); intro e w1 hr; obtain ⟨rfl, p, rfl⟩ := hr.out; clear hr)
          go_returns
          rw [lexIs_err hres.out]
          exact ⟨rfl, by repeat' (first | (with_reducible exact Below.refl _ _) | (with_reducible assumption) | (with_reducible refine Below.alloc ?_ ?_ _) | (with_reducible refine Below.drew ?_) | (with_reducible refine belowN ?_ _) | (with_reducible refine Below.setCell ?_ ?_ _) | (with_reducible refine belowG ?_ ?_) | (with_reducible exact Nat.le_refl _) | (with_reducible refine le_sizeG ?_) | (with_reducible refine le_sizeA ?_) | (with_reducible refine le_sizeC ?_) | (with_reducible refine le_sizeD ?_) | (with_reducible refine le_sizeN ?_) | go_size | (simp [go_sem]; done))⟩
        · obtain ⟨l1, l2, l3⟩ := tokT_len ht
          rw [← hd, List.length_drop] at l2
          have hnext := Lib.hid (atL_tok hd hnb hm' ht hat)
          obtain ⟨z2, hy2⟩ : ∃ z2, j + z + spanL blankL (s.data.toList.drop (j + z)) = z2 := ⟨_, rfl⟩
          have hy2' := blanks_le s (j + z) z2 (by omega) hy2
          obtain ⟨q, hq⟩ : ∃ q : ByteArray, q = ⟨t.toArray⟩ := ⟨_, rfl⟩
          have hqt : q.size = t.length := by rw [hq, Lib.size_eq]
          have hql : q.size ≤ 100000 := by omega
          have R := R.out j hlt
          rw [hd, ht, rdV_ok, ← hq] at R
          replace R := Lib.hid R
          have C := fun wx => Lib.hid (clone_any q hql wx)
          replace C := Lib.hid C
          obtain ⟨e, he⟩ : ∃ e, j + z = e := ⟨_, rfl⟩
          rw [he] at R
          have B := fun wx => (B.out e z2 (by rw [← he]; exact hy2) (by omega) wx)
          replace B := Lib.hid B
          replace hq := Lib.hid hq
          replace hy2' := Lib.hid hy2'
          replace hy2 := Lib.hid (atL_blanks hy2 hnext.out)
          clear hqt hlen he hnext
          clear hnb hd hsp hat ht
          go_wp2_with (first | ((with_reducible refine ((R.out _ (by repeat' (first | (with_reducible exact Below.refl _ _) | (with_reducible assumption) | (with_reducible refine Below.alloc ?_ ?_ _) | (with_reducible refine Below.drew ?_) | (with_reducible refine belowN ?_ _) | (with_reducible refine Below.setCell ?_ ?_ _) | (with_reducible refine belowG ?_ ?_) | (with_reducible exact Nat.le_refl _) | (with_reducible refine le_sizeG ?_) | (with_reducible refine le_sizeA ?_) | (with_reducible refine le_sizeC ?_) | (with_reducible refine le_sizeD ?_) | (with_reducible refine le_sizeN ?_) | go_size | (simp [go_sem]; done)))).out).mono ?_); intro e w1 hr; obtain ⟨rfl, p, rfl⟩ := hr.out; clear hr) | ((with_reducible refine ((C.out _).out).mono ?_); intro e w1 hr; obtain ⟨rfl, p, rfl⟩ := hr.out; clear hr) | (at_builtin; refine wpList_append_lies _ rfl _ _ 50 rfl w.heap.size 58 i0 _ 4 40 Tryd.underlying50 hi hz1 hz2 hz3 rfl (by decide) _ ts.length (tksC ts) rfl (owns_below hown ?b0) ⟨_, 0, none⟩ 1 1 [.int .i64 k, .string q, .int .i64 n, (.int .i64 (j : Int))] rfl rfl ?c1 ?c2 (by decide) ?c3 ?c4 ?c5 _ rfl ?_) | ((with_reducible refine ((B.out _).out).mono ?_); intro e w1 hr; obtain ⟨rfl, p, rfl⟩ := hr.out; clear hr))
          case b0 => repeat' (first | (with_reducible exact Below.refl _ _) | (with_reducible assumption) | (with_reducible refine Below.alloc ?_ ?_ _) | (with_reducible refine Below.drew ?_) | (with_reducible refine belowN ?_ _) | (with_reducible refine Below.setCell ?_ ?_ _) | (with_reducible refine belowG ?_ ?_) | (with_reducible exact Nat.le_refl _) | (with_reducible refine le_sizeG ?_) | (with_reducible refine le_sizeA ?_) | (with_reducible refine le_sizeC ?_) | (with_reducible refine le_sizeD ?_) | (with_reducible refine le_sizeN ?_) | go_size | (simp [go_sem]; done))
          case c1 =>
            intro j' u hj'
            match j', hj' with
            | 0, h => simp at h; subst h; simp [go_sem, Addr.add]
            | 1, h => simp at h; subst h; simp [go_sem, Addr.add]
            | 2, h => simp at h; subst h; simp [go_sem, Addr.add]
            | 3, h => simp at h; subst h; simp [go_sem, Addr.add]
          case c2 => intro u hu; simp at hu; rcases hu with rfl | rfl | rfl | rfl <;> rfl
          case c3 => unfold maxLen; omega
          case c4 => omega
          case c5 => repeat' (first | (with_reducible exact Below.refl _ _) | (with_reducible assumption) | (with_reducible refine Below.alloc ?_ ?_ _) | (with_reducible refine Below.drew ?_) | (with_reducible refine belowN ?_ _) | (with_reducible refine Below.setCell ?_ ?_ _) | (with_reducible refine belowG ?_ ?_) | (with_reducible exact Nat.le_refl _) | (with_reducible refine le_sizeG ?_) | (with_reducible refine le_sizeA ?_) | (with_reducible refine le_sizeC ?_) | (with_reducible refine le_sizeD ?_) | (with_reducible refine le_sizeN ?_) | go_size | (simp [go_sem]; done))
          intro g cap' w1 hown1 hgrow hat1 hg1
          have hb1 : Below w.heap.size w w1 := Below.grown (by repeat' (first | (with_reducible exact Below.refl _ _) | (with_reducible assumption) | (with_reducible refine Below.alloc ?_ ?_ _) | (with_reducible refine Below.drew ?_) | (with_reducible refine belowN ?_ _) | (with_reducible refine Below.setCell ?_ ?_ _) | (with_reducible refine belowG ?_ ?_) | (with_reducible exact Nat.le_refl _) | (with_reducible refine le_sizeG ?_) | (with_reducible refine le_sizeA ?_) | (with_reducible refine le_sizeC ?_) | (with_reducible refine le_sizeD ?_) | (with_reducible refine le_sizeN ?_) | go_size | (simp [go_sem]; done))) hgrow (by repeat' (first | (with_reducible exact Below.refl _ _) | (with_reducible assumption) | (with_reducible refine Below.alloc ?_ ?_ _) | (with_reducible refine Below.drew ?_) | (with_reducible refine belowN ?_ _) | (with_reducible refine Below.setCell ?_ ?_ _) | (with_reducible refine belowG ?_ ?_) | (with_reducible exact Nat.le_refl _) | (with_reducible refine le_sizeG ?_) | (with_reducible refine le_sizeA ?_) | (with_reducible refine le_sizeC ?_) | (with_reducible refine le_sizeD ?_) | (with_reducible refine le_sizeN ?_) | go_size | (simp [go_sem]; done))) (fun k hk => (hown.lt k hk).1)
          have hown2 : w1.ownsRow w.heap.size 58 4 (.slice (some ⟨g, 0, none⟩) (ts ++ [(⟨k, t, n, j⟩ : Tk)]).length cap') (ts ++ [(⟨k, t, n, j⟩ : Tk)]).length (tksC (ts ++ [⟨k, t, n, j⟩])) := by
            rw [tksC_snoc, show (ts ++ [(⟨k, t, n, j⟩ : Tk)]).length = ts.length + 1 by simp]
            rw [hq.out] at hown1
            exact hown1
          replace hown2 := Lib.hid hown2
          have hlen2 := Lib.hid (show (ts ++ [(⟨k, t, n, j⟩ : Tk)]).length = ts.length + 1 by simp)
          have hw1 := hb1.size
          clear hown1 hgrow hat1 hg1 hown hq hb R C
          go_wp2_with ((with_reducible refine ((B.out _).out).mono ?_); intro e w1 hr; obtain ⟨rfl, p, rfl⟩ := hr.out; clear hr)
          go_roundw
          case rel => exact ⟨ts ++ [⟨k, t, n, j⟩], z2, some ⟨g, 0, none⟩, cap', by rw [hlen2.out], rfl, hy2'.out.1, owns_below hown2.out (belowG0 _ _), hy2.out, hy2'.out.2.2, by repeat' (first | (with_reducible exact Below.refl _ _) | (with_reducible assumption) | (with_reducible refine Below.alloc ?_ ?_ _) | (with_reducible refine Below.drew ?_) | (with_reducible refine belowN ?_ _) | (with_reducible refine Below.setCell ?_ ?_ _) | (with_reducible refine belowG ?_ ?_) | (with_reducible exact Nat.le_refl _) | (with_reducible refine le_sizeG ?_) | (with_reducible refine le_sizeA ?_) | (with_reducible refine le_sizeC ?_) | (with_reducible refine le_sizeD ?_) | (with_reducible refine le_sizeN ?_) | go_size | (simp [go_sem]; done))⟩
          case measure => have := hy2'.out; simp [intOf]; omega
    · have hres := Lib.hid (atL_end (by omega) hat)
      clear hsp hat
      go_wp2
      go_returns
      rw [lexIs_ok hres.out]
      exact ⟨_, rfl, hown, by repeat' (first | (with_reducible exact Below.refl _ _) | (with_reducible assumption) | (with_reducible refine Below.alloc ?_ ?_ _) | (with_reducible refine Below.drew ?_) | (with_reducible refine belowN ?_ _) | (with_reducible refine Below.setCell ?_ ?_ _) | (with_reducible refine belowG ?_ ?_) | (with_reducible exact Nat.le_refl _) | (with_reducible refine le_sizeG ?_) | (with_reducible refine le_sizeA ?_) | (with_reducible refine le_sizeC ?_) | (with_reducible refine le_sizeD ?_) | (with_reducible refine le_sizeN ?_) | go_size | (simp [go_sem]; done))⟩
end Go.Proofs.YtidbmampjjgkpaaDoor
