import Derived.Test.YtphdnfijefddlaaDoorU4
import Derived.WalkKit
import Derived.ProofKit
import Derived.OpenShut
import Derived.Handy
import Derived.BigQuiet
import Derived.OwnWalk
import Derived.Deep.AppendLies
import Derived.Lib.Hide
import Derived.WalkSmall
import Derived.WalkLawsBesides
namespace Go.Proofs.YtphdnfijefddlaaDoor
open Go.RowKit
theorem usign_any (s : ByteArray) (a : Nat) (ha : a < s.size) (hs : s.size ≤ 140737488351232) (w : World) :
    Calls Tryd.prog 37 #[.string s, .int .i64 a] w (Ret (urV a (sgnT s[a] (s.data.toList.drop (a + 1)))) w) := by
  rcases h : (twoB s[a] && eqL (s.data.toList.drop (a + 1)))
  · exact usign_one s a ha hs h w
  · rw [Bool.and_eq_true] at h
    have h1 : a + 1 < s.size := by
      rcases Nat.lt_or_ge (a + 1) s.size with h1 | h1
      · exact h1
      · have := h.2
        rw [List.drop_of_length_le (by simp; omega)] at this
        cases this
    have h2 := h.2
    rw [dropK s (a + 1) h1] at h2
    exact usign_two s a h1 hs h2 h.1 w
theorem urV_form (a : Nat) (x : Tok) : ∃ (k : Int) (t : ByteArray) (n p e y : Int), urV a x = .tuple #[.agg #[.int .i64 k, .string t, .int .i64 n, .int .i64 p], .int .i64 e, .int .i64 y] := by
  cases x with
  | error x => exact ⟨_, _, _, _, _, _, rfl⟩
  | ok x => exact ⟨_, _, _, _, _, _, rfl⟩
set_option maxHeartbeats 1000000 in
theorem utoken_any (s : ByteArray) (a : Nat) (ha : a < s.size) (hs : s.size ≤ 140737488351232) (w : World) :
    Calls Tryd.prog 26 #[.string s, .int .i64 a] w (Ret (urV a (tokT (s.data.toList.drop a))) w) := by
  have L := fun wx => Lib.hid (uletter_any s[a] wx)
  replace L := Lib.hid L
  rcases h1 : letB s[a]
  · rw [h1] at L
    rcases h2 : digB s[a]
    · have hg : 48 ≤ (s[a].toNat : Int) → ¬ (s[a].toNat : Int) ≤ 57 := fun h => by
        unfold digB at h2
        rw [decide_eq_true h, Bool.true_and] at h2
        exact of_decide_eq_false h2
      rcases h3 : ((s[a].toNat : Int) == 39)
      · have e : tokT (s.data.toList.drop a) = sgnT s[a] (s.data.toList.drop (a + 1)) := by rw [dropK s a ha, tokT, h1, h2, h3]; rfl
        have T := fun wx => Lib.hid (usign_any s a ha hs wx)
        replace T := Lib.hid T
        rw [e]
        obtain ⟨k, t, n, p, z, y, hr⟩ := urV_form a (sgnT s[a] (s.data.toList.drop (a + 1)))
        rw [hr] at T ⊢
        clear hr e h1 h2
        by_cases h4 : 48 ≤ (s[a].toNat : Int)
        · have h5 := hg h4
          clear hg
          go_enter Tryd.func26, Tryd.ntmps26
          go_wp2_with (first | ((with_reducible refine ((L.out _).out).mono ?_); rintro e w1 ⟨rfl, rfl⟩) | ((with_reducible refine ((T.out _).out).mono ?_); intro e w1 hr; obtain ⟨rfl, p, rfl⟩ := hr.out; clear hr))
          go_returns
          exact ⟨rfl, by (first | exact gwT | exact lzT)⟩
        · clear hg
          go_enter Tryd.func26, Tryd.ntmps26
          go_wp2_with (first | ((with_reducible refine ((L.out _).out).mono ?_); rintro e w1 ⟨rfl, rfl⟩) | ((with_reducible refine ((T.out _).out).mono ?_); intro e w1 hr; obtain ⟨rfl, p, rfl⟩ := hr.out; clear hr))
          go_returns
          exact ⟨rfl, by (first | exact gwT | exact lzT)⟩
      · have e : tokT (s.data.toList.drop a) = quoT (s.data.toList.drop (a + 1)) := by rw [dropK s a ha, tokT, h1, h2, h3]; rfl
        have T := fun wx => Lib.hid (uquote_any s a ha hs wx)
        replace T := Lib.hid T
        rw [e]
        obtain ⟨k, t, n, p, z, y, hr⟩ := urV_form a (quoT (s.data.toList.drop (a + 1)))
        rw [hr] at T ⊢
        have h4 : ¬ 48 ≤ (s[a].toNat : Int) := by rw [beq_iff_eq] at h3; omega
        clear hr e h1 h2 hg
        go_enter Tryd.func26, Tryd.ntmps26
        go_wp2_with (first | ((with_reducible refine ((L.out _).out).mono ?_); rintro e w1 ⟨rfl, rfl⟩) | ((with_reducible refine ((T.out _).out).mono ?_); intro e w1 hr; obtain ⟨rfl, p, rfl⟩ := hr.out; clear hr))
        go_returns
        exact ⟨rfl, by (first | exact gwT | exact lzT)⟩
    · have e : tokT (s.data.toList.drop a) = numT (s.data.toList.drop a) := by rw [dropK s a ha, tokT, h1, h2]; rfl
      have T := fun wx => Lib.hid (unumber_any s a ha h2 hs wx)
      replace T := Lib.hid T
      rw [e]
      obtain ⟨k, t, n, p, z, y, hr⟩ := urV_form a (numT (s.data.toList.drop a))
      rw [hr] at T ⊢
      have hg := dig_nat h2
      have h4 : 48 ≤ (s[a].toNat : Int) := by omega
      have h5 : (s[a].toNat : Int) ≤ 57 := by omega
      clear hr e h1 h2 hg
      go_enter Tryd.func26, Tryd.ntmps26
      go_wp2_with (first | ((with_reducible refine ((L.out _).out).mono ?_); rintro e w1 ⟨rfl, rfl⟩) | ((with_reducible refine ((T.out _).out).mono ?_); intro e w1 hr; obtain ⟨rfl, p, rfl⟩ := hr.out; clear hr))
      go_returns
      exact ⟨rfl, by (first | exact gwT | exact lzT)⟩
  · have e : tokT (s.data.toList.drop a) = wordT (s.data.toList.drop a) := by rw [dropK s a ha, tokT, h1]; rfl
    have T := fun wx => Lib.hid (upath_any s a (Nat.le_of_lt ha) hs wx)
    replace T := Lib.hid T
    rw [e]
    rw [h1] at L
    obtain ⟨k, t, n, p, z, y, hr⟩ := urV_form a (wordT (s.data.toList.drop a))
    rw [hr] at T ⊢
    clear hr e h1
    go_enter Tryd.func26, Tryd.ntmps26
    go_wp2_with (first | ((with_reducible refine ((L.out _).out).mono ?_); rintro e w1 ⟨rfl, rfl⟩) | ((with_reducible refine ((T.out _).out).mono ?_); intro e w1 hr; obtain ⟨rfl, p, rfl⟩ := hr.out; clear hr))
    go_returns
    exact ⟨rfl, by (first | exact gwT | exact lzT)⟩
theorem Tryd.infoT : (Tryd.prog.info? 39).map (fun i => (i.zero, i.size, i.bytes)) = some (some (.agg #[.int .i64 0, .string ⟨#[]⟩, .int .i64 0, .int .i64 0]), 4, 40) := by kernel_rfl
theorem atL_blank {l : List UInt8} {ts : List Tk} {p : Nat} {c : UInt8} {r : List UInt8} (hl : l.drop p = c :: r) (hb : ((c.toNat : Int) == 32) = true) (h : AtL l ts p) : AtL l ts (p + 1) := by
  refine ⟨h.1, ?_⟩
  rw [h.2, hl, lexT_blank _ _ _ _ hb]
  congr 2
  rw [← List.drop_drop, hl]
  rfl
set_option maxRecDepth 100000 in
set_option maxHeartbeats 2000000 in
theorem ulex_any (s : ByteArray) (hs : s.size ≤ 140737488351232) (w : World) :
    Calls Tryd.prog 16 #[.string s] w (LexIs 39 s.data.toList w) := by
  have hlen : s.data.toList.length = s.size := by simp
  have R := fun a ha wx => Lib.hid (utoken_any s a ha hs wx)
  replace R := Lib.hid R
  obtain ⟨i0, hi, hz1, hz2, hz3⟩ := info_parts Tryd.infoT
  go_enter Tryd.func16, Tryd.ntmps16
  go_wp2
  go_loopw [5, 6] (fun v x wr => ∃ (ts : List Tk) (p : Nat) (ao : Option Addr) (cap : Nat), v = .slice ao ts.length cap ∧ x = .int .i64 p ∧ p ≤ s.size ∧ wr.ownsRow w.heap.size 39 4 (.slice ao ts.length cap) ts.length (tksC ts) ∧
      AtL s.data.toList ts p ∧ Below w.heap.size w wr) (fun _ x _ => s.size - (intOf x).toNat)
  case atStart => exact ⟨[], 0, none, 0, rfl, rfl, Nat.zero_le _, World.ownsRow_nil _ _ _ _, atL_zero _, by (first | exact gwT | exact lzT)⟩
  case round =>
    obtain ⟨ts, j, ao, cap, rfl, rfl, hj, hown, hat, hb⟩ := hrel
    rename World => wr
    have hwz := hb.size
    by_cases hlt : j < s.size
    · have hd := dropK s j hlt
      rcases hnb : ((s[j].toNat : Int) == 32)
      · by_cases hm : ts.length = 120
        · have hres := Lib.hid (atL_many hd hnb hm hat)
          clear hd hat
          go_wp2
          go_returns
          rw [lexIs_err hres.out]
          exact ⟨rfl, by (first | exact gwT | exact lzT)⟩
        · have hm' : ts.length < 120 := by have := hat.1; omega
          rcases ht : tokT (s[j] :: s.data.toList.drop (j + 1)) with x | ⟨k, t, n, z⟩
          · have hres := Lib.hid (atL_bad hd hnb hm' ht hat)
            have hx := tokT_err ht
            have R := R.out j hlt
            rw [hd, ht, urV_err] at R
            replace R := Lib.hid R
            clear hd hat ht
            go_wp2_with ((with_reducible refine ((R.out _).out).mono ?_); intro e w1 hr; obtain ⟨rfl, p, rfl⟩ := hr.out; clear hr)
            go_returns
            rw [lexIs_err hres.out]
            exact ⟨rfl, by (first | exact gwT | exact lzT)⟩
          · obtain ⟨l1, l2, l3⟩ := tokT_len ht
            rw [← hd, List.length_drop] at l2
            have hnext := Lib.hid (atL_tok hd hnb hm' ht hat)
            obtain ⟨q, hq⟩ : ∃ q : ByteArray, q = ⟨t.toArray⟩ := ⟨_, rfl⟩
            have R := R.out j hlt
            rw [hd, ht, urV_ok, ← hq] at R
            replace R := Lib.hid R
            obtain ⟨e, he⟩ : ∃ e, j + z = e := ⟨_, rfl⟩
            rw [he] at R hnext
            have hje : j < e := by omega
            have hes : e ≤ s.size := by omega
            replace hq := Lib.hid hq
            clear hlen he hd hat ht
            go_wp2_with (first | ((with_reducible refine ((R.out _).out).mono ?_); intro e w1 hr; obtain ⟨rfl, p, rfl⟩ := hr.out; clear hr) | (at_builtin; refine wpList_append_lies _ rfl _ _ 35 rfl w.heap.size 39 i0 _ 4 40 Tryd.underlying35 hi hz1 hz2 hz3 rfl (by decide) _ ts.length (tksC ts) rfl (owns_below hown ?b0) ⟨_, 0, none⟩ 1 1 [.int .i64 k, .string q, .int .i64 n, (.int .i64 (j : Int))] rfl rfl ?c1 ?c2 (by decide) ?c3 ?c4 ?c5 _ rfl ?_))
            case b0 => (first | exact gwT | exact lzT)
            case c1 =>
              intro j' u hj'
              match j', hj' with
              | 0, h => simp at h; subst h; simp [go_sem, Addr.add]
              | 1, h => simp at h; subst h; simp [go_sem, Addr.add]
              | 2, h => simp at h; subst h; simp [go_sem, Addr.add]
              | 3, h => simp at h; subst h; simp [go_sem, Addr.add]
            case c2 => intro u hu; simp at hu; rcases hu with rfl | rfl | rfl | rfl <;> rfl
            case c3 => unfold maxLen; omega
            case c4 => omega
            case c5 => (first | exact gwT | exact lzT)
            intro g cap' w1 hown1 hgrow hat1 hg1
            have hb1 : Below w.heap.size w w1 := Below.grown (by (first | exact gwT | exact lzT)) hgrow (by (first | exact gwT | exact lzT)) (fun k hk => (hown.lt k hk).1)
            have hown2 : w1.ownsRow w.heap.size 39 4 (.slice (some ⟨g, 0, none⟩) (ts ++ [(⟨k, t, n, j⟩ : Tk)]).length cap') (ts ++ [(⟨k, t, n, j⟩ : Tk)]).length (tksC (ts ++ [⟨k, t, n, j⟩])) := by
              rw [tksC_snoc, show (ts ++ [(⟨k, t, n, j⟩ : Tk)]).length = ts.length + 1 by simp]
              rw [hq.out] at hown1
              exact hown1
            replace hown2 := Lib.hid hown2
            have hlen2 := Lib.hid (show (ts ++ [(⟨k, t, n, j⟩ : Tk)]).length = ts.length + 1 by simp)
            have hw1 := hb1.size
            clear hown1 hgrow hat1 hg1 hown hq hb R
            go_wp2
            go_roundw
            case rel => exact ⟨ts ++ [⟨k, t, n, j⟩], e, some ⟨g, 0, none⟩, cap', by rw [hlen2.out], rfl, hes, hown2.out, hnext.out, by (first | exact gwT | exact lzT)⟩
            case measure => simp [intOf]; omega
      · have hnext := Lib.hid (atL_blank hd hnb hat)
        clear hd hat
        go_wp2
        go_roundw
        case rel => exact ⟨ts, j + 1, ao, cap, rfl, by go_num, by omega, hown, hnext.out, by (first | exact gwT | exact lzT)⟩
        case measure => simp [intOf]; omega
    · have hres := Lib.hid (atL_end (by omega) hat)
      clear hat
      go_wp2
      go_returns
      rw [lexIs_ok hres.out]
      exact ⟨_, rfl, hown, by (first | exact gwT | exact lzT)⟩
end Go.Proofs.YtphdnfijefddlaaDoor

