/- expr.Parse, expr.Read. -/
import Derived.Test.YtkjgfcbanlcmgaaGreatDoorXA
import Derived.Test.YtkjgfcbanlcmgaaGreatDoorXB
import Derived.WalkKit
import Derived.ProofKit
import Derived.OpenShut
import Derived.Handy
import Derived.BigQuiet
import Derived.Lib.Hide
import Derived.WalkSmall
import Derived.WalkLawsBesides
namespace Go.Proofs.YtkjgfcbanlcmgaaGreatDoor
open Go.RowKit
theorem ndsC_at : ∀ (ns : List Nd) (i : Nat) (h : i < ns.length) (j : Nat), j < 7 → (ndsC ns)[i * 7 + j]? = (ndC ns[i])[j]?
  | [], i, h, _, _ => absurd h (Nat.not_lt_zero _)
  | t :: r, 0, _, j, hj => by
    unfold ndsC
    rw [List.flatMap_cons, Nat.zero_mul, Nat.zero_add, List.getElem?_append_left (by simpa [ndC] using hj)]
    rfl
  | t :: r, i + 1, h, j, hj => by
    have ih := ndsC_at r i (by simpa using h) j hj
    unfold ndsC at *
    rw [List.flatMap_cons, List.getElem?_append_right (by simp [ndC]; omega), show (i + 1) * 7 + j - (ndC t).length = i * 7 + j by simp [ndC]; omega, ih]
    rfl
theorem nds_own {w : World} {B cap : Nat} {na : Option Addr} {ns : List Nd} (h : w.ownsRow B 57 7 (.slice na ns.length cap) ns.length (ndsC ns)) : NdsAt w na ns := by
  intro h0
  obtain ⟨g, cap', e, hg, _, _, hc⟩ := own_head h h0
  cases e
  refine ⟨g, 0, rfl, hg, fun i hi => ?_⟩
  rw [Nat.zero_add]
  exact ⟨hc _ _ ((ndsC_at ns i hi 0 (by decide)).trans rfl), hc _ _ ((ndsC_at ns i hi 1 (by decide)).trans rfl), hc _ _ ((ndsC_at ns i hi 2 (by decide)).trans rfl), hc _ _ ((ndsC_at ns i hi 3 (by decide)).trans rfl), hc _ _ ((ndsC_at ns i hi 4 (by decide)).trans rfl), hc _ _ ((ndsC_at ns i hi 5 (by decide)).trans rfl), hc _ _ ((ndsC_at ns i hi 6 (by decide)).trans rfl)⟩
theorem owns_base {w : World} {B B' e s n : Nat} {v : Value} {xs : List Value} (h : w.ownsRow B e s v n xs) (hB : B' ≤ B) : w.ownsRow B' e s v n xs := by
  refine ⟨h.1, ?_⟩
  rcases h.2 with hn | ⟨g, cap, cur, hv, hg, rest⟩
  · exact .inl hn
  · exact .inr ⟨g, cap, cur, hv, Nat.le_trans hB hg, rest⟩
/-- What Parse answers. -/
def ParseIs (x : Except Int (List Nd × Nat)) (w : World) (e : Ending) (w' : World) : Prop :=
  match x with
  | .error x => e = .returned (.tuple #[.slice none 0 0, .int .i64 0, .int .i64 x]) ∧ Below w.heap.size w w'
  | .ok (ns, n) => ∃ v, e = .returned (.tuple #[v, .int .i64 (n : Int), .int .i64 0]) ∧ w'.ownsRow w.heap.size 57 7 v ns.length (ndsC ns) ∧ Below w.heap.size w w'
theorem sizeT_nz {ns : List Nd} : sizeT ns = 0 ∨ sizeT ns = 13 ∨ sizeT ns = 23 := by
  have : ∀ (ns : List Nd) ds, sizeL ds ns = 0 ∨ sizeL ds ns = 23 := by
    intro ns
    induction ns with
    | nil => exact fun _ => .inl rfl
    | cons n ns ih =>
      intro ds
      rw [sizeL]
      split
      · exact .inr rfl
      · exact ih _
  unfold sizeT
  split
  · exact .inr (.inl rfl)
  · rcases this ns [] with h | h
    · exact .inl h
    · exact .inr (.inr h)
set_option maxRecDepth 100000 in
set_option maxHeartbeats 4000000 in
theorem xparse_any (ao : Option Addr) (cap : Nat) (ts : List Tk) (a : Int) (hfew : ts.length ≤ 120) (w : World) (hs : Sl w ao ts) (heg : Eg w) :
    Calls Tryz.prog 15 #[.slice ao ts.length cap, .int .i64 a] w (ParseIs (parseT ts a) w) := by
  by_cases hneg : a < 0
  · have e : parseT ts a = .error 11 := by unfold parseT; rw [if_pos (.inl hneg)]
    rw [e]
    clear e hs heg
    go_enter Tryz.func15, Tryz.ntmps15
    go_wp2
    go_returns
    exact ⟨rfl, by repeat' (first | (with_reducible exact Below.refl _ _) | (with_reducible assumption) | (with_reducible refine Below.alloc ?_ ?_ _) | (with_reducible refine Below.drew ?_) | (with_reducible refine belowN ?_ _) | (with_reducible refine Below.setCell ?_ ?_ _) | (with_reducible refine belowG ?_ ?_) | (with_reducible exact Nat.le_refl _) | (with_reducible refine le_sizeG ?_) | (with_reducible refine le_sizeA ?_) | (with_reducible refine le_sizeC ?_) | (with_reducible refine le_sizeD ?_) | (with_reducible refine le_sizeN ?_) | go_size | (simp [go_sem]; done))⟩
  · obtain ⟨n, rfl⟩ : ∃ n : Nat, a = n := ⟨a.toNat, by omega⟩
    by_cases hbig : ts.length < n
    · have e : parseT ts (n : Int) = .error 11 := by unfold parseT; rw [if_pos (.inr (by omega))]
      rw [e]
      have hI : (ts.length : Int) < (n : Int) := by omega
      clear e hs heg hbig
      go_enter Tryz.func15, Tryz.ntmps15
      go_wp2
      go_returns
      exact ⟨rfl, by repeat' (first | (with_reducible exact Below.refl _ _) | (with_reducible assumption) | (with_reducible refine Below.alloc ?_ ?_ _) | (with_reducible refine Below.drew ?_) | (with_reducible refine belowN ?_ _) | (with_reducible refine Below.setCell ?_ ?_ _) | (with_reducible refine belowG ?_ ?_) | (with_reducible exact Nat.le_refl _) | (with_reducible refine le_sizeG ?_) | (with_reducible refine le_sizeA ?_) | (with_reducible refine le_sizeC ?_) | (with_reducible refine le_sizeD ?_) | (with_reducible refine le_sizeN ?_) | go_size | (simp [go_sem]; done))⟩
    · have hle : n ≤ ts.length := by omega
      have hI : ¬ (ts.length : Int) < (n : Int) := by omega
      have gS := good_start ts n hle
      have hgl := eg_lt heg
      have hW := Lib.hid (fun wx h env => rwhole_any (B := w.heap.size) (rb := w.heap.size) (ao := ao) (cap := cap) gS wx h env)
      have hrd : ∀ wx, wx = w.alloc (.cells #[.slice ao ts.length cap, .int .i64 (n : Int), .slice none 0 0, .slice none 0 0, .slice none 0 0, .int .i64 0] 73) → RdAt w.heap.size w.heap.size (.slice ao ts.length cap) ⟨n, [], [], [], 0⟩ wx ∧ Env w.heap.size ao ts wx := by
        rintro wx rfl
        have hb : Below w.heap.size w (w.alloc (.cells #[.slice ao ts.length cap, .int .i64 (n : Int), .slice none 0 0, .slice none 0 0, .slice none 0 0, .int .i64 0] 73)) := by repeat' (first | (with_reducible exact Below.refl _ _) | (with_reducible assumption) | (with_reducible refine Below.alloc ?_ ?_ _) | (with_reducible refine Below.drew ?_) | (with_reducible refine belowN ?_ _) | (with_reducible refine Below.setCell ?_ ?_ _) | (with_reducible refine belowG ?_ ?_) | (with_reducible exact Nat.le_refl _) | (with_reducible refine le_sizeG ?_) | (with_reducible refine le_sizeA ?_) | (with_reducible refine le_sizeC ?_) | (with_reducible refine le_sizeD ?_) | (with_reducible refine le_sizeN ?_) | go_size | (simp [go_sem]; done))
        refine ⟨⟨_, _, _, new_block _ _, World.ownsRow_nil _ _ _ _, World.ownsRow_nil _ _ _ _, World.ownsRow_nil _ _ _ _, .inl rfl, Nat.le_refl _⟩, ⟨fun h0 => ?_, hgl, eg_keep heg hgl hb, hfew, hb.size⟩⟩
        obtain ⟨g, hg, hgl, ht⟩ := hs h0
        exact ⟨g, hg, hgl, toks_below ht hgl hb⟩
      replace hrd := Lib.hid hrd
      have hdef : ∀ x, whole 128 ts ⟨n, [], [], [], 0⟩ = x → parseT ts (n : Int) = match x with | none => .error 11 | some r => if sizeT r.nodes ≠ 0 then .error (sizeT r.nodes) else .ok (r.nodes, r.at_) := by
        rintro x rfl
        unfold parseT
        rw [if_neg (by omega)]
        rfl
      obtain ⟨x, hx⟩ : ∃ x, whole 128 ts ⟨n, [], [], [], 0⟩ = x := ⟨_, rfl⟩
      have hgood := Lib.hid (fun r h => whole_good (r' := r) 128 gS h)
      have hp := hdef x hx
      rw [hx] at hW
      cases x with
      | none =>
        simp only at hp
        rw [hp]
        clear hp hdef hs heg gS hgood hx
        go_enter Tryz.func15, Tryz.ntmps15
        go_wp2_with fail
        obtain ⟨r1, r2⟩ := hrd.out _ rfl
        refine (hW.out _ r1 r2).mono ?_
        intro e w1 hr
        obtain ⟨rfl, _, hb1⟩ := hr
        clear hW r1 r2 hrd
        go_wp2
        go_returns
        exact ⟨rfl, Below.trans (by repeat' (first | (with_reducible exact Below.refl _ _) | (with_reducible assumption) | (with_reducible refine Below.alloc ?_ ?_ _) | (with_reducible refine Below.drew ?_) | (with_reducible refine belowN ?_ _) | (with_reducible refine Below.setCell ?_ ?_ _) | (with_reducible refine belowG ?_ ?_) | (with_reducible exact Nat.le_refl _) | (with_reducible refine le_sizeG ?_) | (with_reducible refine le_sizeA ?_) | (with_reducible refine le_sizeC ?_) | (with_reducible refine le_sizeD ?_) | (with_reducible refine le_sizeN ?_) | go_size | (simp [go_sem]; done))) hb1⟩
      | some r =>
        simp only at hp
        have hgd := hgood.out r hx
        obtain ⟨hn1, _, _, _⟩ := good_few hgd hfew
        have hra := hgd.at_
        have S := Lib.hid (fun ao cap wx h => size_any ao cap r.nodes (by omega) wx h)
        have hsz := sizeT_nz (ns := r.nodes)
        generalize sizeT r.nodes = sz at *
        have hpK := Lib.hid hp
        clear hp hdef hs heg gS hgood hx hgd
        go_enter Tryz.func15, Tryz.ntmps15
        go_wp2_with fail
        obtain ⟨r1, r2⟩ := hrd.out _ rfl
        refine (hW.out _ r1 r2).mono ?_
        intro e w1 hr
        obtain ⟨rfl, h1, hb1⟩ := hr
        obtain ⟨nv, pv, wv, h1⟩ := h1 r rfl
        clear hW r1 r2 hrd
        have hb2 : Below w.heap.size w w1 := Below.trans (by repeat' (first | (with_reducible exact Below.refl _ _) | (with_reducible assumption) | (with_reducible refine Below.alloc ?_ ?_ _) | (with_reducible refine Below.drew ?_) | (with_reducible refine belowN ?_ _) | (with_reducible refine Below.setCell ?_ ?_ _) | (with_reducible refine belowG ?_ ?_) | (with_reducible exact Nat.le_refl _) | (with_reducible refine le_sizeG ?_) | (with_reducible refine le_sizeA ?_) | (with_reducible refine le_sizeC ?_) | (with_reducible refine le_sizeD ?_) | (with_reducible refine le_sizeN ?_) | go_size | (simp [go_sem]; done))) hb1
        obtain ⟨na, nc, hne⟩ := own_form h1.nodes
        subst hne
        have hown := Lib.hid h1.nodes
        have N := Lib.hid (nds_own h1.nodes)
        obtain ⟨_, c1, c2, _, _, _, hrb, _⟩ := rd_cells h1
        have i1 : InW w.heap.size w1 := ⟨hrb⟩
        have hsz1 : w.heap.size ≤ w1.heap.size := by omega
        clear h1 hb1
        by_cases h0 : sz = 0
        · subst h0
          go_wp2_with ((with_reducible refine (S.out _ _ _ (nds_below N.out (by repeat' (first | (with_reducible exact Below.refl _ _) | (with_reducible assumption) | (with_reducible refine Below.alloc ?_ ?_ _) | (with_reducible refine Below.drew ?_) | (with_reducible refine belowN ?_ _) | (with_reducible refine Below.setCell ?_ ?_ _) | (with_reducible refine belowG ?_ ?_) | (with_reducible exact Nat.le_refl _) | (with_reducible refine le_sizeG ?_) | (with_reducible refine le_sizeA ?_) | (with_reducible refine le_sizeC ?_) | (with_reducible refine le_sizeD ?_) | (with_reducible refine le_sizeN ?_) | go_size | (simp [go_sem]; done))))).mono ?_); intro e w1 hr; obtain ⟨rfl, p, rfl⟩ := hr.out; clear hr)
          (refine wp_region_G (by kernel_rfl) (by kernel_rfl) ?_; (repeat (go_big_quiet_step (fail))); refine wpQuiet_nil ?_; intro _ hw'; obtain ⟨pg, hw''⟩ := hw'; subst hw'')
          go_wp2_with fail
          go_returns
          show ParseIs (parseT ts (n : Int)) w _ _
          rw [hpK.out, if_neg (by simp)]
          exact ⟨_, rfl, owns_below hown.out (by repeat' (first | (with_reducible exact Below.refl _ _) | (with_reducible assumption) | (with_reducible refine Below.alloc ?_ ?_ _) | (with_reducible refine Below.drew ?_) | (with_reducible refine belowN ?_ _) | (with_reducible refine Below.setCell ?_ ?_ _) | (with_reducible refine belowG ?_ ?_) | (with_reducible exact Nat.le_refl _) | (with_reducible refine le_sizeG ?_) | (with_reducible refine le_sizeA ?_) | (with_reducible refine le_sizeC ?_) | (with_reducible refine le_sizeD ?_) | (with_reducible refine le_sizeN ?_) | go_size | (simp [go_sem]; done))), by repeat' (first | (with_reducible exact Below.refl _ _) | (with_reducible assumption) | (with_reducible refine Below.alloc ?_ ?_ _) | (with_reducible refine Below.drew ?_) | (with_reducible refine belowN ?_ _) | (with_reducible refine Below.setCell ?_ ?_ _) | (with_reducible refine belowG ?_ ?_) | (with_reducible exact Nat.le_refl _) | (with_reducible refine le_sizeG ?_) | (with_reducible refine le_sizeA ?_) | (with_reducible refine le_sizeC ?_) | (with_reducible refine le_sizeD ?_) | (with_reducible refine le_sizeN ?_) | go_size | (simp [go_sem]; done))⟩
        · have h0' : (sz != 0) = true := by rw [bne_iff_ne]; exact h0
          have h0K := Lib.hid h0
          clear h0 hsz
          go_wp2_with ((with_reducible refine (S.out _ _ _ (nds_below N.out (by repeat' (first | (with_reducible exact Below.refl _ _) | (with_reducible assumption) | (with_reducible refine Below.alloc ?_ ?_ _) | (with_reducible refine Below.drew ?_) | (with_reducible refine belowN ?_ _) | (with_reducible refine Below.setCell ?_ ?_ _) | (with_reducible refine belowG ?_ ?_) | (with_reducible exact Nat.le_refl _) | (with_reducible refine le_sizeG ?_) | (with_reducible refine le_sizeA ?_) | (with_reducible refine le_sizeC ?_) | (with_reducible refine le_sizeD ?_) | (with_reducible refine le_sizeN ?_) | go_size | (simp [go_sem]; done))))).mono ?_); intro e w1 hr; obtain ⟨rfl, p, rfl⟩ := hr.out; clear hr)
          go_returns
          show ParseIs (parseT ts (n : Int)) w _ _
          rw [hpK.out, if_pos h0K.out]
          exact ⟨rfl, by repeat' (first | (with_reducible exact Below.refl _ _) | (with_reducible assumption) | (with_reducible refine Below.alloc ?_ ?_ _) | (with_reducible refine Below.drew ?_) | (with_reducible refine belowN ?_ _) | (with_reducible refine Below.setCell ?_ ?_ _) | (with_reducible refine belowG ?_ ?_) | (with_reducible exact Nat.le_refl _) | (with_reducible refine le_sizeG ?_) | (with_reducible refine le_sizeA ?_) | (with_reducible refine le_sizeC ?_) | (with_reducible refine le_sizeD ?_) | (with_reducible refine le_sizeN ?_) | go_size | (simp [go_sem]; done))⟩
def readT (l : List UInt8) : Except Int (List Nd) :=
  match lexT 120 0 l with
  | .error (x, _) => .error x
  | .ok ts =>
    match parseT ts 0 with
    | .error x => .error x
    | .ok (ns, n) => if n < ts.length then .error 11 else .ok ns
/-- What Read answers. -/
def ReadIs (x : Except Int (List Nd)) (w : World) (e : Ending) (w' : World) : Prop :=
  match x with
  | .error x => e = .returned (.tuple #[.slice none 0 0, .int .i64 x]) ∧ Below w.heap.size w w'
  | .ok ns => ∃ v, e = .returned (.tuple #[v, .int .i64 0]) ∧ w'.ownsRow w.heap.size 57 7 v ns.length (ndsC ns) ∧ Below w.heap.size w w'
theorem parseT_nz {ts : List Tk} {a x : Int} (h : parseT ts a = .error x) : (x != 0) = true := by
  unfold parseT at h
  split at h
  · cases h; rfl
  · split at h
    · cases h; rfl
    · split at h
      · rename_i hs
        cases h
        rw [bne_iff_ne]
        exact hs
      · cases h
theorem parseT_at {ts : List Tk} {a : Int} {ns : List Nd} {n : Nat} (h : parseT ts a = .ok (ns, n)) : n ≤ ts.length ∧ ns.length ≤ 32 := by
  unfold parseT at h
  split at h
  · cases h
  · rename_i ha
    split at h
    · cases h
    · rename_i r hr
      split at h
      · cases h
      · rename_i hs
        cases h
        have g := whole_good 128 (good_start ts a.toNat (by omega)) hr
        refine ⟨g.at_, ?_⟩
        have h0 : sizeT r.nodes = 0 := Decidable.not_not.1 hs
        unfold sizeT at h0
        split at h0
        · cases h0
        · omega
set_option maxRecDepth 100000 in
set_option maxHeartbeats 4000000 in
theorem read3_any (s : ByteArray) (hs : s.size ≤ 2000000) (w : World) (hw : Lb w) (heg : Eg w) : Calls Tryz.prog 8 #[.string s] w (ReadIs (readT s.data.toList) w) := by
  have T := Lib.hid (tlex_any s hs w hw)
  have hgl := eg_lt heg
  have hE := Lib.hid (fun wx hb => eg_keep (w' := wx) heg hgl hb)
  clear hw heg
  rcases hl : lexT 120 0 s.data.toList with ⟨x, j⟩ | ts
  · have e : readT s.data.toList = .error x := by unfold readT; rw [hl]
    rw [e]
    have hx : (x != 0) = true := by rw [bne, lexT_err hl]; rfl
    clear e
    go_enter Tryz.func8, Tryz.ntmps8
    go_wp2_with fail
    refine (T.out).mono ?_
    intro e w1 hr
    rw [lexIs_err hl] at hr
    obtain ⟨rfl, hb⟩ := hr
    clear T hl
    go_wp2
    go_returns
    exact ⟨rfl, hb⟩
  · have hfew := lexT_count hl
    rcases hp : parseT ts 0 with x | ⟨ns, n⟩
    · have e : readT s.data.toList = .error x := by unfold readT; rw [hl]; simp only; rw [hp]
      rw [e]
      have hx := parseT_nz hp
      have P := Lib.hid (fun ao cap wx h1 h2 => xparse_any ao cap ts 0 hfew wx h1 h2)
      rw [hp] at P
      clear e hp
      go_enter Tryz.func8, Tryz.ntmps8
      go_wp2_with fail
      refine (T.out).mono ?_
      intro e w1 hr
      obtain ⟨ao, cap, rfl, h1, hb⟩ := lex_sl hl hr
      have hE1 := hE.out w1 hb
      have P1 := Lib.hid (P.out ao cap w1 h1 hE1)
      clear T hl hr h1 P hE1
      go_wp2_with fail
      refine (P1.out).mono ?_
      intro e w2 hr
      obtain ⟨rfl, hb2⟩ := hr
      have hb3 := hb.trans (hb2.mono hb.size)
      clear P1 hb2
      go_wp2
      go_returns
      exact ⟨rfl, hb3⟩
    · obtain ⟨hn1, hn2⟩ := parseT_at hp
      have P := Lib.hid (fun ao cap wx h1 h2 => xparse_any ao cap ts 0 hfew wx h1 h2)
      rw [hp] at P
      by_cases hlt : n < ts.length
      · have e : readT s.data.toList = .error 11 := by unfold readT; rw [hl]; simp only; rw [hp]; simp only; rw [if_pos hlt]
        rw [e]
        have hI : (n : Int) < (ts.length : Int) := by omega
        clear e hp
        go_enter Tryz.func8, Tryz.ntmps8
        go_wp2_with fail
        refine (T.out).mono ?_
        intro e w1 hr
        obtain ⟨ao, cap, rfl, h1, hb⟩ := lex_sl hl hr
        have hE1 := hE.out w1 hb
        have P1 := Lib.hid (P.out ao cap w1 h1 hE1)
        clear T hl hr h1 P hE1
        go_wp2_with fail
        refine (P1.out).mono ?_
        intro e w2 hr
        obtain ⟨v, rfl, hown, hb2⟩ := hr
        have hb3 := hb.trans (hb2.mono hb.size)
        clear P1 hb2 hown
        go_wp2
        go_returns
        exact ⟨rfl, hb3⟩
      · have e : readT s.data.toList = .ok ns := by unfold readT; rw [hl]; simp only; rw [hp]; simp only; rw [if_neg hlt]
        rw [e]
        have hI : ¬ (n : Int) < (ts.length : Int) := by omega
        clear e hp
        go_enter Tryz.func8, Tryz.ntmps8
        go_wp2_with fail
        refine (T.out).mono ?_
        intro e w1 hr
        obtain ⟨ao, cap, rfl, h1, hb⟩ := lex_sl hl hr
        have hE1 := hE.out w1 hb
        have P1 := Lib.hid (P.out ao cap w1 h1 hE1)
        clear T hl hr h1 P hE1
        go_wp2_with fail
        refine (P1.out).mono ?_
        intro e w2 hr
        obtain ⟨v, rfl, hown, hb2⟩ := hr
        have hb3 := hb.trans (hb2.mono hb.size)
        have hown2 := Lib.hid (owns_base hown hb.size)
        clear P1 hb2 hown
        go_wp2
        go_returns
        exact ⟨_, rfl, hown2.out, hb3⟩
end Go.Proofs.YtkjgfcbanlcmgaaGreatDoor

