/- event: the first one that an event is, words joined, the document's example. -/
import Derived.Test.YtphdnfijefddlaaDoorE2
import Derived.Test.YtphdnfijefddlaaDoorSJ
import Derived.Test.YtphdnfijefddlaaDoorTN
import Derived.Test.YtphdnfijefddlaaDoorXR
import Derived.WalkKit
import Derived.ProofKit
import Derived.OpenShut
import Derived.Handy
import Derived.BigQuiet
import Derived.Lib.Hide
import Derived.WalkSmall
import Derived.WalkLawsBesides
namespace Go.Proofs.YtphdnfijefddlaaDoor
open Go.RowKit
theorem efirst_c (n c : ByteArray) (b : Nat) (w : World) (hb : w.cell? ⟨b, 0, none⟩ = some (.string n)) :
    Calls Tryd.prog 19 #[.string c, .pointer (some ⟨b, 0, none⟩)] w (RetW (.bool (emB c n)) w) := by
  have M := Lib.hid (fun wx => ematch_any c n wx)
  generalize emB c n = m at *
  go_enter Tryd.func19, Tryd.ntmps19
  go_wp2_with ((with_reducible refine (M.out _).mono ?_); rintro e w1 ⟨rfl, rfl⟩)
  go_returns
  exact ⟨rfl, rfl⟩
/-- The first one by which it is called for, from place i on. -/
def emF (n : ByteArray) : List ByteArray → Nat → Int
  | [], _ => -1
  | c :: r, i => if emB c n then (i : Int) else emF n r (i + 1)
theorem emF_at (n : ByteArray) (cs : List ByteArray) (i : Nat) (h : i < cs.length) : emF n (cs.drop i) i = if emB cs[i] n then (i : Int) else emF n (cs.drop (i + 1)) (i + 1) := by
  rw [List.drop_eq_getElem_cons h, emF]
theorem emF_end (n : ByteArray) (cs : List ByteArray) (i : Nat) (h : cs.length ≤ i) : emF n (cs.drop i) i = -1 := by
  rw [List.drop_of_length_le h, emF]
set_option maxRecDepth 100000 in
theorem eidx_any (n : ByteArray) (ao : Option Addr) (cap : Nat) (cs : List ByteArray) (hn : cs.length ≤ 1000000) (b : Nat) (w : World) (h : Txts w ao cs) (hb : w.cell? ⟨b, 0, none⟩ = some (.string n)) :
    Calls Tryd.prog 18 #[.slice ao cs.length cap, .func (.func 19) #[] #[.pointer (some ⟨b, 0, none⟩)]] w (RetW (.int .i64 (emF n cs 0)) w) := by
  have C := Lib.hid (fun c => efirst_c n c b w hb)
  have hA := Lib.hid (fun i h => emF_at n cs i h)
  have hE := Lib.hid (fun i h => emF_end n cs i h)
  have h0 : Hid (emF n (cs.drop 0) 0 = emF n cs 0) := Lib.hid (by rw [List.drop_zero])
  generalize emF n cs 0 = F at *
  replace h := Lib.hid h
  clear hb
  go_enter Tryd.func18, Tryd.ntmps18
  go_wp2
  go_loop [8] (fun v => ∃ i : Nat, v = .int .i64 (i : Int) ∧ i ≤ cs.length ∧ Hid (emF n (cs.drop i) i = F)) (fun v => cs.length - (intOf v).toNat)
  case atStart => exact ⟨0, rfl, Nat.zero_le _, h0⟩
  case round =>
    obtain ⟨i, rfl, hi, hf⟩ := hrel
    by_cases hlt : i < cs.length
    · obtain ⟨a, rfl, hc⟩ := h.out i hlt
      have hI : (i : Int) < (cs.length : Int) := by omega
      have hm := hA.out i hlt
      rw [hf.out] at hm
      have C1 := Lib.hid (C.out cs[i])
      generalize cs[i] = c at *
      rcases he : emB c n
      · rw [he] at hm C1
        rw [if_neg (by decide)] at hm
        have hm' := Lib.hid hm.symm
        clear hm hf he C
        go_wp2_with ((with_reducible refine (C1.out).mono ?_); rintro e w1 ⟨rfl, rfl⟩)
        go_round
        case rel => exact ⟨i + 1, by go_num, by omega, hm'⟩
        case measure => simp [intOf]; omega
      · rw [he] at hm C1
        rw [if_pos rfl] at hm
        subst hm
        clear hf he C
        go_wp2_with ((with_reducible refine (C1.out).mono ?_); rintro e w1 ⟨rfl, rfl⟩)
        go_returns
        exact ⟨rfl, rfl⟩
    · have hge : ¬ (i : Int) < (cs.length : Int) := by omega
      have hm := hE.out i (by omega)
      rw [hf.out] at hm
      subst hm
      clear hf
      go_wp2
      go_returns
      exact ⟨rfl, rfl⟩
set_option maxRecDepth 100000 in
theorem efirst_any (n : ByteArray) (ao : Option Addr) (cap : Nat) (cs : List ByteArray) (hn : cs.length ≤ 1000000) (w : World) (h : Txts w ao cs) :
    Calls Tryd.prog 11 #[.string n, .slice ao cs.length cap] w (Ret (.int .i64 (emF n cs 0)) w) := by
  have I := Lib.hid (fun b wx (hk : Below w.heap.size w wx) hb => eidx_any n ao cap cs hn b wx (txts_below h hk) hb)
  have hmf : ∀ (fn : Fn) (first cap : Array Value) (w : World), (Instr.makeFunc fn first cap).run Tryd.prog w = .ok (.func fn first cap) w := fun _ _ _ _ => rfl
  generalize emF n cs 0 = F at *
  clear h
  go_enter Tryd.func11, Tryd.ntmps11
  go_wp2_with ((with_reducible refine (I.out _ _ (by (first | exact gwT | exact lzT)) (by simp [go_sem])).mono ?_); rintro e w1 ⟨rfl, rfl⟩)
  go_returns
  exact ⟨rfl, by (first | exact gwT | exact lzT)⟩
theorem join_dot : ∀ (xs : List ByteArray), joinB xs ⟨#[46]⟩ = joinE (xs.map (·.data.toList))
  | [] => rfl
  | [x] => by unfold joinB; rw [List.map_singleton, Lib.join_one]; rfl
  | x :: y :: r => by
    have ih := join_dot (y :: r)
    rw [joinB_cons]
    show _ = joinE (x.data.toList :: (y :: r).map (·.data.toList))
    rw [joinE_cons _ (by simp), ← ih, joinB_cons]
    unfold Lib.joinTail
    simp
theorem ejoin_any (tg cap : Nat) (xs : List ByteArray) (hn : xs.length ≤ 10000) (hcap : xs.length ≤ cap) (hj : (joinE (xs.map (·.data.toList))).length ≤ 900000) (w : World) (htg : tg < w.heap.size) (hT : ∀ j (h : j < xs.length), w.cell? ⟨tg, j, none⟩ = some (.string xs[j])) :
    Calls Tryd.prog 8 #[.slice (some ⟨tg, 0, none⟩) xs.length cap] w (Ret (.string ⟨(joinE (xs.map (·.data.toList))).toArray⟩) w) := by
  have J := Lib.hid (sjoin_any tg cap xs ⟨#[46]⟩ hn hcap (by decide) (by decide) (by rw [join_dot]; exact hj) w htg hT)
  rw [join_dot] at J
  generalize (⟨(joinE (xs.map (·.data.toList))).toArray⟩ : ByteArray) = t at *
  clear hT
  go_enter Tryd.func8, Tryd.ntmps8
  go_wp2_with ((with_reducible refine (J.out).mono ?_); intro e w1 hr; obtain ⟨rfl, p, rfl⟩ := hr.out; clear hr)
  go_returns
  exact ⟨rfl, by (first | exact gwT | exact lzT)⟩
/-- The event of a state that has come to its end. -/
def doneL (s : List UInt8) : List UInt8 := [100, 111, 110, 101, 46, 115, 116, 97, 116, 101, 46] ++ s
set_option maxRecDepth 100000 in
theorem edone_any (s : ByteArray) (hs : s.size ≤ 800000) (w : World) : Calls Tryd.prog 6 #[.string s] w (Ret (.string ⟨(doneL s.data.toList).toArray⟩) w) := by
  have J := Lib.hid (show ∀ (b : Nat) (wx : World), wx.heap[b]? = some (.cells #[.string ⟨#[100, 111, 110, 101]⟩, .string ⟨#[115, 116, 97, 116, 101]⟩, .string s] 9 (0, 0)) → Calls Tryd.prog 8 #[.slice (some ⟨b, 0, none⟩) 3 3] wx (Ret (.string ⟨(doneL s.data.toList).toArray⟩) wx) from fun b wx hb =>
    ejoin_any b 3 [⟨#[100, 111, 110, 101]⟩, ⟨#[115, 116, 97, 116, 101]⟩, s] (show (3 : Nat) ≤ 10000 by decide) (show (3 : Nat) ≤ 3 by decide) (by
      show (doneL s.data.toList).length ≤ 900000
      unfold doneL
      rw [List.length_append, ← Lib.size_eq]
      exact Nat.le_trans (Nat.add_le_add_left hs _) (by decide)) wx (Array.getElem?_eq_some_iff.1 hb).1 (fun j h => by
      rw [cell_of_row wx b j _ _ _ hb]
      match j, h with
      | 0, _ => rfl
      | 1, _ => rfl
      | 2, _ => rfl))
  generalize (⟨(doneL s.data.toList).toArray⟩ : ByteArray) = t at *
  go_enter Tryd.func6, Tryd.ntmps6
  go_wp2_with ((with_reducible refine (J.out _ _ (new_at (by simp))).mono ?_); intro e w1 hr; obtain ⟨rfl, p, rfl⟩ := hr.out; clear hr)
  go_returns
  exact ⟨rfl, by (first | exact gwT | exact lzT)⟩
set_option maxRecDepth 100000 in
theorem anchor12_any (w : World) : Calls Tryd.prog 5 #[] w (Ret (.bool true) w) := by
  have m1 := Lib.hid (fun wx => ematch_any ⟨#[101]⟩ ⟨#[101, 46, 97]⟩ wx)
  have m2 := Lib.hid (fun wx => ematch_any ⟨#[42]⟩ ⟨#[101, 46, 97]⟩ wx)
  have m3 := Lib.hid (fun wx => ematch_any ⟨#[101, 46, 97, 46, 98]⟩ ⟨#[101, 46, 97]⟩ wx)
  have d := Lib.hid (fun wx => edone_any ⟨#[115]⟩ (by decide) wx)
  rw [show emB ⟨#[101]⟩ ⟨#[101, 46, 97]⟩ = true by decide +kernel] at m1
  rw [show emB ⟨#[42]⟩ ⟨#[101, 46, 97]⟩ = true by decide +kernel] at m2
  rw [show emB ⟨#[101, 46, 97, 46, 98]⟩ ⟨#[101, 46, 97]⟩ = false by decide +kernel] at m3
  rw [show (⟨(doneL (⟨#[115]⟩ : ByteArray).data.toList).toArray⟩ : ByteArray) = ⟨#[100, 111, 110, 101, 46, 115, 116, 97, 116, 101, 46, 115]⟩ from rfl] at d
  go_enter Tryd.func5, Tryd.ntmps5
  go_wp2_with (first | ((with_reducible refine (m1.out _).mono ?_); rintro e w1 ⟨rfl, rfl⟩) | ((with_reducible refine (m2.out _).mono ?_); rintro e w1 ⟨rfl, rfl⟩) | ((with_reducible refine (m3.out _).mono ?_); rintro e w1 ⟨rfl, rfl⟩) | ((with_reducible refine (d.out _).mono ?_); intro e w1 hr; obtain ⟨rfl, p, rfl⟩ := hr.out; clear hr))
  go_returns
  exact ⟨rfl, by (first | exact gwT | exact lzT)⟩
end Go.Proofs.YtphdnfijefddlaaDoor

