/- LineStates: the walk. -/
import Derived.Test.YtmalnjmginmjkaaGreatDoorP6
import Derived.Test.YtmalnjmginmjkaaGreatDoorWNames
import Derived.WalkKit
import Derived.ProofKit
import Derived.OpenShut
import Derived.Handy
import Derived.BigQuiet
import Derived.OwnWalk
import Derived.Lib.Hide
import Derived.WalkSmall
import Derived.WalkLawsBesides
namespace Go.Proofs.YtmalnjmginmjkaaGreatDoor
open Go.RowKit
/-- Some line, or an error: no more is asked. -/
def ElseIs (w : World) (e : Ending) (w' : World) : Prop := ∃ (k vk vn x : Int) (nm st vs ev : ByteArray) (inn : Bool) (ao io go to' : Option Addr) (al ac il ic gl gc tl tc : Nat), e = .returned (.tuple #[.agg #[.int .i64 k, .string nm, .string st, .int .i64 vk, .int .i64 vn, .string vs, .slice ao al ac, .string ev, .slice io il ic, .slice go gl gc, .bool inn, .slice to' tl tc], .int .i64 x]) ∧ Below w.heap.size w w'
theorem line_else (t : ByteArray) (ht : t.size ≤ 140737488351232) (w : World) (hw : Al w) : Calls Tryz.prog 6 #[.string t] w (ElseIs w) := by
  refine (lparse_any t ht w hw).mono fun e w' hr => ?_
  cases hx : parseL t.data.toList with
  | error x =>
    rw [hx] at hr
    obtain ⟨rfl, _, hb⟩ := hr
    exact ⟨_, _, _, _, _, _, _, _, _, _, _, _, _, _, _, _, _, _, _, _, _, rfl, hb⟩
  | ok n =>
    rw [hx] at hr
    obtain ⟨av, iv, gv, tv, rfl, hV, hb⟩ := hr
    obtain ⟨ao, ac, rfl⟩ := own_form hV.acts.choose_spec.2
    obtain ⟨io, ic, rfl⟩ := own_form hV.cond
    obtain ⟨go, gc, rfl⟩ := own_form hV.goes
    obtain ⟨to', tc, rfl⟩ := own_form hV.thn.choose_spec.2
    exact ⟨_, _, _, _, _, _, _, _, _, _, _, _, _, _, _, _, _, _, _, _, _, rfl, hb⟩
/-- A line of a kind with a name, and perhaps another one. -/
def NamesIs (k : Int) (nm st : ByteArray) (w : World) (e : Ending) (w' : World) : Prop := ∃ (ao io go to' : Option Addr) (ac ic gc tc : Nat), e = .returned (.tuple #[.agg #[.int .i64 k, .string nm, .string st, .int .i64 0, .int .i64 0, .string ⟨#[]⟩, .slice ao 0 ac, .string ⟨#[]⟩, .slice io 0 ic, .slice go 0 gc, .bool false, .slice to' 0 tc], .int .i64 0]) ∧ Below w.heap.size w w'
theorem line_names (k : Nat) (nm st t : ByteArray) (ht : t.size ≤ 140737488351232) (hp : parseL t.data.toList = .ok { ln0 k with name := nm.data.toList, start := st.data.toList }) (w : World) (hw : Al w) : Calls Tryz.prog 6 #[.string t] w (NamesIs k nm st w) := by
  refine (lparse_any t ht w hw).mono fun e w' hr => ?_
  rw [hp] at hr
  obtain ⟨av, iv, gv, tv, rfl, hV, hb⟩ := hr
  obtain ⟨ao, ac, rfl⟩ := own_form hV.acts.choose_spec.2
  obtain ⟨io, ic, rfl⟩ := own_form hV.cond
  obtain ⟨go, gc, rfl⟩ := own_form hV.goes
  obtain ⟨to', tc, rfl⟩ := own_form hV.thn.choose_spec.2
  exact ⟨ao, io, go, to', ac, ic, gc, tc, rfl, hb⟩
theorem line_two' (k : Nat) (hk : k = 1 ∨ k = 3 ∨ k = 6 ∨ k = 7) (nm st t : ByteArray) (h1 : nmB nm.data.toList = true) (h2 : nmB st.data.toList = true) (ht : t.data.toList = lwL k ++ 32 :: (nm.data.toList ++ 32 :: st.data.toList)) (hz : t.size ≤ 140737488351232) (w : World) (hw : Al w) : Calls Tryz.prog 6 #[.string t] w (NamesIs k nm st w) :=
  line_names k nm st t hz (by rw [ht]; exact line_two hk h1 h2) w hw
theorem line_one' (k : Nat) (hk : k = 1 ∨ k = 3 ∨ k = 4 ∨ k = 5) (nm t : ByteArray) (h1 : nmB nm.data.toList = true) (ht : t.data.toList = lwL k ++ 32 :: nm.data.toList) (hz : t.size ≤ 140737488351232) (w : World) (hw : Al w) : Calls Tryz.prog 6 #[.string t] w (NamesIs k nm ⟨#[]⟩ w) :=
  line_names k nm ⟨#[]⟩ t hz (by rw [ht]; exact line_one hk h1) w hw
set_option maxRecDepth 100000 in
theorem rwords_any (w : World) : Calls Tryz.prog 7 #[] w (Ret (.agg #[.string ⟨#[]⟩, .string ⟨#[99, 104, 97, 114, 116]⟩, .string ⟨#[118, 97, 114]⟩, .string ⟨#[115, 116, 97, 116, 101]⟩, .string ⟨#[112, 97, 114, 97, 108, 108, 101, 108]⟩, .string ⟨#[102, 105, 110, 97, 108]⟩, .string ⟨#[100, 101, 101, 112]⟩, .string ⟨#[115, 104, 97, 108, 108, 111, 119]⟩, .string ⟨#[101, 110, 116, 101, 114]⟩, .string ⟨#[101, 120, 105, 116]⟩, .string ⟨#[111, 110]⟩, .string ⟨#[97, 117, 116, 111]⟩, .string ⟨#[101, 110, 100]⟩]) w) := by
  go_enter Tryz.func7, Tryz.ntmps7
  go_wp2
  go_returns
  exact ⟨rfl, by repeat' (first | (with_reducible exact Below.refl _ _) | (with_reducible assumption) | (with_reducible refine Below.alloc ?_ ?_ _) | (with_reducible refine Below.drew ?_) | (with_reducible refine belowN ?_ _) | (with_reducible refine Below.setCell ?_ ?_ _) | (with_reducible refine belowG ?_ ?_) | (with_reducible exact Nat.le_refl _) | (with_reducible refine le_sizeG ?_) | (with_reducible refine le_sizeA ?_) | (with_reducible refine le_sizeC ?_) | (with_reducible refine le_sizeD ?_) | (with_reducible refine le_sizeN ?_) | go_size | (simp [go_sem]; done))⟩
theorem rindex1 (w : World) : (Instr.index 38 (.agg #[.string ⟨#[]⟩, .string ⟨#[99, 104, 97, 114, 116]⟩, .string ⟨#[118, 97, 114]⟩, .string ⟨#[115, 116, 97, 116, 101]⟩, .string ⟨#[112, 97, 114, 97, 108, 108, 101, 108]⟩, .string ⟨#[102, 105, 110, 97, 108]⟩, .string ⟨#[100, 101, 101, 112]⟩, .string ⟨#[115, 104, 97, 108, 108, 111, 119]⟩, .string ⟨#[101, 110, 116, 101, 114]⟩, .string ⟨#[101, 120, 105, 116]⟩, .string ⟨#[111, 110]⟩, .string ⟨#[97, 117, 116, 111]⟩, .string ⟨#[101, 110, 100]⟩]) (.int .i64 1)).run Tryz.prog w = .ok (.string ⟨#[99, 104, 97, 114, 116]⟩) w := by kernel_rfl
theorem rindex3 (w : World) : (Instr.index 38 (.agg #[.string ⟨#[]⟩, .string ⟨#[99, 104, 97, 114, 116]⟩, .string ⟨#[118, 97, 114]⟩, .string ⟨#[115, 116, 97, 116, 101]⟩, .string ⟨#[112, 97, 114, 97, 108, 108, 101, 108]⟩, .string ⟨#[102, 105, 110, 97, 108]⟩, .string ⟨#[100, 101, 101, 112]⟩, .string ⟨#[115, 104, 97, 108, 108, 111, 119]⟩, .string ⟨#[101, 110, 116, 101, 114]⟩, .string ⟨#[101, 120, 105, 116]⟩, .string ⟨#[111, 110]⟩, .string ⟨#[97, 117, 116, 111]⟩, .string ⟨#[101, 110, 100]⟩]) (.int .i64 3)).run Tryz.prog w = .ok (.string ⟨#[115, 116, 97, 116, 101]⟩) w := by kernel_rfl
theorem rindex4 (w : World) : (Instr.index 38 (.agg #[.string ⟨#[]⟩, .string ⟨#[99, 104, 97, 114, 116]⟩, .string ⟨#[118, 97, 114]⟩, .string ⟨#[115, 116, 97, 116, 101]⟩, .string ⟨#[112, 97, 114, 97, 108, 108, 101, 108]⟩, .string ⟨#[102, 105, 110, 97, 108]⟩, .string ⟨#[100, 101, 101, 112]⟩, .string ⟨#[115, 104, 97, 108, 108, 111, 119]⟩, .string ⟨#[101, 110, 116, 101, 114]⟩, .string ⟨#[101, 120, 105, 116]⟩, .string ⟨#[111, 110]⟩, .string ⟨#[97, 117, 116, 111]⟩, .string ⟨#[101, 110, 100]⟩]) (.int .i64 4)).run Tryz.prog w = .ok (.string ⟨#[112, 97, 114, 97, 108, 108, 101, 108]⟩) w := by kernel_rfl
theorem rindex5 (w : World) : (Instr.index 38 (.agg #[.string ⟨#[]⟩, .string ⟨#[99, 104, 97, 114, 116]⟩, .string ⟨#[118, 97, 114]⟩, .string ⟨#[115, 116, 97, 116, 101]⟩, .string ⟨#[112, 97, 114, 97, 108, 108, 101, 108]⟩, .string ⟨#[102, 105, 110, 97, 108]⟩, .string ⟨#[100, 101, 101, 112]⟩, .string ⟨#[115, 104, 97, 108, 108, 111, 119]⟩, .string ⟨#[101, 110, 116, 101, 114]⟩, .string ⟨#[101, 120, 105, 116]⟩, .string ⟨#[111, 110]⟩, .string ⟨#[97, 117, 116, 111]⟩, .string ⟨#[101, 110, 100]⟩]) (.int .i64 5)).run Tryz.prog w = .ok (.string ⟨#[102, 105, 110, 97, 108]⟩) w := by kernel_rfl
theorem rindex6 (w : World) : (Instr.index 38 (.agg #[.string ⟨#[]⟩, .string ⟨#[99, 104, 97, 114, 116]⟩, .string ⟨#[118, 97, 114]⟩, .string ⟨#[115, 116, 97, 116, 101]⟩, .string ⟨#[112, 97, 114, 97, 108, 108, 101, 108]⟩, .string ⟨#[102, 105, 110, 97, 108]⟩, .string ⟨#[100, 101, 101, 112]⟩, .string ⟨#[115, 104, 97, 108, 108, 111, 119]⟩, .string ⟨#[101, 110, 116, 101, 114]⟩, .string ⟨#[101, 120, 105, 116]⟩, .string ⟨#[111, 110]⟩, .string ⟨#[97, 117, 116, 111]⟩, .string ⟨#[101, 110, 100]⟩]) (.int .i64 6)).run Tryz.prog w = .ok (.string ⟨#[100, 101, 101, 112]⟩) w := by kernel_rfl
theorem rindex7 (w : World) : (Instr.index 38 (.agg #[.string ⟨#[]⟩, .string ⟨#[99, 104, 97, 114, 116]⟩, .string ⟨#[118, 97, 114]⟩, .string ⟨#[115, 116, 97, 116, 101]⟩, .string ⟨#[112, 97, 114, 97, 108, 108, 101, 108]⟩, .string ⟨#[102, 105, 110, 97, 108]⟩, .string ⟨#[100, 101, 101, 112]⟩, .string ⟨#[115, 104, 97, 108, 108, 111, 119]⟩, .string ⟨#[101, 110, 116, 101, 114]⟩, .string ⟨#[101, 120, 105, 116]⟩, .string ⟨#[111, 110]⟩, .string ⟨#[97, 117, 116, 111]⟩, .string ⟨#[101, 110, 100]⟩]) (.int .i64 7)).run Tryz.prog w = .ok (.string ⟨#[115, 104, 97, 108, 108, 111, 119]⟩) w := by kernel_rfl
theorem sz_two {wd s0 s1 : ByteArray} (h : wd.size ≤ 10) (h0 : s0.size ≤ 100) (h1 : s1.size ≤ 100) : (wd ++ ⟨#[32]⟩ ++ s0 ++ ⟨#[32]⟩ ++ s1).size ≤ 1000 := by
  have : (⟨#[32]⟩ : ByteArray).size = 1 := rfl
  simp only [ByteArray.size_append]
  omega
theorem sz_one {wd s0 : ByteArray} (h : wd.size ≤ 10) (h0 : s0.size ≤ 100) : (wd ++ ⟨#[32]⟩ ++ s0).size ≤ 1000 := by
  have : (⟨#[32]⟩ : ByteArray).size = 1 := rfl
  simp only [ByteArray.size_append]
  omega
set_option maxRecDepth 100000 in
set_option maxHeartbeats 4000000 in
theorem states_long (s0 s1 : ByteArray) (h : 100 < s0.size ∨ s0.size ≤ 100 ∧ 100 < s1.size) (w : World) (hw : Az w) : Calls Tryz.prog 3 #[.string s0, .string s1] w (Ret (.bool true) w) := by
  have A := Lib.hid (anchor7_any w hw)
  clear hw
  rcases h with h | ⟨h0, h⟩
  all_goals
    go_enter Tryz.func3, Tryz.ntmps3
    go_wp2_with ((with_reducible refine (A.out).mono ?_); intro e w1 hr; obtain ⟨rfl, p, rfl⟩ := hr.out; clear hr)
    go_returns
    exact ⟨rfl, by repeat' (first | (with_reducible exact Below.refl _ _) | (with_reducible assumption) | (with_reducible refine Below.alloc ?_ ?_ _) | (with_reducible refine Below.drew ?_) | (with_reducible refine belowN ?_ _) | (with_reducible refine Below.setCell ?_ ?_ _) | (with_reducible refine belowG ?_ ?_) | (with_reducible exact Nat.le_refl _) | (with_reducible refine le_sizeG ?_) | (with_reducible refine le_sizeA ?_) | (with_reducible refine le_sizeC ?_) | (with_reducible refine le_sizeD ?_) | (with_reducible refine le_sizeN ?_) | go_size | (simp [go_sem]; done))⟩
theorem p_eone1 (s0 : ByteArray) (h0 : s0.size ≤ 100) (w : World) (hw : Al w) : Calls Tryz.prog 6 #[.string (⟨#[99, 104, 97, 114, 116]⟩ ++ ⟨#[32]⟩ ++ s0)] w (ElseIs w) := by
  have hz : ((⟨#[99, 104, 97, 114, 116]⟩ ++ ⟨#[32]⟩ ++ s0) : ByteArray).size ≤ 140737488351232 := Nat.le_trans (sz_one (by decide) h0) (by decide)
  generalize ((⟨#[99, 104, 97, 114, 116]⟩ ++ ⟨#[32]⟩ ++ s0) : ByteArray) = t at *
  exact line_else t hz w hw
theorem p_eone3 (s0 : ByteArray) (h0 : s0.size ≤ 100) (w : World) (hw : Al w) : Calls Tryz.prog 6 #[.string (⟨#[115, 116, 97, 116, 101]⟩ ++ ⟨#[32]⟩ ++ s0)] w (ElseIs w) := by
  have hz : ((⟨#[115, 116, 97, 116, 101]⟩ ++ ⟨#[32]⟩ ++ s0) : ByteArray).size ≤ 140737488351232 := Nat.le_trans (sz_one (by decide) h0) (by decide)
  generalize ((⟨#[115, 116, 97, 116, 101]⟩ ++ ⟨#[32]⟩ ++ s0) : ByteArray) = t at *
  exact line_else t hz w hw
theorem p_eone4 (s0 : ByteArray) (h0 : s0.size ≤ 100) (w : World) (hw : Al w) : Calls Tryz.prog 6 #[.string (⟨#[112, 97, 114, 97, 108, 108, 101, 108]⟩ ++ ⟨#[32]⟩ ++ s0)] w (ElseIs w) := by
  have hz : ((⟨#[112, 97, 114, 97, 108, 108, 101, 108]⟩ ++ ⟨#[32]⟩ ++ s0) : ByteArray).size ≤ 140737488351232 := Nat.le_trans (sz_one (by decide) h0) (by decide)
  generalize ((⟨#[112, 97, 114, 97, 108, 108, 101, 108]⟩ ++ ⟨#[32]⟩ ++ s0) : ByteArray) = t at *
  exact line_else t hz w hw
theorem p_eone5 (s0 : ByteArray) (h0 : s0.size ≤ 100) (w : World) (hw : Al w) : Calls Tryz.prog 6 #[.string (⟨#[102, 105, 110, 97, 108]⟩ ++ ⟨#[32]⟩ ++ s0)] w (ElseIs w) := by
  have hz : ((⟨#[102, 105, 110, 97, 108]⟩ ++ ⟨#[32]⟩ ++ s0) : ByteArray).size ≤ 140737488351232 := Nat.le_trans (sz_one (by decide) h0) (by decide)
  generalize ((⟨#[102, 105, 110, 97, 108]⟩ ++ ⟨#[32]⟩ ++ s0) : ByteArray) = t at *
  exact line_else t hz w hw
theorem p_etwo1 (s0 s1 : ByteArray) (h0 : s0.size ≤ 100) (h1 : s1.size ≤ 100) (w : World) (hw : Al w) : Calls Tryz.prog 6 #[.string (⟨#[99, 104, 97, 114, 116]⟩ ++ ⟨#[32]⟩ ++ s0 ++ ⟨#[32]⟩ ++ s1)] w (ElseIs w) := by
  have hz : ((⟨#[99, 104, 97, 114, 116]⟩ ++ ⟨#[32]⟩ ++ s0 ++ ⟨#[32]⟩ ++ s1) : ByteArray).size ≤ 140737488351232 := Nat.le_trans (sz_two (by decide) h0 h1) (by decide)
  generalize ((⟨#[99, 104, 97, 114, 116]⟩ ++ ⟨#[32]⟩ ++ s0 ++ ⟨#[32]⟩ ++ s1) : ByteArray) = t at *
  exact line_else t hz w hw
theorem p_etwo3 (s0 s1 : ByteArray) (h0 : s0.size ≤ 100) (h1 : s1.size ≤ 100) (w : World) (hw : Al w) : Calls Tryz.prog 6 #[.string (⟨#[115, 116, 97, 116, 101]⟩ ++ ⟨#[32]⟩ ++ s0 ++ ⟨#[32]⟩ ++ s1)] w (ElseIs w) := by
  have hz : ((⟨#[115, 116, 97, 116, 101]⟩ ++ ⟨#[32]⟩ ++ s0 ++ ⟨#[32]⟩ ++ s1) : ByteArray).size ≤ 140737488351232 := Nat.le_trans (sz_two (by decide) h0 h1) (by decide)
  generalize ((⟨#[115, 116, 97, 116, 101]⟩ ++ ⟨#[32]⟩ ++ s0 ++ ⟨#[32]⟩ ++ s1) : ByteArray) = t at *
  exact line_else t hz w hw
theorem p_etwo6 (s0 s1 : ByteArray) (h0 : s0.size ≤ 100) (h1 : s1.size ≤ 100) (w : World) (hw : Al w) : Calls Tryz.prog 6 #[.string (⟨#[100, 101, 101, 112]⟩ ++ ⟨#[32]⟩ ++ s0 ++ ⟨#[32]⟩ ++ s1)] w (ElseIs w) := by
  have hz : ((⟨#[100, 101, 101, 112]⟩ ++ ⟨#[32]⟩ ++ s0 ++ ⟨#[32]⟩ ++ s1) : ByteArray).size ≤ 140737488351232 := Nat.le_trans (sz_two (by decide) h0 h1) (by decide)
  generalize ((⟨#[100, 101, 101, 112]⟩ ++ ⟨#[32]⟩ ++ s0 ++ ⟨#[32]⟩ ++ s1) : ByteArray) = t at *
  exact line_else t hz w hw
theorem p_etwo7 (s0 s1 : ByteArray) (h0 : s0.size ≤ 100) (h1 : s1.size ≤ 100) (w : World) (hw : Al w) : Calls Tryz.prog 6 #[.string (⟨#[115, 104, 97, 108, 108, 111, 119]⟩ ++ ⟨#[32]⟩ ++ s0 ++ ⟨#[32]⟩ ++ s1)] w (ElseIs w) := by
  have hz : ((⟨#[115, 104, 97, 108, 108, 111, 119]⟩ ++ ⟨#[32]⟩ ++ s0 ++ ⟨#[32]⟩ ++ s1) : ByteArray).size ≤ 140737488351232 := Nat.le_trans (sz_two (by decide) h0 h1) (by decide)
  generalize ((⟨#[115, 104, 97, 108, 108, 111, 119]⟩ ++ ⟨#[32]⟩ ++ s0 ++ ⟨#[32]⟩ ++ s1) : ByteArray) = t at *
  exact line_else t hz w hw
theorem p_one1 (s0 : ByteArray) (hb0 : nmB s0.data.toList = true) (h0 : s0.size ≤ 100) (w : World) (hw : Al w) : Calls Tryz.prog 6 #[.string (⟨#[99, 104, 97, 114, 116]⟩ ++ ⟨#[32]⟩ ++ s0)] w (NamesIs (1 : Nat) s0 ⟨#[]⟩ w) := by
  have hz : ((⟨#[99, 104, 97, 114, 116]⟩ ++ ⟨#[32]⟩ ++ s0) : ByteArray).size ≤ 140737488351232 := Nat.le_trans (sz_one (by decide) h0) (by decide)
  have ht : ((⟨#[99, 104, 97, 114, 116]⟩ ++ ⟨#[32]⟩ ++ s0) : ByteArray).data.toList = lwL 1 ++ 32 :: s0.data.toList := by simp [lwL, lineWs]
  generalize ((⟨#[99, 104, 97, 114, 116]⟩ ++ ⟨#[32]⟩ ++ s0) : ByteArray) = t at *
  exact line_one' 1 (by decide) s0 t hb0 ht hz w hw
theorem p_one3 (s0 : ByteArray) (hb0 : nmB s0.data.toList = true) (h0 : s0.size ≤ 100) (w : World) (hw : Al w) : Calls Tryz.prog 6 #[.string (⟨#[115, 116, 97, 116, 101]⟩ ++ ⟨#[32]⟩ ++ s0)] w (NamesIs (3 : Nat) s0 ⟨#[]⟩ w) := by
  have hz : ((⟨#[115, 116, 97, 116, 101]⟩ ++ ⟨#[32]⟩ ++ s0) : ByteArray).size ≤ 140737488351232 := Nat.le_trans (sz_one (by decide) h0) (by decide)
  have ht : ((⟨#[115, 116, 97, 116, 101]⟩ ++ ⟨#[32]⟩ ++ s0) : ByteArray).data.toList = lwL 3 ++ 32 :: s0.data.toList := by simp [lwL, lineWs]
  generalize ((⟨#[115, 116, 97, 116, 101]⟩ ++ ⟨#[32]⟩ ++ s0) : ByteArray) = t at *
  exact line_one' 3 (by decide) s0 t hb0 ht hz w hw
theorem p_one4 (s0 : ByteArray) (hb0 : nmB s0.data.toList = true) (h0 : s0.size ≤ 100) (w : World) (hw : Al w) : Calls Tryz.prog 6 #[.string (⟨#[112, 97, 114, 97, 108, 108, 101, 108]⟩ ++ ⟨#[32]⟩ ++ s0)] w (NamesIs (4 : Nat) s0 ⟨#[]⟩ w) := by
  have hz : ((⟨#[112, 97, 114, 97, 108, 108, 101, 108]⟩ ++ ⟨#[32]⟩ ++ s0) : ByteArray).size ≤ 140737488351232 := Nat.le_trans (sz_one (by decide) h0) (by decide)
  have ht : ((⟨#[112, 97, 114, 97, 108, 108, 101, 108]⟩ ++ ⟨#[32]⟩ ++ s0) : ByteArray).data.toList = lwL 4 ++ 32 :: s0.data.toList := by simp [lwL, lineWs]
  generalize ((⟨#[112, 97, 114, 97, 108, 108, 101, 108]⟩ ++ ⟨#[32]⟩ ++ s0) : ByteArray) = t at *
  exact line_one' 4 (by decide) s0 t hb0 ht hz w hw
theorem p_one5 (s0 : ByteArray) (hb0 : nmB s0.data.toList = true) (h0 : s0.size ≤ 100) (w : World) (hw : Al w) : Calls Tryz.prog 6 #[.string (⟨#[102, 105, 110, 97, 108]⟩ ++ ⟨#[32]⟩ ++ s0)] w (NamesIs (5 : Nat) s0 ⟨#[]⟩ w) := by
  have hz : ((⟨#[102, 105, 110, 97, 108]⟩ ++ ⟨#[32]⟩ ++ s0) : ByteArray).size ≤ 140737488351232 := Nat.le_trans (sz_one (by decide) h0) (by decide)
  have ht : ((⟨#[102, 105, 110, 97, 108]⟩ ++ ⟨#[32]⟩ ++ s0) : ByteArray).data.toList = lwL 5 ++ 32 :: s0.data.toList := by simp [lwL, lineWs]
  generalize ((⟨#[102, 105, 110, 97, 108]⟩ ++ ⟨#[32]⟩ ++ s0) : ByteArray) = t at *
  exact line_one' 5 (by decide) s0 t hb0 ht hz w hw
theorem p_two1 (s0 s1 : ByteArray) (hb0 : nmB s0.data.toList = true) (hb1 : nmB s1.data.toList = true) (h0 : s0.size ≤ 100) (h1 : s1.size ≤ 100) (w : World) (hw : Al w) : Calls Tryz.prog 6 #[.string (⟨#[99, 104, 97, 114, 116]⟩ ++ ⟨#[32]⟩ ++ s0 ++ ⟨#[32]⟩ ++ s1)] w (NamesIs (1 : Nat) s0 s1 w) := by
  have hz : ((⟨#[99, 104, 97, 114, 116]⟩ ++ ⟨#[32]⟩ ++ s0 ++ ⟨#[32]⟩ ++ s1) : ByteArray).size ≤ 140737488351232 := Nat.le_trans (sz_two (by decide) h0 h1) (by decide)
  have ht : ((⟨#[99, 104, 97, 114, 116]⟩ ++ ⟨#[32]⟩ ++ s0 ++ ⟨#[32]⟩ ++ s1) : ByteArray).data.toList = lwL 1 ++ 32 :: (s0.data.toList ++ 32 :: s1.data.toList) := by simp [lwL, lineWs]
  generalize ((⟨#[99, 104, 97, 114, 116]⟩ ++ ⟨#[32]⟩ ++ s0 ++ ⟨#[32]⟩ ++ s1) : ByteArray) = t at *
  exact line_two' 1 (by decide) s0 s1 t hb0 hb1 ht hz w hw
theorem p_two3 (s0 s1 : ByteArray) (hb0 : nmB s0.data.toList = true) (hb1 : nmB s1.data.toList = true) (h0 : s0.size ≤ 100) (h1 : s1.size ≤ 100) (w : World) (hw : Al w) : Calls Tryz.prog 6 #[.string (⟨#[115, 116, 97, 116, 101]⟩ ++ ⟨#[32]⟩ ++ s0 ++ ⟨#[32]⟩ ++ s1)] w (NamesIs (3 : Nat) s0 s1 w) := by
  have hz : ((⟨#[115, 116, 97, 116, 101]⟩ ++ ⟨#[32]⟩ ++ s0 ++ ⟨#[32]⟩ ++ s1) : ByteArray).size ≤ 140737488351232 := Nat.le_trans (sz_two (by decide) h0 h1) (by decide)
  have ht : ((⟨#[115, 116, 97, 116, 101]⟩ ++ ⟨#[32]⟩ ++ s0 ++ ⟨#[32]⟩ ++ s1) : ByteArray).data.toList = lwL 3 ++ 32 :: (s0.data.toList ++ 32 :: s1.data.toList) := by simp [lwL, lineWs]
  generalize ((⟨#[115, 116, 97, 116, 101]⟩ ++ ⟨#[32]⟩ ++ s0 ++ ⟨#[32]⟩ ++ s1) : ByteArray) = t at *
  exact line_two' 3 (by decide) s0 s1 t hb0 hb1 ht hz w hw
theorem p_two6 (s0 s1 : ByteArray) (hb0 : nmB s0.data.toList = true) (hb1 : nmB s1.data.toList = true) (h0 : s0.size ≤ 100) (h1 : s1.size ≤ 100) (w : World) (hw : Al w) : Calls Tryz.prog 6 #[.string (⟨#[100, 101, 101, 112]⟩ ++ ⟨#[32]⟩ ++ s0 ++ ⟨#[32]⟩ ++ s1)] w (NamesIs (6 : Nat) s0 s1 w) := by
  have hz : ((⟨#[100, 101, 101, 112]⟩ ++ ⟨#[32]⟩ ++ s0 ++ ⟨#[32]⟩ ++ s1) : ByteArray).size ≤ 140737488351232 := Nat.le_trans (sz_two (by decide) h0 h1) (by decide)
  have ht : ((⟨#[100, 101, 101, 112]⟩ ++ ⟨#[32]⟩ ++ s0 ++ ⟨#[32]⟩ ++ s1) : ByteArray).data.toList = lwL 6 ++ 32 :: (s0.data.toList ++ 32 :: s1.data.toList) := by simp [lwL, lineWs]
  generalize ((⟨#[100, 101, 101, 112]⟩ ++ ⟨#[32]⟩ ++ s0 ++ ⟨#[32]⟩ ++ s1) : ByteArray) = t at *
  exact line_two' 6 (by decide) s0 s1 t hb0 hb1 ht hz w hw
theorem p_two7 (s0 s1 : ByteArray) (hb0 : nmB s0.data.toList = true) (hb1 : nmB s1.data.toList = true) (h0 : s0.size ≤ 100) (h1 : s1.size ≤ 100) (w : World) (hw : Al w) : Calls Tryz.prog 6 #[.string (⟨#[115, 104, 97, 108, 108, 111, 119]⟩ ++ ⟨#[32]⟩ ++ s0 ++ ⟨#[32]⟩ ++ s1)] w (NamesIs (7 : Nat) s0 s1 w) := by
  have hz : ((⟨#[115, 104, 97, 108, 108, 111, 119]⟩ ++ ⟨#[32]⟩ ++ s0 ++ ⟨#[32]⟩ ++ s1) : ByteArray).size ≤ 140737488351232 := Nat.le_trans (sz_two (by decide) h0 h1) (by decide)
  have ht : ((⟨#[115, 104, 97, 108, 108, 111, 119]⟩ ++ ⟨#[32]⟩ ++ s0 ++ ⟨#[32]⟩ ++ s1) : ByteArray).data.toList = lwL 7 ++ 32 :: (s0.data.toList ++ 32 :: s1.data.toList) := by simp [lwL, lineWs]
  generalize ((⟨#[115, 104, 97, 108, 108, 111, 119]⟩ ++ ⟨#[32]⟩ ++ s0 ++ ⟨#[32]⟩ ++ s1) : ByteArray) = t at *
  exact line_two' 7 (by decide) s0 s1 t hb0 hb1 ht hz w hw
set_option maxRecDepth 100000 in
set_option maxHeartbeats 8000000 in
theorem states_tt (s0 s1 : ByteArray) (h0 : s0.size ≤ 100) (h1 : s1.size ≤ 100) (hb0 : nmB s0.data.toList = true) (hb1 : nmB s1.data.toList = true) (w : World) (hw : Az w) : Calls Tryz.prog 3 #[.string s0, .string s1] w (Ret (.bool true) w) := by
  have A := Lib.hid (anchor7_any w hw)
  have N0 := fun wx => Lib.hid (uname_any s0 (by omega) wx)
  have N1 := fun wx => Lib.hid (uname_any s1 (by omega) wx)
  have Wd := fun wx => Lib.hid (rwords_any wx)
  have Z := Lib.hid (fun wx (hb : Below w.heap.size w wx) => az_below hw hb)
  rw [hb0] at N0
  rw [hb1] at N1
  replace N0 := Lib.hid N0
  replace N1 := Lib.hid N1
  replace Wd := Lib.hid Wd
  clear hw
  go_enter Tryz.func3, Tryz.ntmps3
  go_wp2_with fail
  refine A.out.mono ?_
  intro e w1 hr
  obtain ⟨rfl, hbA⟩ := hr
  have hz1 := hbA.size
  clear A
  go_wp2_with fail
  refine (N0.out _).out.mono ?_
  intro e w2 hr
  obtain ⟨rfl, hbB⟩ := hr
  have hb2 : Below w.heap.size w w2 := hbA.trans (hbB.mono hz1)
  have hz2 := hb2.size
  clear hbA hbB hz1 N0
  go_wp2_with fail
  refine (N1.out _).out.mono ?_
  intro e w3 hr
  obtain ⟨rfl, hbC⟩ := hr
  have hb3 : Below w.heap.size w w3 := hb2.trans (hbC.mono hz2)
  have hz3 := hb3.size
  clear hb2 hbC hz2 N1
  go_wp2_with fail
  go_loopw [31] (fun v wr => ∃ i : Nat, v = .int .i64 (i : Int) ∧ i ≤ 4 ∧ Below w.heap.size w wr ∧ wr.heap[w3.heap.size]? = some (.cells #[.int .i64 1, .int .i64 3, .int .i64 6, .int .i64 7] 3 (0, 0))) (fun v _ => 4 - (intOf v).toNat)
  case atStart => exact ⟨0, rfl, by decide, by repeat' (first | (with_reducible exact Below.refl _ _) | (with_reducible assumption) | (with_reducible refine Below.alloc ?_ ?_ _) | (with_reducible refine Below.drew ?_) | (with_reducible refine belowN ?_ _) | (with_reducible refine Below.setCell ?_ ?_ _) | (with_reducible refine belowG ?_ ?_) | (with_reducible exact Nat.le_refl _) | (with_reducible refine le_sizeG ?_) | (with_reducible refine le_sizeA ?_) | (with_reducible refine le_sizeC ?_) | (with_reducible refine le_sizeD ?_) | (with_reducible refine le_sizeN ?_) | go_size | (simp [go_sem]; done)), blk_keep (heap_alloc_new w3 _) (by repeat' (first | (with_reducible exact Below.refl _ _) | (with_reducible assumption) | (with_reducible refine Below.alloc ?_ ?_ _) | (with_reducible refine Below.drew ?_) | (with_reducible refine belowN ?_ _) | (with_reducible refine Below.setCell ?_ ?_ _) | (with_reducible refine belowG ?_ ?_) | (with_reducible exact Nat.le_refl _) | (with_reducible refine le_sizeG ?_) | (with_reducible refine le_sizeA ?_) | (with_reducible refine le_sizeC ?_) | (with_reducible refine le_sizeD ?_) | (with_reducible refine le_sizeN ?_) | go_size | (simp [go_sem]; done)))⟩
  case round =>
    obtain ⟨i, rfl, hi, hb, hblk⟩ := hrel
    rename World => wr
    have hwz := hb.size
    have i1 := InW.mk (lt_of_block hblk)
    have c0 := (cell_of_row wr w3.heap.size 0 _ _ _ hblk).trans rfl
    have c1 := (cell_of_row wr w3.heap.size 1 _ _ _ hblk).trans rfl
    have c2 := (cell_of_row wr w3.heap.size 2 _ _ _ hblk).trans rfl
    have c3 := (cell_of_row wr w3.heap.size 3 _ _ _ hblk).trans rfl
    replace hblk := Lib.hid hblk
    by_cases h4 : i < 4
    · rcases (by omega : i = 0 ∨ i = 1 ∨ i = 2 ∨ i = 3) with rfl | rfl | rfl | rfl
      · skip
        have P := Lib.hid (fun wx (hk : Below w.heap.size w wx) => p_two1 s0 s1 hb0 hb1 h0 h1 wx (Z.out wx hk).al)
        have ix := fun wx => rindex1 wx
        go_wp2_with ((with_reducible refine ((Wd.out _).out).mono ?_); intro e w1 hr; obtain ⟨rfl, p, rfl⟩ := hr.out; clear hr)
        refine (P.out _ (by repeat' (first | (with_reducible exact Below.refl _ _) | (with_reducible assumption) | (with_reducible refine Below.alloc ?_ ?_ _) | (with_reducible refine Below.drew ?_) | (with_reducible refine belowN ?_ _) | (with_reducible refine Below.setCell ?_ ?_ _) | (with_reducible refine belowG ?_ ?_) | (with_reducible exact Nat.le_refl _) | (with_reducible refine le_sizeG ?_) | (with_reducible refine le_sizeA ?_) | (with_reducible refine le_sizeC ?_) | (with_reducible refine le_sizeD ?_) | (with_reducible refine le_sizeN ?_) | go_size | (simp [go_sem]; done)))).mono ?_
        intro e w5 hr
        obtain ⟨ao, io, go, to', ac, ic, gc, tc, rfl, hb5⟩ := hr
        replace hb5 := (belowG0 p wr).trans (hb5.mono (belowG0 p wr).size)
        have hb6 : Below w.heap.size w w5 := hb.trans (hb5.mono hwz)
        have hz6 := hb6.size
        have hblk6 := Lib.hid (blk_keep hblk.out hb5)
        clear hb5 hb hblk c0 c1 c2 c3 i1 hwz P Wd Z ix
        dsimp only
        go_wp2
        go_roundw
        case rel => exact ⟨1, by go_num, by decide, by repeat' (first | (with_reducible exact Below.refl _ _) | (with_reducible assumption) | (with_reducible refine Below.alloc ?_ ?_ _) | (with_reducible refine Below.drew ?_) | (with_reducible refine belowN ?_ _) | (with_reducible refine Below.setCell ?_ ?_ _) | (with_reducible refine belowG ?_ ?_) | (with_reducible exact Nat.le_refl _) | (with_reducible refine le_sizeG ?_) | (with_reducible refine le_sizeA ?_) | (with_reducible refine le_sizeC ?_) | (with_reducible refine le_sizeD ?_) | (with_reducible refine le_sizeN ?_) | go_size | (simp [go_sem]; done)), blk_keep hblk6.out (by repeat' (first | (with_reducible exact Below.refl _ _) | (with_reducible assumption) | (with_reducible refine Below.alloc ?_ ?_ _) | (with_reducible refine Below.drew ?_) | (with_reducible refine belowN ?_ _) | (with_reducible refine Below.setCell ?_ ?_ _) | (with_reducible refine belowG ?_ ?_) | (with_reducible exact Nat.le_refl _) | (with_reducible refine le_sizeG ?_) | (with_reducible refine le_sizeA ?_) | (with_reducible refine le_sizeC ?_) | (with_reducible refine le_sizeD ?_) | (with_reducible refine le_sizeN ?_) | go_size | (simp [go_sem]; done)))⟩
        case measure => simp [intOf]
      · skip
        have P := Lib.hid (fun wx (hk : Below w.heap.size w wx) => p_two3 s0 s1 hb0 hb1 h0 h1 wx (Z.out wx hk).al)
        have ix := fun wx => rindex3 wx
        go_wp2_with ((with_reducible refine ((Wd.out _).out).mono ?_); intro e w1 hr; obtain ⟨rfl, p, rfl⟩ := hr.out; clear hr)
        refine (P.out _ (by repeat' (first | (with_reducible exact Below.refl _ _) | (with_reducible assumption) | (with_reducible refine Below.alloc ?_ ?_ _) | (with_reducible refine Below.drew ?_) | (with_reducible refine belowN ?_ _) | (with_reducible refine Below.setCell ?_ ?_ _) | (with_reducible refine belowG ?_ ?_) | (with_reducible exact Nat.le_refl _) | (with_reducible refine le_sizeG ?_) | (with_reducible refine le_sizeA ?_) | (with_reducible refine le_sizeC ?_) | (with_reducible refine le_sizeD ?_) | (with_reducible refine le_sizeN ?_) | go_size | (simp [go_sem]; done)))).mono ?_
        intro e w5 hr
        obtain ⟨ao, io, go, to', ac, ic, gc, tc, rfl, hb5⟩ := hr
        replace hb5 := (belowG0 p wr).trans (hb5.mono (belowG0 p wr).size)
        have hb6 : Below w.heap.size w w5 := hb.trans (hb5.mono hwz)
        have hz6 := hb6.size
        have hblk6 := Lib.hid (blk_keep hblk.out hb5)
        clear hb5 hb hblk c0 c1 c2 c3 i1 hwz P Wd Z ix
        dsimp only
        go_wp2
        go_roundw
        case rel => exact ⟨2, by go_num, by decide, by repeat' (first | (with_reducible exact Below.refl _ _) | (with_reducible assumption) | (with_reducible refine Below.alloc ?_ ?_ _) | (with_reducible refine Below.drew ?_) | (with_reducible refine belowN ?_ _) | (with_reducible refine Below.setCell ?_ ?_ _) | (with_reducible refine belowG ?_ ?_) | (with_reducible exact Nat.le_refl _) | (with_reducible refine le_sizeG ?_) | (with_reducible refine le_sizeA ?_) | (with_reducible refine le_sizeC ?_) | (with_reducible refine le_sizeD ?_) | (with_reducible refine le_sizeN ?_) | go_size | (simp [go_sem]; done)), blk_keep hblk6.out (by repeat' (first | (with_reducible exact Below.refl _ _) | (with_reducible assumption) | (with_reducible refine Below.alloc ?_ ?_ _) | (with_reducible refine Below.drew ?_) | (with_reducible refine belowN ?_ _) | (with_reducible refine Below.setCell ?_ ?_ _) | (with_reducible refine belowG ?_ ?_) | (with_reducible exact Nat.le_refl _) | (with_reducible refine le_sizeG ?_) | (with_reducible refine le_sizeA ?_) | (with_reducible refine le_sizeC ?_) | (with_reducible refine le_sizeD ?_) | (with_reducible refine le_sizeN ?_) | go_size | (simp [go_sem]; done)))⟩
        case measure => simp [intOf]
      · skip
        have P := Lib.hid (fun wx (hk : Below w.heap.size w wx) => p_two6 s0 s1 hb0 hb1 h0 h1 wx (Z.out wx hk).al)
        have ix := fun wx => rindex6 wx
        go_wp2_with ((with_reducible refine ((Wd.out _).out).mono ?_); intro e w1 hr; obtain ⟨rfl, p, rfl⟩ := hr.out; clear hr)
        refine (P.out _ (by repeat' (first | (with_reducible exact Below.refl _ _) | (with_reducible assumption) | (with_reducible refine Below.alloc ?_ ?_ _) | (with_reducible refine Below.drew ?_) | (with_reducible refine belowN ?_ _) | (with_reducible refine Below.setCell ?_ ?_ _) | (with_reducible refine belowG ?_ ?_) | (with_reducible exact Nat.le_refl _) | (with_reducible refine le_sizeG ?_) | (with_reducible refine le_sizeA ?_) | (with_reducible refine le_sizeC ?_) | (with_reducible refine le_sizeD ?_) | (with_reducible refine le_sizeN ?_) | go_size | (simp [go_sem]; done)))).mono ?_
        intro e w5 hr
        obtain ⟨ao, io, go, to', ac, ic, gc, tc, rfl, hb5⟩ := hr
        replace hb5 := (belowG0 p wr).trans (hb5.mono (belowG0 p wr).size)
        have hb6 : Below w.heap.size w w5 := hb.trans (hb5.mono hwz)
        have hz6 := hb6.size
        have hblk6 := Lib.hid (blk_keep hblk.out hb5)
        clear hb5 hb hblk c0 c1 c2 c3 i1 hwz P Wd Z ix
        dsimp only
        go_wp2
        go_roundw
        case rel => exact ⟨3, by go_num, by decide, by repeat' (first | (with_reducible exact Below.refl _ _) | (with_reducible assumption) | (with_reducible refine Below.alloc ?_ ?_ _) | (with_reducible refine Below.drew ?_) | (with_reducible refine belowN ?_ _) | (with_reducible refine Below.setCell ?_ ?_ _) | (with_reducible refine belowG ?_ ?_) | (with_reducible exact Nat.le_refl _) | (with_reducible refine le_sizeG ?_) | (with_reducible refine le_sizeA ?_) | (with_reducible refine le_sizeC ?_) | (with_reducible refine le_sizeD ?_) | (with_reducible refine le_sizeN ?_) | go_size | (simp [go_sem]; done)), blk_keep hblk6.out (by repeat' (first | (with_reducible exact Below.refl _ _) | (with_reducible assumption) | (with_reducible refine Below.alloc ?_ ?_ _) | (with_reducible refine Below.drew ?_) | (with_reducible refine belowN ?_ _) | (with_reducible refine Below.setCell ?_ ?_ _) | (with_reducible refine belowG ?_ ?_) | (with_reducible exact Nat.le_refl _) | (with_reducible refine le_sizeG ?_) | (with_reducible refine le_sizeA ?_) | (with_reducible refine le_sizeC ?_) | (with_reducible refine le_sizeD ?_) | (with_reducible refine le_sizeN ?_) | go_size | (simp [go_sem]; done)))⟩
        case measure => simp [intOf]
      · skip
        have P := Lib.hid (fun wx (hk : Below w.heap.size w wx) => p_two7 s0 s1 hb0 hb1 h0 h1 wx (Z.out wx hk).al)
        have ix := fun wx => rindex7 wx
        go_wp2_with ((with_reducible refine ((Wd.out _).out).mono ?_); intro e w1 hr; obtain ⟨rfl, p, rfl⟩ := hr.out; clear hr)
        refine (P.out _ (by repeat' (first | (with_reducible exact Below.refl _ _) | (with_reducible assumption) | (with_reducible refine Below.alloc ?_ ?_ _) | (with_reducible refine Below.drew ?_) | (with_reducible refine belowN ?_ _) | (with_reducible refine Below.setCell ?_ ?_ _) | (with_reducible refine belowG ?_ ?_) | (with_reducible exact Nat.le_refl _) | (with_reducible refine le_sizeG ?_) | (with_reducible refine le_sizeA ?_) | (with_reducible refine le_sizeC ?_) | (with_reducible refine le_sizeD ?_) | (with_reducible refine le_sizeN ?_) | go_size | (simp [go_sem]; done)))).mono ?_
        intro e w5 hr
        obtain ⟨ao, io, go, to', ac, ic, gc, tc, rfl, hb5⟩ := hr
        replace hb5 := (belowG0 p wr).trans (hb5.mono (belowG0 p wr).size)
        have hb6 : Below w.heap.size w w5 := hb.trans (hb5.mono hwz)
        have hz6 := hb6.size
        have hblk6 := Lib.hid (blk_keep hblk.out hb5)
        clear hb5 hb hblk c0 c1 c2 c3 i1 hwz P Wd Z ix
        dsimp only
        go_wp2
        go_roundw
        case rel => exact ⟨4, by go_num, by decide, by repeat' (first | (with_reducible exact Below.refl _ _) | (with_reducible assumption) | (with_reducible refine Below.alloc ?_ ?_ _) | (with_reducible refine Below.drew ?_) | (with_reducible refine belowN ?_ _) | (with_reducible refine Below.setCell ?_ ?_ _) | (with_reducible refine belowG ?_ ?_) | (with_reducible exact Nat.le_refl _) | (with_reducible refine le_sizeG ?_) | (with_reducible refine le_sizeA ?_) | (with_reducible refine le_sizeC ?_) | (with_reducible refine le_sizeD ?_) | (with_reducible refine le_sizeN ?_) | go_size | (simp [go_sem]; done)), blk_keep hblk6.out (by repeat' (first | (with_reducible exact Below.refl _ _) | (with_reducible assumption) | (with_reducible refine Below.alloc ?_ ?_ _) | (with_reducible refine Below.drew ?_) | (with_reducible refine belowN ?_ _) | (with_reducible refine Below.setCell ?_ ?_ _) | (with_reducible refine belowG ?_ ?_) | (with_reducible exact Nat.le_refl _) | (with_reducible refine le_sizeG ?_) | (with_reducible refine le_sizeA ?_) | (with_reducible refine le_sizeC ?_) | (with_reducible refine le_sizeD ?_) | (with_reducible refine le_sizeN ?_) | go_size | (simp [go_sem]; done)))⟩
        case measure => simp [intOf]
    · obtain rfl : i = 4 := by omega
      clear c0 c1 c2 c3 i1 hblk hb3 hz3
      obtain ⟨wq, hwq⟩ : ∃ x, x = wr := ⟨_, rfl⟩
      rw [← hwq] at hb hwz ⊢
      clear hwq
      go_wp2_with fail
      go_loopw [77] (fun v wr => ∃ i : Nat, v = .int .i64 (i : Int) ∧ i ≤ 4 ∧ Below w.heap.size w wr ∧ wr.heap[wq.heap.size]? = some (.cells #[.int .i64 4, .int .i64 5, .int .i64 3, .int .i64 1] 3 (0, 0))) (fun v _ => 4 - (intOf v).toNat)
      case atStart => exact ⟨0, rfl, by decide, by repeat' (first | (with_reducible exact Below.refl _ _) | (with_reducible assumption) | (with_reducible refine Below.alloc ?_ ?_ _) | (with_reducible refine Below.drew ?_) | (with_reducible refine belowN ?_ _) | (with_reducible refine Below.setCell ?_ ?_ _) | (with_reducible refine belowG ?_ ?_) | (with_reducible exact Nat.le_refl _) | (with_reducible refine le_sizeG ?_) | (with_reducible refine le_sizeA ?_) | (with_reducible refine le_sizeC ?_) | (with_reducible refine le_sizeD ?_) | (with_reducible refine le_sizeN ?_) | go_size | (simp [go_sem]; done)), blk_keep (heap_alloc_new wq _) (by repeat' (first | (with_reducible exact Below.refl _ _) | (with_reducible assumption) | (with_reducible refine Below.alloc ?_ ?_ _) | (with_reducible refine Below.drew ?_) | (with_reducible refine belowN ?_ _) | (with_reducible refine Below.setCell ?_ ?_ _) | (with_reducible refine belowG ?_ ?_) | (with_reducible exact Nat.le_refl _) | (with_reducible refine le_sizeG ?_) | (with_reducible refine le_sizeA ?_) | (with_reducible refine le_sizeC ?_) | (with_reducible refine le_sizeD ?_) | (with_reducible refine le_sizeN ?_) | go_size | (simp [go_sem]; done)))⟩
      case round =>
        obtain ⟨i, rfl, hi, hb, hblk⟩ := hrel
        rename World => wr
        have hwz := hb.size
        have i1 := InW.mk (lt_of_block hblk)
        have c0 := (cell_of_row wr wq.heap.size 0 _ _ _ hblk).trans rfl
        have c1 := (cell_of_row wr wq.heap.size 1 _ _ _ hblk).trans rfl
        have c2 := (cell_of_row wr wq.heap.size 2 _ _ _ hblk).trans rfl
        have c3 := (cell_of_row wr wq.heap.size 3 _ _ _ hblk).trans rfl
        replace hblk := Lib.hid hblk
        by_cases h4 : i < 4
        · rcases (by omega : i = 0 ∨ i = 1 ∨ i = 2 ∨ i = 3) with rfl | rfl | rfl | rfl
          · skip
            have P := Lib.hid (fun wx (hk : Below w.heap.size w wx) => p_one4 s0 hb0 h0 wx (Z.out wx hk).al)
            have ix := fun wx => rindex4 wx
            go_wp2_with ((with_reducible refine ((Wd.out _).out).mono ?_); intro e w1 hr; obtain ⟨rfl, p, rfl⟩ := hr.out; clear hr)
            refine (P.out _ (by repeat' (first | (with_reducible exact Below.refl _ _) | (with_reducible assumption) | (with_reducible refine Below.alloc ?_ ?_ _) | (with_reducible refine Below.drew ?_) | (with_reducible refine belowN ?_ _) | (with_reducible refine Below.setCell ?_ ?_ _) | (with_reducible refine belowG ?_ ?_) | (with_reducible exact Nat.le_refl _) | (with_reducible refine le_sizeG ?_) | (with_reducible refine le_sizeA ?_) | (with_reducible refine le_sizeC ?_) | (with_reducible refine le_sizeD ?_) | (with_reducible refine le_sizeN ?_) | go_size | (simp [go_sem]; done)))).mono ?_
            intro e w5 hr
            obtain ⟨ao, io, go, to', ac, ic, gc, tc, rfl, hb5⟩ := hr
            replace hb5 := (belowG0 p wr).trans (hb5.mono (belowG0 p wr).size)
            have hb6 : Below w.heap.size w w5 := hb.trans (hb5.mono hwz)
            have hz6 := hb6.size
            have hblk6 := Lib.hid (blk_keep hblk.out hb5)
            clear hb5 hb hblk c0 c1 c2 c3 i1 hwz P Wd Z ix
            dsimp only
            go_wp2
            go_roundw
            case rel => exact ⟨_, _, _, _, _, _, _, _, _, _, _, _, _, _, _, _, _, _, _, _, _, _, _, _, _, _, _, _, _, _, _, _, _, _, _, _, _, _, _, _, _, ⟨1, by go_num, by decide, by repeat' (first | (with_reducible exact Below.refl _ _) | (with_reducible assumption) | (with_reducible refine Below.alloc ?_ ?_ _) | (with_reducible refine Below.drew ?_) | (with_reducible refine belowN ?_ _) | (with_reducible refine Below.setCell ?_ ?_ _) | (with_reducible refine belowG ?_ ?_) | (with_reducible exact Nat.le_refl _) | (with_reducible refine le_sizeG ?_) | (with_reducible refine le_sizeA ?_) | (with_reducible refine le_sizeC ?_) | (with_reducible refine le_sizeD ?_) | (with_reducible refine le_sizeN ?_) | go_size | (simp [go_sem]; done)), blk_keep hblk6.out (by repeat' (first | (with_reducible exact Below.refl _ _) | (with_reducible assumption) | (with_reducible refine Below.alloc ?_ ?_ _) | (with_reducible refine Below.drew ?_) | (with_reducible refine belowN ?_ _) | (with_reducible refine Below.setCell ?_ ?_ _) | (with_reducible refine belowG ?_ ?_) | (with_reducible exact Nat.le_refl _) | (with_reducible refine le_sizeG ?_) | (with_reducible refine le_sizeA ?_) | (with_reducible refine le_sizeC ?_) | (with_reducible refine le_sizeD ?_) | (with_reducible refine le_sizeN ?_) | go_size | (simp [go_sem]; done)))⟩, rfl⟩
            case measure => simp [intOf]
          · skip
            have P := Lib.hid (fun wx (hk : Below w.heap.size w wx) => p_one5 s0 hb0 h0 wx (Z.out wx hk).al)
            have ix := fun wx => rindex5 wx
            go_wp2_with ((with_reducible refine ((Wd.out _).out).mono ?_); intro e w1 hr; obtain ⟨rfl, p, rfl⟩ := hr.out; clear hr)
            refine (P.out _ (by repeat' (first | (with_reducible exact Below.refl _ _) | (with_reducible assumption) | (with_reducible refine Below.alloc ?_ ?_ _) | (with_reducible refine Below.drew ?_) | (with_reducible refine belowN ?_ _) | (with_reducible refine Below.setCell ?_ ?_ _) | (with_reducible refine belowG ?_ ?_) | (with_reducible exact Nat.le_refl _) | (with_reducible refine le_sizeG ?_) | (with_reducible refine le_sizeA ?_) | (with_reducible refine le_sizeC ?_) | (with_reducible refine le_sizeD ?_) | (with_reducible refine le_sizeN ?_) | go_size | (simp [go_sem]; done)))).mono ?_
            intro e w5 hr
            obtain ⟨ao, io, go, to', ac, ic, gc, tc, rfl, hb5⟩ := hr
            replace hb5 := (belowG0 p wr).trans (hb5.mono (belowG0 p wr).size)
            have hb6 : Below w.heap.size w w5 := hb.trans (hb5.mono hwz)
            have hz6 := hb6.size
            have hblk6 := Lib.hid (blk_keep hblk.out hb5)
            clear hb5 hb hblk c0 c1 c2 c3 i1 hwz P Wd Z ix
            dsimp only
            go_wp2
            go_roundw
            case rel => exact ⟨_, _, _, _, _, _, _, _, _, _, _, _, _, _, _, _, _, _, _, _, _, _, _, _, _, _, _, _, _, _, _, _, _, _, _, _, _, _, _, _, _, ⟨2, by go_num, by decide, by repeat' (first | (with_reducible exact Below.refl _ _) | (with_reducible assumption) | (with_reducible refine Below.alloc ?_ ?_ _) | (with_reducible refine Below.drew ?_) | (with_reducible refine belowN ?_ _) | (with_reducible refine Below.setCell ?_ ?_ _) | (with_reducible refine belowG ?_ ?_) | (with_reducible exact Nat.le_refl _) | (with_reducible refine le_sizeG ?_) | (with_reducible refine le_sizeA ?_) | (with_reducible refine le_sizeC ?_) | (with_reducible refine le_sizeD ?_) | (with_reducible refine le_sizeN ?_) | go_size | (simp [go_sem]; done)), blk_keep hblk6.out (by repeat' (first | (with_reducible exact Below.refl _ _) | (with_reducible assumption) | (with_reducible refine Below.alloc ?_ ?_ _) | (with_reducible refine Below.drew ?_) | (with_reducible refine belowN ?_ _) | (with_reducible refine Below.setCell ?_ ?_ _) | (with_reducible refine belowG ?_ ?_) | (with_reducible exact Nat.le_refl _) | (with_reducible refine le_sizeG ?_) | (with_reducible refine le_sizeA ?_) | (with_reducible refine le_sizeC ?_) | (with_reducible refine le_sizeD ?_) | (with_reducible refine le_sizeN ?_) | go_size | (simp [go_sem]; done)))⟩, rfl⟩
            case measure => simp [intOf]
          · skip
            have P := Lib.hid (fun wx (hk : Below w.heap.size w wx) => p_one3 s0 hb0 h0 wx (Z.out wx hk).al)
            have ix := fun wx => rindex3 wx
            go_wp2_with ((with_reducible refine ((Wd.out _).out).mono ?_); intro e w1 hr; obtain ⟨rfl, p, rfl⟩ := hr.out; clear hr)
            refine (P.out _ (by repeat' (first | (with_reducible exact Below.refl _ _) | (with_reducible assumption) | (with_reducible refine Below.alloc ?_ ?_ _) | (with_reducible refine Below.drew ?_) | (with_reducible refine belowN ?_ _) | (with_reducible refine Below.setCell ?_ ?_ _) | (with_reducible refine belowG ?_ ?_) | (with_reducible exact Nat.le_refl _) | (with_reducible refine le_sizeG ?_) | (with_reducible refine le_sizeA ?_) | (with_reducible refine le_sizeC ?_) | (with_reducible refine le_sizeD ?_) | (with_reducible refine le_sizeN ?_) | go_size | (simp [go_sem]; done)))).mono ?_
            intro e w5 hr
            obtain ⟨ao, io, go, to', ac, ic, gc, tc, rfl, hb5⟩ := hr
            replace hb5 := (belowG0 p wr).trans (hb5.mono (belowG0 p wr).size)
            have hb6 : Below w.heap.size w w5 := hb.trans (hb5.mono hwz)
            have hz6 := hb6.size
            have hblk6 := Lib.hid (blk_keep hblk.out hb5)
            clear hb5 hb hblk c0 c1 c2 c3 i1 hwz P Wd Z ix
            dsimp only
            go_wp2
            go_roundw
            case rel => exact ⟨_, _, _, _, _, _, _, _, _, _, _, _, _, _, _, _, _, _, _, _, _, _, _, _, _, _, _, _, _, _, _, _, _, _, _, _, _, _, _, _, _, ⟨3, by go_num, by decide, by repeat' (first | (with_reducible exact Below.refl _ _) | (with_reducible assumption) | (with_reducible refine Below.alloc ?_ ?_ _) | (with_reducible refine Below.drew ?_) | (with_reducible refine belowN ?_ _) | (with_reducible refine Below.setCell ?_ ?_ _) | (with_reducible refine belowG ?_ ?_) | (with_reducible exact Nat.le_refl _) | (with_reducible refine le_sizeG ?_) | (with_reducible refine le_sizeA ?_) | (with_reducible refine le_sizeC ?_) | (with_reducible refine le_sizeD ?_) | (with_reducible refine le_sizeN ?_) | go_size | (simp [go_sem]; done)), blk_keep hblk6.out (by repeat' (first | (with_reducible exact Below.refl _ _) | (with_reducible assumption) | (with_reducible refine Below.alloc ?_ ?_ _) | (with_reducible refine Below.drew ?_) | (with_reducible refine belowN ?_ _) | (with_reducible refine Below.setCell ?_ ?_ _) | (with_reducible refine belowG ?_ ?_) | (with_reducible exact Nat.le_refl _) | (with_reducible refine le_sizeG ?_) | (with_reducible refine le_sizeA ?_) | (with_reducible refine le_sizeC ?_) | (with_reducible refine le_sizeD ?_) | (with_reducible refine le_sizeN ?_) | go_size | (simp [go_sem]; done)))⟩, rfl⟩
            case measure => simp [intOf]
          · skip
            have P := Lib.hid (fun wx (hk : Below w.heap.size w wx) => p_one1 s0 hb0 h0 wx (Z.out wx hk).al)
            have ix := fun wx => rindex1 wx
            go_wp2_with ((with_reducible refine ((Wd.out _).out).mono ?_); intro e w1 hr; obtain ⟨rfl, p, rfl⟩ := hr.out; clear hr)
            refine (P.out _ (by repeat' (first | (with_reducible exact Below.refl _ _) | (with_reducible assumption) | (with_reducible refine Below.alloc ?_ ?_ _) | (with_reducible refine Below.drew ?_) | (with_reducible refine belowN ?_ _) | (with_reducible refine Below.setCell ?_ ?_ _) | (with_reducible refine belowG ?_ ?_) | (with_reducible exact Nat.le_refl _) | (with_reducible refine le_sizeG ?_) | (with_reducible refine le_sizeA ?_) | (with_reducible refine le_sizeC ?_) | (with_reducible refine le_sizeD ?_) | (with_reducible refine le_sizeN ?_) | go_size | (simp [go_sem]; done)))).mono ?_
            intro e w5 hr
            obtain ⟨ao, io, go, to', ac, ic, gc, tc, rfl, hb5⟩ := hr
            replace hb5 := (belowG0 p wr).trans (hb5.mono (belowG0 p wr).size)
            have hb6 : Below w.heap.size w w5 := hb.trans (hb5.mono hwz)
            have hz6 := hb6.size
            have hblk6 := Lib.hid (blk_keep hblk.out hb5)
            clear hb5 hb hblk c0 c1 c2 c3 i1 hwz P Wd Z ix
            dsimp only
            go_wp2
            go_roundw
            case rel => exact ⟨_, _, _, _, _, _, _, _, _, _, _, _, _, _, _, _, _, _, _, _, _, _, _, _, _, _, _, _, _, _, _, _, _, _, _, _, _, _, _, _, _, ⟨4, by go_num, by decide, by repeat' (first | (with_reducible exact Below.refl _ _) | (with_reducible assumption) | (with_reducible refine Below.alloc ?_ ?_ _) | (with_reducible refine Below.drew ?_) | (with_reducible refine belowN ?_ _) | (with_reducible refine Below.setCell ?_ ?_ _) | (with_reducible refine belowG ?_ ?_) | (with_reducible exact Nat.le_refl _) | (with_reducible refine le_sizeG ?_) | (with_reducible refine le_sizeA ?_) | (with_reducible refine le_sizeC ?_) | (with_reducible refine le_sizeD ?_) | (with_reducible refine le_sizeN ?_) | go_size | (simp [go_sem]; done)), blk_keep hblk6.out (by repeat' (first | (with_reducible exact Below.refl _ _) | (with_reducible assumption) | (with_reducible refine Below.alloc ?_ ?_ _) | (with_reducible refine Below.drew ?_) | (with_reducible refine belowN ?_ _) | (with_reducible refine Below.setCell ?_ ?_ _) | (with_reducible refine belowG ?_ ?_) | (with_reducible exact Nat.le_refl _) | (with_reducible refine le_sizeG ?_) | (with_reducible refine le_sizeA ?_) | (with_reducible refine le_sizeC ?_) | (with_reducible refine le_sizeD ?_) | (with_reducible refine le_sizeN ?_) | go_size | (simp [go_sem]; done)))⟩, rfl⟩
            case measure => simp [intOf]
        · obtain rfl : i = 4 := by omega
          clear c0 c1 c2 c3 i1 hblk Wd Z
          go_wp2
          go_returns
          exact ⟨rfl, by repeat' (first | (with_reducible exact Below.refl _ _) | (with_reducible assumption) | (with_reducible refine Below.alloc ?_ ?_ _) | (with_reducible refine Below.drew ?_) | (with_reducible refine belowN ?_ _) | (with_reducible refine Below.setCell ?_ ?_ _) | (with_reducible refine belowG ?_ ?_) | (with_reducible exact Nat.le_refl _) | (with_reducible refine le_sizeG ?_) | (with_reducible refine le_sizeA ?_) | (with_reducible refine le_sizeC ?_) | (with_reducible refine le_sizeD ?_) | (with_reducible refine le_sizeN ?_) | go_size | (simp [go_sem]; done))⟩
set_option maxRecDepth 100000 in
set_option maxHeartbeats 8000000 in
theorem states_tf (s0 s1 : ByteArray) (h0 : s0.size ≤ 100) (h1 : s1.size ≤ 100) (hb0 : nmB s0.data.toList = true) (hb1 : nmB s1.data.toList = false) (w : World) (hw : Az w) : Calls Tryz.prog 3 #[.string s0, .string s1] w (Ret (.bool true) w) := by
  have A := Lib.hid (anchor7_any w hw)
  have N0 := fun wx => Lib.hid (uname_any s0 (by omega) wx)
  have N1 := fun wx => Lib.hid (uname_any s1 (by omega) wx)
  have Wd := fun wx => Lib.hid (rwords_any wx)
  have Z := Lib.hid (fun wx (hb : Below w.heap.size w wx) => az_below hw hb)
  rw [hb0] at N0
  rw [hb1] at N1
  replace N0 := Lib.hid N0
  replace N1 := Lib.hid N1
  replace Wd := Lib.hid Wd
  clear hw
  go_enter Tryz.func3, Tryz.ntmps3
  go_wp2_with fail
  refine A.out.mono ?_
  intro e w1 hr
  obtain ⟨rfl, hbA⟩ := hr
  have hz1 := hbA.size
  clear A
  go_wp2_with fail
  refine (N0.out _).out.mono ?_
  intro e w2 hr
  obtain ⟨rfl, hbB⟩ := hr
  have hb2 : Below w.heap.size w w2 := hbA.trans (hbB.mono hz1)
  have hz2 := hb2.size
  clear hbA hbB hz1 N0
  go_wp2_with fail
  refine (N1.out _).out.mono ?_
  intro e w3 hr
  obtain ⟨rfl, hbC⟩ := hr
  have hb3 : Below w.heap.size w w3 := hb2.trans (hbC.mono hz2)
  have hz3 := hb3.size
  clear hb2 hbC hz2 N1
  go_wp2_with fail
  go_loopw [31] (fun v wr => ∃ i : Nat, v = .int .i64 (i : Int) ∧ i ≤ 4 ∧ Below w.heap.size w wr ∧ wr.heap[w3.heap.size]? = some (.cells #[.int .i64 1, .int .i64 3, .int .i64 6, .int .i64 7] 3 (0, 0))) (fun v _ => 4 - (intOf v).toNat)
  case atStart => exact ⟨0, rfl, by decide, by repeat' (first | (with_reducible exact Below.refl _ _) | (with_reducible assumption) | (with_reducible refine Below.alloc ?_ ?_ _) | (with_reducible refine Below.drew ?_) | (with_reducible refine belowN ?_ _) | (with_reducible refine Below.setCell ?_ ?_ _) | (with_reducible refine belowG ?_ ?_) | (with_reducible exact Nat.le_refl _) | (with_reducible refine le_sizeG ?_) | (with_reducible refine le_sizeA ?_) | (with_reducible refine le_sizeC ?_) | (with_reducible refine le_sizeD ?_) | (with_reducible refine le_sizeN ?_) | go_size | (simp [go_sem]; done)), blk_keep (heap_alloc_new w3 _) (by repeat' (first | (with_reducible exact Below.refl _ _) | (with_reducible assumption) | (with_reducible refine Below.alloc ?_ ?_ _) | (with_reducible refine Below.drew ?_) | (with_reducible refine belowN ?_ _) | (with_reducible refine Below.setCell ?_ ?_ _) | (with_reducible refine belowG ?_ ?_) | (with_reducible exact Nat.le_refl _) | (with_reducible refine le_sizeG ?_) | (with_reducible refine le_sizeA ?_) | (with_reducible refine le_sizeC ?_) | (with_reducible refine le_sizeD ?_) | (with_reducible refine le_sizeN ?_) | go_size | (simp [go_sem]; done)))⟩
  case round =>
    obtain ⟨i, rfl, hi, hb, hblk⟩ := hrel
    rename World => wr
    have hwz := hb.size
    have i1 := InW.mk (lt_of_block hblk)
    have c0 := (cell_of_row wr w3.heap.size 0 _ _ _ hblk).trans rfl
    have c1 := (cell_of_row wr w3.heap.size 1 _ _ _ hblk).trans rfl
    have c2 := (cell_of_row wr w3.heap.size 2 _ _ _ hblk).trans rfl
    have c3 := (cell_of_row wr w3.heap.size 3 _ _ _ hblk).trans rfl
    replace hblk := Lib.hid hblk
    by_cases h4 : i < 4
    · rcases (by omega : i = 0 ∨ i = 1 ∨ i = 2 ∨ i = 3) with rfl | rfl | rfl | rfl
      · skip
        have P := Lib.hid (fun wx (hk : Below w.heap.size w wx) => p_etwo1 s0 s1 h0 h1 wx (Z.out wx hk).al)
        have ix := fun wx => rindex1 wx
        go_wp2_with ((with_reducible refine ((Wd.out _).out).mono ?_); intro e w1 hr; obtain ⟨rfl, p, rfl⟩ := hr.out; clear hr)
        refine (P.out _ (by repeat' (first | (with_reducible exact Below.refl _ _) | (with_reducible assumption) | (with_reducible refine Below.alloc ?_ ?_ _) | (with_reducible refine Below.drew ?_) | (with_reducible refine belowN ?_ _) | (with_reducible refine Below.setCell ?_ ?_ _) | (with_reducible refine belowG ?_ ?_) | (with_reducible exact Nat.le_refl _) | (with_reducible refine le_sizeG ?_) | (with_reducible refine le_sizeA ?_) | (with_reducible refine le_sizeC ?_) | (with_reducible refine le_sizeD ?_) | (with_reducible refine le_sizeN ?_) | go_size | (simp [go_sem]; done)))).mono ?_
        intro e w5 hr
        obtain ⟨k', vk, vn, x, nm, st, vs, ev, inn, ao, io, go, to', al, ac, il, ic, gl, gc, tl, tc, rfl, hb5⟩ := hr
        replace hb5 := (belowG0 p wr).trans (hb5.mono (belowG0 p wr).size)
        have hb6 : Below w.heap.size w w5 := hb.trans (hb5.mono hwz)
        have hz6 := hb6.size
        have hblk6 := Lib.hid (blk_keep hblk.out hb5)
        clear hb5 hb hblk c0 c1 c2 c3 i1 hwz P Wd Z ix
        dsimp only
        go_wp2
        go_roundw
        case rel => exact ⟨1, by go_num, by decide, by repeat' (first | (with_reducible exact Below.refl _ _) | (with_reducible assumption) | (with_reducible refine Below.alloc ?_ ?_ _) | (with_reducible refine Below.drew ?_) | (with_reducible refine belowN ?_ _) | (with_reducible refine Below.setCell ?_ ?_ _) | (with_reducible refine belowG ?_ ?_) | (with_reducible exact Nat.le_refl _) | (with_reducible refine le_sizeG ?_) | (with_reducible refine le_sizeA ?_) | (with_reducible refine le_sizeC ?_) | (with_reducible refine le_sizeD ?_) | (with_reducible refine le_sizeN ?_) | go_size | (simp [go_sem]; done)), blk_keep hblk6.out (by repeat' (first | (with_reducible exact Below.refl _ _) | (with_reducible assumption) | (with_reducible refine Below.alloc ?_ ?_ _) | (with_reducible refine Below.drew ?_) | (with_reducible refine belowN ?_ _) | (with_reducible refine Below.setCell ?_ ?_ _) | (with_reducible refine belowG ?_ ?_) | (with_reducible exact Nat.le_refl _) | (with_reducible refine le_sizeG ?_) | (with_reducible refine le_sizeA ?_) | (with_reducible refine le_sizeC ?_) | (with_reducible refine le_sizeD ?_) | (with_reducible refine le_sizeN ?_) | go_size | (simp [go_sem]; done)))⟩
        case measure => simp [intOf]
      · skip
        have P := Lib.hid (fun wx (hk : Below w.heap.size w wx) => p_etwo3 s0 s1 h0 h1 wx (Z.out wx hk).al)
        have ix := fun wx => rindex3 wx
        go_wp2_with ((with_reducible refine ((Wd.out _).out).mono ?_); intro e w1 hr; obtain ⟨rfl, p, rfl⟩ := hr.out; clear hr)
        refine (P.out _ (by repeat' (first | (with_reducible exact Below.refl _ _) | (with_reducible assumption) | (with_reducible refine Below.alloc ?_ ?_ _) | (with_reducible refine Below.drew ?_) | (with_reducible refine belowN ?_ _) | (with_reducible refine Below.setCell ?_ ?_ _) | (with_reducible refine belowG ?_ ?_) | (with_reducible exact Nat.le_refl _) | (with_reducible refine le_sizeG ?_) | (with_reducible refine le_sizeA ?_) | (with_reducible refine le_sizeC ?_) | (with_reducible refine le_sizeD ?_) | (with_reducible refine le_sizeN ?_) | go_size | (simp [go_sem]; done)))).mono ?_
        intro e w5 hr
        obtain ⟨k', vk, vn, x, nm, st, vs, ev, inn, ao, io, go, to', al, ac, il, ic, gl, gc, tl, tc, rfl, hb5⟩ := hr
        replace hb5 := (belowG0 p wr).trans (hb5.mono (belowG0 p wr).size)
        have hb6 : Below w.heap.size w w5 := hb.trans (hb5.mono hwz)
        have hz6 := hb6.size
        have hblk6 := Lib.hid (blk_keep hblk.out hb5)
        clear hb5 hb hblk c0 c1 c2 c3 i1 hwz P Wd Z ix
        dsimp only
        go_wp2
        go_roundw
        case rel => exact ⟨2, by go_num, by decide, by repeat' (first | (with_reducible exact Below.refl _ _) | (with_reducible assumption) | (with_reducible refine Below.alloc ?_ ?_ _) | (with_reducible refine Below.drew ?_) | (with_reducible refine belowN ?_ _) | (with_reducible refine Below.setCell ?_ ?_ _) | (with_reducible refine belowG ?_ ?_) | (with_reducible exact Nat.le_refl _) | (with_reducible refine le_sizeG ?_) | (with_reducible refine le_sizeA ?_) | (with_reducible refine le_sizeC ?_) | (with_reducible refine le_sizeD ?_) | (with_reducible refine le_sizeN ?_) | go_size | (simp [go_sem]; done)), blk_keep hblk6.out (by repeat' (first | (with_reducible exact Below.refl _ _) | (with_reducible assumption) | (with_reducible refine Below.alloc ?_ ?_ _) | (with_reducible refine Below.drew ?_) | (with_reducible refine belowN ?_ _) | (with_reducible refine Below.setCell ?_ ?_ _) | (with_reducible refine belowG ?_ ?_) | (with_reducible exact Nat.le_refl _) | (with_reducible refine le_sizeG ?_) | (with_reducible refine le_sizeA ?_) | (with_reducible refine le_sizeC ?_) | (with_reducible refine le_sizeD ?_) | (with_reducible refine le_sizeN ?_) | go_size | (simp [go_sem]; done)))⟩
        case measure => simp [intOf]
      · skip
        have P := Lib.hid (fun wx (hk : Below w.heap.size w wx) => p_etwo6 s0 s1 h0 h1 wx (Z.out wx hk).al)
        have ix := fun wx => rindex6 wx
        go_wp2_with ((with_reducible refine ((Wd.out _).out).mono ?_); intro e w1 hr; obtain ⟨rfl, p, rfl⟩ := hr.out; clear hr)
        refine (P.out _ (by repeat' (first | (with_reducible exact Below.refl _ _) | (with_reducible assumption) | (with_reducible refine Below.alloc ?_ ?_ _) | (with_reducible refine Below.drew ?_) | (with_reducible refine belowN ?_ _) | (with_reducible refine Below.setCell ?_ ?_ _) | (with_reducible refine belowG ?_ ?_) | (with_reducible exact Nat.le_refl _) | (with_reducible refine le_sizeG ?_) | (with_reducible refine le_sizeA ?_) | (with_reducible refine le_sizeC ?_) | (with_reducible refine le_sizeD ?_) | (with_reducible refine le_sizeN ?_) | go_size | (simp [go_sem]; done)))).mono ?_
        intro e w5 hr
        obtain ⟨k', vk, vn, x, nm, st, vs, ev, inn, ao, io, go, to', al, ac, il, ic, gl, gc, tl, tc, rfl, hb5⟩ := hr
        replace hb5 := (belowG0 p wr).trans (hb5.mono (belowG0 p wr).size)
        have hb6 : Below w.heap.size w w5 := hb.trans (hb5.mono hwz)
        have hz6 := hb6.size
        have hblk6 := Lib.hid (blk_keep hblk.out hb5)
        clear hb5 hb hblk c0 c1 c2 c3 i1 hwz P Wd Z ix
        dsimp only
        go_wp2
        go_roundw
        case rel => exact ⟨3, by go_num, by decide, by repeat' (first | (with_reducible exact Below.refl _ _) | (with_reducible assumption) | (with_reducible refine Below.alloc ?_ ?_ _) | (with_reducible refine Below.drew ?_) | (with_reducible refine belowN ?_ _) | (with_reducible refine Below.setCell ?_ ?_ _) | (with_reducible refine belowG ?_ ?_) | (with_reducible exact Nat.le_refl _) | (with_reducible refine le_sizeG ?_) | (with_reducible refine le_sizeA ?_) | (with_reducible refine le_sizeC ?_) | (with_reducible refine le_sizeD ?_) | (with_reducible refine le_sizeN ?_) | go_size | (simp [go_sem]; done)), blk_keep hblk6.out (by repeat' (first | (with_reducible exact Below.refl _ _) | (with_reducible assumption) | (with_reducible refine Below.alloc ?_ ?_ _) | (with_reducible refine Below.drew ?_) | (with_reducible refine belowN ?_ _) | (with_reducible refine Below.setCell ?_ ?_ _) | (with_reducible refine belowG ?_ ?_) | (with_reducible exact Nat.le_refl _) | (with_reducible refine le_sizeG ?_) | (with_reducible refine le_sizeA ?_) | (with_reducible refine le_sizeC ?_) | (with_reducible refine le_sizeD ?_) | (with_reducible refine le_sizeN ?_) | go_size | (simp [go_sem]; done)))⟩
        case measure => simp [intOf]
      · skip
        have P := Lib.hid (fun wx (hk : Below w.heap.size w wx) => p_etwo7 s0 s1 h0 h1 wx (Z.out wx hk).al)
        have ix := fun wx => rindex7 wx
        go_wp2_with ((with_reducible refine ((Wd.out _).out).mono ?_); intro e w1 hr; obtain ⟨rfl, p, rfl⟩ := hr.out; clear hr)
        refine (P.out _ (by repeat' (first | (with_reducible exact Below.refl _ _) | (with_reducible assumption) | (with_reducible refine Below.alloc ?_ ?_ _) | (with_reducible refine Below.drew ?_) | (with_reducible refine belowN ?_ _) | (with_reducible refine Below.setCell ?_ ?_ _) | (with_reducible refine belowG ?_ ?_) | (with_reducible exact Nat.le_refl _) | (with_reducible refine le_sizeG ?_) | (with_reducible refine le_sizeA ?_) | (with_reducible refine le_sizeC ?_) | (with_reducible refine le_sizeD ?_) | (with_reducible refine le_sizeN ?_) | go_size | (simp [go_sem]; done)))).mono ?_
        intro e w5 hr
        obtain ⟨k', vk, vn, x, nm, st, vs, ev, inn, ao, io, go, to', al, ac, il, ic, gl, gc, tl, tc, rfl, hb5⟩ := hr
        replace hb5 := (belowG0 p wr).trans (hb5.mono (belowG0 p wr).size)
        have hb6 : Below w.heap.size w w5 := hb.trans (hb5.mono hwz)
        have hz6 := hb6.size
        have hblk6 := Lib.hid (blk_keep hblk.out hb5)
        clear hb5 hb hblk c0 c1 c2 c3 i1 hwz P Wd Z ix
        dsimp only
        go_wp2
        go_roundw
        case rel => exact ⟨4, by go_num, by decide, by repeat' (first | (with_reducible exact Below.refl _ _) | (with_reducible assumption) | (with_reducible refine Below.alloc ?_ ?_ _) | (with_reducible refine Below.drew ?_) | (with_reducible refine belowN ?_ _) | (with_reducible refine Below.setCell ?_ ?_ _) | (with_reducible refine belowG ?_ ?_) | (with_reducible exact Nat.le_refl _) | (with_reducible refine le_sizeG ?_) | (with_reducible refine le_sizeA ?_) | (with_reducible refine le_sizeC ?_) | (with_reducible refine le_sizeD ?_) | (with_reducible refine le_sizeN ?_) | go_size | (simp [go_sem]; done)), blk_keep hblk6.out (by repeat' (first | (with_reducible exact Below.refl _ _) | (with_reducible assumption) | (with_reducible refine Below.alloc ?_ ?_ _) | (with_reducible refine Below.drew ?_) | (with_reducible refine belowN ?_ _) | (with_reducible refine Below.setCell ?_ ?_ _) | (with_reducible refine belowG ?_ ?_) | (with_reducible exact Nat.le_refl _) | (with_reducible refine le_sizeG ?_) | (with_reducible refine le_sizeA ?_) | (with_reducible refine le_sizeC ?_) | (with_reducible refine le_sizeD ?_) | (with_reducible refine le_sizeN ?_) | go_size | (simp [go_sem]; done)))⟩
        case measure => simp [intOf]
    · obtain rfl : i = 4 := by omega
      clear c0 c1 c2 c3 i1 hblk hb3 hz3
      obtain ⟨wq, hwq⟩ : ∃ x, x = wr := ⟨_, rfl⟩
      rw [← hwq] at hb hwz ⊢
      clear hwq
      go_wp2_with fail
      go_loopw [77] (fun v wr => ∃ i : Nat, v = .int .i64 (i : Int) ∧ i ≤ 4 ∧ Below w.heap.size w wr ∧ wr.heap[wq.heap.size]? = some (.cells #[.int .i64 4, .int .i64 5, .int .i64 3, .int .i64 1] 3 (0, 0))) (fun v _ => 4 - (intOf v).toNat)
      case atStart => exact ⟨0, rfl, by decide, by repeat' (first | (with_reducible exact Below.refl _ _) | (with_reducible assumption) | (with_reducible refine Below.alloc ?_ ?_ _) | (with_reducible refine Below.drew ?_) | (with_reducible refine belowN ?_ _) | (with_reducible refine Below.setCell ?_ ?_ _) | (with_reducible refine belowG ?_ ?_) | (with_reducible exact Nat.le_refl _) | (with_reducible refine le_sizeG ?_) | (with_reducible refine le_sizeA ?_) | (with_reducible refine le_sizeC ?_) | (with_reducible refine le_sizeD ?_) | (with_reducible refine le_sizeN ?_) | go_size | (simp [go_sem]; done)), blk_keep (heap_alloc_new wq _) (by repeat' (first | (with_reducible exact Below.refl _ _) | (with_reducible assumption) | (with_reducible refine Below.alloc ?_ ?_ _) | (with_reducible refine Below.drew ?_) | (with_reducible refine belowN ?_ _) | (with_reducible refine Below.setCell ?_ ?_ _) | (with_reducible refine belowG ?_ ?_) | (with_reducible exact Nat.le_refl _) | (with_reducible refine le_sizeG ?_) | (with_reducible refine le_sizeA ?_) | (with_reducible refine le_sizeC ?_) | (with_reducible refine le_sizeD ?_) | (with_reducible refine le_sizeN ?_) | go_size | (simp [go_sem]; done)))⟩
      case round =>
        obtain ⟨i, rfl, hi, hb, hblk⟩ := hrel
        rename World => wr
        have hwz := hb.size
        have i1 := InW.mk (lt_of_block hblk)
        have c0 := (cell_of_row wr wq.heap.size 0 _ _ _ hblk).trans rfl
        have c1 := (cell_of_row wr wq.heap.size 1 _ _ _ hblk).trans rfl
        have c2 := (cell_of_row wr wq.heap.size 2 _ _ _ hblk).trans rfl
        have c3 := (cell_of_row wr wq.heap.size 3 _ _ _ hblk).trans rfl
        replace hblk := Lib.hid hblk
        by_cases h4 : i < 4
        · rcases (by omega : i = 0 ∨ i = 1 ∨ i = 2 ∨ i = 3) with rfl | rfl | rfl | rfl
          · skip
            have P := Lib.hid (fun wx (hk : Below w.heap.size w wx) => p_one4 s0 hb0 h0 wx (Z.out wx hk).al)
            have ix := fun wx => rindex4 wx
            go_wp2_with ((with_reducible refine ((Wd.out _).out).mono ?_); intro e w1 hr; obtain ⟨rfl, p, rfl⟩ := hr.out; clear hr)
            refine (P.out _ (by repeat' (first | (with_reducible exact Below.refl _ _) | (with_reducible assumption) | (with_reducible refine Below.alloc ?_ ?_ _) | (with_reducible refine Below.drew ?_) | (with_reducible refine belowN ?_ _) | (with_reducible refine Below.setCell ?_ ?_ _) | (with_reducible refine belowG ?_ ?_) | (with_reducible exact Nat.le_refl _) | (with_reducible refine le_sizeG ?_) | (with_reducible refine le_sizeA ?_) | (with_reducible refine le_sizeC ?_) | (with_reducible refine le_sizeD ?_) | (with_reducible refine le_sizeN ?_) | go_size | (simp [go_sem]; done)))).mono ?_
            intro e w5 hr
            obtain ⟨ao, io, go, to', ac, ic, gc, tc, rfl, hb5⟩ := hr
            replace hb5 := (belowG0 p wr).trans (hb5.mono (belowG0 p wr).size)
            have hb6 : Below w.heap.size w w5 := hb.trans (hb5.mono hwz)
            have hz6 := hb6.size
            have hblk6 := Lib.hid (blk_keep hblk.out hb5)
            clear hb5 hb hblk c0 c1 c2 c3 i1 hwz P Wd Z ix
            dsimp only
            go_wp2
            go_roundw
            case rel => exact ⟨_, _, _, _, _, _, _, _, _, _, _, _, _, _, _, _, _, _, _, _, _, _, _, _, _, _, _, _, _, _, _, _, _, _, _, _, _, _, _, _, _, ⟨1, by go_num, by decide, by repeat' (first | (with_reducible exact Below.refl _ _) | (with_reducible assumption) | (with_reducible refine Below.alloc ?_ ?_ _) | (with_reducible refine Below.drew ?_) | (with_reducible refine belowN ?_ _) | (with_reducible refine Below.setCell ?_ ?_ _) | (with_reducible refine belowG ?_ ?_) | (with_reducible exact Nat.le_refl _) | (with_reducible refine le_sizeG ?_) | (with_reducible refine le_sizeA ?_) | (with_reducible refine le_sizeC ?_) | (with_reducible refine le_sizeD ?_) | (with_reducible refine le_sizeN ?_) | go_size | (simp [go_sem]; done)), blk_keep hblk6.out (by repeat' (first | (with_reducible exact Below.refl _ _) | (with_reducible assumption) | (with_reducible refine Below.alloc ?_ ?_ _) | (with_reducible refine Below.drew ?_) | (with_reducible refine belowN ?_ _) | (with_reducible refine Below.setCell ?_ ?_ _) | (with_reducible refine belowG ?_ ?_) | (with_reducible exact Nat.le_refl _) | (with_reducible refine le_sizeG ?_) | (with_reducible refine le_sizeA ?_) | (with_reducible refine le_sizeC ?_) | (with_reducible refine le_sizeD ?_) | (with_reducible refine le_sizeN ?_) | go_size | (simp [go_sem]; done)))⟩, rfl⟩
            case measure => simp [intOf]
          · skip
            have P := Lib.hid (fun wx (hk : Below w.heap.size w wx) => p_one5 s0 hb0 h0 wx (Z.out wx hk).al)
            have ix := fun wx => rindex5 wx
            go_wp2_with ((with_reducible refine ((Wd.out _).out).mono ?_); intro e w1 hr; obtain ⟨rfl, p, rfl⟩ := hr.out; clear hr)
            refine (P.out _ (by repeat' (first | (with_reducible exact Below.refl _ _) | (with_reducible assumption) | (with_reducible refine Below.alloc ?_ ?_ _) | (with_reducible refine Below.drew ?_) | (with_reducible refine belowN ?_ _) | (with_reducible refine Below.setCell ?_ ?_ _) | (with_reducible refine belowG ?_ ?_) | (with_reducible exact Nat.le_refl _) | (with_reducible refine le_sizeG ?_) | (with_reducible refine le_sizeA ?_) | (with_reducible refine le_sizeC ?_) | (with_reducible refine le_sizeD ?_) | (with_reducible refine le_sizeN ?_) | go_size | (simp [go_sem]; done)))).mono ?_
            intro e w5 hr
            obtain ⟨ao, io, go, to', ac, ic, gc, tc, rfl, hb5⟩ := hr
            replace hb5 := (belowG0 p wr).trans (hb5.mono (belowG0 p wr).size)
            have hb6 : Below w.heap.size w w5 := hb.trans (hb5.mono hwz)
            have hz6 := hb6.size
            have hblk6 := Lib.hid (blk_keep hblk.out hb5)
            clear hb5 hb hblk c0 c1 c2 c3 i1 hwz P Wd Z ix
            dsimp only
            go_wp2
            go_roundw
            case rel => exact ⟨_, _, _, _, _, _, _, _, _, _, _, _, _, _, _, _, _, _, _, _, _, _, _, _, _, _, _, _, _, _, _, _, _, _, _, _, _, _, _, _, _, ⟨2, by go_num, by decide, by repeat' (first | (with_reducible exact Below.refl _ _) | (with_reducible assumption) | (with_reducible refine Below.alloc ?_ ?_ _) | (with_reducible refine Below.drew ?_) | (with_reducible refine belowN ?_ _) | (with_reducible refine Below.setCell ?_ ?_ _) | (with_reducible refine belowG ?_ ?_) | (with_reducible exact Nat.le_refl _) | (with_reducible refine le_sizeG ?_) | (with_reducible refine le_sizeA ?_) | (with_reducible refine le_sizeC ?_) | (with_reducible refine le_sizeD ?_) | (with_reducible refine le_sizeN ?_) | go_size | (simp [go_sem]; done)), blk_keep hblk6.out (by repeat' (first | (with_reducible exact Below.refl _ _) | (with_reducible assumption) | (with_reducible refine Below.alloc ?_ ?_ _) | (with_reducible refine Below.drew ?_) | (with_reducible refine belowN ?_ _) | (with_reducible refine Below.setCell ?_ ?_ _) | (with_reducible refine belowG ?_ ?_) | (with_reducible exact Nat.le_refl _) | (with_reducible refine le_sizeG ?_) | (with_reducible refine le_sizeA ?_) | (with_reducible refine le_sizeC ?_) | (with_reducible refine le_sizeD ?_) | (with_reducible refine le_sizeN ?_) | go_size | (simp [go_sem]; done)))⟩, rfl⟩
            case measure => simp [intOf]
          · skip
            have P := Lib.hid (fun wx (hk : Below w.heap.size w wx) => p_one3 s0 hb0 h0 wx (Z.out wx hk).al)
            have ix := fun wx => rindex3 wx
            go_wp2_with ((with_reducible refine ((Wd.out _).out).mono ?_); intro e w1 hr; obtain ⟨rfl, p, rfl⟩ := hr.out; clear hr)
            refine (P.out _ (by repeat' (first | (with_reducible exact Below.refl _ _) | (with_reducible assumption) | (with_reducible refine Below.alloc ?_ ?_ _) | (with_reducible refine Below.drew ?_) | (with_reducible refine belowN ?_ _) | (with_reducible refine Below.setCell ?_ ?_ _) | (with_reducible refine belowG ?_ ?_) | (with_reducible exact Nat.le_refl _) | (with_reducible refine le_sizeG ?_) | (with_reducible refine le_sizeA ?_) | (with_reducible refine le_sizeC ?_) | (with_reducible refine le_sizeD ?_) | (with_reducible refine le_sizeN ?_) | go_size | (simp [go_sem]; done)))).mono ?_
            intro e w5 hr
            obtain ⟨ao, io, go, to', ac, ic, gc, tc, rfl, hb5⟩ := hr
            replace hb5 := (belowG0 p wr).trans (hb5.mono (belowG0 p wr).size)
            have hb6 : Below w.heap.size w w5 := hb.trans (hb5.mono hwz)
            have hz6 := hb6.size
            have hblk6 := Lib.hid (blk_keep hblk.out hb5)
            clear hb5 hb hblk c0 c1 c2 c3 i1 hwz P Wd Z ix
            dsimp only
            go_wp2
            go_roundw
            case rel => exact ⟨_, _, _, _, _, _, _, _, _, _, _, _, _, _, _, _, _, _, _, _, _, _, _, _, _, _, _, _, _, _, _, _, _, _, _, _, _, _, _, _, _, ⟨3, by go_num, by decide, by repeat' (first | (with_reducible exact Below.refl _ _) | (with_reducible assumption) | (with_reducible refine Below.alloc ?_ ?_ _) | (with_reducible refine Below.drew ?_) | (with_reducible refine belowN ?_ _) | (with_reducible refine Below.setCell ?_ ?_ _) | (with_reducible refine belowG ?_ ?_) | (with_reducible exact Nat.le_refl _) | (with_reducible refine le_sizeG ?_) | (with_reducible refine le_sizeA ?_) | (with_reducible refine le_sizeC ?_) | (with_reducible refine le_sizeD ?_) | (with_reducible refine le_sizeN ?_) | go_size | (simp [go_sem]; done)), blk_keep hblk6.out (by repeat' (first | (with_reducible exact Below.refl _ _) | (with_reducible assumption) | (with_reducible refine Below.alloc ?_ ?_ _) | (with_reducible refine Below.drew ?_) | (with_reducible refine belowN ?_ _) | (with_reducible refine Below.setCell ?_ ?_ _) | (with_reducible refine belowG ?_ ?_) | (with_reducible exact Nat.le_refl _) | (with_reducible refine le_sizeG ?_) | (with_reducible refine le_sizeA ?_) | (with_reducible refine le_sizeC ?_) | (with_reducible refine le_sizeD ?_) | (with_reducible refine le_sizeN ?_) | go_size | (simp [go_sem]; done)))⟩, rfl⟩
            case measure => simp [intOf]
          · skip
            have P := Lib.hid (fun wx (hk : Below w.heap.size w wx) => p_one1 s0 hb0 h0 wx (Z.out wx hk).al)
            have ix := fun wx => rindex1 wx
            go_wp2_with ((with_reducible refine ((Wd.out _).out).mono ?_); intro e w1 hr; obtain ⟨rfl, p, rfl⟩ := hr.out; clear hr)
            refine (P.out _ (by repeat' (first | (with_reducible exact Below.refl _ _) | (with_reducible assumption) | (with_reducible refine Below.alloc ?_ ?_ _) | (with_reducible refine Below.drew ?_) | (with_reducible refine belowN ?_ _) | (with_reducible refine Below.setCell ?_ ?_ _) | (with_reducible refine belowG ?_ ?_) | (with_reducible exact Nat.le_refl _) | (with_reducible refine le_sizeG ?_) | (with_reducible refine le_sizeA ?_) | (with_reducible refine le_sizeC ?_) | (with_reducible refine le_sizeD ?_) | (with_reducible refine le_sizeN ?_) | go_size | (simp [go_sem]; done)))).mono ?_
            intro e w5 hr
            obtain ⟨ao, io, go, to', ac, ic, gc, tc, rfl, hb5⟩ := hr
            replace hb5 := (belowG0 p wr).trans (hb5.mono (belowG0 p wr).size)
            have hb6 : Below w.heap.size w w5 := hb.trans (hb5.mono hwz)
            have hz6 := hb6.size
            have hblk6 := Lib.hid (blk_keep hblk.out hb5)
            clear hb5 hb hblk c0 c1 c2 c3 i1 hwz P Wd Z ix
            dsimp only
            go_wp2
            go_roundw
            case rel => exact ⟨_, _, _, _, _, _, _, _, _, _, _, _, _, _, _, _, _, _, _, _, _, _, _, _, _, _, _, _, _, _, _, _, _, _, _, _, _, _, _, _, _, ⟨4, by go_num, by decide, by repeat' (first | (with_reducible exact Below.refl _ _) | (with_reducible assumption) | (with_reducible refine Below.alloc ?_ ?_ _) | (with_reducible refine Below.drew ?_) | (with_reducible refine belowN ?_ _) | (with_reducible refine Below.setCell ?_ ?_ _) | (with_reducible refine belowG ?_ ?_) | (with_reducible exact Nat.le_refl _) | (with_reducible refine le_sizeG ?_) | (with_reducible refine le_sizeA ?_) | (with_reducible refine le_sizeC ?_) | (with_reducible refine le_sizeD ?_) | (with_reducible refine le_sizeN ?_) | go_size | (simp [go_sem]; done)), blk_keep hblk6.out (by repeat' (first | (with_reducible exact Below.refl _ _) | (with_reducible assumption) | (with_reducible refine Below.alloc ?_ ?_ _) | (with_reducible refine Below.drew ?_) | (with_reducible refine belowN ?_ _) | (with_reducible refine Below.setCell ?_ ?_ _) | (with_reducible refine belowG ?_ ?_) | (with_reducible exact Nat.le_refl _) | (with_reducible refine le_sizeG ?_) | (with_reducible refine le_sizeA ?_) | (with_reducible refine le_sizeC ?_) | (with_reducible refine le_sizeD ?_) | (with_reducible refine le_sizeN ?_) | go_size | (simp [go_sem]; done)))⟩, rfl⟩
            case measure => simp [intOf]
        · obtain rfl : i = 4 := by omega
          clear c0 c1 c2 c3 i1 hblk Wd Z
          go_wp2
          go_returns
          exact ⟨rfl, by repeat' (first | (with_reducible exact Below.refl _ _) | (with_reducible assumption) | (with_reducible refine Below.alloc ?_ ?_ _) | (with_reducible refine Below.drew ?_) | (with_reducible refine belowN ?_ _) | (with_reducible refine Below.setCell ?_ ?_ _) | (with_reducible refine belowG ?_ ?_) | (with_reducible exact Nat.le_refl _) | (with_reducible refine le_sizeG ?_) | (with_reducible refine le_sizeA ?_) | (with_reducible refine le_sizeC ?_) | (with_reducible refine le_sizeD ?_) | (with_reducible refine le_sizeN ?_) | go_size | (simp [go_sem]; done))⟩
set_option maxRecDepth 100000 in
set_option maxHeartbeats 8000000 in
theorem states_f (s0 s1 : ByteArray) (h0 : s0.size ≤ 100) (h1 : s1.size ≤ 100) (hb0 : nmB s0.data.toList = false) (w : World) (hw : Az w) : Calls Tryz.prog 3 #[.string s0, .string s1] w (Ret (.bool true) w) := by
  have A := Lib.hid (anchor7_any w hw)
  have N0 := fun wx => Lib.hid (uname_any s0 (by omega) wx)
  have N1 := fun wx => Lib.hid (uname_any s1 (by omega) wx)
  have Wd := fun wx => Lib.hid (rwords_any wx)
  have Z := Lib.hid (fun wx (hb : Below w.heap.size w wx) => az_below hw hb)
  rw [hb0] at N0
  generalize nmB s1.data.toList = b1 at *
  replace N0 := Lib.hid N0
  replace N1 := Lib.hid N1
  replace Wd := Lib.hid Wd
  clear hw
  go_enter Tryz.func3, Tryz.ntmps3
  go_wp2_with fail
  refine A.out.mono ?_
  intro e w1 hr
  obtain ⟨rfl, hbA⟩ := hr
  have hz1 := hbA.size
  clear A
  go_wp2_with fail
  refine (N0.out _).out.mono ?_
  intro e w2 hr
  obtain ⟨rfl, hbB⟩ := hr
  have hb2 : Below w.heap.size w w2 := hbA.trans (hbB.mono hz1)
  have hz2 := hb2.size
  clear hbA hbB hz1 N0
  go_wp2_with fail
  refine (N1.out _).out.mono ?_
  intro e w3 hr
  obtain ⟨rfl, hbC⟩ := hr
  have hb3 : Below w.heap.size w w3 := hb2.trans (hbC.mono hz2)
  have hz3 := hb3.size
  clear hb2 hbC hz2 N1
  go_wp2_with fail
  go_loopw [31] (fun v wr => ∃ i : Nat, v = .int .i64 (i : Int) ∧ i ≤ 4 ∧ Below w.heap.size w wr ∧ wr.heap[w3.heap.size]? = some (.cells #[.int .i64 1, .int .i64 3, .int .i64 6, .int .i64 7] 3 (0, 0))) (fun v _ => 4 - (intOf v).toNat)
  case atStart => exact ⟨0, rfl, by decide, by repeat' (first | (with_reducible exact Below.refl _ _) | (with_reducible assumption) | (with_reducible refine Below.alloc ?_ ?_ _) | (with_reducible refine Below.drew ?_) | (with_reducible refine belowN ?_ _) | (with_reducible refine Below.setCell ?_ ?_ _) | (with_reducible refine belowG ?_ ?_) | (with_reducible exact Nat.le_refl _) | (with_reducible refine le_sizeG ?_) | (with_reducible refine le_sizeA ?_) | (with_reducible refine le_sizeC ?_) | (with_reducible refine le_sizeD ?_) | (with_reducible refine le_sizeN ?_) | go_size | (simp [go_sem]; done)), blk_keep (heap_alloc_new w3 _) (by repeat' (first | (with_reducible exact Below.refl _ _) | (with_reducible assumption) | (with_reducible refine Below.alloc ?_ ?_ _) | (with_reducible refine Below.drew ?_) | (with_reducible refine belowN ?_ _) | (with_reducible refine Below.setCell ?_ ?_ _) | (with_reducible refine belowG ?_ ?_) | (with_reducible exact Nat.le_refl _) | (with_reducible refine le_sizeG ?_) | (with_reducible refine le_sizeA ?_) | (with_reducible refine le_sizeC ?_) | (with_reducible refine le_sizeD ?_) | (with_reducible refine le_sizeN ?_) | go_size | (simp [go_sem]; done)))⟩
  case round =>
    obtain ⟨i, rfl, hi, hb, hblk⟩ := hrel
    rename World => wr
    have hwz := hb.size
    have i1 := InW.mk (lt_of_block hblk)
    have c0 := (cell_of_row wr w3.heap.size 0 _ _ _ hblk).trans rfl
    have c1 := (cell_of_row wr w3.heap.size 1 _ _ _ hblk).trans rfl
    have c2 := (cell_of_row wr w3.heap.size 2 _ _ _ hblk).trans rfl
    have c3 := (cell_of_row wr w3.heap.size 3 _ _ _ hblk).trans rfl
    replace hblk := Lib.hid hblk
    by_cases h4 : i < 4
    · rcases (by omega : i = 0 ∨ i = 1 ∨ i = 2 ∨ i = 3) with rfl | rfl | rfl | rfl
      · skip
        have P := Lib.hid (fun wx (hk : Below w.heap.size w wx) => p_etwo1 s0 s1 h0 h1 wx (Z.out wx hk).al)
        have ix := fun wx => rindex1 wx
        go_wp2_with ((with_reducible refine ((Wd.out _).out).mono ?_); intro e w1 hr; obtain ⟨rfl, p, rfl⟩ := hr.out; clear hr)
        refine (P.out _ (by repeat' (first | (with_reducible exact Below.refl _ _) | (with_reducible assumption) | (with_reducible refine Below.alloc ?_ ?_ _) | (with_reducible refine Below.drew ?_) | (with_reducible refine belowN ?_ _) | (with_reducible refine Below.setCell ?_ ?_ _) | (with_reducible refine belowG ?_ ?_) | (with_reducible exact Nat.le_refl _) | (with_reducible refine le_sizeG ?_) | (with_reducible refine le_sizeA ?_) | (with_reducible refine le_sizeC ?_) | (with_reducible refine le_sizeD ?_) | (with_reducible refine le_sizeN ?_) | go_size | (simp [go_sem]; done)))).mono ?_
        intro e w5 hr
        obtain ⟨k', vk, vn, x, nm, st, vs, ev, inn, ao, io, go, to', al, ac, il, ic, gl, gc, tl, tc, rfl, hb5⟩ := hr
        replace hb5 := (belowG0 p wr).trans (hb5.mono (belowG0 p wr).size)
        have hb6 : Below w.heap.size w w5 := hb.trans (hb5.mono hwz)
        have hz6 := hb6.size
        have hblk6 := Lib.hid (blk_keep hblk.out hb5)
        clear hb5 hb hblk c0 c1 c2 c3 i1 hwz P Wd Z ix
        dsimp only
        go_wp2
        go_roundw
        case rel => exact ⟨1, by go_num, by decide, by repeat' (first | (with_reducible exact Below.refl _ _) | (with_reducible assumption) | (with_reducible refine Below.alloc ?_ ?_ _) | (with_reducible refine Below.drew ?_) | (with_reducible refine belowN ?_ _) | (with_reducible refine Below.setCell ?_ ?_ _) | (with_reducible refine belowG ?_ ?_) | (with_reducible exact Nat.le_refl _) | (with_reducible refine le_sizeG ?_) | (with_reducible refine le_sizeA ?_) | (with_reducible refine le_sizeC ?_) | (with_reducible refine le_sizeD ?_) | (with_reducible refine le_sizeN ?_) | go_size | (simp [go_sem]; done)), blk_keep hblk6.out (by repeat' (first | (with_reducible exact Below.refl _ _) | (with_reducible assumption) | (with_reducible refine Below.alloc ?_ ?_ _) | (with_reducible refine Below.drew ?_) | (with_reducible refine belowN ?_ _) | (with_reducible refine Below.setCell ?_ ?_ _) | (with_reducible refine belowG ?_ ?_) | (with_reducible exact Nat.le_refl _) | (with_reducible refine le_sizeG ?_) | (with_reducible refine le_sizeA ?_) | (with_reducible refine le_sizeC ?_) | (with_reducible refine le_sizeD ?_) | (with_reducible refine le_sizeN ?_) | go_size | (simp [go_sem]; done)))⟩
        case measure => simp [intOf]
      · skip
        have P := Lib.hid (fun wx (hk : Below w.heap.size w wx) => p_etwo3 s0 s1 h0 h1 wx (Z.out wx hk).al)
        have ix := fun wx => rindex3 wx
        go_wp2_with ((with_reducible refine ((Wd.out _).out).mono ?_); intro e w1 hr; obtain ⟨rfl, p, rfl⟩ := hr.out; clear hr)
        refine (P.out _ (by repeat' (first | (with_reducible exact Below.refl _ _) | (with_reducible assumption) | (with_reducible refine Below.alloc ?_ ?_ _) | (with_reducible refine Below.drew ?_) | (with_reducible refine belowN ?_ _) | (with_reducible refine Below.setCell ?_ ?_ _) | (with_reducible refine belowG ?_ ?_) | (with_reducible exact Nat.le_refl _) | (with_reducible refine le_sizeG ?_) | (with_reducible refine le_sizeA ?_) | (with_reducible refine le_sizeC ?_) | (with_reducible refine le_sizeD ?_) | (with_reducible refine le_sizeN ?_) | go_size | (simp [go_sem]; done)))).mono ?_
        intro e w5 hr
        obtain ⟨k', vk, vn, x, nm, st, vs, ev, inn, ao, io, go, to', al, ac, il, ic, gl, gc, tl, tc, rfl, hb5⟩ := hr
        replace hb5 := (belowG0 p wr).trans (hb5.mono (belowG0 p wr).size)
        have hb6 : Below w.heap.size w w5 := hb.trans (hb5.mono hwz)
        have hz6 := hb6.size
        have hblk6 := Lib.hid (blk_keep hblk.out hb5)
        clear hb5 hb hblk c0 c1 c2 c3 i1 hwz P Wd Z ix
        dsimp only
        go_wp2
        go_roundw
        case rel => exact ⟨2, by go_num, by decide, by repeat' (first | (with_reducible exact Below.refl _ _) | (with_reducible assumption) | (with_reducible refine Below.alloc ?_ ?_ _) | (with_reducible refine Below.drew ?_) | (with_reducible refine belowN ?_ _) | (with_reducible refine Below.setCell ?_ ?_ _) | (with_reducible refine belowG ?_ ?_) | (with_reducible exact Nat.le_refl _) | (with_reducible refine le_sizeG ?_) | (with_reducible refine le_sizeA ?_) | (with_reducible refine le_sizeC ?_) | (with_reducible refine le_sizeD ?_) | (with_reducible refine le_sizeN ?_) | go_size | (simp [go_sem]; done)), blk_keep hblk6.out (by repeat' (first | (with_reducible exact Below.refl _ _) | (with_reducible assumption) | (with_reducible refine Below.alloc ?_ ?_ _) | (with_reducible refine Below.drew ?_) | (with_reducible refine belowN ?_ _) | (with_reducible refine Below.setCell ?_ ?_ _) | (with_reducible refine belowG ?_ ?_) | (with_reducible exact Nat.le_refl _) | (with_reducible refine le_sizeG ?_) | (with_reducible refine le_sizeA ?_) | (with_reducible refine le_sizeC ?_) | (with_reducible refine le_sizeD ?_) | (with_reducible refine le_sizeN ?_) | go_size | (simp [go_sem]; done)))⟩
        case measure => simp [intOf]
      · skip
        have P := Lib.hid (fun wx (hk : Below w.heap.size w wx) => p_etwo6 s0 s1 h0 h1 wx (Z.out wx hk).al)
        have ix := fun wx => rindex6 wx
        go_wp2_with ((with_reducible refine ((Wd.out _).out).mono ?_); intro e w1 hr; obtain ⟨rfl, p, rfl⟩ := hr.out; clear hr)
        refine (P.out _ (by repeat' (first | (with_reducible exact Below.refl _ _) | (with_reducible assumption) | (with_reducible refine Below.alloc ?_ ?_ _) | (with_reducible refine Below.drew ?_) | (with_reducible refine belowN ?_ _) | (with_reducible refine Below.setCell ?_ ?_ _) | (with_reducible refine belowG ?_ ?_) | (with_reducible exact Nat.le_refl _) | (with_reducible refine le_sizeG ?_) | (with_reducible refine le_sizeA ?_) | (with_reducible refine le_sizeC ?_) | (with_reducible refine le_sizeD ?_) | (with_reducible refine le_sizeN ?_) | go_size | (simp [go_sem]; done)))).mono ?_
        intro e w5 hr
        obtain ⟨k', vk, vn, x, nm, st, vs, ev, inn, ao, io, go, to', al, ac, il, ic, gl, gc, tl, tc, rfl, hb5⟩ := hr
        replace hb5 := (belowG0 p wr).trans (hb5.mono (belowG0 p wr).size)
        have hb6 : Below w.heap.size w w5 := hb.trans (hb5.mono hwz)
        have hz6 := hb6.size
        have hblk6 := Lib.hid (blk_keep hblk.out hb5)
        clear hb5 hb hblk c0 c1 c2 c3 i1 hwz P Wd Z ix
        dsimp only
        go_wp2
        go_roundw
        case rel => exact ⟨3, by go_num, by decide, by repeat' (first | (with_reducible exact Below.refl _ _) | (with_reducible assumption) | (with_reducible refine Below.alloc ?_ ?_ _) | (with_reducible refine Below.drew ?_) | (with_reducible refine belowN ?_ _) | (with_reducible refine Below.setCell ?_ ?_ _) | (with_reducible refine belowG ?_ ?_) | (with_reducible exact Nat.le_refl _) | (with_reducible refine le_sizeG ?_) | (with_reducible refine le_sizeA ?_) | (with_reducible refine le_sizeC ?_) | (with_reducible refine le_sizeD ?_) | (with_reducible refine le_sizeN ?_) | go_size | (simp [go_sem]; done)), blk_keep hblk6.out (by repeat' (first | (with_reducible exact Below.refl _ _) | (with_reducible assumption) | (with_reducible refine Below.alloc ?_ ?_ _) | (with_reducible refine Below.drew ?_) | (with_reducible refine belowN ?_ _) | (with_reducible refine Below.setCell ?_ ?_ _) | (with_reducible refine belowG ?_ ?_) | (with_reducible exact Nat.le_refl _) | (with_reducible refine le_sizeG ?_) | (with_reducible refine le_sizeA ?_) | (with_reducible refine le_sizeC ?_) | (with_reducible refine le_sizeD ?_) | (with_reducible refine le_sizeN ?_) | go_size | (simp [go_sem]; done)))⟩
        case measure => simp [intOf]
      · skip
        have P := Lib.hid (fun wx (hk : Below w.heap.size w wx) => p_etwo7 s0 s1 h0 h1 wx (Z.out wx hk).al)
        have ix := fun wx => rindex7 wx
        go_wp2_with ((with_reducible refine ((Wd.out _).out).mono ?_); intro e w1 hr; obtain ⟨rfl, p, rfl⟩ := hr.out; clear hr)
        refine (P.out _ (by repeat' (first | (with_reducible exact Below.refl _ _) | (with_reducible assumption) | (with_reducible refine Below.alloc ?_ ?_ _) | (with_reducible refine Below.drew ?_) | (with_reducible refine belowN ?_ _) | (with_reducible refine Below.setCell ?_ ?_ _) | (with_reducible refine belowG ?_ ?_) | (with_reducible exact Nat.le_refl _) | (with_reducible refine le_sizeG ?_) | (with_reducible refine le_sizeA ?_) | (with_reducible refine le_sizeC ?_) | (with_reducible refine le_sizeD ?_) | (with_reducible refine le_sizeN ?_) | go_size | (simp [go_sem]; done)))).mono ?_
        intro e w5 hr
        obtain ⟨k', vk, vn, x, nm, st, vs, ev, inn, ao, io, go, to', al, ac, il, ic, gl, gc, tl, tc, rfl, hb5⟩ := hr
        replace hb5 := (belowG0 p wr).trans (hb5.mono (belowG0 p wr).size)
        have hb6 : Below w.heap.size w w5 := hb.trans (hb5.mono hwz)
        have hz6 := hb6.size
        have hblk6 := Lib.hid (blk_keep hblk.out hb5)
        clear hb5 hb hblk c0 c1 c2 c3 i1 hwz P Wd Z ix
        dsimp only
        go_wp2
        go_roundw
        case rel => exact ⟨4, by go_num, by decide, by repeat' (first | (with_reducible exact Below.refl _ _) | (with_reducible assumption) | (with_reducible refine Below.alloc ?_ ?_ _) | (with_reducible refine Below.drew ?_) | (with_reducible refine belowN ?_ _) | (with_reducible refine Below.setCell ?_ ?_ _) | (with_reducible refine belowG ?_ ?_) | (with_reducible exact Nat.le_refl _) | (with_reducible refine le_sizeG ?_) | (with_reducible refine le_sizeA ?_) | (with_reducible refine le_sizeC ?_) | (with_reducible refine le_sizeD ?_) | (with_reducible refine le_sizeN ?_) | go_size | (simp [go_sem]; done)), blk_keep hblk6.out (by repeat' (first | (with_reducible exact Below.refl _ _) | (with_reducible assumption) | (with_reducible refine Below.alloc ?_ ?_ _) | (with_reducible refine Below.drew ?_) | (with_reducible refine belowN ?_ _) | (with_reducible refine Below.setCell ?_ ?_ _) | (with_reducible refine belowG ?_ ?_) | (with_reducible exact Nat.le_refl _) | (with_reducible refine le_sizeG ?_) | (with_reducible refine le_sizeA ?_) | (with_reducible refine le_sizeC ?_) | (with_reducible refine le_sizeD ?_) | (with_reducible refine le_sizeN ?_) | go_size | (simp [go_sem]; done)))⟩
        case measure => simp [intOf]
    · obtain rfl : i = 4 := by omega
      clear c0 c1 c2 c3 i1 hblk hb3 hz3
      obtain ⟨wq, hwq⟩ : ∃ x, x = wr := ⟨_, rfl⟩
      rw [← hwq] at hb hwz ⊢
      clear hwq
      go_wp2_with fail
      go_loopw [77] (fun v wr => ∃ i : Nat, v = .int .i64 (i : Int) ∧ i ≤ 4 ∧ Below w.heap.size w wr ∧ wr.heap[wq.heap.size]? = some (.cells #[.int .i64 4, .int .i64 5, .int .i64 3, .int .i64 1] 3 (0, 0))) (fun v _ => 4 - (intOf v).toNat)
      case atStart => exact ⟨0, rfl, by decide, by repeat' (first | (with_reducible exact Below.refl _ _) | (with_reducible assumption) | (with_reducible refine Below.alloc ?_ ?_ _) | (with_reducible refine Below.drew ?_) | (with_reducible refine belowN ?_ _) | (with_reducible refine Below.setCell ?_ ?_ _) | (with_reducible refine belowG ?_ ?_) | (with_reducible exact Nat.le_refl _) | (with_reducible refine le_sizeG ?_) | (with_reducible refine le_sizeA ?_) | (with_reducible refine le_sizeC ?_) | (with_reducible refine le_sizeD ?_) | (with_reducible refine le_sizeN ?_) | go_size | (simp [go_sem]; done)), blk_keep (heap_alloc_new wq _) (by repeat' (first | (with_reducible exact Below.refl _ _) | (with_reducible assumption) | (with_reducible refine Below.alloc ?_ ?_ _) | (with_reducible refine Below.drew ?_) | (with_reducible refine belowN ?_ _) | (with_reducible refine Below.setCell ?_ ?_ _) | (with_reducible refine belowG ?_ ?_) | (with_reducible exact Nat.le_refl _) | (with_reducible refine le_sizeG ?_) | (with_reducible refine le_sizeA ?_) | (with_reducible refine le_sizeC ?_) | (with_reducible refine le_sizeD ?_) | (with_reducible refine le_sizeN ?_) | go_size | (simp [go_sem]; done)))⟩
      case round =>
        obtain ⟨i, rfl, hi, hb, hblk⟩ := hrel
        rename World => wr
        have hwz := hb.size
        have i1 := InW.mk (lt_of_block hblk)
        have c0 := (cell_of_row wr wq.heap.size 0 _ _ _ hblk).trans rfl
        have c1 := (cell_of_row wr wq.heap.size 1 _ _ _ hblk).trans rfl
        have c2 := (cell_of_row wr wq.heap.size 2 _ _ _ hblk).trans rfl
        have c3 := (cell_of_row wr wq.heap.size 3 _ _ _ hblk).trans rfl
        replace hblk := Lib.hid hblk
        by_cases h4 : i < 4
        · rcases (by omega : i = 0 ∨ i = 1 ∨ i = 2 ∨ i = 3) with rfl | rfl | rfl | rfl
          · skip
            have P := Lib.hid (fun wx (hk : Below w.heap.size w wx) => p_eone4 s0 h0 wx (Z.out wx hk).al)
            have ix := fun wx => rindex4 wx
            go_wp2_with ((with_reducible refine ((Wd.out _).out).mono ?_); intro e w1 hr; obtain ⟨rfl, p, rfl⟩ := hr.out; clear hr)
            refine (P.out _ (by repeat' (first | (with_reducible exact Below.refl _ _) | (with_reducible assumption) | (with_reducible refine Below.alloc ?_ ?_ _) | (with_reducible refine Below.drew ?_) | (with_reducible refine belowN ?_ _) | (with_reducible refine Below.setCell ?_ ?_ _) | (with_reducible refine belowG ?_ ?_) | (with_reducible exact Nat.le_refl _) | (with_reducible refine le_sizeG ?_) | (with_reducible refine le_sizeA ?_) | (with_reducible refine le_sizeC ?_) | (with_reducible refine le_sizeD ?_) | (with_reducible refine le_sizeN ?_) | go_size | (simp [go_sem]; done)))).mono ?_
            intro e w5 hr
            obtain ⟨k', vk, vn, x, nm, st, vs, ev, inn, ao, io, go, to', al, ac, il, ic, gl, gc, tl, tc, rfl, hb5⟩ := hr
            replace hb5 := (belowG0 p wr).trans (hb5.mono (belowG0 p wr).size)
            have hb6 : Below w.heap.size w w5 := hb.trans (hb5.mono hwz)
            have hz6 := hb6.size
            have hblk6 := Lib.hid (blk_keep hblk.out hb5)
            clear hb5 hb hblk c0 c1 c2 c3 i1 hwz P Wd Z ix
            dsimp only
            go_wp2
            go_roundw
            case rel => exact ⟨_, _, _, _, _, _, _, _, _, _, _, _, _, _, _, _, _, _, _, _, _, _, _, _, _, _, _, _, _, _, _, _, _, _, _, _, _, _, _, _, _, ⟨1, by go_num, by decide, by repeat' (first | (with_reducible exact Below.refl _ _) | (with_reducible assumption) | (with_reducible refine Below.alloc ?_ ?_ _) | (with_reducible refine Below.drew ?_) | (with_reducible refine belowN ?_ _) | (with_reducible refine Below.setCell ?_ ?_ _) | (with_reducible refine belowG ?_ ?_) | (with_reducible exact Nat.le_refl _) | (with_reducible refine le_sizeG ?_) | (with_reducible refine le_sizeA ?_) | (with_reducible refine le_sizeC ?_) | (with_reducible refine le_sizeD ?_) | (with_reducible refine le_sizeN ?_) | go_size | (simp [go_sem]; done)), blk_keep hblk6.out (by repeat' (first | (with_reducible exact Below.refl _ _) | (with_reducible assumption) | (with_reducible refine Below.alloc ?_ ?_ _) | (with_reducible refine Below.drew ?_) | (with_reducible refine belowN ?_ _) | (with_reducible refine Below.setCell ?_ ?_ _) | (with_reducible refine belowG ?_ ?_) | (with_reducible exact Nat.le_refl _) | (with_reducible refine le_sizeG ?_) | (with_reducible refine le_sizeA ?_) | (with_reducible refine le_sizeC ?_) | (with_reducible refine le_sizeD ?_) | (with_reducible refine le_sizeN ?_) | go_size | (simp [go_sem]; done)))⟩, rfl⟩
            case measure => simp [intOf]
          · skip
            have P := Lib.hid (fun wx (hk : Below w.heap.size w wx) => p_eone5 s0 h0 wx (Z.out wx hk).al)
            have ix := fun wx => rindex5 wx
            go_wp2_with ((with_reducible refine ((Wd.out _).out).mono ?_); intro e w1 hr; obtain ⟨rfl, p, rfl⟩ := hr.out; clear hr)
            refine (P.out _ (by repeat' (first | (with_reducible exact Below.refl _ _) | (with_reducible assumption) | (with_reducible refine Below.alloc ?_ ?_ _) | (with_reducible refine Below.drew ?_) | (with_reducible refine belowN ?_ _) | (with_reducible refine Below.setCell ?_ ?_ _) | (with_reducible refine belowG ?_ ?_) | (with_reducible exact Nat.le_refl _) | (with_reducible refine le_sizeG ?_) | (with_reducible refine le_sizeA ?_) | (with_reducible refine le_sizeC ?_) | (with_reducible refine le_sizeD ?_) | (with_reducible refine le_sizeN ?_) | go_size | (simp [go_sem]; done)))).mono ?_
            intro e w5 hr
            obtain ⟨k', vk, vn, x, nm, st, vs, ev, inn, ao, io, go, to', al, ac, il, ic, gl, gc, tl, tc, rfl, hb5⟩ := hr
            replace hb5 := (belowG0 p wr).trans (hb5.mono (belowG0 p wr).size)
            have hb6 : Below w.heap.size w w5 := hb.trans (hb5.mono hwz)
            have hz6 := hb6.size
            have hblk6 := Lib.hid (blk_keep hblk.out hb5)
            clear hb5 hb hblk c0 c1 c2 c3 i1 hwz P Wd Z ix
            dsimp only
            go_wp2
            go_roundw
            case rel => exact ⟨_, _, _, _, _, _, _, _, _, _, _, _, _, _, _, _, _, _, _, _, _, _, _, _, _, _, _, _, _, _, _, _, _, _, _, _, _, _, _, _, _, ⟨2, by go_num, by decide, by repeat' (first | (with_reducible exact Below.refl _ _) | (with_reducible assumption) | (with_reducible refine Below.alloc ?_ ?_ _) | (with_reducible refine Below.drew ?_) | (with_reducible refine belowN ?_ _) | (with_reducible refine Below.setCell ?_ ?_ _) | (with_reducible refine belowG ?_ ?_) | (with_reducible exact Nat.le_refl _) | (with_reducible refine le_sizeG ?_) | (with_reducible refine le_sizeA ?_) | (with_reducible refine le_sizeC ?_) | (with_reducible refine le_sizeD ?_) | (with_reducible refine le_sizeN ?_) | go_size | (simp [go_sem]; done)), blk_keep hblk6.out (by repeat' (first | (with_reducible exact Below.refl _ _) | (with_reducible assumption) | (with_reducible refine Below.alloc ?_ ?_ _) | (with_reducible refine Below.drew ?_) | (with_reducible refine belowN ?_ _) | (with_reducible refine Below.setCell ?_ ?_ _) | (with_reducible refine belowG ?_ ?_) | (with_reducible exact Nat.le_refl _) | (with_reducible refine le_sizeG ?_) | (with_reducible refine le_sizeA ?_) | (with_reducible refine le_sizeC ?_) | (with_reducible refine le_sizeD ?_) | (with_reducible refine le_sizeN ?_) | go_size | (simp [go_sem]; done)))⟩, rfl⟩
            case measure => simp [intOf]
          · skip
            have P := Lib.hid (fun wx (hk : Below w.heap.size w wx) => p_eone3 s0 h0 wx (Z.out wx hk).al)
            have ix := fun wx => rindex3 wx
            go_wp2_with ((with_reducible refine ((Wd.out _).out).mono ?_); intro e w1 hr; obtain ⟨rfl, p, rfl⟩ := hr.out; clear hr)
            refine (P.out _ (by repeat' (first | (with_reducible exact Below.refl _ _) | (with_reducible assumption) | (with_reducible refine Below.alloc ?_ ?_ _) | (with_reducible refine Below.drew ?_) | (with_reducible refine belowN ?_ _) | (with_reducible refine Below.setCell ?_ ?_ _) | (with_reducible refine belowG ?_ ?_) | (with_reducible exact Nat.le_refl _) | (with_reducible refine le_sizeG ?_) | (with_reducible refine le_sizeA ?_) | (with_reducible refine le_sizeC ?_) | (with_reducible refine le_sizeD ?_) | (with_reducible refine le_sizeN ?_) | go_size | (simp [go_sem]; done)))).mono ?_
            intro e w5 hr
            obtain ⟨k', vk, vn, x, nm, st, vs, ev, inn, ao, io, go, to', al, ac, il, ic, gl, gc, tl, tc, rfl, hb5⟩ := hr
            replace hb5 := (belowG0 p wr).trans (hb5.mono (belowG0 p wr).size)
            have hb6 : Below w.heap.size w w5 := hb.trans (hb5.mono hwz)
            have hz6 := hb6.size
            have hblk6 := Lib.hid (blk_keep hblk.out hb5)
            clear hb5 hb hblk c0 c1 c2 c3 i1 hwz P Wd Z ix
            dsimp only
            go_wp2
            go_roundw
            case rel => exact ⟨_, _, _, _, _, _, _, _, _, _, _, _, _, _, _, _, _, _, _, _, _, _, _, _, _, _, _, _, _, _, _, _, _, _, _, _, _, _, _, _, _, ⟨3, by go_num, by decide, by repeat' (first | (with_reducible exact Below.refl _ _) | (with_reducible assumption) | (with_reducible refine Below.alloc ?_ ?_ _) | (with_reducible refine Below.drew ?_) | (with_reducible refine belowN ?_ _) | (with_reducible refine Below.setCell ?_ ?_ _) | (with_reducible refine belowG ?_ ?_) | (with_reducible exact Nat.le_refl _) | (with_reducible refine le_sizeG ?_) | (with_reducible refine le_sizeA ?_) | (with_reducible refine le_sizeC ?_) | (with_reducible refine le_sizeD ?_) | (with_reducible refine le_sizeN ?_) | go_size | (simp [go_sem]; done)), blk_keep hblk6.out (by repeat' (first | (with_reducible exact Below.refl _ _) | (with_reducible assumption) | (with_reducible refine Below.alloc ?_ ?_ _) | (with_reducible refine Below.drew ?_) | (with_reducible refine belowN ?_ _) | (with_reducible refine Below.setCell ?_ ?_ _) | (with_reducible refine belowG ?_ ?_) | (with_reducible exact Nat.le_refl _) | (with_reducible refine le_sizeG ?_) | (with_reducible refine le_sizeA ?_) | (with_reducible refine le_sizeC ?_) | (with_reducible refine le_sizeD ?_) | (with_reducible refine le_sizeN ?_) | go_size | (simp [go_sem]; done)))⟩, rfl⟩
            case measure => simp [intOf]
          · skip
            have P := Lib.hid (fun wx (hk : Below w.heap.size w wx) => p_eone1 s0 h0 wx (Z.out wx hk).al)
            have ix := fun wx => rindex1 wx
            go_wp2_with ((with_reducible refine ((Wd.out _).out).mono ?_); intro e w1 hr; obtain ⟨rfl, p, rfl⟩ := hr.out; clear hr)
            refine (P.out _ (by repeat' (first | (with_reducible exact Below.refl _ _) | (with_reducible assumption) | (with_reducible refine Below.alloc ?_ ?_ _) | (with_reducible refine Below.drew ?_) | (with_reducible refine belowN ?_ _) | (with_reducible refine Below.setCell ?_ ?_ _) | (with_reducible refine belowG ?_ ?_) | (with_reducible exact Nat.le_refl _) | (with_reducible refine le_sizeG ?_) | (with_reducible refine le_sizeA ?_) | (with_reducible refine le_sizeC ?_) | (with_reducible refine le_sizeD ?_) | (with_reducible refine le_sizeN ?_) | go_size | (simp [go_sem]; done)))).mono ?_
            intro e w5 hr
            obtain ⟨k', vk, vn, x, nm, st, vs, ev, inn, ao, io, go, to', al, ac, il, ic, gl, gc, tl, tc, rfl, hb5⟩ := hr
            replace hb5 := (belowG0 p wr).trans (hb5.mono (belowG0 p wr).size)
            have hb6 : Below w.heap.size w w5 := hb.trans (hb5.mono hwz)
            have hz6 := hb6.size
            have hblk6 := Lib.hid (blk_keep hblk.out hb5)
            clear hb5 hb hblk c0 c1 c2 c3 i1 hwz P Wd Z ix
            dsimp only
            go_wp2
            go_roundw
            case rel => exact ⟨_, _, _, _, _, _, _, _, _, _, _, _, _, _, _, _, _, _, _, _, _, _, _, _, _, _, _, _, _, _, _, _, _, _, _, _, _, _, _, _, _, ⟨4, by go_num, by decide, by repeat' (first | (with_reducible exact Below.refl _ _) | (with_reducible assumption) | (with_reducible refine Below.alloc ?_ ?_ _) | (with_reducible refine Below.drew ?_) | (with_reducible refine belowN ?_ _) | (with_reducible refine Below.setCell ?_ ?_ _) | (with_reducible refine belowG ?_ ?_) | (with_reducible exact Nat.le_refl _) | (with_reducible refine le_sizeG ?_) | (with_reducible refine le_sizeA ?_) | (with_reducible refine le_sizeC ?_) | (with_reducible refine le_sizeD ?_) | (with_reducible refine le_sizeN ?_) | go_size | (simp [go_sem]; done)), blk_keep hblk6.out (by repeat' (first | (with_reducible exact Below.refl _ _) | (with_reducible assumption) | (with_reducible refine Below.alloc ?_ ?_ _) | (with_reducible refine Below.drew ?_) | (with_reducible refine belowN ?_ _) | (with_reducible refine Below.setCell ?_ ?_ _) | (with_reducible refine belowG ?_ ?_) | (with_reducible exact Nat.le_refl _) | (with_reducible refine le_sizeG ?_) | (with_reducible refine le_sizeA ?_) | (with_reducible refine le_sizeC ?_) | (with_reducible refine le_sizeD ?_) | (with_reducible refine le_sizeN ?_) | go_size | (simp [go_sem]; done)))⟩, rfl⟩
            case measure => simp [intOf]
        · obtain rfl : i = 4 := by omega
          clear c0 c1 c2 c3 i1 hblk Wd Z
          go_wp2
          go_returns
          exact ⟨rfl, by repeat' (first | (with_reducible exact Below.refl _ _) | (with_reducible assumption) | (with_reducible refine Below.alloc ?_ ?_ _) | (with_reducible refine Below.drew ?_) | (with_reducible refine belowN ?_ _) | (with_reducible refine Below.setCell ?_ ?_ _) | (with_reducible refine belowG ?_ ?_) | (with_reducible exact Nat.le_refl _) | (with_reducible refine le_sizeG ?_) | (with_reducible refine le_sizeA ?_) | (with_reducible refine le_sizeC ?_) | (with_reducible refine le_sizeD ?_) | (with_reducible refine le_sizeN ?_) | go_size | (simp [go_sem]; done))⟩
theorem states_walk (s0 s1 : ByteArray) (w : World) (hw : Az w) : Calls Tryz.prog 3 #[.string s0, .string s1] w (Ret (.bool true) w) := by
  by_cases h0 : s0.size ≤ 100
  · by_cases h1 : s1.size ≤ 100
    · cases hb0 : nmB s0.data.toList
      · exact states_f s0 s1 h0 h1 hb0 w hw
      · cases hb1 : nmB s1.data.toList
        · exact states_tf s0 s1 h0 h1 hb0 hb1 w hw
        · exact states_tt s0 s1 h0 h1 hb0 hb1 w hw
    · exact states_long s0 s1 (.inr ⟨h0, by omega⟩) w hw
  · exact states_long s0 s1 (.inl (by omega)) w hw
end Go.Proofs.YtmalnjmginmjkaaGreatDoor

