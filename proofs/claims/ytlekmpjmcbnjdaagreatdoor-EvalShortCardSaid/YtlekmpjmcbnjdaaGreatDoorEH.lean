/- The document's example (layer 5), and nodes that may be no expression. -/
import Derived.Test.YtlekmpjmcbnjdaaGreatDoorEK
import Derived.Test.YtlekmpjmcbnjdaaGreatDoorEN
import Derived.Test.YtlekmpjmcbnjdaaGreatDoorEQ
import Derived.Test.YtlekmpjmcbnjdaaGreatDoorY5
import Derived.WalkKit
import Derived.ProofKit
import Derived.OpenShut
import Derived.Handy
import Derived.BigQuiet
import Derived.Lib.Hide
import Derived.WalkSmall
import Derived.WalkLawsBesides
namespace Go.Proofs.YtlekmpjmcbnjdaaGreatDoor
open Go.RowKit
/-- One name with a value lies in a block. -/
theorem cls_one {w : World} {b : Nat} {c : Cl} (c0 : w.cell? ⟨b, 0, none⟩ = some (.string c.name)) (c1 : w.cell? ⟨b, 1, none⟩ = some (.int .i64 c.k)) (c2 : w.cell? ⟨b, 2, none⟩ = some (.int .i64 c.n)) (c3 : w.cell? ⟨b, 3, none⟩ = some (.string c.s)) : CellsAt w (some ⟨b, 0, none⟩) [c] := by
  intro _
  refine ⟨b, 0, rfl, World.block_lt_of_cell? _ _ c0, fun i hi => ?_⟩
  obtain rfl : i = 0 := by simp at hi; omega
  exact ⟨c0, c1, c2, c3⟩
theorem readE_nz {l : List UInt8} {x : Int} (h : readT l = .error x) : (x != 0) = true := by
  unfold readT at h
  split at h
  · rename_i hl
    cases h
    rw [bne, lexT_err hl]
    rfl
  · split at h
    · rename_i hp
      cases h
      exact parseT_nz hp
    · split at h
      · cases h
        rfl
      · cases h
/-- The error of what is read, or 0. -/
def errOf : Except Int (List Nd) → Int
  | .error x => x
  | .ok _ => 0
/-- What Read answers, in one: a slice and an error; where there is none, the nodes lie where the slice says. -/
def RdAny (x : Except Int (List Nd)) (w : World) (e : Ending) (w' : World) : Prop := ∃ na n nc, e = .returned (.tuple #[.slice na n nc, .int .i64 (errOf x)]) ∧ (∀ ns, x = .ok ns → n = ns.length ∧ NdsAt w' na ns) ∧ Below w.heap.size w w'
theorem rd_any {x : Except Int (List Nd)} {w w' : World} {e : Ending} (h : ReadIs x w e w') : RdAny x w e w' := by
  cases x with
  | error x =>
    obtain ⟨he, hb⟩ := h
    exact ⟨none, 0, 0, he, fun ns hn => (by cases hn), hb⟩
  | ok ns =>
    obtain ⟨v, he, hown, hb⟩ := h
    obtain ⟨na, nc, hv⟩ := own_form hown
    subst hv
    exact ⟨na, ns.length, nc, he, fun ms hm => (by cases hm; exact ⟨rfl, nds_own hown⟩), hb⟩
/-- What Eval comes to, of nodes that were read. -/
theorem eread_any {l : List UInt8} {ns : List Nd} (hr : readT l = .ok ns) (va : Option Addr) (vc : Nat) (cs : List Cl) (ia : Option Addr) (ic : Nat) (ins : List ByteArray) (na : Option Addr) (nc : Nat) (hcs : CsGood cs) (hvn : cs.length ≤ 1000000) (hin : ins.length ≤ 1000) (w : World) (h : NdsAt w na ns) (hv : CellsAt w va cs) (hs : StrsAt w ia ins) (hl : Lb w) :
    Calls Tryz.prog 10 #[.slice na ns.length nc, envV va cs.length vc ia ins.length ic] w (Ret (rkV (evT cs ins ns)) w) := by
  obtain ⟨hright, hok, h32⟩ := read_right hr
  refine eeval_any va vc cs ia ic ins na nc ns hcs (read_good hr) hright hvn hin w h hv hs (fun wx hb => ?_)
  have T := xright_any na nc ns (by omega) (fun n hn => ⟨Nat.le_trans (hok n hn).s (by omega), Nat.le_trans (hok n hn).name (by omega)⟩) wx (nds_below h hb) (lb_below hl hb)
  rw [hright] at T
  exact T
theorem hread_any {l : List UInt8} {ns : List Nd} (hr : readT l = .ok ns) (va : Option Addr) (vc : Nat) (cs : List Cl) (ia : Option Addr) (ic : Nat) (ins : List ByteArray) (na : Option Addr) (nc : Nat) (hcs : CsGood cs) (hvn : cs.length ≤ 1000000) (hin : ins.length ≤ 1000) (w : World) (h : NdsAt w na ns) (hv : CellsAt w va cs) (hs : StrsAt w ia ins) (hl : Lb w) :
    Calls Tryz.prog 13 #[.slice na ns.length nc, envV va cs.length vc ia ins.length ic] w (Ret (holdsV (evT cs ins ns)) w) :=
  eholds_any _ va cs.length vc ia ins.length ic _ w (fun wx hb => eread_any hr va vc cs ia ic ins na nc hcs hvn hin wx (nds_below h hb) (cls_below hv hb) (strs_below hs hb) (lb_below hl hb))
set_option maxRecDepth 100000 in
set_option maxHeartbeats 4000000 in
theorem anchor5_any (w : World) (hl : Lb w) (he : Eg w) : Calls Tryz.prog 7 #[] w (Ret (.bool true) w) := by
  have hgl := eg_lt he
  have R1 := fun wx (hb : Below w.heap.size w wx) => read3_any lineP (by decide) wx (lb_below hl hb) (eg_keep he hgl hb)
  rw [read_P] at R1
  unfold lineP at R1
  replace R1 := Lib.hid R1
  have R2 := fun wx (hb : Below w.heap.size w wx) => read3_any lineQ (by decide) wx (lb_below hl hb) (eg_keep he hgl hb)
  rw [read_Q] at R2
  unfold lineQ at R2
  replace R2 := Lib.hid R2
  have HP := fun na nc b wx (hb : Below w.heap.size w wx) (hN : NdsAt wx na nodesP) c0 c1 c2 c3 => hread_any read_P (some ⟨b, 0, none⟩) 1 [xC] none 0 [] na nc good_xC (by decide) (by decide) wx hN (cls_one c0 c1 c2 c3) (fun h => absurd h (Nat.not_lt_zero _)) (lb_below hl hb)
  rw [ev_P, show holdsV (trR false) = .tuple #[.bool false, .int .i64 0] from rfl] at HP
  have HQ := fun na nc b wx (hb : Below w.heap.size w wx) (hN : NdsAt wx na nodesQ) c0 c1 c2 c3 => eread_any read_Q (some ⟨b, 0, none⟩) 1 [xC] none 0 [] na nc good_xC (by decide) (by decide) wx hN (cls_one c0 c1 c2 c3) (fun h => absurd h (Nat.not_lt_zero _)) (lb_below hl hb)
  rw [ev_Q, err_v] at HQ
  unfold envV at HP HQ
  simp only [xC, List.length_cons, List.length_nil] at HP HQ
  replace HP := Lib.hid HP
  replace HQ := Lib.hid HQ
  clear hl he hgl
  go_enter Tryz.func7, Tryz.ntmps7
  go_wp2_with ((with_reducible refine (of_any _ _).mono ?_); intro e w1 hr; obtain ⟨rfl, p, rfl⟩ := hr.out; clear hr)
  generalize hW : ((G p w).alloc (.cells #[.string ⟨#[120]⟩, .int .i64 1, .int .i64 0, .string ⟨#[]⟩] 51)).alloc (.cells #[.slice (some ⟨(G p w).heap.size, 0, none⟩) 1 1, .slice none 0 0] 25) = W1
  generalize hB : (G p w).heap.size = B at *
  have hbW : Below w.heap.size w W1 := by rw [← hW]; repeat' (first | (with_reducible exact Below.refl _ _) | (with_reducible assumption) | (with_reducible refine Below.alloc ?_ ?_ _) | (with_reducible refine Below.drew ?_) | (with_reducible refine belowN ?_ _) | (with_reducible refine Below.setCell ?_ ?_ _) | (with_reducible refine belowG ?_ ?_) | (with_reducible exact Nat.le_refl _) | (with_reducible refine le_sizeG ?_) | (with_reducible refine le_sizeA ?_) | (with_reducible refine le_sizeC ?_) | (with_reducible refine le_sizeD ?_) | (with_reducible refine le_sizeN ?_) | go_size | (simp [go_sem]; done))
  have k0 : W1.cell? ⟨B, 0, none⟩ = some (.string ⟨#[120]⟩) := by rw [← hW, ← hB]; simp [go_sem]
  have k1 : W1.cell? ⟨B, 1, none⟩ = some (.int .i64 1) := by rw [← hW, ← hB]; simp [go_sem]
  have k2 : W1.cell? ⟨B, 2, none⟩ = some (.int .i64 0) := by rw [← hW, ← hB]; simp [go_sem]
  have k3 : W1.cell? ⟨B, 3, none⟩ = some (.string ⟨#[]⟩) := by rw [← hW, ← hB]; simp [go_sem]
  have v0 : W1.cell? ⟨B + 1, 0, none⟩ = some (.slice (some ⟨B, 0, none⟩) 1 1) := by rw [← hW, ← hB]; simp [go_sem]
  have v1 : W1.cell? ⟨B + 1, 1, none⟩ = some (.slice none 0 0) := by rw [← hW, ← hB]; simp [go_sem]
  have i0 : InW B W1 := ⟨World.block_lt_of_cell? _ _ k0⟩
  have i1 : InW (B + 1) W1 := ⟨World.block_lt_of_cell? _ _ v0⟩
  have hbWz := hbW.size
  clear hW hB
  refine (R1.out _ hbW).mono ?_
  intro e w2 hr
  obtain ⟨v, rfl, hown, hb⟩ := hr
  obtain ⟨na, nc, hv⟩ := own_form hown
  subst hv
  have hN := Lib.hid (fun wx hx => nds_below (w' := wx) (nds_own hown) hx)
  have hb2 := hbW.trans (hb.mono hbWz)
  have hbz := hb.size
  have R3 := Lib.hid (fun wx (hx : Below w2.heap.size w2 wx) => R2.out wx (hb2.trans (hx.mono hb2.size)))
  replace k0 := (hb.cell (p := ⟨B, 0, none⟩) i0.lt).trans k0
  replace k1 := (hb.cell (p := ⟨B, 1, none⟩) i0.lt).trans k1
  replace k2 := (hb.cell (p := ⟨B, 2, none⟩) i0.lt).trans k2
  replace k3 := (hb.cell (p := ⟨B, 3, none⟩) i0.lt).trans k3
  replace v0 := (hb.cell (p := ⟨B + 1, 0, none⟩) i1.lt).trans v0
  replace v1 := (hb.cell (p := ⟨B + 1, 1, none⟩) i1.lt).trans v1
  have j0 : InW B w2 := ⟨World.block_lt_of_cell? _ _ k0⟩
  have j1 : InW (B + 1) w2 := ⟨World.block_lt_of_cell? _ _ v0⟩
  clear hown R1 R2 hb i0 i1 hbW hbWz
  go_wp2_with fail
  refine (R3.out _ (by repeat' (first | (with_reducible exact Below.refl _ _) | (with_reducible assumption) | (with_reducible refine Below.alloc ?_ ?_ _) | (with_reducible refine Below.drew ?_) | (with_reducible refine belowN ?_ _) | (with_reducible refine Below.setCell ?_ ?_ _) | (with_reducible refine belowG ?_ ?_) | (with_reducible exact Nat.le_refl _) | (with_reducible refine le_sizeG ?_) | (with_reducible refine le_sizeA ?_) | (with_reducible refine le_sizeC ?_) | (with_reducible refine le_sizeD ?_) | (with_reducible refine le_sizeN ?_) | go_size | (simp [go_sem]; done)))).mono ?_
  intro e w3 hr
  obtain ⟨v, rfl, hown, hb⟩ := hr
  obtain ⟨nb, nd, hv⟩ := own_form hown
  subst hv
  have hM := Lib.hid (fun wx hx => nds_below (w' := wx) (nds_own hown) hx)
  have hb3 : Below w2.heap.size w2 w3 := Below.trans (by repeat' (first | (with_reducible exact Below.refl _ _) | (with_reducible assumption) | (with_reducible refine Below.alloc ?_ ?_ _) | (with_reducible refine Below.drew ?_) | (with_reducible refine belowN ?_ _) | (with_reducible refine Below.setCell ?_ ?_ _) | (with_reducible refine belowG ?_ ?_) | (with_reducible exact Nat.le_refl _) | (with_reducible refine le_sizeG ?_) | (with_reducible refine le_sizeA ?_) | (with_reducible refine le_sizeC ?_) | (with_reducible refine le_sizeD ?_) | (with_reducible refine le_sizeN ?_) | go_size | (simp [go_sem]; done))) (hb.mono (by repeat' (first | (with_reducible exact Below.refl _ _) | (with_reducible assumption) | (with_reducible refine Below.alloc ?_ ?_ _) | (with_reducible refine Below.drew ?_) | (with_reducible refine belowN ?_ _) | (with_reducible refine Below.setCell ?_ ?_ _) | (with_reducible refine belowG ?_ ?_) | (with_reducible exact Nat.le_refl _) | (with_reducible refine le_sizeG ?_) | (with_reducible refine le_sizeA ?_) | (with_reducible refine le_sizeC ?_) | (with_reducible refine le_sizeD ?_) | (with_reducible refine le_sizeN ?_) | go_size | (simp [go_sem]; done))))
  have h3 := hb2.trans (hb3.mono hb2.size)
  replace k0 := (hb3.cell (p := ⟨B, 0, none⟩) j0.lt).trans k0
  replace k1 := (hb3.cell (p := ⟨B, 1, none⟩) j0.lt).trans k1
  replace k2 := (hb3.cell (p := ⟨B, 2, none⟩) j0.lt).trans k2
  replace k3 := (hb3.cell (p := ⟨B, 3, none⟩) j0.lt).trans k3
  replace v0 := (hb3.cell (p := ⟨B + 1, 0, none⟩) j1.lt).trans v0
  replace v1 := (hb3.cell (p := ⟨B + 1, 1, none⟩) j1.lt).trans v1
  have i0 : InW B w3 := ⟨World.block_lt_of_cell? _ _ k0⟩
  have i1 : InW (B + 1) w3 := ⟨World.block_lt_of_cell? _ _ v0⟩
  have P3 := Lib.hid (fun wx (hx : Below w3.heap.size w3 wx) => HP.out na nc B wx (h3.trans (hx.mono h3.size)) (hN.out wx (hb3.trans (hx.mono hb3.size))) ((hx.cell (p := ⟨B, 0, none⟩) i0.lt).trans k0) ((hx.cell (p := ⟨B, 1, none⟩) i0.lt).trans k1) ((hx.cell (p := ⟨B, 2, none⟩) i0.lt).trans k2) ((hx.cell (p := ⟨B, 3, none⟩) i0.lt).trans k3))
  have Q3 := Lib.hid (fun wx (hx : Below w3.heap.size w3 wx) => HQ.out nb nd B wx (h3.trans (hx.mono h3.size)) (hM.out wx hx) ((hx.cell (p := ⟨B, 0, none⟩) i0.lt).trans k0) ((hx.cell (p := ⟨B, 1, none⟩) i0.lt).trans k1) ((hx.cell (p := ⟨B, 2, none⟩) i0.lt).trans k2) ((hx.cell (p := ⟨B, 3, none⟩) i0.lt).trans k3))
  clear hown R3 HP HQ hN hM hb hb2 hbz hb3 j0 j1 k0 k1 k2 k3
  generalize nodesP.length = LP at *
  generalize nodesQ.length = LQ at *
  have h3z := h3.size
  go_wp2_with (first | ((with_reducible refine (P3.out _ (by repeat' (first | (with_reducible exact Below.refl _ _) | (with_reducible assumption) | (with_reducible refine Below.alloc ?_ ?_ _) | (with_reducible refine Below.drew ?_) | (with_reducible refine belowN ?_ _) | (with_reducible refine Below.setCell ?_ ?_ _) | (with_reducible refine belowG ?_ ?_) | (with_reducible exact Nat.le_refl _) | (with_reducible refine le_sizeG ?_) | (with_reducible refine le_sizeA ?_) | (with_reducible refine le_sizeC ?_) | (with_reducible refine le_sizeD ?_) | (with_reducible refine le_sizeN ?_) | go_size | (simp [go_sem]; done)))).mono ?_); intro e w1 hr; obtain ⟨rfl, p, rfl⟩ := hr.out; clear hr) | ((with_reducible refine (Q3.out _ (by repeat' (first | (with_reducible exact Below.refl _ _) | (with_reducible assumption) | (with_reducible refine Below.alloc ?_ ?_ _) | (with_reducible refine Below.drew ?_) | (with_reducible refine belowN ?_ _) | (with_reducible refine Below.setCell ?_ ?_ _) | (with_reducible refine belowG ?_ ?_) | (with_reducible exact Nat.le_refl _) | (with_reducible refine le_sizeG ?_) | (with_reducible refine le_sizeA ?_) | (with_reducible refine le_sizeC ?_) | (with_reducible refine le_sizeD ?_) | (with_reducible refine le_sizeN ?_) | go_size | (simp [go_sem]; done)))).mono ?_); intro e w1 hr; obtain ⟨rfl, p, rfl⟩ := hr.out; clear hr))
  go_returns
  exact ⟨rfl, by repeat' (first | (with_reducible exact Below.refl _ _) | (with_reducible assumption) | (with_reducible refine Below.alloc ?_ ?_ _) | (with_reducible refine Below.drew ?_) | (with_reducible refine belowN ?_ _) | (with_reducible refine Below.setCell ?_ ?_ _) | (with_reducible refine belowG ?_ ?_) | (with_reducible exact Nat.le_refl _) | (with_reducible refine le_sizeG ?_) | (with_reducible refine le_sizeA ?_) | (with_reducible refine le_sizeC ?_) | (with_reducible refine le_sizeD ?_) | (with_reducible refine le_sizeN ?_) | go_size | (simp [go_sem]; done))⟩
end Go.Proofs.YtlekmpjmcbnjdaaGreatDoor

