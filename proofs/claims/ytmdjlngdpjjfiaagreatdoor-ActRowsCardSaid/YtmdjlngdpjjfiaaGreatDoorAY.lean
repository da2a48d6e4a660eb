/- The law's own helpers: acts as the document has them; whether two expressions, and acts, are the same. -/
import Derived.Test.YtmdjlngdpjjfiaaGreatDoorAV
import Derived.Test.YtmdjlngdpjjfiaaGreatDoorBA
import Derived.WalkKit
import Derived.ProofKit
import Derived.OpenShut
import Derived.Handy
import Derived.BigQuiet
import Derived.OwnWalk
import Derived.Deep.AppendLies
import Derived.Deep.RegionHeld3
import Derived.Lib.Hide
import Derived.WalkSmall
import Derived.WalkLawsBesides
namespace Go.Proofs.YtmdjlngdpjjfiaaGreatDoor
open Go.RowKit
theorem Tryz.infoA6 : (Tryz.prog.info? 52).map (fun i => (i.zero, i.size, i.bytes)) = some (some (.agg #[.int .i64 0, .slice none 0 0, .string ⟨#[]⟩, .slice none 0 0, .int .i64 0]), 5, 80) := by kernel_rfl
def RefsAIs (cs : List Ac) (w : World) (e : Ending) (w' : World) : Prop := ∃ v, e = .returned v ∧ AcRow 77 52 w.heap.size w' v cs ∧ Below w.heap.size w w'
set_option maxRecDepth 100000 in
set_option maxHeartbeats 4000000 in
theorem refs6_any (ao : Option Addr) (cap : Nat) (cs : List Ac) (hc : cs.length ≤ 1000) (hn : ∀ c ∈ cs, c.cond.length ≤ 2000000 ∧ c.x.length ≤ 2000000) (w : World) (h : ActsAt w ao cs) : Calls Tryz.prog 8 #[.slice ao cs.length cap] w (RefsAIs cs w) := by
  have H := fun wx hb => acts_below (w' := wx) h hb
  replace H := Lib.hid H
  obtain ⟨j0, hj, hy1, hy2, hy3⟩ := info_parts Tryz.infoA6
  clear h
  go_enter Tryz.func8, Tryz.ntmps8
  go_wp2
  go_loopw [3, 8] (fun v x wr => ∃ (i : Nat) (oa : Option Addr) (oc : Nat), x = .int .i64 (i : Int) ∧ i ≤ cs.length ∧ v = .slice oa i oc ∧ AcRow 77 52 w.heap.size wr (.slice oa i oc) (cs.take i) ∧ Below w.heap.size w wr) (fun _ x _ => cs.length - (intOf x).toNat)
  case atStart => exact ⟨0, none, 0, rfl, Nat.zero_le _, rfl, acRow_nil _ _ _ _, by repeat' (first | (with_reducible exact Below.refl _ _) | (with_reducible assumption) | (with_reducible refine Below.alloc ?_ ?_ _) | (with_reducible refine Below.drew ?_) | (with_reducible refine belowN ?_ _) | (with_reducible refine Below.setCell ?_ ?_ _) | (with_reducible refine belowG ?_ ?_) | (with_reducible exact Nat.le_refl _) | (with_reducible refine le_sizeG ?_) | (with_reducible refine le_sizeA ?_) | (with_reducible refine le_sizeC ?_) | (with_reducible refine le_sizeD ?_) | (with_reducible refine le_sizeN ?_) | go_size | (simp [go_sem]; done))⟩
  case round =>
    obtain ⟨i, oa, oc, rfl, hi, rfl, hrow, hb⟩ := hrel
    rename World => wr
    have hwz := hb.size
    by_cases hlt : i < cs.length
    · obtain ⟨g, rfl, hg, hcs⟩ := H.out wr hb (by omega)
      obtain ⟨io, ic, xo, xc, n1, n2, n3, n4, n5, hN1, hN2⟩ := hcs i hlt
      obtain ⟨hl1, hl2⟩ := hn cs[i] (List.getElem_mem hlt)
      have htk : cs.take (i + 1) = cs.take i ++ [cs[i]] := by rw [List.take_add_one, List.getElem?_eq_getElem hlt]; rfl
      have hcl : (cs.take i).length = i := by rw [List.length_take]; omega
      obtain ⟨c, hcc⟩ : ∃ c, cs[i] = c := ⟨_, rfl⟩
      rw [hcc] at n1 n2 n3 n4 n5 hN1 hN2 hl1 hl2 htk
      obtain ⟨vs, hV, hO⟩ := hrow
      rw [hcl] at hO
      have N1 := Lib.hid (fun wx (hk : Below wr.heap.size wr wx) => nodes6_any io ic c.cond hl1 wx (nds_below hN1 hk))
      have N2 := Lib.hid (fun wx (hk : Below wr.heap.size wr wx) => nodes6_any xo xc c.x hl2 wx (nds_below hN2 hk))
      replace htk := Lib.hid htk
      replace hcl := Lib.hid hcl
      replace hV := Lib.hid hV
      replace hO := Lib.hid hO
      have i1 : InW g wr := ⟨hg⟩
      clear hcs hcc hN1 hN2
      have hI : (i : Int) < (cs.length : Int) := by omega
      go_wp2_with fail
      go_region_held3 (fun w' => w'.cell? ⟨wr.heap.size, 0, none⟩ = some (.int .i64 c.kind) ∧ w'.cell? ⟨wr.heap.size, 1, none⟩ = some (.slice io c.cond.length ic) ∧ w'.cell? ⟨wr.heap.size, 2, none⟩ = some (.string ⟨c.name.toArray⟩) ∧ w'.cell? ⟨wr.heap.size, 3, none⟩ = some (.slice xo c.x.length xc) ∧ w'.cell? ⟨wr.heap.size, 4, none⟩ = some (.int .i64 c.n)) ((refine ⟨?_, ?_, ?_, ?_, ?_⟩ <;> first | assumption | (rw [cell_GI]; assumption) | (simp [go_sem, *]; done)))
        (first
          | ((with_reducible refine (N1.out _ (by repeat' (first | (with_reducible exact Below.refl _ _) | (with_reducible assumption) | (with_reducible refine Below.alloc ?_ ?_ _) | (with_reducible refine Below.drew ?_) | (with_reducible refine belowN ?_ _) | (with_reducible refine Below.setCell ?_ ?_ _) | (with_reducible refine belowG ?_ ?_) | (with_reducible exact Nat.le_refl _) | (with_reducible refine le_sizeG ?_) | (with_reducible refine le_sizeA ?_) | (with_reducible refine le_sizeC ?_) | (with_reducible refine le_sizeD ?_) | (with_reducible refine le_sizeN ?_) | go_size | (simp [go_sem]; done)))).mono ?_); intro e w3 hr; obtain ⟨v3, rfl, ho3, hb3⟩ := hr; obtain ⟨o3, c3, hv3⟩ := own_form ho3; subst hv3; obtain ⟨p3, rfl⟩ := toG hb3; clear hb3; (try simp only [G_drew] at ho3))
          | ((with_reducible refine (N2.out _ (by repeat' (first | (with_reducible exact Below.refl _ _) | (with_reducible assumption) | (with_reducible refine Below.alloc ?_ ?_ _) | (with_reducible refine Below.drew ?_) | (with_reducible refine belowN ?_ _) | (with_reducible refine Below.setCell ?_ ?_ _) | (with_reducible refine belowG ?_ ?_) | (with_reducible exact Nat.le_refl _) | (with_reducible refine le_sizeG ?_) | (with_reducible refine le_sizeA ?_) | (with_reducible refine le_sizeC ?_) | (with_reducible refine le_sizeD ?_) | (with_reducible refine le_sizeN ?_) | go_size | (simp [go_sem]; done)))).mono ?_); intro e w4 hr; obtain ⟨v4, rfl, ho4, hb4⟩ := hr; obtain ⟨o4, c4, hv4⟩ := own_form ho4; subst hv4; obtain ⟨p4, rfl⟩ := toG hb4; clear hb4; (try simp only [G_drew] at ho4))
          | ((refine step_append_lies _ rfl (.tmp 12) (.tmp 26) 31 rfl w.heap.size 52 j0 _ 5 80 Tryz.underlying31 hj hy1 hy2 hy3 rfl (by decide) (.slice oa i oc) i vs (by simp [Act.eval]) (owns_below hO.out (by repeat' (first | (with_reducible exact Below.refl _ _) | (with_reducible assumption) | (with_reducible refine Below.alloc ?_ ?_ _) | (with_reducible refine Below.drew ?_) | (with_reducible refine belowN ?_ _) | (with_reducible refine Below.setCell ?_ ?_ _) | (with_reducible refine belowG ?_ ?_) | (with_reducible exact Nat.le_refl _) | (with_reducible refine le_sizeG ?_) | (with_reducible refine le_sizeA ?_) | (with_reducible refine le_sizeC ?_) | (with_reducible refine le_sizeD ?_) | (with_reducible refine le_sizeN ?_) | go_size | (simp [go_sem]; done)))) ⟨_, 0, none⟩ 1 1 [.int .i64 c.kind, .slice o3 c.cond.length c3, .string ⟨c.name.toArray⟩, .slice o4 c.x.length c4, .int .i64 c.n] rfl rfl (World.news_of_block (new_at (by simp))) (by intro u hu; simp at hu; rcases hu with rfl | rfl | rfl | rfl | rfl <;> rfl) (by decide) (by unfold maxLen; omega) (by omega) (Nat.le_trans hwz (Below.size (B := wr.heap.size) (w := wr) (by repeat' (first | (with_reducible exact Below.refl _ _) | (with_reducible assumption) | (with_reducible refine Below.alloc ?_ ?_ _) | (with_reducible refine Below.drew ?_) | (with_reducible refine belowN ?_ _) | (with_reducible refine Below.setCell ?_ ?_ _) | (with_reducible refine belowG ?_ ?_) | (with_reducible exact Nat.le_refl _) | (with_reducible refine le_sizeG ?_) | (with_reducible refine le_sizeA ?_) | (with_reducible refine le_sizeC ?_) | (with_reducible refine le_sizeD ?_) | (with_reducible refine le_sizeN ?_) | go_size | (simp [go_sem]; done))))) _ rfl ?_); intro g' cap' w1 hown1 hgrow hat1 hg1; have hk1 := grown_blk (owns_below hO.out (by repeat' (first | (with_reducible exact Below.refl _ _) | (with_reducible assumption) | (with_reducible refine Below.alloc ?_ ?_ _) | (with_reducible refine Below.drew ?_) | (with_reducible refine belowN ?_ _) | (with_reducible refine Below.setCell ?_ ?_ _) | (with_reducible refine belowG ?_ ?_) | (with_reducible exact Nat.le_refl _) | (with_reducible refine le_sizeG ?_) | (with_reducible refine le_sizeA ?_) | (with_reducible refine le_sizeC ?_) | (with_reducible refine le_sizeD ?_) | (with_reducible refine le_sizeN ?_) | go_size | (simp [go_sem]; done)))) (blk_keep (heap_alloc_new wr (.cells #[.int .i64 c.kind, .slice io c.cond.length ic, .string ⟨c.name.toArray⟩, .slice xo c.x.length xc, .int .i64 c.n] 38 (0, 0))) (by repeat' (first | (with_reducible exact Below.refl _ _) | (with_reducible assumption) | (with_reducible refine Below.alloc ?_ ?_ _) | (with_reducible refine Below.drew ?_) | (with_reducible refine belowN ?_ _) | (with_reducible refine Below.setCell ?_ ?_ _) | (with_reducible refine belowG ?_ ?_) | (with_reducible exact Nat.le_refl _) | (with_reducible refine le_sizeG ?_) | (with_reducible refine le_sizeA ?_) | (with_reducible refine le_sizeC ?_) | (with_reducible refine le_sizeD ?_) | (with_reducible refine le_sizeN ?_) | go_size | (simp [go_sem]; done)))) (by decide) hgrow; obtain ⟨u0, u1, u2, u3, u4, u5, u6⟩ := five hk1))
      have hbW : Below wr.heap.size wr ((G (pq p4 p3) (wr.alloc (.cells #[.int .i64 c.kind, .slice io c.cond.length ic, .string ⟨c.name.toArray⟩, .slice xo c.x.length xc, .int .i64 c.n] 38 (0, 0)))).alloc (.cells #[.int .i64 c.kind, .slice o3 c.cond.length c3, .string ⟨c.name.toArray⟩, .slice o4 c.x.length c4, .int .i64 c.n] 52 (0, 0))) := by repeat' (first | (with_reducible exact Below.refl _ _) | (with_reducible assumption) | (with_reducible refine Below.alloc ?_ ?_ _) | (with_reducible refine Below.drew ?_) | (with_reducible refine belowN ?_ _) | (with_reducible refine Below.setCell ?_ ?_ _) | (with_reducible refine belowG ?_ ?_) | (with_reducible exact Nat.le_refl _) | (with_reducible refine le_sizeG ?_) | (with_reducible refine le_sizeA ?_) | (with_reducible refine le_sizeC ?_) | (with_reducible refine le_sizeD ?_) | (with_reducible refine le_sizeN ?_) | go_size | (simp [go_sem]; done))
      have hb3 : Below (G p3 (wr.alloc (.cells #[.int .i64 c.kind, .slice io c.cond.length ic, .string ⟨c.name.toArray⟩, .slice xo c.x.length xc, .int .i64 c.n] 38 (0, 0)))).heap.size (G p3 (wr.alloc (.cells #[.int .i64 c.kind, .slice io c.cond.length ic, .string ⟨c.name.toArray⟩, .slice xo c.x.length xc, .int .i64 c.n] 38 (0, 0)))) ((G (pq p4 p3) (wr.alloc (.cells #[.int .i64 c.kind, .slice io c.cond.length ic, .string ⟨c.name.toArray⟩, .slice xo c.x.length xc, .int .i64 c.n] 38 (0, 0)))).alloc (.cells #[.int .i64 c.kind, .slice o3 c.cond.length c3, .string ⟨c.name.toArray⟩, .slice o4 c.x.length c4, .int .i64 c.n] 52 (0, 0))) := by
        rw [← G_G]
        exact (belowG0 p4 _).alloc (belowG0 p4 _).size _
      have hb4 : Below (G (pq p4 p3) (wr.alloc (.cells #[.int .i64 c.kind, .slice io c.cond.length ic, .string ⟨c.name.toArray⟩, .slice xo c.x.length xc, .int .i64 c.n] 38 (0, 0)))).heap.size (G (pq p4 p3) (wr.alloc (.cells #[.int .i64 c.kind, .slice io c.cond.length ic, .string ⟨c.name.toArray⟩, .slice xo c.x.length xc, .int .i64 c.n] 38 (0, 0)))) ((G (pq p4 p3) (wr.alloc (.cells #[.int .i64 c.kind, .slice io c.cond.length ic, .string ⟨c.name.toArray⟩, .slice xo c.x.length xc, .int .i64 c.n] 38 (0, 0)))).alloc (.cells #[.int .i64 c.kind, .slice o3 c.cond.length c3, .string ⟨c.name.toArray⟩, .slice o4 c.x.length c4, .int .i64 c.n] 52 (0, 0))) := (Below.refl _ _).alloc (Nat.le_refl _) _
      have hz3 : w.heap.size ≤ (wr.alloc (.cells #[.int .i64 c.kind, .slice io c.cond.length ic, .string ⟨c.name.toArray⟩, .slice xo c.x.length xc, .int .i64 c.n] 38 (0, 0))).heap.size := Nat.le_trans hwz (by simp)
      have hz4 : w.heap.size ≤ (G p3 (wr.alloc (.cells #[.int .i64 c.kind, .slice io c.cond.length ic, .string ⟨c.name.toArray⟩, .slice xo c.x.length xc, .int .i64 c.n] 38 (0, 0)))).heap.size := Nat.le_trans hz3 (belowG0 p3 _).size
      rw [G_G] at ho4
      have hc : AcV 77 w.heap.size ((G (pq p4 p3) (wr.alloc (.cells #[.int .i64 c.kind, .slice io c.cond.length ic, .string ⟨c.name.toArray⟩, .slice xo c.x.length xc, .int .i64 c.n] 38 (0, 0)))).alloc (.cells #[.int .i64 c.kind, .slice o3 c.cond.length c3, .string ⟨c.name.toArray⟩, .slice o4 c.x.length c4, .int .i64 c.n] 52 (0, 0))) c [.int .i64 c.kind, .slice o3 c.cond.length c3, .string ⟨c.name.toArray⟩, .slice o4 c.x.length c4, .int .i64 c.n] := ⟨_, _, rfl, owns_base (owns_below ho3 hb3) hz3, owns_base (owns_below ho4 hb4) hz4⟩
      have hrow2 := Lib.hid (acRow_grown (cs := cs.take i) (ds := [c]) (n := i + 1) (by decide) (acVs_keep hV.out hbW) (by rw [hcl.out]; exact owns_below hO.out hbW) (acVs_single hc) hgrow (by rw [List.length_append, hcl.out]; rfl) hown1)
      have hb1 : Below w.heap.size w w1 := Below.grown (hb.trans (hbW.mono hwz)) hgrow (Nat.le_trans hwz hbW.size) (fun k hk => (hO.out.lt k hk).1)
      rw [← htk.out] at hrow2
      clear hbW hb3 hb4 hc hgrow hown1 hat1 hg1 hk1 u0 u1 u2 u3 u4 u6 ho3 ho4 hV hO N1 N2
      go_wp2
      go_roundw
      case rel => exact ⟨i + 1, _, cap', by go_num, by omega, rfl, hrow2.out, hb1⟩
      case measure => simp [intOf]; omega
    · obtain rfl : i = cs.length := by omega
      rw [List.take_length] at hrow
      have hI : ¬ (cs.length : Int) < (cs.length : Int) := by omega
      replace hrow := Lib.hid hrow
      go_wp2
      go_returns
      exact ⟨_, rfl, hrow.out, hb⟩
set_option maxRecDepth 100000 in
set_option maxHeartbeats 4000000 in
theorem alike_any (ao : Option Addr) (cap : Nat) (bo : Option Addr) (bap : Nat) (ns : List Nd) (hn : ns.length ≤ 2000000) (w : World) (h : NdsAt w ao ns) (k : NdsAt w bo ns) : Calls Tryz.prog 16 #[.slice ao ns.length cap, .slice bo ns.length bap] w (Ret (.bool true) w) := by
  have H := fun wx hb => nds_below (w' := wx) h hb
  replace H := Lib.hid H
  have K := fun wx hb => nds_below (w' := wx) k hb
  replace K := Lib.hid K
  clear h k
  go_enter Tryz.func16, Tryz.ntmps16
  go_wp2
  go_loopw [13] (fun x wr => ∃ (i : Nat), x = .int .i64 (i : Int) ∧ i ≤ ns.length ∧ Below w.heap.size w wr) (fun x _ => ns.length - (intOf x).toNat)
  case atStart => exact ⟨0, rfl, Nat.zero_le _, by repeat' (first | (with_reducible exact Below.refl _ _) | (with_reducible assumption) | (with_reducible refine Below.alloc ?_ ?_ _) | (with_reducible refine Below.drew ?_) | (with_reducible refine belowN ?_ _) | (with_reducible refine Below.setCell ?_ ?_ _) | (with_reducible refine belowG ?_ ?_) | (with_reducible exact Nat.le_refl _) | (with_reducible refine le_sizeG ?_) | (with_reducible refine le_sizeA ?_) | (with_reducible refine le_sizeC ?_) | (with_reducible refine le_sizeD ?_) | (with_reducible refine le_sizeN ?_) | go_size | (simp [go_sem]; done))⟩
  case round =>
    obtain ⟨i, rfl, hi, hb⟩ := hrel
    rename World => wr
    have hwz := hb.size
    by_cases hlt : i < ns.length
    · obtain ⟨g, o, rfl, hg, hc⟩ := H.out wr hb (by omega)
      obtain ⟨n1, n2, n3, n4, n5, n6, n7⟩ := hc i hlt
      obtain ⟨g2, o2, rfl, hg2, hc2⟩ := K.out wr hb (by omega)
      obtain ⟨m1, m2, m3, m4, m5, m6, m7⟩ := hc2 i hlt
      generalize ns[i] = n at *
      have i1 : InW g wr := ⟨hg⟩
      have i2 : InW g2 wr := ⟨hg2⟩
      have hI : (i : Int) < (ns.length : Int) := by omega
      clear hc hc2
      go_wp2_with fail
      (refine wp_region_G (by kernel_rfl) (by kernel_rfl) ?_; (repeat (go_big_quiet_step (fail))); refine wpQuiet_nil ?_; intro _ hw'; obtain ⟨pg, hw''⟩ := hw'; subst hw'')
      go_wp2
      go_roundw
      case rel => exact ⟨i + 1, by go_num, by omega, by repeat' (first | (with_reducible exact Below.refl _ _) | (with_reducible assumption) | (with_reducible refine Below.alloc ?_ ?_ _) | (with_reducible refine Below.drew ?_) | (with_reducible refine belowN ?_ _) | (with_reducible refine Below.setCell ?_ ?_ _) | (with_reducible refine belowG ?_ ?_) | (with_reducible exact Nat.le_refl _) | (with_reducible refine le_sizeG ?_) | (with_reducible refine le_sizeA ?_) | (with_reducible refine le_sizeC ?_) | (with_reducible refine le_sizeD ?_) | (with_reducible refine le_sizeN ?_) | go_size | (simp [go_sem]; done))⟩
      case measure => simp [intOf]; omega
    · have hI : ¬ (i : Int) < (ns.length : Int) := by omega
      go_wp2
      go_returns
      exact ⟨rfl, hb⟩
set_option maxRecDepth 100000 in
set_option maxHeartbeats 4000000 in
/-- Acts of which the document's are the same. -/
theorem same6_any (ao : Option Addr) (cap : Nat) (bo : Option Addr) (bap : Nat) (cs : List Ac) (hc : cs.length ≤ 1000) (hn : ∀ c ∈ cs, c.cond.length ≤ 2000000 ∧ c.x.length ≤ 2000000) (w : World) (h : ActsAt w ao cs) (k : ActsAt w bo cs) : Calls Tryz.prog 7 #[.slice ao cs.length cap, .slice bo cs.length bap] w (Ret (.bool true) w) := by
  have R := Lib.hid (refs6_any ao cap cs hc hn w h)
  have K := fun wx hb => acts_below (w' := wx) k hb
  replace K := Lib.hid K
  clear h k
  go_enter Tryz.func7, Tryz.ntmps7
  go_wp2_with fail
  refine (R.out).mono ?_
  intro e w1 hr
  obtain ⟨v1, rfl, hr1, hb1⟩ := hr
  obtain ⟨ro, rc, hv⟩ := acRow_form hr1
  subst hv
  have H := fun wx hb => acts_below (w' := wx) (acRow_at hr1) hb
  replace H := Lib.hid H
  have hz1 := hb1.size
  clear R hr1
  go_wp2
  go_loopw [15] (fun x wr => ∃ (i : Nat), x = .int .i64 (i : Int) ∧ i ≤ cs.length ∧ Below w1.heap.size w1 wr) (fun x _ => cs.length - (intOf x).toNat)
  case atStart => exact ⟨0, rfl, Nat.zero_le _, by repeat' (first | (with_reducible exact Below.refl _ _) | (with_reducible assumption) | (with_reducible refine Below.alloc ?_ ?_ _) | (with_reducible refine Below.drew ?_) | (with_reducible refine belowN ?_ _) | (with_reducible refine Below.setCell ?_ ?_ _) | (with_reducible refine belowG ?_ ?_) | (with_reducible exact Nat.le_refl _) | (with_reducible refine le_sizeG ?_) | (with_reducible refine le_sizeA ?_) | (with_reducible refine le_sizeC ?_) | (with_reducible refine le_sizeD ?_) | (with_reducible refine le_sizeN ?_) | go_size | (simp [go_sem]; done))⟩
  case round =>
    obtain ⟨i, rfl, hi, hb⟩ := hrel
    rename World => wr
    have hwz := hb.size
    have hbw : Below w.heap.size w wr := hb1.trans (hb.mono hz1)
    by_cases hlt : i < cs.length
    · obtain ⟨g, rfl, hg, hcs⟩ := H.out wr hb (by omega)
      obtain ⟨io, ic, xo, xc, n1, n2, n3, n4, n5, hN1, hN2⟩ := hcs i hlt
      obtain ⟨g2, rfl, hg2, hcs2⟩ := K.out wr hbw (by omega)
      obtain ⟨jo, jc, yo, yc, m1, m2, m3, m4, m5, hM1, hM2⟩ := hcs2 i hlt
      obtain ⟨hl1, hl2⟩ := hn cs[i] (List.getElem_mem hlt)
      generalize cs[i] = c at *
      have A1 := Lib.hid (fun wx (hk : Below wr.heap.size wr wx) => alike_any io ic jo jc c.cond hl1 wx (nds_below hN1 hk) (nds_below hM1 hk))
      have A2 := Lib.hid (fun wx (hk : Below wr.heap.size wr wx) => alike_any xo xc yo yc c.x hl2 wx (nds_below hN2 hk) (nds_below hM2 hk))
      have i1 : InW g wr := ⟨hg⟩
      have i2 : InW g2 wr := ⟨hg2⟩
      have hI : (i : Int) < (cs.length : Int) := by omega
      clear hcs hcs2 hN1 hN2 hM1 hM2
      go_wp2_with fail
      (refine wp_region_G (by kernel_rfl) (by kernel_rfl) ?_; (repeat (go_big_quiet_step (first | (with_reducible exact quietG (A1.out _ (by repeat' (first | (with_reducible exact Below.refl _ _) | (with_reducible assumption) | (with_reducible refine Below.alloc ?_ ?_ _) | (with_reducible refine Below.drew ?_) | (with_reducible refine belowN ?_ _) | (with_reducible refine Below.setCell ?_ ?_ _) | (with_reducible refine belowG ?_ ?_) | (with_reducible exact Nat.le_refl _) | (with_reducible refine le_sizeG ?_) | (with_reducible refine le_sizeA ?_) | (with_reducible refine le_sizeC ?_) | (with_reducible refine le_sizeD ?_) | (with_reducible refine le_sizeN ?_) | go_size | (simp [go_sem]; done))))) | (with_reducible exact quietG (A2.out _ (by repeat' (first | (with_reducible exact Below.refl _ _) | (with_reducible assumption) | (with_reducible refine Below.alloc ?_ ?_ _) | (with_reducible refine Below.drew ?_) | (with_reducible refine belowN ?_ _) | (with_reducible refine Below.setCell ?_ ?_ _) | (with_reducible refine belowG ?_ ?_) | (with_reducible exact Nat.le_refl _) | (with_reducible refine le_sizeG ?_) | (with_reducible refine le_sizeA ?_) | (with_reducible refine le_sizeC ?_) | (with_reducible refine le_sizeD ?_) | (with_reducible refine le_sizeN ?_) | go_size | (simp [go_sem]; done)))))))); refine wpQuiet_nil ?_; intro _ hw'; obtain ⟨pg, hw''⟩ := hw'; subst hw'')
      go_wp2
      go_roundw
      case rel => exact ⟨i + 1, by go_num, by omega, by repeat' (first | (with_reducible exact Below.refl _ _) | (with_reducible assumption) | (with_reducible refine Below.alloc ?_ ?_ _) | (with_reducible refine Below.drew ?_) | (with_reducible refine belowN ?_ _) | (with_reducible refine Below.setCell ?_ ?_ _) | (with_reducible refine belowG ?_ ?_) | (with_reducible exact Nat.le_refl _) | (with_reducible refine le_sizeG ?_) | (with_reducible refine le_sizeA ?_) | (with_reducible refine le_sizeC ?_) | (with_reducible refine le_sizeD ?_) | (with_reducible refine le_sizeN ?_) | go_size | (simp [go_sem]; done))⟩
      case measure => simp [intOf]; omega
    · have hI : ¬ (i : Int) < (cs.length : Int) := by omega
      go_wp2
      go_returns
      exact ⟨rfl, hbw⟩
end Go.Proofs.YtmdjlngdpjjfiaaGreatDoor
