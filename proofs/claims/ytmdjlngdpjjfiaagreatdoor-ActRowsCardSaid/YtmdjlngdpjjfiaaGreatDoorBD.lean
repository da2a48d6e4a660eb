/- ActRows: acts in two rows. -/
import Derived.Test.YtmdjlngdpjjfiaaGreatDoorBC
import Derived.Test.YtmdjlngdpjjfiaaGreatDoorAY
import Derived.WalkKit
import Derived.ProofKit
import Derived.OpenShut
import Derived.Handy
import Derived.BigQuiet
import Derived.OwnWalk
import Derived.Deep.AppendLies
import Derived.Lib.Hide
import Derived.WalkSmall
import Derived.WalkLawsBesides
namespace Go.Proofs.YtmdjlngdpjjfiaaGreatDoor
open Go.RowKit
/-- An append that stands behind a guard which says yes. -/
theorem wpList_append_wanted {P : Program} {w : World} {ops : Array Oper} {rest : List Oper} {o : Oper} {a : Act} {Q : Exit → Act → World → Prop} (hgd : Region.wanted o (yielded ops a.tmps) = true) (s x : Operand) (t : TypeId)
    (ho : o.op = .call { callee := .builtin .append, args := #[s, x], argTypes := #[t, t] })
    (base : Nat) (e : TypeId) (i : TypeInfo) (z : Value) (size bytes : Nat) (ht : P.underlying t = some (.slice e)) (hi : P.info? e = some i) (hz : i.zero = some z)
    (hsize : i.size = size) (hby : i.bytes = bytes) (hzs : z.cells.size = size) (hsz : 0 < size)
    (v : Value) (n : Nat) (xs : List Value) (hs : a.eval s = v) (hown : w.ownsRow base e size v n xs)
    (ad : Addr) (m c : Nat) (news : List Value) (hx : a.eval x = .slice (some ad) m c) (hl : news.length = m * size) (hnews : ∀ j u, news[j]? = some u → w.cell? (ad.add j) = some u) (h1 : ∀ u ∈ news, u.oneCell' = true)
    (hm : 0 < m) (h63 : n + m ≤ maxLen) (hbytes : (n + m) * bytes ≤ 140737488355328) (hbase : base ≤ w.heap.size)
    (h : ∀ g cap w', w'.ownsRow base e size (.slice (some ⟨g, 0, none⟩) (n + m) cap) (n + m) (xs ++ news) → w.grownBy w' v.ownBlock → wpList P ops Q rest (a.put o.dst (.slice (some ⟨g, 0, none⟩) (n + m) cap)) w') : wpList P ops Q (o :: rest) a w :=
  wpList_step fun K hK => by
    rw [if_pos hgd]
    exact wp_append_lies w s x t ho base e i z size bytes ht hi hz hsize hby hzs hsz v n xs hs hown ad m c news hx hl hnews h1 hm h63 hbytes hbase _ rfl fun g cap w' h2 h3 _ _ => hK _ _ (h g cap w' h2 h3)
def SmallA (c : Ac) : Prop := c.cond.length ≤ 32 ∧ c.x.length ≤ 32
theorem tailA_small {ts : List Tk} {cond : List Nd} {k : Int} {name : List UInt8} {a : Nat} {c : Ac} {n : Nat} (hc : cond.length ≤ 32) (h : tailA ts cond k name a = .ok (c, n)) : SmallA c := by
  unfold tailA at h
  split at h
  · split at h
    · cases h
    · rename_i hp
      cases h
      exact ⟨hc, (parseT_at hp).2⟩
  · split at h
    · split at h
      · cases h
      · split at h
        · cases h
        · cases h
          exact ⟨hc, Nat.zero_le _⟩
    · cases h
      exact ⟨hc, Nat.zero_le _⟩
theorem doA_small {ts : List Tk} {cond : List Nd} {a : Nat} {c : Ac} {n : Nat} (hc : cond.length ≤ 32) (h : doA ts cond a = .ok (c, n)) : SmallA c := by
  unfold doA at h
  split at h
  · cases h
  · split at h
    · exact tailA_small hc h
    · split at h
      · cases h
      · exact tailA_small hc h
theorem oneA_small {ts : List Tk} {a : Nat} {c : Ac} {n : Nat} (h : oneA ts a = .ok (c, n)) : SmallA c := by
  unfold oneA at h
  split at h
  · split at h
    · cases h
    · rename_i hp
      split at h
      · exact doA_small (parseT_at hp).2 h
      · cases h
  · exact doA_small (Nat.zero_le _) h
theorem takeA_small {ts : List Tk} : ∀ (f a : Nat) (cs : List Ac) (q : Nat), takeA f ts a = .ok (cs, q) → 0 < cs.length ∧ q ≤ ts.length ∧ ∀ c ∈ cs, SmallA c
  | 0, _, _, _, h => by cases h
  | f + 1, a, cs, q, h => by
    rw [takeA] at h
    split at h
    · cases h
    · rename_i d n h1
      have hd := oneA_small h1
      have hn : n ≤ ts.length := oneA_le h1
      split at h
      · split at h
        · cases h
        · rename_i ds q' h2
          cases h
          obtain ⟨_, i2, i3⟩ := takeA_small f (n + 1) ds q h2
          refine ⟨by simp, i2, fun c hc => ?_⟩
          rcases List.mem_cons.1 hc with rfl | hc
          · exact hd
          · exact i3 c hc
      · cases h
        refine ⟨by simp, hn, fun c hc => ?_⟩
        rw [List.mem_singleton] at hc
        subst hc
        exact hd
theorem takeT_small {ts : List Tk} {a : Int} {cs : List Ac} {q : Nat} (h : takeT ts a = .ok (cs, q)) : 0 < cs.length ∧ cs.length ≤ 8 ∧ q ≤ ts.length ∧ ∀ c ∈ cs, SmallA c := by
  unfold takeT at h
  split at h
  · cases h
  · obtain ⟨h1, h2, h3⟩ := takeA_small _ _ _ _ h
    exact ⟨h1, (takeA_room _ _ _ _ h).1, h2, h3⟩
theorem takeA_nz {ts : List Tk} : ∀ (f a : Nat) (x : Int), takeA f ts a = .error x → (x != 0) = true
  | 0, _, _, h => by cases h; rfl
  | f + 1, a, x, h => by
    rw [takeA] at h
    split at h
    · rename_i h1
      cases h
      exact oneA_nz h1
    · split at h
      · split at h
        · rename_i h2
          cases h
          exact takeA_nz f _ _ h2
        · cases h
      · cases h
theorem takeT_nz {ts : List Tk} {a x : Int} (h : takeT ts a = .error x) : (x != 0) = true := by
  unfold takeT at h
  split at h
  · cases h; rfl
  · exact takeA_nz _ _ _ h
theorem big_of_small {cs : List Ac} (h : ∀ c ∈ cs, SmallA c) : ∀ c ∈ cs, c.cond.length ≤ 2000000 ∧ c.x.length ≤ 2000000 := fun c hc => ⟨Nat.le_trans (h c hc).1 (by decide), Nat.le_trans (h c hc).2 (by decide)⟩
theorem lex_some {ty : TypeId} {l : List UInt8} {w : World} {e : Ending} {w' : World} (hr : LexIs ty l w e w') : ∃ v x j, e = .returned (.tuple #[v, .int .i64 x, .int .i64 j]) ∧ Below w.heap.size w w' := by
  rcases hm : lexT 120 0 l with ⟨y, i⟩ | ms
  · rw [lexIs_err hm] at hr
    exact ⟨_, _, _, hr.1, hr.2⟩
  · rw [lexIs_ok hm] at hr
    obtain ⟨v, he, _, hb2⟩ := hr
    exact ⟨v, _, _, he, hb2⟩
theorem take_some {x : Except Int (List Ac × Nat)} {w : World} {e : Ending} {w' : World} (hr : TakeIs x w e w') : ∃ v n y, e = .returned (.tuple #[v, .int .i64 n, .int .i64 y]) ∧ Below w.heap.size w w' := by
  cases x with
  | error x => exact ⟨_, _, _, hr.1, hr.2⟩
  | ok p =>
    obtain ⟨v, he, _, hb⟩ := hr
    exact ⟨v, _, _, he, hb⟩
set_option maxRecDepth 100000 in
set_option maxHeartbeats 4000000 in
/-- Where a line has no tokens. -/
theorem rows_bad (s t : ByteArray) (w : World) (h1 : s.size ≤ 400) (h2 : t.size ≤ 400) (hw : Ay w) (h : (∃ x, lexT 120 0 s.data.toList = .error x) ∨ (∃ x, lexT 120 0 t.data.toList = .error x) ∨ ∃ x, lexT 120 0 (s.data.toList ++ 32 :: 59 :: 32 :: t.data.toList) = .error x) :
    Calls Tryz.prog 3 #[.string s, .string t] w (Ret (.bool true) w) := by
  have A := Lib.hid (fun wx hb => Lib.hid (anchor6_any wx (ay_below hw hb)))
  have hc1 : ¬ (400 : Int) < (s.size : Int) := by omega
  have hc2 : ¬ (400 : Int) < (t.size : Int) := by omega
  have hcs : ((s ++ (⟨#[32, 59, 32]⟩ : ByteArray)) ++ t).size ≤ 140737488351232 := by
    rw [ByteArray.size_append, ByteArray.size_append]
    show s.size + 3 + t.size ≤ _
    omega
  have hcd : ((s ++ (⟨#[32, 59, 32]⟩ : ByteArray)) ++ t).data.toList = s.data.toList ++ 32 :: 59 :: 32 :: t.data.toList := by simp
  have L1 := Lib.hid (fun wx hb => tlex_any s (by omega) wx (ay_below (w' := wx) hw hb).ax.lb)
  have L2 := Lib.hid (fun wx hb => tlex_any t (by omega) wx (ay_below (w' := wx) hw hb).ax.lb)
  have L3 := Lib.hid (fun wx hb => tlex_any ((s ++ (⟨#[32, 59, 32]⟩ : ByteArray)) ++ t) hcs wx (ay_below (w' := wx) hw hb).ax.lb)
  rw [hcd] at L3
  clear hw hcs hcd h1 h2
  rcases hl1 : lexT 120 0 s.data.toList with ⟨x, j⟩ | ts
  · have hx : (x != 0) = true := by rw [bne, lexT_err hl1]; rfl
    clear h
    go_enter Tryz.func3, Tryz.ntmps3
    go_wp2_with ((with_reducible refine ((A.out _ (Below.refl _ _)).out).mono ?_); intro e w1 hr; obtain ⟨rfl, p, rfl⟩ := hr.out; clear hr)
    refine (L1.out _ (by repeat' (first | (with_reducible exact Below.refl _ _) | (with_reducible assumption) | (with_reducible refine Below.alloc ?_ ?_ _) | (with_reducible refine Below.drew ?_) | (with_reducible refine belowN ?_ _) | (with_reducible refine Below.setCell ?_ ?_ _) | (with_reducible refine belowG ?_ ?_) | (with_reducible exact Nat.le_refl _) | (with_reducible refine le_sizeG ?_) | (with_reducible refine le_sizeA ?_) | (with_reducible refine le_sizeC ?_) | (with_reducible refine le_sizeD ?_) | (with_reducible refine le_sizeN ?_) | go_size | (simp [go_sem]; done)))).mono ?_
    intro e w1 hr
    rw [lexIs_err hl1] at hr
    obtain ⟨rfl, hb⟩ := hr
    have hb1 : Below w.heap.size w w1 := Below.trans (by repeat' (first | (with_reducible exact Below.refl _ _) | (with_reducible assumption) | (with_reducible refine Below.alloc ?_ ?_ _) | (with_reducible refine Below.drew ?_) | (with_reducible refine belowN ?_ _) | (with_reducible refine Below.setCell ?_ ?_ _) | (with_reducible refine belowG ?_ ?_) | (with_reducible exact Nat.le_refl _) | (with_reducible refine le_sizeG ?_) | (with_reducible refine le_sizeA ?_) | (with_reducible refine le_sizeC ?_) | (with_reducible refine le_sizeD ?_) | (with_reducible refine le_sizeN ?_) | go_size | (simp [go_sem]; done))) (hb.mono (belowG0 p w).size)
    clear hb L1
    dsimp only
    clear hl1 A
    go_wp2_with fail
    refine (L2.out _ hb1).mono ?_
    intro e w2 hr
    obtain ⟨v2, y2, j2, rfl, hb⟩ := lex_some hr
    have hb2 : Below w.heap.size w w2 := hb1.trans (hb.mono hb1.size)
    clear hb hr L2
    dsimp only
    go_wp2_with fail
    refine (L3.out _ hb2).mono ?_
    intro e w3 hr
    obtain ⟨v3, y3, j3, rfl, hb⟩ := lex_some hr
    have hb3 : Below w.heap.size w w3 := hb2.trans (hb.mono hb2.size)
    clear hb hr L3
    dsimp only
    go_wp2
    go_returns
    exact ⟨rfl, hb3⟩
  · rcases hl2 : lexT 120 0 t.data.toList with ⟨x, j⟩ | ms
    · have hx : (x != 0) = true := by rw [bne, lexT_err hl2]; rfl
      clear h
      go_enter Tryz.func3, Tryz.ntmps3
      go_wp2_with ((with_reducible refine ((A.out _ (Below.refl _ _)).out).mono ?_); intro e w1 hr; obtain ⟨rfl, p, rfl⟩ := hr.out; clear hr)
      refine (L1.out _ (by repeat' (first | (with_reducible exact Below.refl _ _) | (with_reducible assumption) | (with_reducible refine Below.alloc ?_ ?_ _) | (with_reducible refine Below.drew ?_) | (with_reducible refine belowN ?_ _) | (with_reducible refine Below.setCell ?_ ?_ _) | (with_reducible refine belowG ?_ ?_) | (with_reducible exact Nat.le_refl _) | (with_reducible refine le_sizeG ?_) | (with_reducible refine le_sizeA ?_) | (with_reducible refine le_sizeC ?_) | (with_reducible refine le_sizeD ?_) | (with_reducible refine le_sizeN ?_) | go_size | (simp [go_sem]; done)))).mono ?_
      intro e w1 hr
      obtain ⟨o1, c1, rfl, hs, hb⟩ := lex_sl hl1 hr
      have hS1 := Lib.hid (fun wx (hk : Below w1.heap.size w1 wx) => sl_below (w' := wx) hs hk)
      have hb1 : Below w.heap.size w w1 := Below.trans (by repeat' (first | (with_reducible exact Below.refl _ _) | (with_reducible assumption) | (with_reducible refine Below.alloc ?_ ?_ _) | (with_reducible refine Below.drew ?_) | (with_reducible refine belowN ?_ _) | (with_reducible refine Below.setCell ?_ ?_ _) | (with_reducible refine belowG ?_ ?_) | (with_reducible exact Nat.le_refl _) | (with_reducible refine le_sizeG ?_) | (with_reducible refine le_sizeA ?_) | (with_reducible refine le_sizeC ?_) | (with_reducible refine le_sizeD ?_) | (with_reducible refine le_sizeN ?_) | go_size | (simp [go_sem]; done))) (hb.mono (belowG0 p w).size)
      clear hb hr hs L1
      dsimp only
      clear hl1 A hS1
      go_wp2_with fail
      refine (L2.out _ hb1).mono ?_
      intro e w2 hr
      rw [lexIs_err hl2] at hr
      obtain ⟨rfl, hb⟩ := hr
      have hb2 : Below w.heap.size w w2 := hb1.trans (hb.mono hb1.size)
      clear hb L2
      dsimp only
      clear hl2
      go_wp2_with fail
      refine (L3.out _ hb2).mono ?_
      intro e w3 hr
      obtain ⟨v3, y3, j3, rfl, hb⟩ := lex_some hr
      have hb3 : Below w.heap.size w w3 := hb2.trans (hb.mono hb2.size)
      clear hb hr L3
      dsimp only
      go_wp2
      go_returns
      exact ⟨rfl, hb3⟩
    · rcases hl3 : lexT 120 0 (s.data.toList ++ 32 :: 59 :: 32 :: t.data.toList) with ⟨x, j⟩ | us
      · have hx : (x != 0) = true := by rw [bne, lexT_err hl3]; rfl
        clear h
        go_enter Tryz.func3, Tryz.ntmps3
        go_wp2_with ((with_reducible refine ((A.out _ (Below.refl _ _)).out).mono ?_); intro e w1 hr; obtain ⟨rfl, p, rfl⟩ := hr.out; clear hr)
        refine (L1.out _ (by repeat' (first | (with_reducible exact Below.refl _ _) | (with_reducible assumption) | (with_reducible refine Below.alloc ?_ ?_ _) | (with_reducible refine Below.drew ?_) | (with_reducible refine belowN ?_ _) | (with_reducible refine Below.setCell ?_ ?_ _) | (with_reducible refine belowG ?_ ?_) | (with_reducible exact Nat.le_refl _) | (with_reducible refine le_sizeG ?_) | (with_reducible refine le_sizeA ?_) | (with_reducible refine le_sizeC ?_) | (with_reducible refine le_sizeD ?_) | (with_reducible refine le_sizeN ?_) | go_size | (simp [go_sem]; done)))).mono ?_
        intro e w1 hr
        obtain ⟨o1, c1, rfl, hs, hb⟩ := lex_sl hl1 hr
        have hS1 := Lib.hid (fun wx (hk : Below w1.heap.size w1 wx) => sl_below (w' := wx) hs hk)
        have hb1 : Below w.heap.size w w1 := Below.trans (by repeat' (first | (with_reducible exact Below.refl _ _) | (with_reducible assumption) | (with_reducible refine Below.alloc ?_ ?_ _) | (with_reducible refine Below.drew ?_) | (with_reducible refine belowN ?_ _) | (with_reducible refine Below.setCell ?_ ?_ _) | (with_reducible refine belowG ?_ ?_) | (with_reducible exact Nat.le_refl _) | (with_reducible refine le_sizeG ?_) | (with_reducible refine le_sizeA ?_) | (with_reducible refine le_sizeC ?_) | (with_reducible refine le_sizeD ?_) | (with_reducible refine le_sizeN ?_) | go_size | (simp [go_sem]; done))) (hb.mono (belowG0 p w).size)
        clear hb hr hs L1
        dsimp only
        clear hl1 A hS1
        go_wp2_with fail
        refine (L2.out _ hb1).mono ?_
        intro e w2 hr
        obtain ⟨o2, c2, rfl, hs, hb⟩ := lex_sl hl2 hr
        have hS2 := Lib.hid (fun wx (hk : Below w2.heap.size w2 wx) => sl_below (w' := wx) hs hk)
        have hb2 : Below w.heap.size w w2 := hb1.trans (hb.mono hb1.size)
        have hp2 : Below w1.heap.size w1 w2 := hb
        clear hb hr hs L2
        dsimp only
        clear hl2 hS2 hp2
        go_wp2_with fail
        refine (L3.out _ hb2).mono ?_
        intro e w3 hr
        rw [lexIs_err hl3] at hr
        obtain ⟨rfl, hb⟩ := hr
        have hb3 : Below w.heap.size w w3 := hb2.trans (hb.mono hb2.size)
        clear hb L3
        dsimp only
        clear hl3
        go_wp2
        go_returns
        exact ⟨rfl, hb3⟩
      · exfalso
        rcases h with ⟨x, h⟩ | ⟨x, h⟩ | ⟨x, h⟩
        · rw [hl1] at h; cases h
        · rw [hl2] at h; cases h
        · rw [hl3] at h; cases h
set_option maxRecDepth 100000 in
set_option maxHeartbeats 8000000 in
/-- Where all three have tokens. -/
theorem rows_good (s t : ByteArray) (w : World) (h1 : s.size ≤ 400) (h2 : t.size ≤ 400) (hw : Ay w) (ts ms us : List Tk) (hl1 : lexT 120 0 s.data.toList = .ok ts) (hl2 : lexT 120 0 t.data.toList = .ok ms) (hl3 : lexT 120 0 (s.data.toList ++ 32 :: 59 :: 32 :: t.data.toList) = .ok us) :
    Calls Tryz.prog 3 #[.string s, .string t] w (Ret (.bool true) w) := by
  have A := Lib.hid (fun wx hb => Lib.hid (anchor6_any wx (ay_below hw hb)))
  have hc1 : ¬ (400 : Int) < (s.size : Int) := by omega
  have hc2 : ¬ (400 : Int) < (t.size : Int) := by omega
  have hcs : ((s ++ (⟨#[32, 59, 32]⟩ : ByteArray)) ++ t).size ≤ 140737488351232 := by
    rw [ByteArray.size_append, ByteArray.size_append]
    show s.size + 3 + t.size ≤ _
    omega
  have hcd : ((s ++ (⟨#[32, 59, 32]⟩ : ByteArray)) ++ t).data.toList = s.data.toList ++ 32 :: 59 :: 32 :: t.data.toList := by simp
  have L1 := Lib.hid (fun wx hb => tlex_any s (by omega) wx (ay_below (w' := wx) hw hb).ax.lb)
  have L2 := Lib.hid (fun wx hb => tlex_any t (by omega) wx (ay_below (w' := wx) hw hb).ax.lb)
  have L3 := Lib.hid (fun wx hb => tlex_any ((s ++ (⟨#[32, 59, 32]⟩ : ByteArray)) ++ t) hcs wx (ay_below (w' := wx) hw hb).ax.lb)
  rw [hcd] at L3
  have hf1 := lexT_count hl1
  have hf2 := lexT_count hl2
  have hf3 := lexT_count hl3
  have hsz : s.data.toList.length = s.size := by rw [Lib.size_eq]
  have htz : t.data.toList.length = t.size := by rw [Lib.size_eq]
  have P1 := Lib.hid (fun ao cap wx (hs : Sl wx ao ts) (hb : Below w.heap.size w wx) => atake_any ao cap ts 0 wx ⟨(ay_below hw hb).ax, hs, hf1, fun t ht => Nat.le_trans (lexT_texts hl1 t ht) (by omega)⟩)
  have P2 := Lib.hid (fun ao cap wx (hs : Sl wx ao ms) (hb : Below w.heap.size w wx) => atake_any ao cap ms 0 wx ⟨(ay_below hw hb).ax, hs, hf2, fun t ht => Nat.le_trans (lexT_texts hl2 t ht) (by omega)⟩)
  have P3 := Lib.hid (fun ao cap wx (hs : Sl wx ao us) (hb : Below w.heap.size w wx) => atake_any ao cap us 0 wx ⟨(ay_below hw hb).ax, hs, hf3, fun t ht => Nat.le_trans (lexT_texts hl3 t ht) (by rw [List.length_append, List.length_cons, List.length_cons, List.length_cons]; omega)⟩)
  clear hw hcs hcd h1 h2 hsz htz
  rcases hr1 : takeT ts 0 with x | ⟨cs, p1⟩
  · have hx := takeT_nz hr1
    rw [hr1] at P1
    clear hr1
    go_enter Tryz.func3, Tryz.ntmps3
    go_wp2_with ((with_reducible refine ((A.out _ (Below.refl _ _)).out).mono ?_); intro e w1 hr; obtain ⟨rfl, p, rfl⟩ := hr.out; clear hr)
    refine (L1.out _ (by repeat' (first | (with_reducible exact Below.refl _ _) | (with_reducible assumption) | (with_reducible refine Below.alloc ?_ ?_ _) | (with_reducible refine Below.drew ?_) | (with_reducible refine belowN ?_ _) | (with_reducible refine Below.setCell ?_ ?_ _) | (with_reducible refine belowG ?_ ?_) | (with_reducible exact Nat.le_refl _) | (with_reducible refine le_sizeG ?_) | (with_reducible refine le_sizeA ?_) | (with_reducible refine le_sizeC ?_) | (with_reducible refine le_sizeD ?_) | (with_reducible refine le_sizeN ?_) | go_size | (simp [go_sem]; done)))).mono ?_
    intro e w1 hr
    obtain ⟨o1, c1, rfl, hs, hb⟩ := lex_sl hl1 hr
    have hS1 := Lib.hid (fun wx (hk : Below w1.heap.size w1 wx) => sl_below (w' := wx) hs hk)
    have hb1 : Below w.heap.size w w1 := Below.trans (by repeat' (first | (with_reducible exact Below.refl _ _) | (with_reducible assumption) | (with_reducible refine Below.alloc ?_ ?_ _) | (with_reducible refine Below.drew ?_) | (with_reducible refine belowN ?_ _) | (with_reducible refine Below.setCell ?_ ?_ _) | (with_reducible refine belowG ?_ ?_) | (with_reducible exact Nat.le_refl _) | (with_reducible refine le_sizeG ?_) | (with_reducible refine le_sizeA ?_) | (with_reducible refine le_sizeC ?_) | (with_reducible refine le_sizeD ?_) | (with_reducible refine le_sizeN ?_) | go_size | (simp [go_sem]; done))) (hb.mono (belowG0 p w).size)
    clear hb hr hs L1
    dsimp only
    clear hl1 A
    go_wp2_with fail
    refine (L2.out _ hb1).mono ?_
    intro e w2 hr
    obtain ⟨o2, c2, rfl, hs, hb⟩ := lex_sl hl2 hr
    have hS2 := Lib.hid (fun wx (hk : Below w2.heap.size w2 wx) => sl_below (w' := wx) hs hk)
    have hb2 : Below w.heap.size w w2 := hb1.trans (hb.mono hb1.size)
    have hp2 : Below w1.heap.size w1 w2 := hb
    clear hb hr hs L2
    dsimp only
    clear hl2
    go_wp2_with fail
    refine (L3.out _ hb2).mono ?_
    intro e w3 hr
    obtain ⟨o3, c3, rfl, hs, hb⟩ := lex_sl hl3 hr
    have hS3 := Lib.hid (fun wx (hk : Below w3.heap.size w3 wx) => sl_below (w' := wx) hs hk)
    have hb3 : Below w.heap.size w w3 := hb2.trans (hb.mono hb2.size)
    have hp3 : Below w2.heap.size w2 w3 := hb
    clear hb hr hs L3
    dsimp only
    clear hl3
    have Q1 := Lib.hid (fun wx (hk : Below w3.heap.size w3 wx) => P1.out o1 c1 wx (hS1.out wx ((hp2.trans (hp3.mono hp2.size)).trans (hk.mono (Nat.le_trans hp2.size hp3.size)))) (hb3.trans (hk.mono hb3.size)))
    have Q2 := Lib.hid (fun wx (hk : Below w3.heap.size w3 wx) => P2.out o2 c2 wx (hS2.out wx (hp3.trans (hk.mono hp3.size))) (hb3.trans (hk.mono hb3.size)))
    have Q3 := Lib.hid (fun wx (hk : Below w3.heap.size w3 wx) => P3.out o3 c3 wx (hS3.out wx hk) (hb3.trans (hk.mono hb3.size)))
    clear hS1 hS2 hS3 P1 P2 P3
    have hq3 : Below w3.heap.size w3 w3 := Below.refl _ _
    go_wp2_with fail
    refine (Q1.out _ hq3).mono ?_
    intro e w4 hr
    obtain ⟨rfl, hb⟩ := hr
    have hq4 : Below w3.heap.size w3 w4 := hq3.trans (hb.mono hq3.size)
    have hb4 : Below w.heap.size w w4 := hb3.trans (hb.mono hb3.size)
    clear hb Q1
    dsimp only
    go_wp2_with fail
    refine (Q2.out _ hq4).mono ?_
    intro e w5 hr
    obtain ⟨v5, n5, y5, rfl, hb⟩ := take_some hr
    have hq5 : Below w3.heap.size w3 w5 := hq4.trans (hb.mono hq4.size)
    have hb5 : Below w.heap.size w w5 := hb4.trans (hb.mono hb4.size)
    clear hb hr Q2
    dsimp only
    go_wp2_with fail
    refine (Q3.out _ hq5).mono ?_
    intro e w6 hr
    obtain ⟨v6, n6, y6, rfl, hb⟩ := take_some hr
    have hq6 : Below w3.heap.size w3 w6 := hq5.trans (hb.mono hq5.size)
    have hb6 : Below w.heap.size w w6 := hb5.trans (hb.mono hb5.size)
    clear hb hr Q3
    dsimp only
    go_wp2
    go_returns
    exact ⟨rfl, hb6⟩
  · obtain ⟨hn1, hn2, hn3, hn4⟩ := takeT_small hr1
    have hr1' := hr1
    rw [hr1] at P1
    clear hr1
    rcases hr2 : takeT ms 0 with x | ⟨ds, q1⟩
    · have hx := takeT_nz hr2
      rw [hr2] at P2
      clear hr2 hr1' hn4
      go_enter Tryz.func3, Tryz.ntmps3
      go_wp2_with ((with_reducible refine ((A.out _ (Below.refl _ _)).out).mono ?_); intro e w1 hr; obtain ⟨rfl, p, rfl⟩ := hr.out; clear hr)
      refine (L1.out _ (by repeat' (first | (with_reducible exact Below.refl _ _) | (with_reducible assumption) | (with_reducible refine Below.alloc ?_ ?_ _) | (with_reducible refine Below.drew ?_) | (with_reducible refine belowN ?_ _) | (with_reducible refine Below.setCell ?_ ?_ _) | (with_reducible refine belowG ?_ ?_) | (with_reducible exact Nat.le_refl _) | (with_reducible refine le_sizeG ?_) | (with_reducible refine le_sizeA ?_) | (with_reducible refine le_sizeC ?_) | (with_reducible refine le_sizeD ?_) | (with_reducible refine le_sizeN ?_) | go_size | (simp [go_sem]; done)))).mono ?_
      intro e w1 hr
      obtain ⟨o1, c1, rfl, hs, hb⟩ := lex_sl hl1 hr
      have hS1 := Lib.hid (fun wx (hk : Below w1.heap.size w1 wx) => sl_below (w' := wx) hs hk)
      have hb1 : Below w.heap.size w w1 := Below.trans (by repeat' (first | (with_reducible exact Below.refl _ _) | (with_reducible assumption) | (with_reducible refine Below.alloc ?_ ?_ _) | (with_reducible refine Below.drew ?_) | (with_reducible refine belowN ?_ _) | (with_reducible refine Below.setCell ?_ ?_ _) | (with_reducible refine belowG ?_ ?_) | (with_reducible exact Nat.le_refl _) | (with_reducible refine le_sizeG ?_) | (with_reducible refine le_sizeA ?_) | (with_reducible refine le_sizeC ?_) | (with_reducible refine le_sizeD ?_) | (with_reducible refine le_sizeN ?_) | go_size | (simp [go_sem]; done))) (hb.mono (belowG0 p w).size)
      clear hb hr hs L1
      dsimp only
      clear hl1 A
      go_wp2_with fail
      refine (L2.out _ hb1).mono ?_
      intro e w2 hr
      obtain ⟨o2, c2, rfl, hs, hb⟩ := lex_sl hl2 hr
      have hS2 := Lib.hid (fun wx (hk : Below w2.heap.size w2 wx) => sl_below (w' := wx) hs hk)
      have hb2 : Below w.heap.size w w2 := hb1.trans (hb.mono hb1.size)
      have hp2 : Below w1.heap.size w1 w2 := hb
      clear hb hr hs L2
      dsimp only
      clear hl2
      go_wp2_with fail
      refine (L3.out _ hb2).mono ?_
      intro e w3 hr
      obtain ⟨o3, c3, rfl, hs, hb⟩ := lex_sl hl3 hr
      have hS3 := Lib.hid (fun wx (hk : Below w3.heap.size w3 wx) => sl_below (w' := wx) hs hk)
      have hb3 : Below w.heap.size w w3 := hb2.trans (hb.mono hb2.size)
      have hp3 : Below w2.heap.size w2 w3 := hb
      clear hb hr hs L3
      dsimp only
      clear hl3
      have Q1 := Lib.hid (fun wx (hk : Below w3.heap.size w3 wx) => P1.out o1 c1 wx (hS1.out wx ((hp2.trans (hp3.mono hp2.size)).trans (hk.mono (Nat.le_trans hp2.size hp3.size)))) (hb3.trans (hk.mono hb3.size)))
      have Q2 := Lib.hid (fun wx (hk : Below w3.heap.size w3 wx) => P2.out o2 c2 wx (hS2.out wx (hp3.trans (hk.mono hp3.size))) (hb3.trans (hk.mono hb3.size)))
      have Q3 := Lib.hid (fun wx (hk : Below w3.heap.size w3 wx) => P3.out o3 c3 wx (hS3.out wx hk) (hb3.trans (hk.mono hb3.size)))
      clear hS1 hS2 hS3 P1 P2 P3
      have hq3 : Below w3.heap.size w3 w3 := Below.refl _ _
      go_wp2_with fail
      refine (Q1.out _ hq3).mono ?_
      intro e w4 hr
      obtain ⟨v, rfl, hrow, hb⟩ := hr
      obtain ⟨a1, d1, hv⟩ := acRow_form hrow
      subst hv
      have hq4 : Below w3.heap.size w3 w4 := hq3.trans (hb.mono hq3.size)
      have hb4 : Below w.heap.size w w4 := hb3.trans (hb.mono hb3.size)
      clear hb hrow Q1
      dsimp only
      go_wp2_with fail
      refine (Q2.out _ hq4).mono ?_
      intro e w5 hr
      obtain ⟨rfl, hb⟩ := hr
      have hq5 : Below w3.heap.size w3 w5 := hq4.trans (hb.mono hq4.size)
      have hb5 : Below w.heap.size w w5 := hb4.trans (hb.mono hb4.size)
      clear hb Q2
      dsimp only
      go_wp2_with fail
      refine (Q3.out _ hq5).mono ?_
      intro e w6 hr
      obtain ⟨v6, n6, y6, rfl, hb⟩ := take_some hr
      have hq6 : Below w3.heap.size w3 w6 := hq5.trans (hb.mono hq5.size)
      have hb6 : Below w.heap.size w w6 := hb5.trans (hb.mono hb5.size)
      clear hb hr Q3
      dsimp only
      go_wp2
      go_returns
      exact ⟨rfl, hb6⟩
    · obtain ⟨hm1, hm2, hm3, hm4⟩ := takeT_small hr2
      have hr2' := hr2
      rw [hr2] at P2
      clear hr2
      by_cases hpe : p1 = ts.length
      · subst hpe
        obtain ⟨c0, us', hus, huk⟩ := lex_rows hl1 hl2 hl3
        have hr3 := take_rows (c := ⟨5, [59], 0, c0⟩) rfl rfl huk hr1' hr2'
        rw [← hus] at hr3
        rw [hr3] at P3
        clear hr3 hus huk hr1' hr2'
        have hne : ((ts.length : Int) != (ts.length : Int)) = false := by simp
        by_cases h8 : cs.length + ds.length ≤ 8
        · rw [if_pos h8] at P3
          have h8I : ¬ (8 : Int) < (cs.length : Int) + (ds.length : Int) := by omega
          have hnU := Lib.hid (show cs.length + ds.length = (cs ++ ds).length from (List.length_append).symm)
          have hnB := big_of_small hn4
          have hmB := big_of_small hm4
          have hB : ∀ c ∈ cs ++ ds, c.cond.length ≤ 2000000 ∧ c.x.length ≤ 2000000 := fun c hc => by
            rcases List.mem_append.1 hc with hc | hc
            · exact hnB c hc
            · exact hmB c hc
          clear hn4 hm4
          go_enter Tryz.func3, Tryz.ntmps3
          go_wp2_with ((with_reducible refine ((A.out _ (Below.refl _ _)).out).mono ?_); intro e w1 hr; obtain ⟨rfl, p, rfl⟩ := hr.out; clear hr)
          refine (L1.out _ (by repeat' (first | (with_reducible exact Below.refl _ _) | (with_reducible assumption) | (with_reducible refine Below.alloc ?_ ?_ _) | (with_reducible refine Below.drew ?_) | (with_reducible refine belowN ?_ _) | (with_reducible refine Below.setCell ?_ ?_ _) | (with_reducible refine belowG ?_ ?_) | (with_reducible exact Nat.le_refl _) | (with_reducible refine le_sizeG ?_) | (with_reducible refine le_sizeA ?_) | (with_reducible refine le_sizeC ?_) | (with_reducible refine le_sizeD ?_) | (with_reducible refine le_sizeN ?_) | go_size | (simp [go_sem]; done)))).mono ?_
          intro e w1 hr
          obtain ⟨o1, c1, rfl, hs, hb⟩ := lex_sl hl1 hr
          have hS1 := Lib.hid (fun wx (hk : Below w1.heap.size w1 wx) => sl_below (w' := wx) hs hk)
          have hb1 : Below w.heap.size w w1 := Below.trans (by repeat' (first | (with_reducible exact Below.refl _ _) | (with_reducible assumption) | (with_reducible refine Below.alloc ?_ ?_ _) | (with_reducible refine Below.drew ?_) | (with_reducible refine belowN ?_ _) | (with_reducible refine Below.setCell ?_ ?_ _) | (with_reducible refine belowG ?_ ?_) | (with_reducible exact Nat.le_refl _) | (with_reducible refine le_sizeG ?_) | (with_reducible refine le_sizeA ?_) | (with_reducible refine le_sizeC ?_) | (with_reducible refine le_sizeD ?_) | (with_reducible refine le_sizeN ?_) | go_size | (simp [go_sem]; done))) (hb.mono (belowG0 p w).size)
          clear hb hr hs L1
          dsimp only
          clear hl1 A
          go_wp2_with fail
          refine (L2.out _ hb1).mono ?_
          intro e w2 hr
          obtain ⟨o2, c2, rfl, hs, hb⟩ := lex_sl hl2 hr
          have hS2 := Lib.hid (fun wx (hk : Below w2.heap.size w2 wx) => sl_below (w' := wx) hs hk)
          have hb2 : Below w.heap.size w w2 := hb1.trans (hb.mono hb1.size)
          have hp2 : Below w1.heap.size w1 w2 := hb
          clear hb hr hs L2
          dsimp only
          clear hl2
          go_wp2_with fail
          refine (L3.out _ hb2).mono ?_
          intro e w3 hr
          obtain ⟨o3, c3, rfl, hs, hb⟩ := lex_sl hl3 hr
          have hS3 := Lib.hid (fun wx (hk : Below w3.heap.size w3 wx) => sl_below (w' := wx) hs hk)
          have hb3 : Below w.heap.size w w3 := hb2.trans (hb.mono hb2.size)
          have hp3 : Below w2.heap.size w2 w3 := hb
          clear hb hr hs L3
          dsimp only
          clear hl3
          have Q1 := Lib.hid (fun wx (hk : Below w3.heap.size w3 wx) => P1.out o1 c1 wx (hS1.out wx ((hp2.trans (hp3.mono hp2.size)).trans (hk.mono (Nat.le_trans hp2.size hp3.size)))) (hb3.trans (hk.mono hb3.size)))
          have Q2 := Lib.hid (fun wx (hk : Below w3.heap.size w3 wx) => P2.out o2 c2 wx (hS2.out wx (hp3.trans (hk.mono hp3.size))) (hb3.trans (hk.mono hb3.size)))
          have Q3 := Lib.hid (fun wx (hk : Below w3.heap.size w3 wx) => P3.out o3 c3 wx (hS3.out wx hk) (hb3.trans (hk.mono hb3.size)))
          clear hS1 hS2 hS3 P1 P2 P3
          have hq3 : Below w3.heap.size w3 w3 := Below.refl _ _
          go_wp2_with fail
          refine (Q1.out _ hq3).mono ?_
          intro e w4 hr
          obtain ⟨v, rfl, hrow, hb⟩ := hr
          obtain ⟨a1, d1, hv⟩ := acRow_form hrow
          subst hv
          have hq4 : Below w3.heap.size w3 w4 := hq3.trans (hb.mono hq3.size)
          have hb4 : Below w.heap.size w w4 := hb3.trans (hb.mono hb3.size)
          have hR1 := Lib.hid (fun wx (hk : Below w4.heap.size w4 wx) => acts_below (w' := wx) (acRow_at hrow) hk)
          have hp4 : Below w3.heap.size w3 w4 := hb
          clear hb hrow Q1
          dsimp only
          go_wp2_with fail
          refine (Q2.out _ hq4).mono ?_
          intro e w5 hr
          obtain ⟨v, rfl, hrow, hb⟩ := hr
          obtain ⟨a2, d2, hv⟩ := acRow_form hrow
          subst hv
          have hq5 : Below w3.heap.size w3 w5 := hq4.trans (hb.mono hq4.size)
          have hb5 : Below w.heap.size w w5 := hb4.trans (hb.mono hb4.size)
          have hR2 := Lib.hid (fun wx (hk : Below w5.heap.size w5 wx) => acts_below (w' := wx) (acRow_at hrow) hk)
          have hp5 : Below w4.heap.size w4 w5 := hb
          clear hb hrow Q2
          dsimp only
          go_wp2_with fail
          refine (Q3.out _ hq5).mono ?_
          intro e w6 hr
          obtain ⟨v, rfl, hrow, hb⟩ := hr
          obtain ⟨a3, d3, hv⟩ := acRow_form hrow
          subst hv
          have hq6 : Below w3.heap.size w3 w6 := hq5.trans (hb.mono hq5.size)
          have hb6 : Below w.heap.size w w6 := hb5.trans (hb.mono hb5.size)
          have hR3 := Lib.hid (fun wx (hk : Below w6.heap.size w6 wx) => acts_below (w' := wx) (acRow_at hrow) hk)
          have hp6 : Below w5.heap.size w5 w6 := hb
          clear hb hrow Q3
          dsimp only
          rw [← hnU.out]
          have R1 := Lib.hid (fun wx (hk : Below w6.heap.size w6 wx) => refs6_any a1 d1 cs (by omega) hnB wx (hR1.out wx ((hp5.trans (hp6.mono hp5.size)).trans (hk.mono (Nat.le_trans hp5.size hp6.size)))))
          have R2 := Lib.hid (fun wx (hk : Below w6.heap.size w6 wx) => refs6_any a2 d2 ds (by omega) hmB wx (hR2.out wx (hp6.trans (hk.mono hp6.size))))
          clear hR1 hR2
          go_wp2_with fail
          refine (R1.out _ (Below.refl _ _)).mono ?_
          intro e w7 hr
          obtain ⟨v, rfl, hrow7, hb7⟩ := hr
          obtain ⟨a7, d7, hv⟩ := acRow_form hrow7
          subst hv
          clear R1
          dsimp only
          go_wp2_with fail
          refine (R2.out _ hb7).mono ?_
          intro e w8 hr
          obtain ⟨v, rfl, hrow8, hb8⟩ := hr
          obtain ⟨vs, hV, hO⟩ := acRow_keep hrow7 hb8
          obtain ⟨xs, hX, hY⟩ := acRow_base hrow8 hb7.size
          obtain ⟨a8, d8, rfl, ha8, _, _, hcell⟩ := own_head hY hm1
          have hadd : ∀ j, (⟨a8, 0, none⟩ : Addr).add j = ⟨a8, j, none⟩ := fun j => by unfold Addr.add; split <;> simp_all
          have hb86 : Below w6.heap.size w6 w8 := hb7.trans (hb8.mono hb7.size)
          obtain ⟨j0, hj, hy1, hy2, hy3⟩ := info_parts Tryz.infoA6
          have hone := acVs_one hX
          have hlen := acVs_len hX
          replace hV := Lib.hid hV
          replace hO := Lib.hid hO
          replace hX := Lib.hid hX
          clear R2 hrow7 hrow8 hY
          dsimp only
          go_wp2_with (at_builtin; refine wpList_append_wanted (by rfl) _ _ 31 rfl w6.heap.size 52 j0 _ 5 80 Tryz.underlying31 hj hy1 hy2 hy3 rfl (by decide) (.slice a7 cs.length d7) cs.length vs rfl hO.out ⟨a8, 0, none⟩ ds.length d8 xs rfl hlen (fun j u hu => by rw [hadd]; exact hcell j u hu) hone hm1 (by unfold maxLen; omega) (by omega) hb86.size ?_)
          intro g' cap' w9 hown9 hgrow
          have hrow9 := acRow_at (acRow_grown (by decide) hV.out hO.out hX.out hgrow hnU.out hown9)
          have hb96 : Below w6.heap.size w6 w9 := Below.grown hb86 hgrow hb86.size (fun k hk => (hO.out.lt k hk).1)
          have hA3 := hR3.out w9 hb96
          have Sm := Lib.hid (same6_any a3 d3 (some ⟨g', 0, none⟩) cap' (cs ++ ds) (by have := hnU.out; omega) hB w9 hA3 hrow9)
          rw [← hnU.out] at Sm
          have hb9 := hb6.trans (hb96.mono hb6.size)
          clear hV hO hX hcell hone hlen hgrow hown9 hrow9 hA3 hR3 hadd
          go_wp2_with ((with_reducible refine (Sm.out).mono ?_); intro e w1 hr; obtain ⟨rfl, p, rfl⟩ := hr.out; clear hr)
          go_returns
          exact ⟨rfl, hb9.trans (Below.mono (by repeat' (first | (with_reducible exact Below.refl _ _) | (with_reducible assumption) | (with_reducible refine Below.alloc ?_ ?_ _) | (with_reducible refine Below.drew ?_) | (with_reducible refine belowN ?_ _) | (with_reducible refine Below.setCell ?_ ?_ _) | (with_reducible refine belowG ?_ ?_) | (with_reducible exact Nat.le_refl _) | (with_reducible refine le_sizeG ?_) | (with_reducible refine le_sizeA ?_) | (with_reducible refine le_sizeC ?_) | (with_reducible refine le_sizeD ?_) | (with_reducible refine le_sizeN ?_) | go_size | (simp [go_sem]; done))) hb9.size)⟩
        · rw [if_neg h8] at P3
          have h8I : (8 : Int) < (cs.length : Int) + (ds.length : Int) := by omega
          clear hn4 hm4
          go_enter Tryz.func3, Tryz.ntmps3
          go_wp2_with ((with_reducible refine ((A.out _ (Below.refl _ _)).out).mono ?_); intro e w1 hr; obtain ⟨rfl, p, rfl⟩ := hr.out; clear hr)
          refine (L1.out _ (by repeat' (first | (with_reducible exact Below.refl _ _) | (with_reducible assumption) | (with_reducible refine Below.alloc ?_ ?_ _) | (with_reducible refine Below.drew ?_) | (with_reducible refine belowN ?_ _) | (with_reducible refine Below.setCell ?_ ?_ _) | (with_reducible refine belowG ?_ ?_) | (with_reducible exact Nat.le_refl _) | (with_reducible refine le_sizeG ?_) | (with_reducible refine le_sizeA ?_) | (with_reducible refine le_sizeC ?_) | (with_reducible refine le_sizeD ?_) | (with_reducible refine le_sizeN ?_) | go_size | (simp [go_sem]; done)))).mono ?_
          intro e w1 hr
          obtain ⟨o1, c1, rfl, hs, hb⟩ := lex_sl hl1 hr
          have hS1 := Lib.hid (fun wx (hk : Below w1.heap.size w1 wx) => sl_below (w' := wx) hs hk)
          have hb1 : Below w.heap.size w w1 := Below.trans (by repeat' (first | (with_reducible exact Below.refl _ _) | (with_reducible assumption) | (with_reducible refine Below.alloc ?_ ?_ _) | (with_reducible refine Below.drew ?_) | (with_reducible refine belowN ?_ _) | (with_reducible refine Below.setCell ?_ ?_ _) | (with_reducible refine belowG ?_ ?_) | (with_reducible exact Nat.le_refl _) | (with_reducible refine le_sizeG ?_) | (with_reducible refine le_sizeA ?_) | (with_reducible refine le_sizeC ?_) | (with_reducible refine le_sizeD ?_) | (with_reducible refine le_sizeN ?_) | go_size | (simp [go_sem]; done))) (hb.mono (belowG0 p w).size)
          clear hb hr hs L1
          dsimp only
          clear hl1 A
          go_wp2_with fail
          refine (L2.out _ hb1).mono ?_
          intro e w2 hr
          obtain ⟨o2, c2, rfl, hs, hb⟩ := lex_sl hl2 hr
          have hS2 := Lib.hid (fun wx (hk : Below w2.heap.size w2 wx) => sl_below (w' := wx) hs hk)
          have hb2 : Below w.heap.size w w2 := hb1.trans (hb.mono hb1.size)
          have hp2 : Below w1.heap.size w1 w2 := hb
          clear hb hr hs L2
          dsimp only
          clear hl2
          go_wp2_with fail
          refine (L3.out _ hb2).mono ?_
          intro e w3 hr
          obtain ⟨o3, c3, rfl, hs, hb⟩ := lex_sl hl3 hr
          have hS3 := Lib.hid (fun wx (hk : Below w3.heap.size w3 wx) => sl_below (w' := wx) hs hk)
          have hb3 : Below w.heap.size w w3 := hb2.trans (hb.mono hb2.size)
          have hp3 : Below w2.heap.size w2 w3 := hb
          clear hb hr hs L3
          dsimp only
          clear hl3
          have Q1 := Lib.hid (fun wx (hk : Below w3.heap.size w3 wx) => P1.out o1 c1 wx (hS1.out wx ((hp2.trans (hp3.mono hp2.size)).trans (hk.mono (Nat.le_trans hp2.size hp3.size)))) (hb3.trans (hk.mono hb3.size)))
          have Q2 := Lib.hid (fun wx (hk : Below w3.heap.size w3 wx) => P2.out o2 c2 wx (hS2.out wx (hp3.trans (hk.mono hp3.size))) (hb3.trans (hk.mono hb3.size)))
          have Q3 := Lib.hid (fun wx (hk : Below w3.heap.size w3 wx) => P3.out o3 c3 wx (hS3.out wx hk) (hb3.trans (hk.mono hb3.size)))
          clear hS1 hS2 hS3 P1 P2 P3
          have hq3 : Below w3.heap.size w3 w3 := Below.refl _ _
          go_wp2_with fail
          refine (Q1.out _ hq3).mono ?_
          intro e w4 hr
          obtain ⟨v, rfl, hrow, hb⟩ := hr
          obtain ⟨a1, d1, hv⟩ := acRow_form hrow
          subst hv
          have hq4 : Below w3.heap.size w3 w4 := hq3.trans (hb.mono hq3.size)
          have hb4 : Below w.heap.size w w4 := hb3.trans (hb.mono hb3.size)
          clear hb hrow Q1
          dsimp only
          go_wp2_with fail
          refine (Q2.out _ hq4).mono ?_
          intro e w5 hr
          obtain ⟨v, rfl, hrow, hb⟩ := hr
          obtain ⟨a2, d2, hv⟩ := acRow_form hrow
          subst hv
          have hq5 : Below w3.heap.size w3 w5 := hq4.trans (hb.mono hq4.size)
          have hb5 : Below w.heap.size w w5 := hb4.trans (hb.mono hb4.size)
          clear hb hrow Q2
          dsimp only
          go_wp2_with fail
          refine (Q3.out _ hq5).mono ?_
          intro e w6 hr
          obtain ⟨rfl, hb⟩ := hr
          have hq6 : Below w3.heap.size w3 w6 := hq5.trans (hb.mono hq5.size)
          have hb6 : Below w.heap.size w w6 := hb5.trans (hb.mono hb5.size)
          clear hb Q3
          dsimp only
          go_wp2
          go_returns
          exact ⟨rfl, hb6⟩
      · have hpe2 : ((p1 : Int) != (ts.length : Int)) = true := by rw [bne_iff_ne]; omega
        clear hr1' hr2' hn4 hm4
        go_enter Tryz.func3, Tryz.ntmps3
        go_wp2_with ((with_reducible refine ((A.out _ (Below.refl _ _)).out).mono ?_); intro e w1 hr; obtain ⟨rfl, p, rfl⟩ := hr.out; clear hr)
        refine (L1.out _ (by repeat' (first | (with_reducible exact Below.refl _ _) | (with_reducible assumption) | (with_reducible refine Below.alloc ?_ ?_ _) | (with_reducible refine Below.drew ?_) | (with_reducible refine belowN ?_ _) | (with_reducible refine Below.setCell ?_ ?_ _) | (with_reducible refine belowG ?_ ?_) | (with_reducible exact Nat.le_refl _) | (with_reducible refine le_sizeG ?_) | (with_reducible refine le_sizeA ?_) | (with_reducible refine le_sizeC ?_) | (with_reducible refine le_sizeD ?_) | (with_reducible refine le_sizeN ?_) | go_size | (simp [go_sem]; done)))).mono ?_
        intro e w1 hr
        obtain ⟨o1, c1, rfl, hs, hb⟩ := lex_sl hl1 hr
        have hS1 := Lib.hid (fun wx (hk : Below w1.heap.size w1 wx) => sl_below (w' := wx) hs hk)
        have hb1 : Below w.heap.size w w1 := Below.trans (by repeat' (first | (with_reducible exact Below.refl _ _) | (with_reducible assumption) | (with_reducible refine Below.alloc ?_ ?_ _) | (with_reducible refine Below.drew ?_) | (with_reducible refine belowN ?_ _) | (with_reducible refine Below.setCell ?_ ?_ _) | (with_reducible refine belowG ?_ ?_) | (with_reducible exact Nat.le_refl _) | (with_reducible refine le_sizeG ?_) | (with_reducible refine le_sizeA ?_) | (with_reducible refine le_sizeC ?_) | (with_reducible refine le_sizeD ?_) | (with_reducible refine le_sizeN ?_) | go_size | (simp [go_sem]; done))) (hb.mono (belowG0 p w).size)
        clear hb hr hs L1
        dsimp only
        clear hl1 A
        go_wp2_with fail
        refine (L2.out _ hb1).mono ?_
        intro e w2 hr
        obtain ⟨o2, c2, rfl, hs, hb⟩ := lex_sl hl2 hr
        have hS2 := Lib.hid (fun wx (hk : Below w2.heap.size w2 wx) => sl_below (w' := wx) hs hk)
        have hb2 : Below w.heap.size w w2 := hb1.trans (hb.mono hb1.size)
        have hp2 : Below w1.heap.size w1 w2 := hb
        clear hb hr hs L2
        dsimp only
        clear hl2
        go_wp2_with fail
        refine (L3.out _ hb2).mono ?_
        intro e w3 hr
        obtain ⟨o3, c3, rfl, hs, hb⟩ := lex_sl hl3 hr
        have hS3 := Lib.hid (fun wx (hk : Below w3.heap.size w3 wx) => sl_below (w' := wx) hs hk)
        have hb3 : Below w.heap.size w w3 := hb2.trans (hb.mono hb2.size)
        have hp3 : Below w2.heap.size w2 w3 := hb
        clear hb hr hs L3
        dsimp only
        clear hl3
        have Q1 := Lib.hid (fun wx (hk : Below w3.heap.size w3 wx) => P1.out o1 c1 wx (hS1.out wx ((hp2.trans (hp3.mono hp2.size)).trans (hk.mono (Nat.le_trans hp2.size hp3.size)))) (hb3.trans (hk.mono hb3.size)))
        have Q2 := Lib.hid (fun wx (hk : Below w3.heap.size w3 wx) => P2.out o2 c2 wx (hS2.out wx (hp3.trans (hk.mono hp3.size))) (hb3.trans (hk.mono hb3.size)))
        have Q3 := Lib.hid (fun wx (hk : Below w3.heap.size w3 wx) => P3.out o3 c3 wx (hS3.out wx hk) (hb3.trans (hk.mono hb3.size)))
        clear hS1 hS2 hS3 P1 P2 P3
        have hq3 : Below w3.heap.size w3 w3 := Below.refl _ _
        go_wp2_with fail
        refine (Q1.out _ hq3).mono ?_
        intro e w4 hr
        obtain ⟨v, rfl, hrow, hb⟩ := hr
        obtain ⟨a1, d1, hv⟩ := acRow_form hrow
        subst hv
        have hq4 : Below w3.heap.size w3 w4 := hq3.trans (hb.mono hq3.size)
        have hb4 : Below w.heap.size w w4 := hb3.trans (hb.mono hb3.size)
        clear hb hrow Q1
        dsimp only
        go_wp2_with fail
        refine (Q2.out _ hq4).mono ?_
        intro e w5 hr
        obtain ⟨v, rfl, hrow, hb⟩ := hr
        obtain ⟨a2, d2, hv⟩ := acRow_form hrow
        subst hv
        have hq5 : Below w3.heap.size w3 w5 := hq4.trans (hb.mono hq4.size)
        have hb5 : Below w.heap.size w w5 := hb4.trans (hb.mono hb4.size)
        clear hb hrow Q2
        dsimp only
        go_wp2_with fail
        refine (Q3.out _ hq5).mono ?_
        intro e w6 hr
        obtain ⟨v6, n6, y6, rfl, hb⟩ := take_some hr
        have hq6 : Below w3.heap.size w3 w6 := hq5.trans (hb.mono hq5.size)
        have hb6 : Below w.heap.size w w6 := hb5.trans (hb.mono hb5.size)
        clear hb hr Q3
        dsimp only
        go_wp2
        go_returns
        exact ⟨rfl, hb6⟩
theorem rows_walk (s t : ByteArray) (w : World) (hw : Ay w) : Calls Tryz.prog 3 #[.string s, .string t] w (Ret (.bool true) w) := by
  by_cases h1 : 400 < s.size
  · have A := Lib.hid (fun wx hb => Lib.hid (anchor6_any wx (ay_below hw hb)))
    have hI : (400 : Int) < (s.size : Int) := by omega
    clear hw
    go_enter Tryz.func3, Tryz.ntmps3
    go_wp2_with ((with_reducible refine ((A.out _ (Below.refl _ _)).out).mono ?_); intro e w1 hr; obtain ⟨rfl, p, rfl⟩ := hr.out; clear hr)
    go_returns
    exact ⟨rfl, by repeat' (first | (with_reducible exact Below.refl _ _) | (with_reducible assumption) | (with_reducible refine Below.alloc ?_ ?_ _) | (with_reducible refine Below.drew ?_) | (with_reducible refine belowN ?_ _) | (with_reducible refine Below.setCell ?_ ?_ _) | (with_reducible refine belowG ?_ ?_) | (with_reducible exact Nat.le_refl _) | (with_reducible refine le_sizeG ?_) | (with_reducible refine le_sizeA ?_) | (with_reducible refine le_sizeC ?_) | (with_reducible refine le_sizeD ?_) | (with_reducible refine le_sizeN ?_) | go_size | (simp [go_sem]; done))⟩
  · by_cases h2 : 400 < t.size
    · have A := Lib.hid (fun wx hb => Lib.hid (anchor6_any wx (ay_below hw hb)))
      have hI : ¬ (400 : Int) < (s.size : Int) := by omega
      have hI2 : (400 : Int) < (t.size : Int) := by omega
      clear hw
      go_enter Tryz.func3, Tryz.ntmps3
      go_wp2_with ((with_reducible refine ((A.out _ (Below.refl _ _)).out).mono ?_); intro e w1 hr; obtain ⟨rfl, p, rfl⟩ := hr.out; clear hr)
      go_returns
      exact ⟨rfl, by repeat' (first | (with_reducible exact Below.refl _ _) | (with_reducible assumption) | (with_reducible refine Below.alloc ?_ ?_ _) | (with_reducible refine Below.drew ?_) | (with_reducible refine belowN ?_ _) | (with_reducible refine Below.setCell ?_ ?_ _) | (with_reducible refine belowG ?_ ?_) | (with_reducible exact Nat.le_refl _) | (with_reducible refine le_sizeG ?_) | (with_reducible refine le_sizeA ?_) | (with_reducible refine le_sizeC ?_) | (with_reducible refine le_sizeD ?_) | (with_reducible refine le_sizeN ?_) | go_size | (simp [go_sem]; done))⟩
    · rcases hl1 : lexT 120 0 s.data.toList with x | ts
      · exact rows_bad s t w (by omega) (by omega) hw (.inl ⟨_, hl1⟩)
      · rcases hl2 : lexT 120 0 t.data.toList with x | ms
        · exact rows_bad s t w (by omega) (by omega) hw (.inr (.inl ⟨_, hl2⟩))
        · rcases hl3 : lexT 120 0 (s.data.toList ++ 32 :: 59 :: 32 :: t.data.toList) with x | us
          · exact rows_bad s t w (by omega) (by omega) hw (.inr (.inr ⟨_, hl3⟩))
          · exact rows_good s t w (by omega) (by omega) hw ts ms us hl1 hl2 hl3
end Go.Proofs.YtmdjlngdpjjfiaaGreatDoor
