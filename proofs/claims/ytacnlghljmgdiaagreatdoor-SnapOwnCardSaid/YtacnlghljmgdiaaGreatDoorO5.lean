/- Several texts of this proof, joined: SE1, SE2, SE3, SE4, SE5, SF. -/
import Derived.Test.YtacnlghljmgdiaaGreatDoorO3
import Derived.Test.YtacnlghljmgdiaaGreatDoorO2
import Derived.Test.YtacnlghljmgdiaaGreatDoorO7
import Derived.Test.YtacnlghljmgdiaaGreatDoorZ1
import Derived.Test.YtacnlghljmgdiaaGreatDoorChecked
import Derived.WalkKit
import Derived.ProofKit
import Derived.OpenShut
import Derived.Handy
import Derived.BigQuiet
import Derived.OwnWalk
import Derived.Lib.Hide
import Derived.Laws.StructEq
import Derived.WalkSmall
import Derived.WalkLawsBesides
namespace Go.Proofs.YtacnlghljmgdiaaGreatDoor
open Go.RowKit
def x3d (w:World) (ao:Option Addr) (i:Nat) (x:Int):Prop:=∃ g o,ao = some ⟨g,o,none⟩ ∧ g < w.heap.size ∧ w.cell? ⟨g,o + i,none⟩ = some (.int .u64 x)
theorem x2y {w:World} {ao:Option Addr} {c:Nat} {l:List Int} (h:z2d w ao c (l.flatMap sbC)) (i:Nat) (hi:i < l.length):x3d w ao i l[i]:=by
 obtain ⟨g,o,e,hg,hc⟩:=z8g sbC 1 q8r h i hi deT
 exact ⟨g,o,e,hg,by have:=hc 0 _ deT rfl;simpa using this⟩
set_option maxRecDepth 100000 in
set_option maxHeartbeats 1000000 in
theorem k6r (ao bo:Option Addr) (c d:Nat) (l r:List Int) (h4:l.length ≤ 400) (w:World) (hl:z2d w ao c (l.flatMap sbC)) (hr:z2d w bo d (r.flatMap sbC)) :
  Calls Tryz.prog 37 #[.slice ao l.length c,.slice bo r.length d] w (Ret (.bool (decide (l = r))) w):=by
 by_cases hn:l.length = r.length
 ·have L:=hiT (fun wx (hb:Below w.heap.size w wx) i (hi:i < l.length)=>x2y (z0k hl hb) i hi)
  have R:Hid (∀ wx,Below w.heap.size w wx → ∀ i,i < l.length → ∃ y,r[i]? = some y ∧ x3d wx bo i y):=hiT (fun wx (hb:Below w.heap.size w wx) i (hi:i < l.length)=>⟨r[i],List.getElem?_eq_getElem omT,x2y (z0k hr hb) i omT⟩)
  have T1:Hid (∀ (i:Nat) (x y:Int),l[i]? = some x → r[i]? = some y → l.take i = r.take i → x = y → l.take (i + 1) = r.take (i + 1)):=hiT fun i x y h1 h2 h3 h4=>by rw [List.take_add_one,List.take_add_one,h1,h2,h3,h4]
  have T2:Hid (∀ (i:Nat) (x y:Int),l[i]? = some x → r[i]? = some y → ¬ x = y → decide (l = r) = false):=hiT fun i x y h1 h2 h3=>decide_eq_false fun e=>h3 (by subst e;rw [h1] at h2;cases h2;rfl)
  have T3:Hid (l.take l.length = r.take l.length → decide (l = r) = true):=hiT fun h=>decide_eq_true (by rw [List.take_length,hn,List.take_length] at h;exact h)
  rw [← hn]
  replace hn:=hiT hn
  clear hl hr
  go_enter Tryz.func37,Tryz.ntmps37
  go_wp2
  go_loopw [13] (fun v wr=>∃ i:Nat,v = .int .i64 (i:Int) ∧ i ≤ l.length ∧ Hid (l.take i = r.take i) ∧ Below w.heap.size w wr) (fun v _=>l.length - (intOf v).toNat)
  case atStart=>exact ⟨0,rfl,Nat.zero_le _,hiT rfl,gzT⟩
  case round =>
   obtain ⟨i,rfl,hi,ht,hb⟩:=hrel
   rename World=>wr
   have hwz:=hb.size
   by_cases hlt:i < l.length
   ·obtain ⟨g,o,e1,hg,p0⟩:=L.out wr hb i hlt
    have hx:=List.getElem?_eq_getElem hlt
    generalize l[i] = x at *
    obtain ⟨y,hy,g2,o2,e2,hg2,q0⟩:=R.out wr hb i hlt
    subst e1 e2
    have i1:InW g wr:=⟨hg⟩
    have i2:InW g2 wr:=⟨hg2⟩
    have t1:=hiT (T1.out i x y hx hy ht.out)
    have t2:=hiT (T2.out i x y hx hy)
    have hI:(i:Int) < (l.length:Int):=by omega
    clear hx hy
    clear L R T1 T2 T3 ht hn
    by_cases hxy:x = y
    ·subst hxy
     replace hxy:=True.intro
     clear t2
     go_wp2
     (refine z0d krT krT ?_;(repeat (go_big_quiet_step (fail)));refine wpQuiet_nil ?_;intro _ hw';obtain ⟨pg,hw''⟩:=hw';subst hw'')
     go_wp2
     go_roundw
     case rel=>exact ⟨i + 1,by go_num,by omega,hiT (t1.out (by trivial)),gzT⟩
     case measure=>simp [intOf];omega
    ·rw [t2.out hxy]
     have e3:(x != y) = true:=by simpa using hxy
     clear t1 t2
     go_wp2
     (refine z0d krT krT ?_;(repeat (go_big_quiet_step (fail)));refine wpQuiet_nil ?_;intro _ hw';obtain ⟨pg,hw''⟩:=hw';subst hw'')
     go_wp2
     go_returns
     exact ⟨rfl,gzT⟩
   ·obtain rfl:i = l.length:=by omega
    have hI:¬ ((l.length:Nat):Int) < (l.length:Int):=by omega
    have t3:=T3.out ht.out
    rw [t3]
    go_wp2
    go_returns
    exact ⟨rfl,gzT⟩
 ·have e:=decide_eq_false (p:=l = r) fun e=>hn (by rw [e])
  rw [e]
  have e2:((l.length:Int) != (r.length:Int)) = true:=by simp;omega
  clear hl hr e
  go_enter Tryz.func37,Tryz.ntmps37
  go_wp2
  go_returns
  exact ⟨rfl,gzT⟩
def x3h (w:World) (ao:Option Addr) (i:Nat) (x:Vl):Prop:=∃ g o,ao = some ⟨g,o,none⟩ ∧ g < w.heap.size ∧ w.cell? ⟨g,o + i * 3,none⟩ = some (.int .i64 x.k) ∧ w.cell? ⟨g,o + i * 3 + 1,none⟩ = some (.int .i64 x.n) ∧ w.cell? ⟨g,o + i * 3 + 2,none⟩ = some (.string x.s)
theorem x3c {w:World} {ao:Option Addr} {c:Nat} {l:List Vl} (h:z2d w ao c (l.flatMap vlC)) (i:Nat) (hi:i < l.length):x3h w ao i l[i]:=by
 obtain ⟨g,o,e,hg,hc⟩:=z8g vlC 3 q5s h i hi deT
 exact ⟨g,o,e,hg,by have:=hc 0 _ deT rfl;simpa using this,by have:=hc 1 _ deT rfl;simpa using this,by have:=hc 2 _ deT rfl;simpa using this⟩
set_option maxRecDepth 100000 in
set_option maxHeartbeats 1000000 in
theorem k6u (ao bo:Option Addr) (c d:Nat) (l r:List Vl) (h4:l.length ≤ 400) (w:World) (hl:z2d w ao c (l.flatMap vlC)) (hr:z2d w bo d (r.flatMap vlC)) :
  Calls Tryz.prog 38 #[.slice ao l.length c,.slice bo r.length d] w (Ret (.bool (decide (l = r))) w):=by
 by_cases hn:l.length = r.length
 ·have L:=hiT (fun wx (hb:Below w.heap.size w wx) i (hi:i < l.length)=>x3c (z0k hl hb) i hi)
  have R:Hid (∀ wx,Below w.heap.size w wx → ∀ i,i < l.length → ∃ y,r[i]? = some y ∧ x3h wx bo i y):=hiT (fun wx (hb:Below w.heap.size w wx) i (hi:i < l.length)=>⟨r[i],List.getElem?_eq_getElem omT,x3c (z0k hr hb) i omT⟩)
  have T1:Hid (∀ (i:Nat) (x y:Vl),l[i]? = some x → r[i]? = some y → l.take i = r.take i → x = y → l.take (i + 1) = r.take (i + 1)):=hiT fun i x y h1 h2 h3 h4=>by rw [List.take_add_one,List.take_add_one,h1,h2,h3,h4]
  have T2:Hid (∀ (i:Nat) (x y:Vl),l[i]? = some x → r[i]? = some y → ¬ x = y → decide (l = r) = false):=hiT fun i x y h1 h2 h3=>decide_eq_false fun e=>h3 (by subst e;rw [h1] at h2;cases h2;rfl)
  have T3:Hid (l.take l.length = r.take l.length → decide (l = r) = true):=hiT fun h=>decide_eq_true (by rw [List.take_length,hn,List.take_length] at h;exact h)
  rw [← hn]
  replace hn:=hiT hn
  clear hl hr
  go_enter Tryz.func38,Tryz.ntmps38
  go_wp2
  go_loopw [13] (fun v wr=>∃ i:Nat,v = .int .i64 (i:Int) ∧ i ≤ l.length ∧ Hid (l.take i = r.take i) ∧ Below w.heap.size w wr) (fun v _=>l.length - (intOf v).toNat)
  case atStart=>exact ⟨0,rfl,Nat.zero_le _,hiT rfl,gzT⟩
  case round =>
   obtain ⟨i,rfl,hi,ht,hb⟩:=hrel
   rename World=>wr
   have hwz:=hb.size
   by_cases hlt:i < l.length
   ·obtain ⟨g,o,e1,hg,p0,p1,p2⟩:=L.out wr hb i hlt
    have hx:=List.getElem?_eq_getElem hlt
    generalize l[i] = x at *
    obtain ⟨y,hy,g2,o2,e2,hg2,q0,q1,q2⟩:=R.out wr hb i hlt
    subst e1 e2
    have i1:InW g wr:=⟨hg⟩
    have i2:InW g2 wr:=⟨hg2⟩
    have t1:=hiT (T1.out i x y hx hy ht.out)
    have t2:=hiT (T2.out i x y hx hy)
    have hI:(i:Int) < (l.length:Int):=by omega
    clear hx hy
    clear L R T1 T2 T3 ht hn
    by_cases hxy:x = y
    ·subst hxy
     replace hxy:=True.intro
     clear t2
     go_wp2
     (refine z0d krT krT ?_;(repeat (go_big_quiet_step (fail)));refine wpQuiet_nil ?_;intro _ hw';obtain ⟨pg,hw''⟩:=hw';subst hw'')
     go_wp2
     go_roundw
     case rel=>exact ⟨i + 1,by go_num,by omega,hiT (t1.out (by trivial)),gzT⟩
     case measure=>simp [intOf];omega
    ·rw [t2.out hxy]
     clear t1 t2
     obtain ⟨x0,x1,x2⟩:=x
     obtain ⟨y0,y1,y2⟩:=y
     dsimp only at *
     by_cases h0:x0 = y0
     ·subst h0
      by_cases h1:x1 = y1
      ·subst h1
       have e3:(x2.toList == y2.toList) = false:=by rw [q5z];exact decide_eq_false fun h=>hxy (by rw [h])
       clear hxy
       go_wp2
       (refine z0d krT krT ?_;(repeat (go_big_quiet_step (fail)));refine wpQuiet_nil ?_;intro _ hw';obtain ⟨pg,hw''⟩:=hw';subst hw'')
       go_wp2
       go_returns
       exact ⟨rfl,gzT⟩
      ·have e3:(x1 == y1) = false:=by simpa using h1
       clear hxy
       go_wp2
       (refine z0d krT krT ?_;(repeat (go_big_quiet_step (fail)));refine wpQuiet_nil ?_;intro _ hw';obtain ⟨pg,hw''⟩:=hw';subst hw'')
       go_wp2
       go_returns
       exact ⟨rfl,gzT⟩
     ·have e3:(x0 == y0) = false:=by simpa using h0
      clear hxy
      go_wp2
      (refine z0d krT krT ?_;(repeat (go_big_quiet_step (fail)));refine wpQuiet_nil ?_;intro _ hw';obtain ⟨pg,hw''⟩:=hw';subst hw'')
      go_wp2
      go_returns
      exact ⟨rfl,gzT⟩
   ·obtain rfl:i = l.length:=by omega
    have hI:¬ ((l.length:Nat):Int) < (l.length:Int):=by omega
    have t3:=T3.out ht.out
    rw [t3]
    go_wp2
    go_returns
    exact ⟨rfl,gzT⟩
 ·have e:=decide_eq_false (p:=l = r) fun e=>hn (by rw [e])
  rw [e]
  have e2:((l.length:Int) != (r.length:Int)) = true:=by simp;omega
  clear hl hr e
  go_enter Tryz.func38,Tryz.ntmps38
  go_wp2
  go_returns
  exact ⟨rfl,gzT⟩
def x3f (w:World) (ao:Option Addr) (i:Nat) (x:ByteArray):Prop:=∃ g o,ao = some ⟨g,o,none⟩ ∧ g < w.heap.size ∧ w.cell? ⟨g,o + i,none⟩ = some (.string x)
theorem x3a {w:World} {ao:Option Addr} {c:Nat} {l:List ByteArray} (h:z2d w ao c (l.flatMap z3j)) (i:Nat) (hi:i < l.length):x3f w ao i l[i]:=by
 obtain ⟨g,o,e,hg,hc⟩:=z8g z3j 1 q0h h i hi deT
 exact ⟨g,o,e,hg,by have:=hc 0 _ deT rfl;simpa using this⟩
set_option maxRecDepth 100000 in
set_option maxHeartbeats 1000000 in
theorem j3d (ao bo:Option Addr) (c d:Nat) (l r:List ByteArray) (h4:l.length ≤ 400) (w:World) (hl:z2d w ao c (l.flatMap z3j)) (hr:z2d w bo d (r.flatMap z3j)) :
  Calls Tryz.prog 39 #[.slice ao l.length c,.slice bo r.length d] w (Ret (.bool (decide (l = r))) w):=by
 by_cases hn:l.length = r.length
 ·have L:=hiT (fun wx (hb:Below w.heap.size w wx) i (hi:i < l.length)=>x3a (z0k hl hb) i hi)
  have R:Hid (∀ wx,Below w.heap.size w wx → ∀ i,i < l.length → ∃ y,r[i]? = some y ∧ x3f wx bo i y):=hiT (fun wx (hb:Below w.heap.size w wx) i (hi:i < l.length)=>⟨r[i],List.getElem?_eq_getElem omT,x3a (z0k hr hb) i omT⟩)
  have T1:Hid (∀ (i:Nat) (x y:ByteArray),l[i]? = some x → r[i]? = some y → l.take i = r.take i → x = y → l.take (i + 1) = r.take (i + 1)):=hiT fun i x y h1 h2 h3 h4=>by rw [List.take_add_one,List.take_add_one,h1,h2,h3,h4]
  have T2:Hid (∀ (i:Nat) (x y:ByteArray),l[i]? = some x → r[i]? = some y → ¬ x = y → decide (l = r) = false):=hiT fun i x y h1 h2 h3=>decide_eq_false fun e=>h3 (by subst e;rw [h1] at h2;cases h2;rfl)
  have T3:Hid (l.take l.length = r.take l.length → decide (l = r) = true):=hiT fun h=>decide_eq_true (by rw [List.take_length,hn,List.take_length] at h;exact h)
  rw [← hn]
  replace hn:=hiT hn
  clear hl hr
  go_enter Tryz.func39,Tryz.ntmps39
  go_wp2
  go_loopw [13] (fun v wr=>∃ i:Nat,v = .int .i64 (i:Int) ∧ i ≤ l.length ∧ Hid (l.take i = r.take i) ∧ Below w.heap.size w wr) (fun v _=>l.length - (intOf v).toNat)
  case atStart=>exact ⟨0,rfl,Nat.zero_le _,hiT rfl,gzT⟩
  case round =>
   obtain ⟨i,rfl,hi,ht,hb⟩:=hrel
   rename World=>wr
   have hwz:=hb.size
   by_cases hlt:i < l.length
   ·obtain ⟨g,o,e1,hg,p0⟩:=L.out wr hb i hlt
    have hx:=List.getElem?_eq_getElem hlt
    generalize l[i] = x at *
    obtain ⟨y,hy,g2,o2,e2,hg2,q0⟩:=R.out wr hb i hlt
    subst e1 e2
    have i1:InW g wr:=⟨hg⟩
    have i2:InW g2 wr:=⟨hg2⟩
    have t1:=hiT (T1.out i x y hx hy ht.out)
    have t2:=hiT (T2.out i x y hx hy)
    have hI:(i:Int) < (l.length:Int):=by omega
    clear hx hy
    clear L R T1 T2 T3 ht hn
    by_cases hxy:x = y
    ·subst hxy
     replace hxy:=True.intro
     clear t2
     go_wp2
     (refine z0d krT krT ?_;(repeat (go_big_quiet_step (fail)));refine wpQuiet_nil ?_;intro _ hw';obtain ⟨pg,hw''⟩:=hw';subst hw'')
     go_wp2
     go_roundw
     case rel=>exact ⟨i + 1,by go_num,by omega,hiT (t1.out (by trivial)),gzT⟩
     case measure=>simp [intOf];omega
    ·rw [t2.out hxy]
     have e3:(x.toList == y.toList) = false:=by rw [q5z];exact decide_eq_false hxy
     clear t1 t2
     go_wp2
     (refine z0d krT krT ?_;(repeat (go_big_quiet_step (fail)));refine wpQuiet_nil ?_;intro _ hw';obtain ⟨pg,hw''⟩:=hw';subst hw'')
     go_wp2
     go_returns
     exact ⟨rfl,gzT⟩
   ·obtain rfl:i = l.length:=by omega
    have hI:¬ ((l.length:Nat):Int) < (l.length:Int):=by omega
    have t3:=T3.out ht.out
    rw [t3]
    go_wp2
    go_returns
    exact ⟨rfl,gzT⟩
 ·have e:=decide_eq_false (p:=l = r) fun e=>hn (by rw [e])
  rw [e]
  have e2:((l.length:Int) != (r.length:Int)) = true:=by simp;omega
  clear hl hr e
  go_enter Tryz.func39,Tryz.ntmps39
  go_wp2
  go_returns
  exact ⟨rfl,gzT⟩
def x3g (w:World) (ao:Option Addr) (i:Nat) (x:Tm):Prop:=∃ g o,ao = some ⟨g,o,none⟩ ∧ g < w.heap.size ∧ w.cell? ⟨g,o + i * 3,none⟩ = some (.int .i64 x.due) ∧ w.cell? ⟨g,o + i * 3 + 1,none⟩ = some (.int .i64 x.seq) ∧ w.cell? ⟨g,o + i * 3 + 2,none⟩ = some (.string x.name)
theorem x3b {w:World} {ao:Option Addr} {c:Nat} {l:List Tm} (h:z2d w ao c (l.flatMap tmC)) (i:Nat) (hi:i < l.length):x3g w ao i l[i]:=by
 obtain ⟨g,o,e,hg,hc⟩:=z8g tmC 3 j8b h i hi deT
 exact ⟨g,o,e,hg,by have:=hc 0 _ deT rfl;simpa using this,by have:=hc 1 _ deT rfl;simpa using this,by have:=hc 2 _ deT rfl;simpa using this⟩
set_option maxRecDepth 100000 in
set_option maxHeartbeats 1000000 in
theorem k6t (ao bo:Option Addr) (c d:Nat) (l r:List Tm) (h4:l.length ≤ 400) (w:World) (hl:z2d w ao c (l.flatMap tmC)) (hr:z2d w bo d (r.flatMap tmC)) :
  Calls Tryz.prog 40 #[.slice ao l.length c,.slice bo r.length d] w (Ret (.bool (decide (l = r))) w):=by
 by_cases hn:l.length = r.length
 ·have L:=hiT (fun wx (hb:Below w.heap.size w wx) i (hi:i < l.length)=>x3b (z0k hl hb) i hi)
  have R:Hid (∀ wx,Below w.heap.size w wx → ∀ i,i < l.length → ∃ y,r[i]? = some y ∧ x3g wx bo i y):=hiT (fun wx (hb:Below w.heap.size w wx) i (hi:i < l.length)=>⟨r[i],List.getElem?_eq_getElem omT,x3b (z0k hr hb) i omT⟩)
  have T1:Hid (∀ (i:Nat) (x y:Tm),l[i]? = some x → r[i]? = some y → l.take i = r.take i → x = y → l.take (i + 1) = r.take (i + 1)):=hiT fun i x y h1 h2 h3 h4=>by rw [List.take_add_one,List.take_add_one,h1,h2,h3,h4]
  have T2:Hid (∀ (i:Nat) (x y:Tm),l[i]? = some x → r[i]? = some y → ¬ x = y → decide (l = r) = false):=hiT fun i x y h1 h2 h3=>decide_eq_false fun e=>h3 (by subst e;rw [h1] at h2;cases h2;rfl)
  have T3:Hid (l.take l.length = r.take l.length → decide (l = r) = true):=hiT fun h=>decide_eq_true (by rw [List.take_length,hn,List.take_length] at h;exact h)
  rw [← hn]
  replace hn:=hiT hn
  clear hl hr
  go_enter Tryz.func40,Tryz.ntmps40
  go_wp2
  go_loopw [13] (fun v wr=>∃ i:Nat,v = .int .i64 (i:Int) ∧ i ≤ l.length ∧ Hid (l.take i = r.take i) ∧ Below w.heap.size w wr) (fun v _=>l.length - (intOf v).toNat)
  case atStart=>exact ⟨0,rfl,Nat.zero_le _,hiT rfl,gzT⟩
  case round =>
   obtain ⟨i,rfl,hi,ht,hb⟩:=hrel
   rename World=>wr
   have hwz:=hb.size
   by_cases hlt:i < l.length
   ·obtain ⟨g,o,e1,hg,p0,p1,p2⟩:=L.out wr hb i hlt
    have hx:=List.getElem?_eq_getElem hlt
    generalize l[i] = x at *
    obtain ⟨y,hy,g2,o2,e2,hg2,q0,q1,q2⟩:=R.out wr hb i hlt
    subst e1 e2
    have i1:InW g wr:=⟨hg⟩
    have i2:InW g2 wr:=⟨hg2⟩
    have t1:=hiT (T1.out i x y hx hy ht.out)
    have t2:=hiT (T2.out i x y hx hy)
    have hI:(i:Int) < (l.length:Int):=by omega
    clear hx hy
    clear L R T1 T2 T3 ht hn
    by_cases hxy:x = y
    ·subst hxy
     replace hxy:=True.intro
     clear t2
     go_wp2
     (refine z0d krT krT ?_;(repeat (go_big_quiet_step (fail)));refine wpQuiet_nil ?_;intro _ hw';obtain ⟨pg,hw''⟩:=hw';subst hw'')
     go_wp2
     go_roundw
     case rel=>exact ⟨i + 1,by go_num,by omega,hiT (t1.out (by trivial)),gzT⟩
     case measure=>simp [intOf];omega
    ·rw [t2.out hxy]
     clear t1 t2
     obtain ⟨x0,x1,x2⟩:=x
     obtain ⟨y0,y1,y2⟩:=y
     dsimp only at *
     by_cases h0:x0 = y0
     ·subst h0
      by_cases h1:x1 = y1
      ·subst h1
       have e3:(x2.toList == y2.toList) = false:=by rw [q5z];exact decide_eq_false fun h=>hxy (by rw [h])
       clear hxy
       go_wp2
       (refine z0d krT krT ?_;(repeat (go_big_quiet_step (fail)));refine wpQuiet_nil ?_;intro _ hw';obtain ⟨pg,hw''⟩:=hw';subst hw'')
       go_wp2
       go_returns
       exact ⟨rfl,gzT⟩
      ·have e3:(x1 == y1) = false:=by simpa using h1
       clear hxy
       go_wp2
       (refine z0d krT krT ?_;(repeat (go_big_quiet_step (fail)));refine wpQuiet_nil ?_;intro _ hw';obtain ⟨pg,hw''⟩:=hw';subst hw'')
       go_wp2
       go_returns
       exact ⟨rfl,gzT⟩
     ·have e3:(x0 == y0) = false:=by simpa using h0
      clear hxy
      go_wp2
      (refine z0d krT krT ?_;(repeat (go_big_quiet_step (fail)));refine wpQuiet_nil ?_;intro _ hw';obtain ⟨pg,hw''⟩:=hw';subst hw'')
      go_wp2
      go_returns
      exact ⟨rfl,gzT⟩
   ·obtain rfl:i = l.length:=by omega
    have hI:¬ ((l.length:Nat):Int) < (l.length:Int):=by omega
    have t3:=T3.out ht.out
    rw [t3]
    go_wp2
    go_returns
    exact ⟨rfl,gzT⟩
 ·have e:=decide_eq_false (p:=l = r) fun e=>hn (by rw [e])
  rw [e]
  have e2:((l.length:Int) != (r.length:Int)) = true:=by simp;omega
  clear hl hr e
  go_enter Tryz.func40,Tryz.ntmps40
  go_wp2
  go_returns
  exact ⟨rfl,gzT⟩
def x3e (w:World) (ao:Option Addr) (i:Nat) (x:Int):Prop:=∃ g o,ao = some ⟨g,o,none⟩ ∧ g < w.heap.size ∧ w.cell? ⟨g,o + i,none⟩ = some (.int .i64 x)
theorem x2z {w:World} {ao:Option Addr} {c:Nat} {l:List Int} (h:z2d w ao c (l.flatMap inC)) (i:Nat) (hi:i < l.length):x3e w ao i l[i]:=by
 obtain ⟨g,o,e,hg,hc⟩:=z8g inC 1 k0r h i hi deT
 exact ⟨g,o,e,hg,by have:=hc 0 _ deT rfl;simpa using this⟩
set_option maxRecDepth 100000 in
set_option maxHeartbeats 1000000 in
theorem k6s (ao bo:Option Addr) (c d:Nat) (l r:List Int) (h4:l.length ≤ 400) (w:World) (hl:z2d w ao c (l.flatMap inC)) (hr:z2d w bo d (r.flatMap inC)) :
  Calls Tryz.prog 41 #[.slice ao l.length c,.slice bo r.length d] w (Ret (.bool (decide (l = r))) w):=by
 by_cases hn:l.length = r.length
 ·have L:=hiT (fun wx (hb:Below w.heap.size w wx) i (hi:i < l.length)=>x2z (z0k hl hb) i hi)
  have R:Hid (∀ wx,Below w.heap.size w wx → ∀ i,i < l.length → ∃ y,r[i]? = some y ∧ x3e wx bo i y):=hiT (fun wx (hb:Below w.heap.size w wx) i (hi:i < l.length)=>⟨r[i],List.getElem?_eq_getElem omT,x2z (z0k hr hb) i omT⟩)
  have T1:Hid (∀ (i:Nat) (x y:Int),l[i]? = some x → r[i]? = some y → l.take i = r.take i → x = y → l.take (i + 1) = r.take (i + 1)):=hiT fun i x y h1 h2 h3 h4=>by rw [List.take_add_one,List.take_add_one,h1,h2,h3,h4]
  have T2:Hid (∀ (i:Nat) (x y:Int),l[i]? = some x → r[i]? = some y → ¬ x = y → decide (l = r) = false):=hiT fun i x y h1 h2 h3=>decide_eq_false fun e=>h3 (by subst e;rw [h1] at h2;cases h2;rfl)
  have T3:Hid (l.take l.length = r.take l.length → decide (l = r) = true):=hiT fun h=>decide_eq_true (by rw [List.take_length,hn,List.take_length] at h;exact h)
  rw [← hn]
  replace hn:=hiT hn
  clear hl hr
  go_enter Tryz.func41,Tryz.ntmps41
  go_wp2
  go_loopw [13] (fun v wr=>∃ i:Nat,v = .int .i64 (i:Int) ∧ i ≤ l.length ∧ Hid (l.take i = r.take i) ∧ Below w.heap.size w wr) (fun v _=>l.length - (intOf v).toNat)
  case atStart=>exact ⟨0,rfl,Nat.zero_le _,hiT rfl,gzT⟩
  case round =>
   obtain ⟨i,rfl,hi,ht,hb⟩:=hrel
   rename World=>wr
   have hwz:=hb.size
   by_cases hlt:i < l.length
   ·obtain ⟨g,o,e1,hg,p0⟩:=L.out wr hb i hlt
    have hx:=List.getElem?_eq_getElem hlt
    generalize l[i] = x at *
    obtain ⟨y,hy,g2,o2,e2,hg2,q0⟩:=R.out wr hb i hlt
    subst e1 e2
    have i1:InW g wr:=⟨hg⟩
    have i2:InW g2 wr:=⟨hg2⟩
    have t1:=hiT (T1.out i x y hx hy ht.out)
    have t2:=hiT (T2.out i x y hx hy)
    have hI:(i:Int) < (l.length:Int):=by omega
    clear hx hy
    clear L R T1 T2 T3 ht hn
    by_cases hxy:x = y
    ·subst hxy
     replace hxy:=True.intro
     clear t2
     go_wp2
     (refine z0d krT krT ?_;(repeat (go_big_quiet_step (fail)));refine wpQuiet_nil ?_;intro _ hw';obtain ⟨pg,hw''⟩:=hw';subst hw'')
     go_wp2
     go_roundw
     case rel=>exact ⟨i + 1,by go_num,by omega,hiT (t1.out (by trivial)),gzT⟩
     case measure=>simp [intOf];omega
    ·rw [t2.out hxy]
     have e3:(x != y) = true:=by simpa using hxy
     clear t1 t2
     go_wp2
     (refine z0d krT krT ?_;(repeat (go_big_quiet_step (fail)));refine wpQuiet_nil ?_;intro _ hw';obtain ⟨pg,hw''⟩:=hw';subst hw'')
     go_wp2
     go_returns
     exact ⟨rfl,gzT⟩
   ·obtain rfl:i = l.length:=by omega
    have hI:¬ ((l.length:Nat):Int) < (l.length:Int):=by omega
    have t3:=T3.out ht.out
    rw [t3]
    go_wp2
    go_returns
    exact ⟨rfl,gzT⟩
 ·have e:=decide_eq_false (p:=l = r) fun e=>hn (by rw [e])
  rw [e]
  have e2:((l.length:Int) != (r.length:Int)) = true:=by simp;omega
  clear hl hr e
  go_enter Tryz.func41,Tryz.ntmps41
  go_wp2
  go_returns
  exact ⟨rfl,gzT⟩
abbrev plV (s:Sn):Value := .agg #[.int .i64 s.status,.int .i64 s.moves,.int .i64 s.seq,.int .i64 s.clock,.int .u64 s.inn,.int .u64 s.ent,.string s.event]
set_option maxRecDepth 100000 in
theorem k2n {ρ:Operand → Value} {o:Oper} {x y:Operand} {a b:Sn} (h:o.op = .binOp .eql 113 x y 113) (hx:ρ x = plV a) (hy:ρ y = plV b) (w:World):(execOp ρ o).run Tryz.prog w = .ok (.value (.bool (q8k a b))) w:=by
 have e:a.event.toList = b.event.toList → a.event = b.event:=fun k=>by
  have:=q5z a.event b.event
  rw [k] at this
  simpa using this
 unfold q8k execOp
 rw [h]
 simp only [hx,hy]
 clear hx hy h
 go_simp
 by_cases h0:a.status = b.status <;> by_cases h1:a.moves = b.moves <;> by_cases h2:a.seq = b.seq <;> by_cases h3:a.clock = b.clock <;> by_cases h4:a.inn = b.inn <;> by_cases h5:a.ent = b.ent <;> by_cases h6:a.event = b.event <;> (first | (simp [h0,h1,h2,h3,h4,h5,h6];done) | (simp [h0,h1,h2,h3,h4,h5,h6];exact fun k=>h6 (e k)))
set_option maxRecDepth 100000 in
theorem j2a (s:Sn) (pa:Option Addr) (pc:Nat) (da:Option Addr) (dc:Nat) (ia:Option Addr) (ic:Nat) (oa:Option Addr) (oc:Nat) (ta:Option Addr) (tc:Nat) (ka:Option Addr) (kc:Nat) (ua:Option Addr) (uc:Nat) (w:World):Calls Tryz.prog 36 #[snV s pa pc da dc ia ic oa oc ta tc ka kc ua uc] w (Ret (plV s) w):=by
 obtain ⟨s0,s1,s2,s3,s4,s5,s6,s7,s8,s9,s10,s11,s12,s13⟩:=s
 dsimp only [snV,plV]
 go_enter Tryz.func36,Tryz.ntmps36
 go_wp2
 go_returns
 exact ⟨rfl,gzT⟩
set_option maxRecDepth 100000 in
set_option maxHeartbeats 8000000 in
theorem q1a (a b:Sn) (pa:Option Addr) (pc:Nat) (da:Option Addr) (dc:Nat) (ia:Option Addr) (ic:Nat) (oa:Option Addr) (oc:Nat) (ta:Option Addr) (tc:Nat) (ka:Option Addr) (kc:Nat) (ua:Option Addr) (uc:Nat) (pa':Option Addr) (pc':Nat) (da':Option Addr) (dc':Nat) (ia':Option Addr) (ic':Nat) (oa':Option Addr) (oc':Nat) (ta':Option Addr) (tc':Nat) (ka':Option Addr) (kc':Nat) (ua':Option Addr) (uc':Nat) (w:World) (hn:a.past.length ≤ 400 ∧ a.data.length ≤ 400 ∧ a.inner.length ≤ 400 ∧ a.outer.length ≤ 400 ∧ a.timers.length ≤ 400 ∧ a.taken.length ≤ 400 ∧ a.out.length ≤ 400) (ha:SnRd w a pa pc da dc ia ic oa oc ta tc ka kc ua uc) (hb:SnRd w b pa' pc' da' dc' ia' ic' oa' oc' ta' tc' ka' kc' ua' uc') :
  Calls Tryz.prog 14 #[snV a pa pc da dc ia ic oa oc ta tc ka kc ua uc,snV b pa' pc' da' dc' ia' ic' oa' oc' ta' tc' ka' kc' ua' uc'] w (Ret (.bool (q5w a b)) w):=by
 obtain ⟨n0,n1,n2,n3,n4,n5,n6⟩:=hn
 have P1:=hiT (fun wx=>j2a a pa pc da dc ia ic oa oc ta tc ka kc ua uc wx)
 have P2:=hiT (fun wx=>j2a b pa' pc' da' dc' ia' ic' oa' oc' ta' tc' ka' kc' ua' uc' wx)
 have C0:=hiT (fun wx (hx:Below w.heap.size w wx)=>k6r pa pa' pc pc' a.past b.past n0 wx (z0k ha.past hx) (z0k hb.past hx))
 have C1:=hiT (fun wx (hx:Below w.heap.size w wx)=>k6u da da' dc dc' a.data b.data n1 wx (z0k ha.data hx) (z0k hb.data hx))
 have C2:=hiT (fun wx (hx:Below w.heap.size w wx)=>j3d ia ia' ic ic' a.inner b.inner n2 wx (z0k ha.inner hx) (z0k hb.inner hx))
 have C3:=hiT (fun wx (hx:Below w.heap.size w wx)=>j3d oa oa' oc oc' a.outer b.outer n3 wx (z0k ha.outer hx) (z0k hb.outer hx))
 have C4:=hiT (fun wx (hx:Below w.heap.size w wx)=>k6t ta ta' tc tc' a.timers b.timers n4 wx (z0k ha.timers hx) (z0k hb.timers hx))
 have C5:=hiT (fun wx (hx:Below w.heap.size w wx)=>k6s ka ka' kc kc' a.taken b.taken n5 wx (z0k ha.taken hx) (z0k hb.taken hx))
 have C6:=hiT (fun wx (hx:Below w.heap.size w wx)=>j3d ua ua' uc uc' a.out b.out n6 wx (z0k ha.out hx) (z0k hb.out hx))
 clear ha hb n0 n1 n2 n3 n4 n5 n6
 have hS:Hid (q5w a b = (q8k a b && decide (a.past = b.past) && decide (a.data = b.data) && decide (a.inner = b.inner) && decide (a.outer = b.outer) && decide (a.timers = b.timers) && decide (a.taken = b.taken) && decide (a.out = b.out))):=hiT rfl
 rw [hS.out]
 have hR:Hid (∀ {ρ:Operand → Value} {o:Oper} {x y:Operand},o.op = .binOp .eql 113 x y 113 → ρ x = plV a → ρ y = plV b → ∀ w,(execOp ρ o).run Tryz.prog w = .ok (.value (.bool (q8k a b))) w):=hiT fun h hx hy w=>k2n h hx hy w
 generalize q8k a b = g at *
 generalize decide (a.past = b.past) = g0 at *
 generalize decide (a.data = b.data) = g1 at *
 generalize decide (a.inner = b.inner) = g2 at *
 generalize decide (a.outer = b.outer) = g3 at *
 generalize decide (a.timers = b.timers) = g4 at *
 generalize decide (a.taken = b.taken) = g5 at *
 generalize decide (a.out = b.out) = g6 at *
 clear hS
 go_enter Tryz.func14,Tryz.ntmps14
 go_wp2
 refine z0d krT krT ?_
 iterate 4 (go_big_quiet_step (first | (with_reducible exact z1i (P1.out _)) | (with_reducible exact z1i (P2.out _)) | (with_reducible exact z1i (C0.out _ gzT)) | (with_reducible exact z1i (C1.out _ gzT)) | (with_reducible exact z1i (C2.out _ gzT)) | (with_reducible exact z1i (C3.out _ gzT)) | (with_reducible exact z1i (C4.out _ gzT)) | (with_reducible exact z1i (C5.out _ gzT)) | (with_reducible exact z1i (C6.out _ gzT))))
 refine wpQuiet_step fun K hK=>?_
 rw [if_pos (by rfl)]
 refine ⟨.bool g,fun w' hw'=>?_,hK _ ?_⟩
 ·unfold Oper.quietAt
  rw [hR.out rfl rfl rfl w']
  exact ⟨rfl,rfl⟩
 clear hK K hR P1 P2
 simp only [Act.put,List.setIfInBounds_toArray,List.set_cons_succ,List.set_cons_zero]
 go_big_quiet_step (fail)
 cases g
 ·simp only [Bool.false_and]
  repeat (go_big_quiet_step (fail))
  refine wpQuiet_nil ?_
  intro _ hw'
  obtain ⟨pg,hw''⟩:=hw'
  subst hw''
  go_wp2
  go_returns
  exact ⟨rfl,gzT⟩
 ·
  iterate 7 (go_big_quiet_step ((with_reducible exact z1i (C0.out _ gzT))))
  cases g0
  ·simp only [Bool.true_and,Bool.false_and]
   repeat (go_big_quiet_step (fail))
   refine wpQuiet_nil ?_
   intro _ hw'
   obtain ⟨pg,hw''⟩:=hw'
   subst hw''
   go_wp2
   go_returns
   exact ⟨rfl,gzT⟩
  ·
   iterate 7 (go_big_quiet_step ((with_reducible exact z1i (C1.out _ gzT))))
   cases g1
   ·simp only [Bool.true_and,Bool.false_and]
    repeat (go_big_quiet_step (fail))
    refine wpQuiet_nil ?_
    intro _ hw'
    obtain ⟨pg,hw''⟩:=hw'
    subst hw''
    go_wp2
    go_returns
    exact ⟨rfl,gzT⟩
   ·
    iterate 7 (go_big_quiet_step ((with_reducible exact z1i (C2.out _ gzT))))
    cases g2
    ·simp only [Bool.true_and,Bool.false_and]
     repeat (go_big_quiet_step (fail))
     refine wpQuiet_nil ?_
     intro _ hw'
     obtain ⟨pg,hw''⟩:=hw'
     subst hw''
     go_wp2
     go_returns
     exact ⟨rfl,gzT⟩
    ·
     iterate 7 (go_big_quiet_step ((with_reducible exact z1i (C3.out _ gzT))))
     cases g3
     ·simp only [Bool.true_and,Bool.false_and]
      repeat (go_big_quiet_step (fail))
      refine wpQuiet_nil ?_
      intro _ hw'
      obtain ⟨pg,hw''⟩:=hw'
      subst hw''
      go_wp2
      go_returns
      exact ⟨rfl,gzT⟩
     ·
      iterate 7 (go_big_quiet_step ((with_reducible exact z1i (C4.out _ gzT))))
      cases g4
      ·simp only [Bool.true_and,Bool.false_and]
       repeat (go_big_quiet_step (fail))
       refine wpQuiet_nil ?_
       intro _ hw'
       obtain ⟨pg,hw''⟩:=hw'
       subst hw''
       go_wp2
       go_returns
       exact ⟨rfl,gzT⟩
      ·
       iterate 9 (go_big_quiet_step ((with_reducible exact z1i (C5.out _ gzT))))
       cases g5
       ·simp only [Bool.true_and,Bool.false_and]
        repeat (go_big_quiet_step (fail))
        refine wpQuiet_nil ?_
        intro _ hw'
        obtain ⟨pg,hw''⟩:=hw'
        subst hw''
        go_wp2
        go_returns
        exact ⟨rfl,gzT⟩
       ·
        iterate 9 (go_big_quiet_step ((with_reducible exact z1i (C6.out _ gzT))))
        cases g6
        ·simp only [Bool.true_and]
         repeat (go_big_quiet_step (fail))
         refine wpQuiet_nil ?_
         intro _ hw'
         obtain ⟨pg,hw''⟩:=hw'
         subst hw''
         go_wp2
         go_returns
         exact ⟨rfl,gzT⟩
        ·
         simp only [Bool.true_and]
         refine wpQuiet_nil ?_
         intro _ hw'
         obtain ⟨pg,hw''⟩:=hw'
         subst hw''
         go_wp2
         go_returns
         exact ⟨rfl,gzT⟩
end Go.Proofs.YtacnlghljmgdiaaGreatDoor
