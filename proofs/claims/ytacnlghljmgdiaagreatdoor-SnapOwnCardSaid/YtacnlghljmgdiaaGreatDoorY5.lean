/- Several texts of this proof, joined: XB, XC, XD. -/
import Derived.Test.YtacnlghljmgdiaaGreatDoorY2
import Derived.WalkKit
import Derived.ProofKit
import Derived.OpenShut
import Derived.Handy
import Derived.BigQuiet
import Derived.BigRegion
import Derived.Deep.RegionHeld3
import Derived.Lib.Hide
import Derived.WalkSmall
import Derived.WalkLawsBesides
import Derived.Test.YtacnlghljmgdiaaGreatDoorO1
import Derived.Test.YtacnlghljmgdiaaGreatDoorY4
import Derived.OwnWalk
import Derived.Deep.AppendLies
namespace Go.Proofs.YtacnlghljmgdiaaGreatDoor
open Go.RowKit
def v2p (n:Nd) (w:World) (e:Ending) (w':World):Prop:=∃ pb cap,e = .returned (.slice (some ⟨pb,0,none⟩) (cnt n.op) cap) ∧ w'.heap[pb]? = some (.cells #[.int .i64 n.l,.int .i64 n.r] 3 (0,0)) ∧ w.heap.size ≤ pb ∧ Below w.heap.size w w'
set_option maxRecDepth 100000 in
set_option maxHeartbeats 4000000 in
theorem k2l (n:Nd) (w:World):Calls Tryz.prog 241 #[ndV n] w (v2p n w):=by
 have C:=fun wx=>hiT (q7h n.op wx)
 have hc2:cnt n.op ≤ 2:=by
  unfold cnt
  (repeat' split) <;> omega
 replace C:=hiT C
 unfold ndV
 generalize hcc:cnt n.op = c at *
 replace hcc:=hiT hcc
 have hcI:(c:Int) ≤ 2:=by omega
 have hcw:IntKind.i64.wrap (c:Int) = (c:Int):=by rw [IntKind.wrap_i64];omega
 have hc0:(0:Int) ≤ (c:Int):=by omega
 go_enter Tryz.func241,Tryz.ntmps241
 go_wp2_with fail
 go_region_held3 (fun w'=>w'.cell? ⟨w.heap.size,0,none⟩ = some (.int .i64 n.op) ∧ w'.cell? ⟨w.heap.size,5,none⟩ = some (.int .i64 n.l) ∧ w'.cell? ⟨w.heap.size,6,none⟩ = some (.int .i64 n.r)) ((refine ⟨?_,?_,?_⟩ <;> first | assumption | (simp [go_sem, *];done))) (first | ((with_reducible refine ((C.out _).out).mono ?_);rintro e w1 ⟨rfl,rfl⟩))
 all_goals
  go_wp2_with fail
  go_returns
  refine ⟨w.heap.size + 1,2,by rw [hcc.out];rfl,?_,by omega,gzT⟩
  have:=z2k (w.alloc (.cells #[.int .i64 n.op,.int .i64 n.k,.int .i64 n.n,.string ⟨n.s.toArray⟩,.string ⟨n.name.toArray⟩,.int .i64 n.l,.int .i64 n.r] 239)) (.cells #[.int .i64 n.l,.int .i64 n.r] 3)
  rw [World.size_alloc] at this
  exact this
def q1i (w:World) (ao:Option Addr) (ns:List Nd):Prop:=0 < ns.length → ∃ g o,ao = some ⟨g,o,none⟩ ∧ g < w.heap.size ∧ ∀ i (h:i < ns.length),
 w.cell? ⟨g,o + i * 7,none⟩ = some (.int .i64 ns[i].op) ∧ w.cell? ⟨g,o + i * 7 + 1,none⟩ = some (.int .i64 ns[i].k) ∧ w.cell? ⟨g,o + i * 7 + 2,none⟩ = some (.int .i64 ns[i].n) ∧
 w.cell? ⟨g,o + i * 7 + 3,none⟩ = some (.string ⟨ns[i].s.toArray⟩) ∧ w.cell? ⟨g,o + i * 7 + 4,none⟩ = some (.string ⟨ns[i].name.toArray⟩) ∧ w.cell? ⟨g,o + i * 7 + 5,none⟩ = some (.int .i64 ns[i].l) ∧ w.cell? ⟨g,o + i * 7 + 6,none⟩ = some (.int .i64 ns[i].r)
theorem z1t {w w':World} {ao:Option Addr} {ns:List Nd} (h:q1i w ao ns) (hb:Below w.heap.size w w'):q1i w' ao ns:=by
 intro h0
 obtain ⟨g,o,e,hg,hc⟩:=h h0
 refine ⟨g,o,e,Nat.lt_of_lt_of_le hg hb.size,fun i hi=>?_⟩
 obtain ⟨h1,h2,h3,h4,h5,h6,h7⟩:=hc i hi
 exact ⟨(hb.cell (p:=⟨g,_,none⟩) hg).trans h1,(hb.cell (p:=⟨g,_,none⟩) hg).trans h2,(hb.cell (p:=⟨g,_,none⟩) hg).trans h3,(hb.cell (p:=⟨g,_,none⟩) hg).trans h4,(hb.cell (p:=⟨g,_,none⟩) hg).trans h5,(hb.cell (p:=⟨g,_,none⟩) hg).trans h6,(hb.cell (p:=⟨g,_,none⟩) hg).trans h7⟩
def Arr (cs:Array Value) (ds:List Nat):Prop:=cs.size = 32 ∧ (∀ j (h:j < ds.length),cs[j]? = some (.int .i64 (ds[j]:Int))) ∧ ∀ j,j < 32 → ∃ x:Int,cs[j]? = some (.int .i64 x)
def j0k (w:World) (db:Nat) (ds:List Nat):Prop:=∃ cs:Array Value,w.heap[db]? = some (.cells cs 358 (0,0)) ∧ Arr cs ds
def q5a (w:World) (db:Nat) (ds:List Nat) (d:Nat):Prop:=∃ cs:Array Value,w.heap[db]? = some (.cells cs 358 (0,0)) ∧ Arr cs ds ∧ cs[ds.length]? = some (.int .i64 (d:Int))
theorem v2y {cs:Array Value} {ds:List Nat} (h:Arr cs ds) (hl:ds.length < 32) (x:Int):Arr (cs.setIfInBounds ds.length (.int .i64 x)) ds ∧ (cs.setIfInBounds ds.length (.int .i64 x))[ds.length]? = some (.int .i64 x):=by
 obtain ⟨h1,h2,h3⟩:=h
 refine ⟨⟨by rw [Array.size_setIfInBounds];exact h1,fun j hj=>?_,fun j hj=>?_⟩,?_⟩
 ·rw [Array.getElem?_setIfInBounds_ne omT]
  exact h2 j hj
 ·by_cases he:ds.length = j
  ·subst he
   exact ⟨x,Array.getElem?_setIfInBounds_self_of_lt omT⟩
  ·rw [Array.getElem?_setIfInBounds_ne he]
   exact h3 j hj
 ·exact Array.getElem?_setIfInBounds_self_of_lt omT
theorem y1w {w:World} {db:Nat} {ds:List Nat} (h:j0k w db ds) (hl:ds.length < 32) (d:Nat) {x:Int} (hx:x = (d:Int)):q5a (w.setCell ⟨db,ds.length,none⟩ (.int .i64 x)) db ds d:=by
 subst hx
 obtain ⟨cs,hb,ha⟩:=h
 obtain ⟨h1,h2⟩:=v2y ha hl (d:Int)
 exact ⟨_,z0l hb,h1,h2⟩
theorem v6z {w:World} {db:Nat} {ds:List Nat} {d:Nat} (h:q5a w db ds d):j0k w db ds:=by
 obtain ⟨cs,hb,ha,_⟩:=h
 exact ⟨cs,hb,ha⟩
theorem y9s {w:World} {db:Nat} {ds:List Nat} {d:Nat} (h:q5a w db ds d):j0k w db (ds ++ [d]):=by
 obtain ⟨cs,hb,⟨h1,h2,h3⟩,h4⟩:=h
 refine ⟨cs,hb,h1,fun j hj=>?_,h3⟩
 rw [List.length_append,List.length_singleton] at hj
 rcases Nat.lt_or_ge j ds.length with hlt | hge
 ·rw [List.getElem_append_left hlt];exact h2 j hlt
 ·obtain rfl:j = ds.length:=by omega
  rw [h4];simp
theorem q7j {w w':World} {db:Nat} {ds:List Nat} {d:Nat} (h:q5a w db ds d) (hb:Below w.heap.size w w'):q5a w' db ds d:=by
 obtain ⟨cs,h1,h2⟩:=h
 exact ⟨cs,(hb.block db (lt_of_block h1)).trans h1,h2⟩
theorem y9r {w:World} {db:Nat} {ds:List Nat} {d:Nat} (h:q5a w db ds d):w.cell? ⟨db,ds.length,none⟩ = some (.int .i64 (d:Int)) ∧ (∀ j (hj:j < ds.length),w.cell? ⟨db,j,none⟩ = some (.int .i64 (ds[j]:Int))) ∧ (∀ i,w.frozen? ⟨db,i,none⟩ = false) ∧ db < w.heap.size:=by
 obtain ⟨cs,h1,⟨_,h2,_⟩,h3⟩:=h
 exact ⟨by rw [cell_of_row w db _ _ _ _ h1];exact h3,fun j hj=>by rw [cell_of_row w db _ _ _ _ h1];exact h2 j hj,fun i=>frozen_of_row w db i _ _ h1,lt_of_block h1⟩
theorem k5c {w:World} {db:Nat} {ds:List Nat} (h:j0k w db ds) (i:Nat) (hi:i < 32):∃ x:Int,w.cell? ⟨db,i,none⟩ = some (.int .i64 x) ∧ w.frozen? ⟨db,i,none⟩ = false ∧ db < w.heap.size:=by
 obtain ⟨cs,h1,_,_,h3⟩:=h
 obtain ⟨x,hx⟩:=h3 i hi
 exact ⟨x,by rw [cell_of_row w db _ _ _ _ h1];exact hx,frozen_of_row w db i _ _ h1,lt_of_block h1⟩
def q3u (ds:List Nat) (d:Nat) (p:Int):Nat:=if 0 ≤ p ∧ p < (ds.length:Int) then max d (ds.getD p.toNat 0 + 1) else d
theorem k9s {ds:List Nat} (h:∀ x ∈ ds,x ≤ 8) {d:Nat} (hd:d ≤ 9) (p:Int):q3u ds d p ≤ 9:=by
 unfold q3u
 split
 ·rename_i hp
  have hl:p.toNat < ds.length:=by omega
  rw [List.getD_eq_getElem?_getD,List.getElem?_eq_getElem hl,Option.getD_some]
  have:=h _ (List.getElem_mem hl)
  omega
 ·exact hd
theorem k0f {ds:List Nat} (h:∀ x ∈ ds,x ≤ 8):∀ (ps:List Int) (d:Nat),d ≤ 9 → ps.foldl (q3u ds) d ≤ 9
 | [],_,hd=>hd
 | p :: ps,_,hd=>k0f h ps _ (k9s h hd p)
theorem k9r {ds:List Nat} {m:Nat} (h:m < ds.length) (d:Nat):q3u ds d (m:Int) = max d (ds[m] + 1):=by
 unfold q3u
 rw [if_pos ⟨by omega,by omega⟩,show ((m:Int)).toNat = m from rfl,List.getD_eq_getElem?_getD,List.getElem?_eq_getElem h,Option.getD_some]
theorem j7u {ds:List Nat} {p:Int} (h:¬ (0 ≤ p ∧ p < (ds.length:Int))) (d:Nat):q3u ds d p = d:=by
 unfold q3u
 rw [if_neg h]
theorem j9f (ds:List Nat) (n:Nd):y9q ds n = ([n.l,n.r].take (cnt n.op)).foldl (q3u ds) 1:=rfl
set_option maxRecDepth 100000 in
set_option maxHeartbeats 8000000 in
theorem y3h (ao:Option Addr) (cap:Nat) (ns:List Nd) (hn:ns.length ≤ 2000000) (w:World) (h:q1i w ao ns):Calls Tryz.prog 224 #[.slice ao ns.length cap] w (Ret (.int .i64 (z7d ns)) w):=by
 by_cases h32:32 < ns.length
 ·have e:z7d ns = 13:=by unfold z7d;rw [if_pos h32]
  rw [e]
  clear h e
  go_enter Tryz.func224,Tryz.ntmps224
  go_wp2
  go_returns
  exact ⟨rfl,gzT⟩
 ·have e:z7d ns = j0f [] ns:=by unfold z7d;rw [if_neg h32]
  rw [e]
  replace e:=hiT e
  have H:=fun wx hb=>z1t (w':=wx) h hb
  replace H:=hiT H
  have hz0:j0k (w.alloc (.cells #[.int .i64 0,.int .i64 0,.int .i64 0,.int .i64 0,.int .i64 0,.int .i64 0,.int .i64 0,.int .i64 0,.int .i64 0,.int .i64 0,.int .i64 0,.int .i64 0,.int .i64 0,.int .i64 0,.int .i64 0,.int .i64 0,.int .i64 0,.int .i64 0,.int .i64 0,.int .i64 0,.int .i64 0,.int .i64 0,.int .i64 0,.int .i64 0,.int .i64 0,.int .i64 0,.int .i64 0,.int .i64 0,.int .i64 0,.int .i64 0,.int .i64 0,.int .i64 0] 358)) w.heap.size []:=by
   refine ⟨_,z2k _ _,rfl,fun j hj=>absurd hj (Nat.not_lt_zero _),fun j hj=>?_⟩
   have:∀ j,j < 32 → j = 0 ∨ j = 1 ∨ j = 2 ∨ j = 3 ∨ j = 4 ∨ j = 5 ∨ j = 6 ∨ j = 7 ∨ j = 8 ∨ j = 9 ∨ j = 10 ∨ j = 11 ∨ j = 12 ∨ j = 13 ∨ j = 14 ∨ j = 15 ∨ j = 16 ∨ j = 17 ∨ j = 18 ∨ j = 19 ∨ j = 20 ∨ j = 21 ∨ j = 22 ∨ j = 23 ∨ j = 24 ∨ j = 25 ∨ j = 26 ∨ j = 27 ∨ j = 28 ∨ j = 29 ∨ j = 30 ∨ j = 31:=by omega
   rcases this j hj with rfl | rfl | rfl | rfl | rfl | rfl | rfl | rfl | rfl | rfl | rfl | rfl | rfl | rfl | rfl | rfl | rfl | rfl | rfl | rfl | rfl | rfl | rfl | rfl | rfl | rfl | rfl | rfl | rfl | rfl | rfl | rfl <;> exact ⟨0,rfl⟩
  replace hz0:=hiT hz0
  clear h
  generalize hdb:w.heap.size = db at hz0
  go_enter Tryz.func224,Tryz.ntmps224
  go_wp2
  go_loopw [13] (fun v wr=>∃ ds:List Nat,v = .int .i64 (ds.length:Int) ∧ ds.length ≤ ns.length ∧ (∀ x ∈ ds,x ≤ 8) ∧ j0k wr db ds ∧ j0f [] ns = j0f ds (ns.drop ds.length) ∧ Below w.heap.size w wr) (fun v _=>ns.length - (intOf v).toNat)
  case atStart=>exact ⟨[],rfl,Nat.zero_le _,fun x hx=>(by cases hx),hz0.out,rfl,gzT⟩
  case round =>
   obtain ⟨ds,rfl,hle,hall,hz,hsz,hb⟩:=hrel
   rename World=>wr
   subst hdb
   have hwz:=hb.size
   by_cases hlt:ds.length < ns.length
   ·obtain ⟨g,o,rfl,hg,hc⟩:=H.out wr hb omT
    obtain ⟨n1,n2,n3,n4,n5,n6,n7⟩:=hc ds.length hlt
    rw [List.drop_eq_getElem_cons hlt,j0f] at hsz
    generalize ns[ds.length] = n at *
    obtain ⟨x0,z1,z2,z3⟩:=k5c hz ds.length omT
    have i1:InW g wr:=⟨hg⟩
    have i2:InW w.heap.size wr:=⟨z3⟩
    have hzK:=hiT hz
    have hallK:=hiT hall
    have hszK:=hiT hsz
    have hltI:(ds.length:Int) < 32:=by omega
    have hltN:ds.length < 32:=by omega
    have P:=fun wx=>hiT (k2l n wx)
    unfold ndV at P
    replace P:=hiT P
    clear hz hall hsz hc hz0
    go_wp2_with fail
    refine ((P.out _).out).mono ?_
    intro e w1 hr
    obtain ⟨pb,pc,rfl,hpb,hpbl,hb1⟩:=hr
    have D1:q5a w1 w.heap.size ds 1:=q7j (q7j (y1w hzK.out hltN 1 (x:=1) rfl) gzT) hb1
    have hb2:Below w.heap.size w w1:=Below.trans gzT (hb1.mono (by simp [go_sem]))
    have hplt:=lt_of_block hpb
    have hpne:¬ pb = w.heap.size:=by simp [go_sem] at hpbl;omega
    have hc2:cnt n.op ≤ 2:=by
     unfold cnt
     (repeat' split) <;> omega
    have hfold:=k0f hallK.out
    have hdo:=j9f ds n
    generalize cnt n.op = c at *
    have hD1:=hiT D1
    have hdK:=hiT hdo
    have hpbK:=hiT hpb
    clear hb1 hpbl P x0 z1 z2 z3 n1 n2 n3 n4 n5 n6 n7 i1 i2 D1 hdo hpb
    go_wp2
    go_loopw [23] (fun v wx=>∃ k:Nat,v = .int .i64 (k:Int) ∧ k ≤ c ∧ q5a wx w.heap.size ds ((([n.l,n.r].take k)).foldl (q3u ds) 1) ∧ wx.heap[pb]? = some (.cells #[.int .i64 n.l,.int .i64 n.r] 3 (0,0)) ∧ Below w.heap.size w wx) (fun v _=>c - (intOf v).toNat)
    case atStart=>exact ⟨0,rfl,Nat.zero_le _,hD1.out,hpbK.out,hb2⟩
    case round =>
     obtain ⟨k,rfl,hkc,hD,hpx,hbx⟩:=hrel
     rename World=>wx
     have hbxz:=hbx.size
     have hdle:=hfold ([n.l,n.r].take k) 1 omT
     obtain ⟨d1,d2,d3,d4⟩:=y9r hD
     have i1:InW w.heap.size wx:=⟨d4⟩
     have hDK:=hiT hD
     have hpK:=hiT hpx
     by_cases hk:k < c
     ·obtain ⟨p,hp,hnx⟩:∃ p:Int,wx.cell? ⟨pb,k,none⟩ = some (.int .i64 p) ∧ ([n.l,n.r].take (k + 1)).foldl (q3u ds) 1 = q3u ds (([n.l,n.r].take k).foldl (q3u ds) 1) p:=by
       rcases (by omega:k = 0 ∨ k = 1) with rfl | rfl
       ·exact ⟨n.l,by rw [cell_of_row wx pb 0 _ _ _ hpx];rfl,rfl⟩
       ·exact ⟨n.r,by rw [cell_of_row wx pb 1 _ _ _ hpx];rfl,rfl⟩
      have j1:InW pb wx:=⟨lt_of_block hpx⟩
      have hnxK:=hiT hnx
      generalize ([n.l,n.r].take k).foldl (q3u ds) 1 = d at *
      have f1:=d3 ds.length
      clear hD hpx hnx d3
      by_cases hp0:0 ≤ p
      ·obtain ⟨m,rfl⟩:∃ m:Nat,p = m:=⟨p.toNat,by omega⟩
       by_cases hpi:m < ds.length
       ·have hs:=hnxK.out.trans (k9r hpi d)
        have hx8:=hallK.out _ (List.getElem_mem hpi)
        have hcell:=d2 m hpi
        generalize ds[m] = y at *
        have hsK:=hiT hs
        clear hs d2 hnxK
        have hm32:(m:Int) < 32:=by omega
        have hmi:(m:Int) < (ds.length:Int):=by omega
        have hy:(y:Int) ≤ 8:=by omega
        go_wp2_with fail
        go_region
        go_wp2
        have hmx:max (d:Int) ((y:Int) + 1) = ((max d (y + 1):Nat):Int):=by omega
        go_roundw
        case rel=>exact ⟨k + 1,by go_num,by omega,by rw [hsK.out];exact q7j (y1w (v6z hDK.out) hltN (max d (y + 1)) hmx) gzT,(Below.heap_setCell _ _ _ _ hpne).trans hpK.out,gzT⟩
        case measure=>simp [intOf];omega
       ·have hs:=hnxK.out.trans (j7u omT d)
        have hsK:=hiT hs
        clear hs d2 hnxK
        have hmi:¬ (m:Int) < (ds.length:Int):=by omega
        go_wp2
        go_roundw
        case rel=>exact ⟨k + 1,by go_num,by omega,by rw [hsK.out];exact hDK.out,hpK.out,hbx⟩
        case measure=>simp [intOf];omega
      ·have hs:=hnxK.out.trans (j7u omT d)
       have hsK:=hiT hs
       clear hs d2 hnxK
       go_wp2
       go_roundw
       case rel=>exact ⟨k + 1,by go_num,by omega,by rw [hsK.out];exact hDK.out,hpK.out,hbx⟩
       case measure=>simp [intOf];omega
     ·obtain rfl:k = c:=by omega
      have hde:=hdK.out
      have f1:=d3 ds.length
      obtain ⟨d,hd⟩:∃ d,([n.l,n.r].take k).foldl (q3u ds) 1 = d:=⟨_,rfl⟩
      rw [hd] at hde hdle hDK d1
      have hszq:=hszK.out
      rw [hde] at hszq
      have hdeK:=hiT hde
      clear hd hD hpx d2 d3 hde hdK
      by_cases h8:8 < d
      ·rw [if_pos h8] at hszq
       have hres:=hiT hszq
       have h8':(8:Int) < (d:Int):=by omega
       clear hszq hszK
       go_wp2
       go_returns
       exact ⟨by rw [hres.out];rfl,hbx⟩
      ·rw [if_neg h8] at hszq
       have hnext:=hiT hszq
       have h8':¬ (8:Int) < (d:Int):=by omega
       clear hszq hszK
       go_wp2
       have hlen:=hiT (show (ds ++ [d]).length = ds.length + 1 by simp)
       go_roundw
       case rel=>exact ⟨ds ++ [d],by rw [hlen.out];go_num,by rw [hlen.out];omega,fun x hx=>by
        rcases List.mem_append.1 hx with h | h
        ·exact hallK.out x h
        ·simp at h;omega,y9s hDK.out,by rw [hlen.out];exact hnext.out,hbx⟩
       case measure=>simp [intOf];omega
   ·have e:ds.length = ns.length:=by omega
    rw [e,List.drop_length,j0f] at hsz
    have hres:=hiT hsz
    clear hsz
    have hge:¬ ((ds.length:Int) < (ns.length:Int)):=by omega
    replace e:=hiT e
    go_wp2
    go_returns
    exact ⟨by rw [hres.out];rfl,hb⟩
theorem z9v:∀ (ns:List Nd) (i:Nat) (h:i < ns.length) (j:Nat),j < 7 → (z9j ns)[i * 7 + j]? = (ndC ns[i])[j]?
 | [],i,h,_,_=>absurd h (Nat.not_lt_zero _)
 | t :: r,0,_,j,hj=>by
  unfold z9j
  rw [List.flatMap_cons,Nat.zero_mul,Nat.zero_add,List.getElem?_append_left (by simpa [ndC] using hj)]
  rfl
 | t :: r,i + 1,h,j,hj=>by
  have ih:=z9v r i (by simpa using h) j hj
  unfold z9j at *
  rw [List.flatMap_cons,List.getElem?_append_right (by simp [ndC];omega),show (i + 1) * 7 + j - (ndC t).length = i * 7 + j by simp [ndC];omega,ih]
  rfl
theorem k1w {w:World} {B cap:Nat} {na:Option Addr} {ns:List Nd} (h:w.ownsRow B 239 7 (.slice na ns.length cap) ns.length (z9j ns)):q1i w na ns:=by
 intro h0
 obtain ⟨g,cap',e,hg,_,_,hc⟩:=z1g h h0
 cases e
 refine ⟨g,0,rfl,hg,fun i hi=>?_⟩
 rw [Nat.zero_add]
 exact ⟨hc _ _ ((z9v ns i hi 0 deT).trans rfl),hc _ _ ((z9v ns i hi 1 deT).trans rfl),hc _ _ ((z9v ns i hi 2 deT).trans rfl),hc _ _ ((z9v ns i hi 3 deT).trans rfl),hc _ _ ((z9v ns i hi 4 deT).trans rfl),hc _ _ ((z9v ns i hi 5 deT).trans rfl),hc _ _ ((z9v ns i hi 6 deT).trans rfl)⟩
def j8m (x:Except Int (List Nd × Nat)) (w:World) (e:Ending) (w':World):Prop :=
 match x with
 | .error x=>e = .returned (.tuple #[.slice none 0 0,.int .i64 0,.int .i64 x]) ∧ Below w.heap.size w w'
 | .ok (ns,n)=>∃ v,e = .returned (.tuple #[v,.int .i64 (n:Int),.int .i64 0]) ∧ w'.ownsRow w.heap.size 239 7 v ns.length (z9j ns) ∧ Below w.heap.size w w'
theorem k9o {ns:List Nd}:z7d ns = 0 ∨ z7d ns = 13 ∨ z7d ns = 23:=by
 have:∀ (ns:List Nd) ds,j0f ds ns = 0 ∨ j0f ds ns = 23:=by
  intro ns
  induction ns with
  | nil=>exact fun _ => .inl rfl
  | cons n ns ih =>
   intro ds
   rw [j0f]
   split
   ·exact .inr rfl
   ·exact ih _
 unfold z7d
 split
 ·exact .inr (.inl rfl)
 ·rcases this ns [] with h | h
  ·exact .inl h
  ·exact .inr (.inr h)
set_option maxRecDepth 100000 in
set_option maxHeartbeats 4000000 in
theorem j2q (ao:Option Addr) (cap:Nat) (ts:List Tk) (a:Int) (hfew:ts.length ≤ 120) (w:World) (hs:Sl w ao ts) (heg:Eg w) :
  Calls Tryz.prog 204 #[.slice ao ts.length cap,.int .i64 a] w (j8m (z3f ts a) w):=by
 by_cases hneg:a < 0
 ·have e:z3f ts a = .error 11:=by unfold z3f;rw [if_pos (.inl hneg)]
  rw [e]
  clear e hs heg
  go_enter Tryz.func204,Tryz.ntmps204
  go_wp2
  go_returns
  exact ⟨rfl,gzT⟩
 ·obtain ⟨n,rfl⟩:∃ n:Nat,a = n:=⟨a.toNat,by omega⟩
  by_cases hbig:ts.length < n
  ·have e:z3f ts (n:Int) = .error 11:=by unfold z3f;rw [if_pos (.inr omT)]
   rw [e]
   have hI:(ts.length:Int) < (n:Int):=by omega
   clear e hs heg hbig
   go_enter Tryz.func204,Tryz.ntmps204
   go_wp2
   go_returns
   exact ⟨rfl,gzT⟩
  ·have hle:n ≤ ts.length:=by omega
   have hI:¬ (ts.length:Int) < (n:Int):=by omega
   have gS:=j1c ts n hle
   have hgl:=y9v heg
   have hW:=hiT (fun wx h env=>y7e (B:=w.heap.size) (rb:=w.heap.size) (ao:=ao) (cap:=cap) gS wx h env)
   have hrd:∀ wx,wx = w.alloc (.cells #[.slice ao ts.length cap,.int .i64 (n:Int),.slice none 0 0,.slice none 0 0,.slice none 0 0,.int .i64 0] 336) → q4c w.heap.size w.heap.size (.slice ao ts.length cap) ⟨n,[],[],[],0⟩ wx ∧ Env w.heap.size ao ts wx:=by
    rintro wx rfl
    have hb:Below w.heap.size w (w.alloc (.cells #[.slice ao ts.length cap,.int .i64 (n:Int),.slice none 0 0,.slice none 0 0,.slice none 0 0,.int .i64 0] 336)):=gzT
    refine ⟨⟨_,_,_,z2k _ _,World.ownsRow_nil _ _ _ _,World.ownsRow_nil _ _ _ _,World.ownsRow_nil _ _ _ _,.inl rfl,Nat.le_refl _⟩,⟨fun h0=>?_,hgl,j3c heg hgl hb,hfew,hb.size⟩⟩
    obtain ⟨g,hg,hgl,ht⟩:=hs h0
    exact ⟨g,hg,hgl,q4w ht hgl hb⟩
   replace hrd:=hiT hrd
   have hdef:∀ x,whole 128 ts ⟨n,[],[],[],0⟩ = x → z3f ts (n:Int) = match x with | none => .error 11 | some r=>if z7d r.nodes ≠ 0 then .error (z7d r.nodes) else .ok (r.nodes,r.at_):=by
    rintro x rfl
    unfold z3f
    rw [if_neg omT]
    rfl
   obtain ⟨x,hx⟩:∃ x,whole 128 ts ⟨n,[],[],[],0⟩ = x:=⟨_,rfl⟩
   have hgood:=hiT (fun r h=>q4y (r':=r) 128 gS h)
   have hp:=hdef x hx
   rw [hx] at hW
   cases x with
   | none =>
    simp only at hp
    rw [hp]
    clear hp hdef hs heg gS hgood hx
    go_enter Tryz.func204,Tryz.ntmps204
    go_wp2_with fail
    obtain ⟨r1,r2⟩:=hrd.out _ rfl
    refine (hW.out _ r1 r2).mono ?_
    intro e w1 hr
    obtain ⟨rfl,_,hb1⟩:=hr
    clear hW r1 r2 hrd
    go_wp2
    go_returns
    exact ⟨rfl,Below.trans gzT hb1⟩
   | some r =>
    simp only at hp
    have hgd:=hgood.out r hx
    obtain ⟨hn1,_,_,_⟩:=z2a hgd hfew
    have hra:=hgd.at_
    have S:=hiT (fun ao cap wx h=>y3h ao cap r.nodes omT wx h)
    have hsz:=k9o (ns:=r.nodes)
    generalize z7d r.nodes = sz at *
    have hpK:=hiT hp
    clear hp hdef hs heg gS hgood hx hgd
    go_enter Tryz.func204,Tryz.ntmps204
    go_wp2_with fail
    obtain ⟨r1,r2⟩:=hrd.out _ rfl
    refine (hW.out _ r1 r2).mono ?_
    intro e w1 hr
    obtain ⟨rfl,h1,hb1⟩:=hr
    obtain ⟨nv,pv,wv,h1⟩:=h1 r rfl
    clear hW r1 r2 hrd
    have hb2:Below w.heap.size w w1:=Below.trans gzT hb1
    obtain ⟨na,nc,hne⟩:=z0g h1.nodes
    subst hne
    have hown:=hiT h1.nodes
    have N:=hiT (k1w h1.nodes)
    obtain ⟨_,c1,c2,_,_,_,hrb,_⟩:=z1r h1
    have i1:InW w.heap.size w1:=⟨hrb⟩
    have hsz1:w.heap.size ≤ w1.heap.size:=by omega
    clear h1 hb1
    by_cases h0:sz = 0
    ·subst h0
     go_wp2_with ((with_reducible refine (S.out _ _ _ (z1t N.out gzT)).mono ?_);intro e w1 hr;obtain ⟨rfl,p,rfl⟩:=hr.out;clear hr)
     (refine z0d krT krT ?_;(repeat (go_big_quiet_step (fail)));refine wpQuiet_nil ?_;intro _ hw';obtain ⟨pg,hw''⟩:=hw';subst hw'')
     go_wp2_with fail
     go_returns
     show j8m (z3f ts (n:Int)) w _ _
     rw [hpK.out,if_neg (by simp)]
     exact ⟨_,rfl,z0a hown.out gzT,gzT⟩
    ·have h0':(sz != 0) = true:=by rw [bne_iff_ne];exact h0
     have h0K:=hiT h0
     clear h0 hsz
     go_wp2_with ((with_reducible refine (S.out _ _ _ (z1t N.out gzT)).mono ?_);intro e w1 hr;obtain ⟨rfl,p,rfl⟩:=hr.out;clear hr)
     go_returns
     show j8m (z3f ts (n:Int)) w _ _
     rw [hpK.out,if_pos h0K.out]
     exact ⟨rfl,gzT⟩
theorem z6v {ts:List Tk} {a x:Int} (h:z3f ts a = .error x):(x != 0) = true:=by
 unfold z3f at h
 split at h
 ·cases h;rfl
 ·split at h
  ·cases h;rfl
  ·split at h
   ·rename_i hs
    cases h
    rw [bne_iff_ne]
    exact hs
   ·cases h
theorem z6u {ts:List Tk} {a:Int} {ns:List Nd} {n:Nat} (h:z3f ts a = .ok (ns,n)):n ≤ ts.length ∧ ns.length ≤ 32:=by
 unfold z3f at h
 split at h
 ·cases h
 ·rename_i ha
  split at h
  ·cases h
  ·rename_i r hr
   split at h
   ·cases h
   ·rename_i hs
    cases h
    have g:=q4y 128 (j1c ts a.toNat omT) hr
    refine ⟨g.at_,?_⟩
    have h0:z7d r.nodes = 0:=Decidable.not_not.1 hs
    unfold z7d at h0
    split at h0
    ·cases h0
    ·omega
def nright (n:Nd) (ps:List Int):Bool :=
 if n.op = 0 then (z5n n.k n.n ⟨n.s.toArray⟩ && (!(n.k == 1) || decide (0 ≤ n.n))) && (n.name == [] && n.l == 0 && n.r == 0)
 else if n.op = 16 ∨ n.op = 17 then nmB n.name && (n.k == 0 && n.n == 0 && n.s == [] && n.l == 0 && n.r == 0)
 else if 1 ≤ n.op ∧ n.op ≤ 15 then n.k == 0 && n.n == 0 && n.s == [] && n.name == [] && n.l == ps.getD 0 0 && n.r == ps.getD 1 0
 else false
set_option maxRecDepth 100000 in
set_option maxHeartbeats 4000000 in
theorem k1y (n:Nd) (ao:Option Addr) (cap:Nat) (ps:List Int) (h0:¬ n.op = 0) (h16:¬ n.op = 16) (h17:¬ n.op = 17) (hl:ps.length ≤ 2) (w:World) (hp:Ints w ao ps) :
  Calls Tryz.prog 243 #[ndV n,.slice ao ps.length cap] w (Ret (.bool (nright n ps)) w):=by
 have O:=fun wx (hk:Below w.heap.size w wx)=>hiT (z5x n.op ao cap ps omT wx (fun i hi=>by
  obtain ⟨g',o',e',hc',hg'⟩:=hp i hi
  exact ⟨g',o',e',(hk.cell (p:=⟨g',_,none⟩) hg').trans hc',Nat.lt_of_lt_of_le hg' hk.size⟩))
 unfold ndV v7g at O
 unfold ndV nright
 simp only at O
 replace O:=hiT O
 rw [if_neg h0,if_neg omT]
 clear hp
 have b0:(n.op == 0) = false:=beq_eq_false_iff_ne.mpr h0
 have b16:(n.op == 16) = false:=beq_eq_false_iff_ne.mpr h16
 have b17:(n.op == 17) = false:=beq_eq_false_iff_ne.mpr h17
 clear h0 h16 h17
 generalize ps.length = c at *
 generalize ps.getD 0 0 = p0 at *
 generalize ps.getD 1 0 = p1 at *
 by_cases h1:1 ≤ n.op
 ·by_cases h2:n.op ≤ 15
  ·rw [if_pos ⟨h1,h2⟩]
   go_enter Tryz.func243,Tryz.ntmps243
   go_wp2_with ((with_reducible refine ((O.out _ gzT).out).mono ?_);intro e w1 hr;obtain ⟨rfl,p,rfl⟩:=hr.out;clear hr)
   all_goals
    go_returns
    refine ⟨z3u ?_,gzT⟩
    first | (simp [*];done) | (simp_all;done) | (rw [show decide (0 ≤ n.n) = false from decide_eq_false omT];simp [*];done)
  ·rw [if_neg (fun h=>h2 h.2)]
   go_enter Tryz.func243,Tryz.ntmps243
   go_wp2_with ((with_reducible refine ((O.out _ gzT).out).mono ?_);intro e w1 hr;obtain ⟨rfl,p,rfl⟩:=hr.out;clear hr)
   go_returns
   exact ⟨rfl,gzT⟩
 ·rw [if_neg (fun h=>h1 h.1)]
  go_enter Tryz.func243,Tryz.ntmps243
  go_wp2_with ((with_reducible refine ((O.out _ gzT).out).mono ?_);intro e w1 hr;obtain ⟨rfl,p,rfl⟩:=hr.out;clear hr)
  go_returns
  exact ⟨rfl,gzT⟩
set_option maxRecDepth 100000 in
set_option maxHeartbeats 4000000 in
theorem y6b (n:Nd) (ao:Option Addr) (cap:Nat) (h0:n.op = 0) (hs:n.s.length ≤ 140737488351232) (w:World) :
  Calls Tryz.prog 243 #[ndV n,.slice ao 0 cap] w (Ret (.bool (nright n [])) w):=by
 have O:=fun wx=>hiT (z5x 0 ao cap [] (by simp) wx (fun i hi=>absurd hi (Nat.not_lt_zero _)))
 have R:=fun wx=>hiT (k3a n.k n.n ⟨n.s.toArray⟩ wx (by unfold maxLen;rw [Lib.size_eq];simp;omega))
 unfold ndV v7g at O
 unfold ndV nright
 simp only [List.getD_nil,List.length_nil] at O
 rw [h0,if_pos rfl]
 generalize z5n n.k n.n ⟨n.s.toArray⟩ = b at *
 replace O:=hiT O
 replace R:=hiT R
 by_cases hn:0 ≤ n.n
 ·cases b
  all_goals
   go_enter Tryz.func243,Tryz.ntmps243
   go_wp2_with (first | ((with_reducible refine ((O.out _).out).mono ?_);intro e w1 hr;obtain ⟨rfl,p,rfl⟩:=hr.out;clear hr) | ((with_reducible refine ((R.out _).out).mono ?_);intro e w1 hr;obtain ⟨rfl,p,rfl⟩:=hr.out;clear hr))
   all_goals
    go_returns
    refine ⟨z3u ?_,gzT⟩
    first | (simp [*];done) | (simp_all;done) | (rw [show decide (0 ≤ n.n) = false from decide_eq_false omT];simp [*];done)
 ·cases b
  all_goals
   go_enter Tryz.func243,Tryz.ntmps243
   go_wp2_with (first | ((with_reducible refine ((O.out _).out).mono ?_);intro e w1 hr;obtain ⟨rfl,p,rfl⟩:=hr.out;clear hr) | ((with_reducible refine ((R.out _).out).mono ?_);intro e w1 hr;obtain ⟨rfl,p,rfl⟩:=hr.out;clear hr))
   all_goals
    go_returns
    refine ⟨z3u ?_,gzT⟩
    first | (simp [*];done) | (simp_all;done) | (rw [show decide (0 ≤ n.n) = false from decide_eq_false omT];simp [*];done)
set_option maxRecDepth 100000 in
set_option maxHeartbeats 4000000 in
theorem j9y (n:Nd) (ao:Option Addr) (cap:Nat) (h0:n.op = 16 ∨ n.op = 17) (hs:n.name.length ≤ 140737488351232) (w:World) (hw:Lb w) :
  Calls Tryz.prog 243 #[ndV n,.slice ao 0 cap] w (Ret (.bool (nright n [])) w):=by
 have O:=fun wx=>hiT (z5x n.op ao cap [] (by simp) wx (fun i hi=>absurd hi (Nat.not_lt_zero _)))
 have N:=fun wx h=>hiT (j8c ⟨n.name.toArray⟩ (by rw [Lib.size_eq];simpa using hs) wx (z1v hw h))
 simp only at N
 unfold ndV v7g at O
 unfold ndV nright
 simp only [List.getD_nil,List.length_nil] at O
 rw [if_neg omT,if_pos h0]
 generalize nmB n.name = b at *
 replace O:=hiT O
 replace N:=hiT N
 clear hw
 rcases h0 with h0 | h0
 all_goals
  rw [h0] at O ⊢
  cases b
  all_goals
   go_enter Tryz.func243,Tryz.ntmps243
   go_wp2_with (first | ((with_reducible refine ((O.out _).out).mono ?_);intro e w1 hr;obtain ⟨rfl,p,rfl⟩:=hr.out;clear hr) | ((with_reducible refine ((N.out _ gzT).out).mono ?_);intro e w1 hr;obtain ⟨rfl,p,rfl⟩:=hr.out;clear hr))
   all_goals
    go_returns
    refine ⟨z3u ?_,gzT⟩
    first | (simp [*];done) | (simp_all;done) | (rw [show decide (0 ≤ n.n) = false from decide_eq_false omT];simp [*];done)
theorem y6a (n:Nd) (ao:Option Addr) (cap:Nat) (ps:List Int) (hl:ps.length = cnt n.op) (hs:n.s.length ≤ 140737488351232) (hm:n.name.length ≤ 140737488351232) (w:World) (hp:Ints w ao ps) (hw:Lb w) :
  Calls Tryz.prog 243 #[ndV n,.slice ao ps.length cap] w (Ret (.bool (nright n ps)) w):=by
 by_cases h0:n.op = 0
 ·have:ps = []:=List.eq_nil_of_length_eq_zero (by rw [hl,h0];rfl)
  subst this
  exact y6b n ao cap h0 hs w
 ·by_cases h1:n.op = 16 ∨ n.op = 17
  ·have:ps = []:=List.eq_nil_of_length_eq_zero (by rw [hl];rcases h1 with h | h <;> rw [h] <;> rfl)
   subst this
   exact j9y n ao cap h1 hm w hw
  ·exact k1y n ao cap ps h0 (fun h=>h1 (.inl h)) (fun h=>h1 (.inr h)) (by
    rw [hl]
    unfold cnt
    (repeat' split) <;> omega) w hp
def z5d:Nat → List Nat → List Nd → Bool
 | _,op,[]=>op.length == 1
 | i,op,n :: r=>if op.length < cnt n.op then false else if nright n ((op.take (cnt n.op)).reverse.map fun (p:Nat)=>(p:Int)) then z5d (i + 1) (i :: op.drop (cnt n.op)) r else false
def z5t (ns:List Nd):Bool:=if z7d ns ≠ 0 then false else z5d 0 [] ns
theorem j1n {w:World} {B e s n k oc:Nat} {oa:Option Addr} {xs:List Value} (h:w.ownsRow B e s (.slice oa n oc) n xs) (hk:k ≤ n):w.ownsRow B e s (.slice oa k oc) k (xs.take (k * s)):=by
 rcases h.2 with ⟨hv,hn⟩ | ⟨g,cap,cur,hv,_⟩
 ·cases hv
  obtain rfl:k = 0:=by omega
  rw [Nat.zero_mul,List.take_zero]
  exact World.ownsRow_nil _ _ _ _
 ·cases hv
  exact q3n h hk
theorem y6u {i:Nat} {op:List Nat} {n:Nd} {r:List Nd} (h:op.length < cnt n.op):z5d i op (n :: r) = false:=by rw [z5d,if_pos h]
theorem k2z {i:Nat} {op:List Nat} {n:Nd} {r:List Nd} (h:¬ op.length < cnt n.op) (hr:nright n ((op.take (cnt n.op)).reverse.map fun (p:Nat)=>(p:Int)) = false):z5d i op (n :: r) = false:=by rw [z5d,if_neg h,hr];rfl
theorem k2y {i:Nat} {op:List Nat} {n:Nd} {r:List Nd} (h:¬ op.length < cnt n.op) (hr:nright n ((op.take (cnt n.op)).reverse.map fun (p:Nat)=>(p:Int)) = true):z5d i op (n :: r) = z5d (i + 1) (i :: op.drop (cnt n.op)) r:=by rw [z5d,if_neg h,hr];rfl
theorem y6i {w:World} {B e oc:Nat} {oa:Option Addr} {l:List Nat} {c f:Nat} (hf:f + c = l.length) (h:w.ownsRow B e 1 (.slice oa l.length oc) l.length (z1h l.reverse)) (h0:0 < c) :
  ∃ g,oa = some ⟨g,0,none⟩ ∧ f + c ≤ oc ∧ Ints w (some ⟨g,f,none⟩) ((l.take c).reverse.map fun (p:Nat)=>(p:Int)):=by
 obtain ⟨g,cap,hv,hg,hcap,_,hc⟩:=z1g h omT
 cases hv
 exact ⟨g,rfl,by omega,j6y hf hc hg⟩
end Go.Proofs.YtacnlghljmgdiaaGreatDoor
