/- Several texts of this proof, joined: PJ, PK, PN, PP, PQ. -/
import Derived.Test.YtpgibloeinphaaaGreatDoorW2
import Derived.Test.YtpgibloeinphaaaGreatDoorV3
import Derived.Test.YtpgibloeinphaaaGreatDoorV2
import Derived.Test.YtpgibloeinphaaaGreatDoorY9
import Derived.WalkKit
import Derived.ProofKit
import Derived.OpenShut
import Derived.Handy
import Derived.BigQuiet
import Derived.OwnWalk
import Derived.Deep.AppendLies
import Derived.Lib.Hide
import Derived.WalkSmall
import Derived.WalkLawsBesides
import Derived.Test.YtpgibloeinphaaaGreatDoorJ1
import Derived.Lib.MakeNoZero
import Derived.Test.YtpgibloeinphaaaGreatDoorZ7
import Derived.Test.YtpgibloeinphaaaGreatDoorShelf3
import Derived.Test.YtpgibloeinphaaaGreatDoorY1
import Derived.Test.YtpgibloeinphaaaGreatDoorY2
import Derived.Lib.Join
import Derived.Test.YtpgibloeinphaaaGreatDoorP2
import Derived.Deep.RegionHeld3
import Derived.Test.YtpgibloeinphaaaGreatDoorP4
import Derived.Test.YtpgibloeinphaaaGreatDoorP1
import Derived.Test.YtpgibloeinphaaaGreatDoorW3
import Derived.Test.YtpgibloeinphaaaGreatDoorShelf
import Derived.Test.YtpgibloeinphaaaGreatDoorZ4
import Derived.Test.YtpgibloeinphaaaGreatDoorZ1
import Derived.Test.YtpgibloeinphaaaGreatDoorZ2
import Derived.Lib.Strings
import Derived.Lib.AppendIntMem
namespace Go.Proofs.YtpgibloeinphaaaGreatDoor
open Go.RowKit
theorem sub_self (e : ExT) : SubE (flatE 0 e) 0 e := ⟨by rw [flatE_len,Nat.zero_add];exact Nat.le_refl _,fun j _ => by rw [Nat.zero_add]⟩
end Go.Proofs.YtpgibloeinphaaaGreatDoor
namespace Go.Proofs.YtpgibloeinphaaaGreatDoor
open Go.RowKit
def bytL (l : List UInt8) : ByteArray := ⟨l.toArray⟩
end Go.Proofs.YtpgibloeinphaaaGreatDoor
namespace Go.Proofs.YtpgibloeinphaaaGreatDoor
theorem tok_word_len {l : List UInt8} {k : Int} {t : List UInt8} {n : Int} {z : Nat} (hk : k = 1 ∨ k = 2) (h : tokT l = .ok (k,t,n,z)) : t.length ≤ 32 := by
 cases l with
 | nil => cases h
 | cons c r =>
  rw [tokT] at h
  split at h
  ·unfold wordT at h
   simp only at h
   split at h
   ·cases h
   ·rename_i hlen
    simp only [Except.ok.injEq,Prod.mk.injEq] at h
    obtain ⟨_,rfl,_,_⟩ := h
    simp only [Bool.or_eq_true,decide_eq_true_eq,not_or] at hlen
    omega
  ·split at h
   ·obtain ⟨hk',_⟩ := num_full h
    omega
   ·split at h
    ·rename_i hc
     obtain ⟨hk',_⟩ := quo_full hc h
     omega
    ·obtain ⟨hk',_⟩ := sgn_full h
     omega
theorem alone_len {s : List UInt8} (h : aloneK s = 1 ∨ aloneK s = 2) : s.length ≤ 32 := by
 unfold aloneK at h
 split at h
 ·rename_i t ht
  split at h
  ·rename_i hs
   obtain ⟨l',z,hz⟩ := lexT_good ht t (by simp)
   rw [← hs]
   exact tok_word_len h hz
  ·omega
 ·omega
theorem named_len {ev : Bool} {s : List UInt8} (h : namedB ev s = true) : s.length ≤ 32 := alone_len (named_kind h).1
end Go.Proofs.YtpgibloeinphaaaGreatDoor
namespace Go.Proofs.YtpgibloeinphaaaGreatDoor
open Go.RowKit
structure TrX (x : LnX) : Prop where
 kind : x.kind = 10 ∧ x.event ≠ [] ∨ x.kind = 11 ∧ x.event = []
 ok : OkTr x
 ev : x.event.length ≤ 32
theorem trX_of {x : LnX} (ok : OkL x) (hk : x.kind = 10 ∨ x.kind = 11) : TrX x := by
 rcases ok.has with ⟨k,hx⟩ | ⟨k,hx,hne,hA⟩ | ⟨k,hx,hev,hT'⟩ | ⟨k,hx,hT'⟩ | ⟨k,hx,hn,hv⟩ | ⟨k,hx,hn,hs⟩ | ⟨k,hx,hn,hs⟩ | ⟨k,hx,hn⟩
 ·omega
 ·omega
 ·refine ⟨.inl ⟨k,?_⟩,hT',?_⟩
  ·rcases hev with e | e
   ·rw [e];simp
   ·exact named_ne e
  ·rcases hev with e | e
   ·rw [e];decide
   ·exact named_len e
 ·have : x.event = [] := by rw [hx];rfl
  exact ⟨.inr ⟨k,this⟩,hT',by rw [this];decide⟩
 ·omega
 ·omega
 ·omega
 ·omega
end Go.Proofs.YtpgibloeinphaaaGreatDoor
namespace Go.Proofs.YtpgibloeinphaaaGreatDoor
open Go.RowKit
theorem bytL_list (l : List UInt8) : (bytL l).data.toList = l := rfl
theorem bytL_size (l : List UInt8) : (bytL l).size = l.length := by
 rw [Lib.size_eq,bytL_list]
theorem acts_ok {x : LnX} (ok : OkL x) (h : x.kind = 8 ∨ x.kind = 9) : x.acts ≠ [] ∧ OkAs x.acts := by
 rcases ok.has with ⟨k,hx⟩ | ⟨k,hx,hne,hA⟩ | ⟨k,hx,hev,hT'⟩ | ⟨k,hx,hT'⟩ | ⟨k,hx,hn,hv⟩ | ⟨k,hx,hn,hs⟩ | ⟨k,hx,hn,hs⟩ | ⟨k,hx,hn⟩
 all_goals first
 | omega
 | exact ⟨hne,hA⟩
end Go.Proofs.YtpgibloeinphaaaGreatDoor
