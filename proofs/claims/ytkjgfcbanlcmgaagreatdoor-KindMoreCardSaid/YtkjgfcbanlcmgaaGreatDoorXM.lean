/- Plain: further names behind a scope's own leave each kind that there is. No program. -/
import Derived.Test.YtkjgfcbanlcmgaaGreatDoorXO
namespace Go.Proofs.YtkjgfcbanlcmgaaGreatDoor
theorem findV_more {ws : List (ByteArray × Int)} {x : ByteArray} {k : Int} : ∀ vs : List (ByteArray × Int), findV vs x = some k → findV (vs ++ ws) x = some k
  | [], h => by cases h
  | (s, j) :: r, h => by
    rw [findV] at h
    rw [List.cons_append, findV]
    split at h
    · rename_i hs
      rw [if_pos hs]
      exact h
    · rename_i hs
      rw [if_neg hs]
      exact findV_more r h
theorem hasB_more {ss ts : List ByteArray} {x : ByteArray} (h : hasB ss x = true) : hasB (ss ++ ts) x = true := by
  unfold hasB at *
  rw [List.any_append, h, Bool.true_or]
theorem ownR_more {vs ws : List (ByteArray × Int)} {ss ts : List ByteArray} {n : Nd} {a b k : Int} (h : ownR vs ss n a b = .ok k) : ownR (vs ++ ws) (ss ++ ts) n a b = .ok k := by
  unfold ownR at h ⊢
  split at h
  · rename_i h0
    rw [if_pos h0]
    exact h
  · rename_i h0
    rw [if_neg h0]
    split at h
    · rename_i h16
      rw [if_pos h16]
      split at h
      · rename_i j hj
        rw [findV_more vs hj]
        exact h
      · cases h
    · rename_i h16
      rw [if_neg h16]
      split at h
      · rename_i h17
        rw [if_pos h17]
        split at h
        · rename_i hs
          rw [hasB_more hs, if_pos rfl]
          exact h
        · cases h
      · rename_i h17
        rw [if_neg h17]
        exact h
theorem linK_more {own own' : Nd → Int → Int → Except Int Int} (h : ∀ n a b k, own n a b = .ok k → own' n a b = .ok k) : ∀ (ns : List Nd) (ks r : List Int), linK own ks ns = .ok r → linK own' ks ns = .ok r
  | [], ks, r, hr => hr
  | n :: ns, ks, r, hr => by
    rw [linK] at hr ⊢
    split at hr
    · cases hr
    · rename_i k hk
      rw [h _ _ _ _ hk]
      exact linK_more h ns _ _ hr
end Go.Proofs.YtkjgfcbanlcmgaaGreatDoor

