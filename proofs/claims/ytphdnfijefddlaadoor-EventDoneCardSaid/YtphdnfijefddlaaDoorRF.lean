import Derived.Test.YtphdnfijefddlaaDoorNU
import Derived.Test.YtphdnfijefddlaaDoorShelf
import Derived.Test.YtphdnfijefddlaaDoorDG
import Derived.Test.YtphdnfijefddlaaDoorS1
import Derived.Test.YtphdnfijefddlaaDoorChecked
import Derived.Test.YtphdnfijefddlaaDoorG0
import Derived.Test.YtphdnfijefddlaaDoorNum
import Derived.WalkKit
import Derived.ProofKit
import Derived.OpenShut
import Derived.Handy
import Derived.BigQuiet
import Derived.Lib.Hide
import Derived.WalkLawsBesides
import Derived.Test.YtphdnfijefddlaaDoorE
import Derived.Lib.Strings
import Derived.Lib.AppendIntMem
import Derived.WalkSmall
import Derived.Test.YtphdnfijefddlaaDoorPI
import Derived.Lib.AtoiErrMem
namespace Go.Proofs.YtphdnfijefddlaaDoor
open Go.RowKit
theorem itoaS_inj {m n : Int} (hm : I64 m) (hn : I64 n) (h : itoaS m = itoaS n) : m = n := by
  have h1 := parse_itoa m hm
  have h2 := parse_itoa n hn
  have e : Lib.itoa m = Lib.itoa n := by
    have := congrArg (fun x : ByteArray => x.data.toList) h
    simpa [itoaS] using this
  rw [e, h2] at h1
  exact (Lib.NumEnd.ok.inj h1).symm
theorem number_shown (n : Int) (hn : I64 n) (s : ByteArray) (hs : s.size ≤ 9223372036854775000) (e : s = itoaS n) (w : World) : Calls Tryd.prog 45 #[.string s] w (Ret (.tuple #[.int .i64 n, .bool true]) w) :=
  (number_any s hs w).mono fun e' w' ⟨v, b, he, hv, ht, hf, hb⟩ => by
    cases b
    · exact absurd e (hf rfl n hn)
    · have h := itoaS_inj hv hn ((ht rfl).trans e)
      subst h
      exact ⟨he, hb⟩
def NoneIs (w : World) (e : Ending) (w' : World) : Prop := ∃ v, e = .returned (.tuple #[.int .i64 v, .bool false]) ∧ Below w.heap.size w w'
theorem NoneIs.out {w : World} {e : Ending} {w' : World} (h : NoneIs w e w') : ∃ v p, e = .returned (.tuple #[.int .i64 v, .bool false]) ∧ w' = G p w := by
  obtain ⟨v, he, hb⟩ := h
  obtain ⟨p, hp⟩ := toG hb
  exact ⟨v, p, he, hp⟩
theorem number_none (s : ByteArray) (hs : s.size ≤ 9223372036854775000) (h : ∀ n, I64 n → s ≠ itoaS n) (w : World) : Calls Tryd.prog 45 #[.string s] w (NoneIs w) :=
  (number_any s hs w).mono fun e' w' ⟨v, b, he, hv, ht, hf, hb⟩ => by
    cases b
    · exact ⟨v, he, hb⟩
    · exact absurd (ht rfl).symm (h v hv)
end Go.Proofs.YtphdnfijefddlaaDoor

