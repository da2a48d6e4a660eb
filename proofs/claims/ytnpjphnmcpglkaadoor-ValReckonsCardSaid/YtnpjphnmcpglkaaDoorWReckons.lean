import Derived.Test.YtnpjphnmcpglkaaDoorWRkNo
import Derived.Test.YtnpjphnmcpglkaaDoorWRk2
import Derived.Test.YtnpjphnmcpglkaaDoorWRk1
import Derived.WalkKit
import Derived.ProofKit
import Derived.OpenShut
import Derived.Handy
import Derived.BigQuiet
import Derived.Lib.Hide
import Derived.Deep.DeepCutAuto
import Derived.Deep.RegionHeld3
import Derived.Lib.Strings
import Derived.WalkLawsBesides
namespace Go.Proofs.YtnpjphnmcpglkaaDoor
open Go.RowKit
theorem reckons_walk (op ka na : Int) (sa : ByteArray) (kb nb : Int) (sb : ByteArray) (_Io : I64 op) (Ia : I64 na) (Ib : I64 nb) (za : sa.size ≤ maxLen) (zb : sb.size ≤ maxLen) (w : World) :
    Calls Tryd.prog 3 #[.int .i64 op, .agg #[.int .i64 ka, .int .i64 na, .string sa], .agg #[.int .i64 kb, .int .i64 nb, .string sb]] w (Ret (.bool true) w) := by
  by_cases h : rightB ka na sa = true ∧ rightB kb nb sb = true
  · obtain ⟨ra, rb⟩ := h
    rcases hr : resB op ka kb
    · exact reckons_bad op ka na sa kb nb sb za zb ra rb hr w
    · rcases ho : aloneB op
      · have o1 : (op == 1) = false := by simp [aloneB] at ho; simpa using ho.1
        have o2 : (op == 2) = false := by simp [aloneB] at ho; simpa using ho.2
        exact reckons_two op ka na sa kb nb sb (rk op ka na sa nb sb) (resK op ka kb) za zb ra rb o1 o2
          (fun g wx h0 h1 h2 h3 => reckon2_any op ka na sa kb nb sb ra rb Ia Ib ho hr g wx h0 h1 h2 h3) (fun wx => reckon1_two op ka na sa ho wx)
          (fun wx => rreckon_any op ka na sa kb nb sb ra (fun _ => rb) Ia Ib hr wx) (fun wx => rresult_any op ka kb wx) (fun wx => result_t hr wx)
          (resK_ne ra hr) (rk_good op ka na sa kb nb sb ra (fun _ => rb) hr) w
      · have ho' : op = 1 ∨ op = 2 := by simpa [aloneB] using ho
        exact reckons_one op ka na sa kb nb sb (rk op ka na sa nb sb) (resK op ka kb) za zb ra rb ho'
          (fun g wx _ _ _ _ => reckon2_alone op ka na sa ho g wx) (fun wx => reckon1_any op ka na sa kb nb sb ra Ia ho hr wx)
          (fun wx => rreckon_any op ka na sa kb nb sb ra (fun _ => rb) Ia Ib hr wx) (fun wx => rresult_any op ka kb wx) (fun wx => result_t hr wx)
          (resK_ne ra hr) (rk_good op ka na sa kb nb sb ra (fun _ => rb) hr) w
  · exact reckons_no op ka na sa kb nb sb za zb h w
end Go.Proofs.YtnpjphnmcpglkaaDoor
