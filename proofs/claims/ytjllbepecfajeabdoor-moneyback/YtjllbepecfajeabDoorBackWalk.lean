import Derived.Test.YtjllbepecfajeabDoorBack1o
import Derived.Test.YtjllbepecfajeabDoorBack1f
import Derived.Test.YtjllbepecfajeabDoorBack2o
import Derived.Test.YtjllbepecfajeabDoorBack2f
namespace Go.Proofs.YtjllbepecfajeabDoor
open Go.RowKit

theorem back_walk (k0 n0 k1 n1 : Int) (w : World) (hK : Kinds w) :
    Calls Tryd.prog 8 #[.agg #[.int .i64 k0, .int .i64 n0], .agg #[.int .i64 k1, .int .i64 n1]] w fun e w' => e = .returned (.bool true) ∧ Below w.heap.size w w' := by
  cases hv0 : M.valid k0 n0 with
  | false => exact back_v0 k0 n0 k1 n1 w hK hv0
  | true =>
    cases hv1 : M.valid k1 n1 with
    | false => exact back_v1 k0 n0 k1 n1 w hK hv0 hv1
    | true =>
      by_cases hk : k0 = k1
      · subst hk
        by_cases h1 : k0 = 1
        · subst h1
          cases hs : M.valid 1 (n0 + n1) with
          | false => exact back_1_over n0 n1 w hK hv0 hv1 hs
          | true => exact back_1_fits n0 n1 w hK hv0 hv1 hs
        · by_cases h2 : k0 = 2
          · subst h2
            cases hs : M.valid 2 (n0 + n1) with
            | false => exact back_2_over n0 n1 w hK hv0 hv1 hs
            | true => exact back_2_fits n0 n1 w hK hv0 hv1 hs
          · exact back_12 k0 n0 n1 w hK hv0 hv1 (by simpa using h1) (by simpa using h2)
      · exact back_kk k0 n0 k1 n1 w hK hv0 hv1 (by simpa using hk)

end Go.Proofs.YtjllbepecfajeabDoor
