import Derived.Test.YtjllbepecfajeabDoorBack
import Derived.Test.YtjllbepecfajeabDoorDivided
namespace Go.Proofs.YtjllbepecfajeabDoor
open Go.RowKit

theorem add_v (k0 n0 k1 n1 : Int) (w : World) (hK : Kinds w) (x y : Int) (hr : Hid (((x, y) : Int × Int) = M.ans (M.refuse (takesB k0 1) k0 n0 [(k1, n1)]) (M.fit true k0 (wrap64 (n0 + n1))))) :
    Calls Tryd.prog 19 #[.agg #[.int .i64 k0, .int .i64 n0], .agg #[.int .i64 k1, .int .i64 n1]] w fun e w' => e = .returned (.agg #[.int .i64 x, .int .i64 y]) ∧ Below w.heap.size w w' := add_any k0 n0 k1 n1 w hK (x, y) hr
theorem sub_v (k0 n0 k1 n1 : Int) (w : World) (hK : Kinds w) (x y : Int) (hr : Hid (((x, y) : Int × Int) = M.ans (M.refuse (takesB k0 1) k0 n0 [(k1, n1)]) (M.fit true k0 (wrap64 (n0 - n1))))) :
    Calls Tryd.prog 22 #[.agg #[.int .i64 k0, .int .i64 n0], .agg #[.int .i64 k1, .int .i64 n1]] w fun e w' => e = .returned (.agg #[.int .i64 x, .int .i64 y]) ∧ Below w.heap.size w w' := sub_any k0 n0 k1 n1 w hK (x, y) hr
theorem neg_v (k0 n0 : Int) (w : World) (hK : Kinds w) (x y : Int) (hr : Hid (((x, y) : Int × Int) = M.ans (M.refuse (takesB k0 1) k0 n0 []) (M.fit true k0 (wrap64 (-n0))))) :
    Calls Tryd.prog 21 #[.agg #[.int .i64 k0, .int .i64 n0]] w fun e w' => e = .returned (.agg #[.int .i64 x, .int .i64 y]) ∧ Below w.heap.size w w' := neg_any k0 n0 w hK (x, y) hr
theorem min_v (k0 n0 k1 n1 : Int) (w : World) (hK : Kinds w) (m : Int) (hm : (n1 < n0 ∧ m = n1) ∨ (¬ n1 < n0 ∧ m = n0)) (hr : Hid (((k0, m) : Int × Int) = M.ans (M.refuse (takesB k0 2) k0 n0 [(k1, n1)]) (M.fit true k0 m))) :
    Calls Tryd.prog 23 #[.agg #[.int .i64 k0, .int .i64 n0], .agg #[.int .i64 k1, .int .i64 n1]] w fun e w' => e = .returned (.agg #[.int .i64 k0, .int .i64 m]) ∧ Below w.heap.size w w' := min_any k0 n0 k1 n1 w hK m hm (k0, m) hr
theorem max_v (k0 n0 k1 n1 : Int) (w : World) (hK : Kinds w) (m : Int) (hm : (n0 < n1 ∧ m = n1) ∨ (¬ n0 < n1 ∧ m = n0)) (hr : Hid (((k0, m) : Int × Int) = M.ans (M.refuse (takesB k0 2) k0 n0 [(k1, n1)]) (M.fit true k0 m))) :
    Calls Tryd.prog 24 #[.agg #[.int .i64 k0, .int .i64 n0], .agg #[.int .i64 k1, .int .i64 n1]] w fun e w' => e = .returned (.agg #[.int .i64 k0, .int .i64 m]) ∧ Below w.heap.size w w' := max_any k0 n0 k1 n1 w hK m hm (k0, m) hr

end Go.Proofs.YtjllbepecfajeabDoor
