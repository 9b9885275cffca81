import Derived.Test.YtjgngmmepheioaaPkQ4
namespace Go.Proofs.Ytjgngmmepheioaa
open Go.RowKit

theorem or_facts : bits .or .u8 0 1 = 1 ∧ bits .or .u8 0 2 = 2 ∧ bits .or .u8 0 4 = 4 ∧ bits .or .u8 0 8 = 8 ∧ bits .or .u8 1 2 = 3 ∧ bits .or .u8 1 4 = 5 ∧ bits .or .u8 1 8 = 9 ∧ bits .or .u8 2 4 = 6 ∧ bits .or .u8 2 8 = 10 ∧ bits .or .u8 3 4 = 7 ∧ bits .or .u8 3 8 = 11 ∧ bits .or .u8 4 8 = 12 ∧ bits .or .u8 5 8 = 13 ∧ bits .or .u8 6 8 = 14 ∧ bits .or .u8 7 8 = 15 := by decide
end Go.Proofs.Ytjgngmmepheioaa
