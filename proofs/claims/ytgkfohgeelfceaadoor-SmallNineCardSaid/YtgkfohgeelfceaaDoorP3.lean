/- The three of noughts; own lemmas of the verifier, no statement is proved here. -/
import Derived.Test.YtgkfohgeelfceaaDoorX12
import Derived.Test.YtgkfohgeelfceaaDoorP2
namespace Go.Proofs.YtgkfohgeelfceaaDoor
open Go.RowKit
theorem zx : blockL .x (List.replicate 16 0) false (List.replicate 8 0) ≠ List.replicate 8 0 := by decide +kernel
theorem zm : blockL .m (List.replicate 32 0) false (List.replicate 8 0) ≠ List.replicate 8 0 := by decide +kernel
theorem zr : blockL .r (List.replicate 16 0) false (List.replicate 8 0) ≠ List.replicate 8 0 := by decide +kernel
theorem zne (k : Nat) (h : k < 3) : blockL (T3.at k) (List.replicate (T3.at k).size 0) false (List.replicate 8 0) ≠ List.replicate 8 0 := by
  match k, h with
  | 0, _ => exact zx
  | 1, _ => exact zm
  | 2, _ => exact zr
end Go.Proofs.YtgkfohgeelfceaaDoor
