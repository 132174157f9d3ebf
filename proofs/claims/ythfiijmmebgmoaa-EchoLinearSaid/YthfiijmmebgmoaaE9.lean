/- Words for arguments that are bytes; own lemmas of the verifier, no statement is proved here. -/
import Derived.Test.YthfiijmmebgmoaaE7
namespace Go.Proofs.Ythfiijmmebgmoaa
open Go.RowKit
/-- A byte that came in. -/
theorem byte_arg {a : Int} (h : (Lit.int .u8 a).wf = true) : ∃ n : Nat, a = n ∧ n < 256 := by
  simp only [Lit.wf, IntKind.min, IntKind.max, IntKind.bits, IntKind.signed] at h
  simp at h
  exact ⟨a.toNat, by omega, by omega⟩
theorem Rd.drewN {w : World} {B n : Nat} {A : Option Addr} {bs : List UInt8} (h : Rd w B A n bs) (m : Nat) : Rd (w.drewN m) B A n bs := ⟨h.len, h.at_⟩
end Go.Proofs.Ythfiijmmebgmoaa
