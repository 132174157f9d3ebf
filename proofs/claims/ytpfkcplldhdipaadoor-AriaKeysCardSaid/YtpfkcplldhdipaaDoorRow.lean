/- A slice of bytes that came in, and bounds of numbers; own lemmas of the verifier, no statement is proved here. -/
import Derived.Test.YtpfkcplldhdipaaDoorMem
import Derived.OpenShut
namespace Go.Proofs.YtpfkcplldhdipaaDoor
open Go.RowKit
theorem wf_u32 {a : Int} (h : (Lit.int .u32 a).wf = true) : 0 ≤ a ∧ a < 4294967296 := by
  have := h; simp [Lit.wf, IntKind.min, IntKind.max, IntKind.bits, IntKind.signed] at this; omega
theorem wf_u8' {a : Int} (h : (Lit.int .u8 a).wf = true) : 0 ≤ a ∧ a < 256 := by
  have := h; simp [Lit.wf, IntKind.min, IntKind.max, IntKind.bits, IntKind.signed] at this; omega
theorem wf_u64 {a : Int} (h : (Lit.int .u64 a).wf = true) : 0 ≤ a ∧ a < 18446744073709551616 := by
  have := h; simp [Lit.wf, IntKind.min, IntKind.max, IntKind.bits, IntKind.signed] at this; omega
theorem wf_i64 {a : Int} (h : (Lit.int .i64 a).wf = true) : -9223372036854775808 ≤ a ∧ a ≤ 9223372036854775807 := by
  have := h; simp [Lit.wf, IntKind.min, IntKind.max, IntKind.bits, IntKind.signed] at this; omega
/-- A slice of bytes that came in. -/
def IsRow (k : IntKind) (w : World) (a : Option Addr) (len cap : Nat) (zs : List Int) : Prop :=
  (a = none ∧ len = 0 ∧ cap = 0 ∧ zs = []) ∨
  ∃ x, a = some x ∧ len ≤ cap ∧ cap ≤ maxLen ∧ zs.length = cap ∧ (∀ i, i < zs.length → w.cell? (x.add i) = some (.int k (zs.getD i 0))) ∧ ∀ n ∈ zs, (Lit.int k n).wf = true
theorem IsRow.rd {w : World} {a : Option Addr} {len cap : Nat} {zs : List Int} (h : IsRow .u8 w a len cap zs) : ∃ bs, Rd w w.heap.size a len bs ∧ len ≤ maxLen := by
  rcases h with ⟨rfl, rfl, rfl, rfl⟩ | ⟨x, rfl, h1, h2, h3, hc, hw⟩
  · exact ⟨[], Rd.nil _ _ _, by simp⟩
  · refine ⟨(zs.take len).map u8, ⟨by simp; omega, fun hp => ?_⟩, by omega⟩
    obtain ⟨b, off, spot⟩ := x
    have hc0 := hc 0 (by omega)
    have hspot : spot = none := by simpa [Addr.add] using World.cell?_spot hc0
    subst hspot
    refine ⟨b, off, rfl, ?_, fun k hk => ?_⟩
    · have := World.block_lt_of_cell? w _ hc0
      rwa [add_off] at this
    · have := hc k (by omega)
      rw [add_off] at this
      rw [this]
      have hm : zs.getD k 0 ∈ zs := by
        have hkl : k < zs.length := by omega
        simp [List.getD, List.getElem?_eq_getElem hkl]
      have hwf := wf_u8' (hw _ hm)
      have e : byteAt ((zs.take len).map u8) k = zs.getD k 0 := by
        unfold byteAt
        have hkl : k < ((zs.take len).map u8).length := by simp; omega
        have e1 : ((zs.take len).map u8).getD k 0 = u8 (zs.getD k 0) := by
          simp [List.getD, List.getElem?_map, hk, List.getElem?_eq_getElem (show k < zs.length by omega)]
        rw [e1, u8_toNat]; omega
      rw [e]
theorem IsRow.rdc {w : World} {a : Option Addr} {len cap : Nat} {zs : List Int} (h : IsRow .u8 w a len cap zs) : ∃ bs, Rd w w.heap.size a len bs ∧ len ≤ maxLen ∧ len ≤ cap := by
  obtain ⟨bs, h1, h2⟩ := h.rd
  refine ⟨bs, h1, h2, ?_⟩
  rcases h with ⟨_, rfl, rfl, _⟩ | ⟨x, _, h3, _⟩
  · exact Nat.le_refl _
  · exact h3
end Go.Proofs.YtpfkcplldhdipaaDoor
