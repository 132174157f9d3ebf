/- Plain facts on keys whose halves are of one bit, and on the block of noughts; own text of the verifier, no statement is proved here. -/
import Derived.Test.YthfcndaccfpnmaaDoorF2
namespace Go.Proofs.YthfcndaccfpnmaaDoor
open Go.RowKit
/-- Of a key whose halves are each of one bit the turned bits are always the same. -/
theorem rotL_mem_iff {l : List Int} {k : Nat} {t : Int} (h : t ∈ rotL l k) : t ∈ l := rotL_mem h
theorem tabP_halves : ∀ i, (∀ t ∈ (tabP i).take 28, t ∈ c1L.take 28) ∧ (∀ t ∈ (tabP i).drop 28, t ∈ c1L.drop 28)
  | 0 => ⟨fun _ h => h, fun _ h => h⟩
  | i + 1 => by
    have ih := tabP_halves i
    have hl := tabP_len i
    have hb := byOf_le i
    have h1 : (rotL ((tabP i).take 28) (byOf i)).length = 28 := by rw [rotL_len _ _ (by simp; omega)]; simp; omega
    have e : tabP (i + 1) = rotL ((tabP i).take 28) (byOf i) ++ rotL ((tabP i).drop 28) (byOf i) := rfl
    refine ⟨fun t ht => ?_, fun t ht => ?_⟩
    · rw [e, List.take_left' h1] at ht
      exact ih.1 t (rotL_mem ht)
    · rw [e, List.drop_left' h1] at ht
      exact ih.2 t (rotL_mem ht)
theorem half_bit {ts : List Int} (hl : ts.length = 56) (h1 : ∀ t ∈ ts.take 28, t ∈ c1L.take 28) (h2 : ∀ t ∈ ts.drop 28, t ∈ c1L.drop 28) {key : List UInt8} {a b : Nat}
    (ha : ∀ t ∈ c1L.take 28, bitN key t = a) (hb : ∀ t ∈ c1L.drop 28, bitN key t = b) (q : Nat) (hq : q < 56) : bitN key (ts.getD q 0) = if q < 28 then a else b := by
  rw [getD_eq _ _ _ (by omega)]
  split
  · rename_i h
    apply ha
    apply h1
    rw [List.mem_take_iff_getElem]
    exact ⟨q, by omega, rfl⟩
  · rename_i h
    apply hb
    apply h2
    rw [List.mem_drop_iff_getElem]
    exact ⟨q - 28, by omega, by congr 1; omega⟩
theorem flat_key {key : List UInt8} {a b : Nat} (ha : ∀ t ∈ c1L.take 28, bitN key t = a) (hb : ∀ t ∈ c1L.drop 28, bitN key t = b) (i j : Nat) : keyF key i = keyF key j := by
  have e : permL key (tabP (i + 1)) = permL key (tabP (j + 1)) := by
    refine ext_bits (by rw [permL_length, permL_length, tabP_len, tabP_len]) fun q hq => ?_
    rw [permL_length, tabP_len] at hq
    have hq56 : q < 56 := by omega
    rw [bit_permL _ _ _ (by rw [tabP_len]; omega), bit_permL _ _ _ (by rw [tabP_len]; omega), tb_in (by rw [tabP_len]; exact hq56), tb_in (by rw [tabP_len]; exact hq56),
      half_bit (tabP_len _) (tabP_halves _).1 (tabP_halves _).2 ha hb q hq56, half_bit (tabP_len _) (tabP_halves _).1 (tabP_halves _).2 ha hb q hq56]
  unfold keyF
  rw [e]
/-- The keys of one bit in each half. -/
def weakL (n : Nat) : List UInt8 := if n = 0 then [1, 1, 1, 1, 1, 1, 1, 1] else if n = 1 then [254, 254, 254, 254, 254, 254, 254, 254] else if n = 2 then [31, 31, 31, 31, 14, 14, 14, 14] else [224, 224, 224, 224, 241, 241, 241, 241]
theorem weak_len (n : Nat) : (weakL n).length = 8 := by unfold weakL; split <;> (try split) <;> (try split) <;> rfl
set_option maxRecDepth 100000
theorem weak_flat (n i j : Nat) (hn : n < 4) : keyF (weakL n) i = keyF (weakL n) j := by
  match n, hn with
  | 0, _ => exact flat_key (a := 0) (b := 0) (by rw [c1L_is]; decide +kernel) (by rw [c1L_is]; decide +kernel) i j
  | 1, _ => exact flat_key (a := 1) (b := 1) (by rw [c1L_is]; decide +kernel) (by rw [c1L_is]; decide +kernel) i j
  | 2, _ => exact flat_key (a := 0) (b := 1) (by rw [c1L_is]; decide +kernel) (by rw [c1L_is]; decide +kernel) i j
  | 3, _ => exact flat_key (a := 1) (b := 0) (by rw [c1L_is]; decide +kernel) (by rw [c1L_is]; decide +kernel) i j
def z8 : List UInt8 := [0, 0, 0, 0, 0, 0, 0, 0]
def z6 : List UInt8 := [0, 0, 0, 0, 0, 0]
theorem zkey (i : Nat) : keyF z8 i = z6 := by
  rw [flat_key (key := z8) (a := 0) (b := 0) (by rw [c1L_is]; decide +kernel) (by rw [c1L_is]; decide +kernel) i 0]
  unfold keyF tabP tabP
  rw [c1L_is]
  decide +kernel
theorem zr0 : xorL [0, 0, 0, 0] (fL [0, 0, 0, 0] z6) 4 = [216, 216, 219, 188] := by decide +kernel
theorem zr1 : xorL [0, 0, 0, 0] (fL [216, 216, 219, 188] z6) 4 = [231, 58, 237, 79] := by decide +kernel
theorem zr2 : xorL [216, 216, 219, 188] (fL [231, 58, 237, 79] z6) 4 = [91, 250, 107, 166] := by decide +kernel
theorem zr3 : xorL [231, 58, 237, 79] (fL [91, 250, 107, 166] z6) 4 = [94, 69, 226, 87] := by decide +kernel
theorem zr4 : xorL [91, 250, 107, 166] (fL [94, 69, 226, 87] z6) 4 = [139, 25, 123, 224] := by decide +kernel
theorem zr5 : xorL [94, 69, 226, 87] (fL [139, 25, 123, 224] z6) 4 = [253, 233, 137, 74] := by decide +kernel
theorem zr6 : xorL [139, 25, 123, 224] (fL [253, 233, 137, 74] z6) 4 = [25, 223, 11, 92] := by decide +kernel
theorem zr7 : xorL [253, 233, 137, 74] (fL [25, 223, 11, 92] z6) 4 = [144, 122, 19, 240] := by decide +kernel
theorem zr8 : xorL [25, 223, 11, 92] (fL [144, 122, 19, 240] z6) 4 = [136, 25, 12, 80] := by decide +kernel
theorem zr9 : xorL [144, 122, 19, 240] (fL [136, 25, 12, 80] z6) 4 = [37, 209, 81, 124] := by decide +kernel
theorem zr10 : xorL [136, 25, 12, 80] (fL [37, 209, 81, 124] z6) 4 = [243, 239, 145, 126] := by decide +kernel
theorem zr11 : xorL [37, 209, 81, 124] (fL [243, 239, 145, 126] z6) 4 = [150, 227, 151, 18] := by decide +kernel
theorem zr12 : xorL [243, 239, 145, 126] (fL [150, 227, 151, 18] z6) 4 = [90, 93, 163, 74] := by decide +kernel
theorem zr13 : xorL [150, 227, 151, 18] (fL [90, 93, 163, 74] z6) 4 = [5, 140, 173, 10] := by decide +kernel
theorem zr14 : xorL [90, 93, 163, 74] (fL [5, 140, 173, 10] z6) 4 = [187, 234, 13, 194] := by decide +kernel
theorem zr15 : xorL [5, 140, 173, 10] (fL [187, 234, 13, 194] z6) 4 = [28, 32, 135, 252] := by decide +kernel
theorem zf0 : feL (fun _ => z6) [0, 0, 0, 0] [0, 0, 0, 0] 0 = ([0, 0, 0, 0], [0, 0, 0, 0]) := rfl
theorem zf1 : feL (fun _ => z6) [0, 0, 0, 0] [0, 0, 0, 0] 1 = ([0, 0, 0, 0], [216, 216, 219, 188]) := by rw [feL, zf0]; exact congrArg (Prod.mk _) zr0
theorem zf2 : feL (fun _ => z6) [0, 0, 0, 0] [0, 0, 0, 0] 2 = ([216, 216, 219, 188], [231, 58, 237, 79]) := by rw [feL, zf1]; exact congrArg (Prod.mk _) zr1
theorem zf3 : feL (fun _ => z6) [0, 0, 0, 0] [0, 0, 0, 0] 3 = ([231, 58, 237, 79], [91, 250, 107, 166]) := by rw [feL, zf2]; exact congrArg (Prod.mk _) zr2
theorem zf4 : feL (fun _ => z6) [0, 0, 0, 0] [0, 0, 0, 0] 4 = ([91, 250, 107, 166], [94, 69, 226, 87]) := by rw [feL, zf3]; exact congrArg (Prod.mk _) zr3
theorem zf5 : feL (fun _ => z6) [0, 0, 0, 0] [0, 0, 0, 0] 5 = ([94, 69, 226, 87], [139, 25, 123, 224]) := by rw [feL, zf4]; exact congrArg (Prod.mk _) zr4
theorem zf6 : feL (fun _ => z6) [0, 0, 0, 0] [0, 0, 0, 0] 6 = ([139, 25, 123, 224], [253, 233, 137, 74]) := by rw [feL, zf5]; exact congrArg (Prod.mk _) zr5
theorem zf7 : feL (fun _ => z6) [0, 0, 0, 0] [0, 0, 0, 0] 7 = ([253, 233, 137, 74], [25, 223, 11, 92]) := by rw [feL, zf6]; exact congrArg (Prod.mk _) zr6
theorem zf8 : feL (fun _ => z6) [0, 0, 0, 0] [0, 0, 0, 0] 8 = ([25, 223, 11, 92], [144, 122, 19, 240]) := by rw [feL, zf7]; exact congrArg (Prod.mk _) zr7
theorem zf9 : feL (fun _ => z6) [0, 0, 0, 0] [0, 0, 0, 0] 9 = ([144, 122, 19, 240], [136, 25, 12, 80]) := by rw [feL, zf8]; exact congrArg (Prod.mk _) zr8
theorem zf10 : feL (fun _ => z6) [0, 0, 0, 0] [0, 0, 0, 0] 10 = ([136, 25, 12, 80], [37, 209, 81, 124]) := by rw [feL, zf9]; exact congrArg (Prod.mk _) zr9
theorem zf11 : feL (fun _ => z6) [0, 0, 0, 0] [0, 0, 0, 0] 11 = ([37, 209, 81, 124], [243, 239, 145, 126]) := by rw [feL, zf10]; exact congrArg (Prod.mk _) zr10
theorem zf12 : feL (fun _ => z6) [0, 0, 0, 0] [0, 0, 0, 0] 12 = ([243, 239, 145, 126], [150, 227, 151, 18]) := by rw [feL, zf11]; exact congrArg (Prod.mk _) zr11
theorem zf13 : feL (fun _ => z6) [0, 0, 0, 0] [0, 0, 0, 0] 13 = ([150, 227, 151, 18], [90, 93, 163, 74]) := by rw [feL, zf12]; exact congrArg (Prod.mk _) zr12
theorem zf14 : feL (fun _ => z6) [0, 0, 0, 0] [0, 0, 0, 0] 14 = ([90, 93, 163, 74], [5, 140, 173, 10]) := by rw [feL, zf13]; exact congrArg (Prod.mk _) zr13
theorem zf15 : feL (fun _ => z6) [0, 0, 0, 0] [0, 0, 0, 0] 15 = ([5, 140, 173, 10], [187, 234, 13, 194]) := by rw [feL, zf14]; exact congrArg (Prod.mk _) zr14
theorem zf16 : feL (fun _ => z6) [0, 0, 0, 0] [0, 0, 0, 0] 16 = ([187, 234, 13, 194], [28, 32, 135, 252]) := by rw [feL, zf15]; exact congrArg (Prod.mk _) zr15
theorem zip : permL z8 ipL = [0, 0, 0, 0, 0, 0, 0, 0] := by decide +kernel
theorem zturn : turnL (fun _ => z6) z8 ≠ z8 := by
  intro h
  have e : permL (turnL (fun _ => z6) z8) ipL = [28, 32, 135, 252] ++ [187, 234, 13, 194] := by
    unfold turnL
    rw [zip]
    have e2 : List.take 4 ([0, 0, 0, 0, 0, 0, 0, 0] : List UInt8) = [0, 0, 0, 0] := rfl
    have e3 : List.drop 4 ([0, 0, 0, 0, 0, 0, 0, 0] : List UInt8) = [0, 0, 0, 0] := rfl
    rw [e2, e3, zf16, ip_back _ rfl]
  rw [h, zip] at e
  exact absurd e (by decide)
end Go.Proofs.YthfcndaccfpnmaaDoor
