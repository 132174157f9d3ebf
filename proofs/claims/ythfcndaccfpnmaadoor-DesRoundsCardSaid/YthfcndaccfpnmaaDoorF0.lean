/- Chapter 6 as plain functions on lists of bytes; own text of the verifier, no statement is proved here. -/
import Derived.Test.YthfcndaccfpnmaaDoorB8
import Derived.Test.YthfcndaccfpnmaaDoorBit
namespace Go.Proofs.YthfcndaccfpnmaaDoor
open Go.RowKit
/-- Falling numbers. -/
def fall (first rise : Int) : Nat → Int
  | 0 => first
  | k + 1 => if 8 < fall first rise k then fall first rise k - 8 else fall first rise k + rise
def fallL (first rise : Int) (n : Nat) : List Int := (List.range n).map (fall first rise)
def c1L : List Int := fallL 57 57 28 ++ fallL 63 55 24 ++ [28, 20, 12, 4]
def c2L : List Int := [14, 17, 11, 24, 1, 5, 3, 28, 15, 6, 21, 10, 23, 19, 12, 4, 26, 8, 16, 7, 27, 20, 13, 2, 41, 52, 31, 37, 47, 55, 30, 40, 51, 45, 33, 48, 44, 49, 39, 56, 34, 53, 46, 42, 50, 36, 29, 32]
def mxL : List Int := [16, 7, 20, 21, 29, 12, 28, 17, 1, 15, 23, 26, 5, 18, 31, 10, 2, 8, 24, 14, 32, 27, 3, 9, 19, 13, 30, 6, 22, 11, 4, 25]
def ipH : List Int := [58, 60, 62, 64, 57, 59, 61, 63]
def ipF (q : Nat) : Int := ipH.getD (q / 8) 0 - 8 * ((q % 8 : Nat) : Int)
def ipN (k : Nat) : List Int := (List.range k).map ipF
def ipL : List Int := ipN 64
def eF (q : Nat) : Int := (((4 * (q / 6) + q % 6 + 31) % 32 + 1 : Nat) : Int)
def eN (k : Nat) : List Int := (List.range k).map eF
def eL : List Int := eN 48
/-- What undoes IP. -/
def ipU : List Int := ((invG ipL 64 64).getD [])
/-- Turned to the left. -/
def rotL (l : List Int) (k : Nat) : List Int := l.drop k ++ l.take k
def rotB (l : List Int) (k : Nat) : List Int := rotL (l.take 28) k ++ rotL (l.drop 28) k
def byOf (i : Nat) : Nat := if i = 0 ∨ i = 1 ∨ i = 8 ∨ i = 15 then 1 else 2
def tabP : Nat → List Int
  | 0 => c1L
  | i + 1 => rotB (tabP i) (byOf i)
/-- Key number i (from 0). -/
def keyF (key : List UInt8) (i : Nat) : List UInt8 := permL (permL key (tabP (i + 1))) c2L
/-- The boxes' rows. -/
def boxT : List (List Nat) := [
  [0xE4D12FB83A6C5907, 0x0F74E2D1A6CB9538, 0x41E8D62BFC973A50, 0xFC8249175B3EA06D],
  [0xF18E6B34972DC05A, 0x3D47F28EC01A69B5, 0x0E7BA4D158C6932F, 0xD8A13F42B67C05E9],
  [0xA09E63F51DC7B428, 0xD709346A285ECBF1, 0xD6498F30B12C5AE7, 0x1AD069874FE3B52C],
  [0x7DE3069A1285BC4F, 0xD8B56F03472C1AE9, 0xA690CB7DF13E5284, 0x3F06A1D8945BC72E],
  [0x2C417AB6853FD0E9, 0xEB2C47D150FA3986, 0x421BAD78F9C5630E, 0xB8C71E2D6F09A453],
  [0xC1AF92680D34E75B, 0xAF427C9561DE0B38, 0x9EF528C3704A1DB6, 0x432C95FABE17608D],
  [0x4B2EF08D3C975A61, 0xD0B7491AE35C2F86, 0x14BDC37EAF680592, 0x6BD814A7950FE23C],
  [0xD2846FB1A93E50C7, 0x1FD8A374C56B0E92, 0x7B419CE206ADF358, 0x21E74A8DFC90356B]]
def boxW (i r : Nat) : Nat := (boxT.getD i []).getD r 0
/-- What box i has for six bits. -/
def sN (i six : Nat) : Nat := boxW i (2 * (six / 32) + six % 2) / 2 ^ (60 - 4 * (six / 2 % 16)) % 16
def sixG (x : List UInt8) (i : Nat) : Nat → Nat
  | 0 => 0
  | j + 1 => 2 * sixG x i j + bitN x ((6 * i + j : Nat) + 1)
def six (x : List UInt8) (i : Nat) : Nat := sixG x i 6
def fx (r k : List UInt8) : List UInt8 := xorL (permL r eL) k 6
def fourF (x : List UInt8) (p : Nat) : UInt8 := UInt8.ofNat (16 * sN (2 * p) (six x (2 * p)) + sN (2 * p + 1) (six x (2 * p + 1)))
def fourL (x : List UInt8) : List UInt8 := (List.range 4).map (fourF x)
def fL (r k : List UInt8) : List UInt8 := permL (fourL (fx r k)) mxL
def feL (kf : Nat → List UInt8) (l r : List UInt8) : Nat → List UInt8 × List UInt8
  | 0 => (l, r)
  | i + 1 => ((feL kf l r i).2, xorL (feL kf l r i).1 (fL (feL kf l r i).2 (kf i)) 4)
def turnL (kf : Nat → List UInt8) (b : List UInt8) : List UInt8 :=
  permL ((feL kf ((permL b ipL).take 4) ((permL b ipL).drop 4) 16).2 ++ (feL kf ((permL b ipL).take 4) ((permL b ipL).drop 4) 16).1) ipU
def place (i n : Nat) (back : Bool) : Nat := if back then n - 1 - i else i
def dirF (kf : Nat → List UInt8) (back : Bool) (i : Nat) : List UInt8 := kf (place i 16 back)
def blkG (m : Nat) (kf : Nat → Nat → List UInt8) (back : Bool) (b : List UInt8) : Nat → List UInt8
  | 0 => b
  | i + 1 => turnL (dirF (kf (place i m back)) (back != decide (place i m back = 1))) (blkG m kf back b i)
def blockL (m : Nat) (kf : Nat → Nat → List UInt8) (back : Bool) (b : List UInt8) : List UInt8 := blkG m kf back b m
/-- All bits others. -/
def notL (bs : List UInt8) : List UInt8 := bs.map fun x => x ^^^ 255
set_option maxRecDepth 100000
theorem c1L_is : c1L = [57, 49, 41, 33, 25, 17, 9, 1, 58, 50, 42, 34, 26, 18, 10, 2, 59, 51, 43, 35, 27, 19, 11, 3, 60, 52, 44, 36, 63, 55, 47, 39, 31, 23, 15, 7, 62, 54, 46, 38, 30, 22, 14, 6, 61, 53, 45, 37, 29, 21, 13, 5, 28, 20, 12, 4] := by decide +kernel
theorem c1_len : c1L.length = 56 := by rw [c1L_is]; rfl
theorem rotL_len (l : List Int) (k : Nat) (h : k ≤ l.length) : (rotL l k).length = l.length := by simp [rotL]; omega
theorem rotB_len (l : List Int) (k : Nat) (h : l.length = 56) (hk : k ≤ 28) : (rotB l k).length = 56 := by
  simp [rotB, rotL]; omega
theorem byOf_le (i : Nat) : byOf i ≤ 2 := by unfold byOf; split <;> omega
theorem byOf_pos (i : Nat) : 1 ≤ byOf i := by unfold byOf; split <;> omega
theorem tabP_len : ∀ i, (tabP i).length = 56
  | 0 => c1_len
  | i + 1 => rotB_len _ _ (tabP_len i) (by have := byOf_le i; omega)
theorem rotL_mem {l : List Int} {k : Nat} {t : Int} (h : t ∈ rotL l k) : t ∈ l := by
  unfold rotL at h
  rcases List.mem_append.1 h with h | h
  · exact List.mem_of_mem_drop h
  · exact List.mem_of_mem_take h
theorem tabP_mem : ∀ i t, t ∈ tabP i → t ∈ c1L
  | 0, t, h => h
  | i + 1, t, h => by
    apply tabP_mem i
    rcases List.mem_append.1 (show t ∈ rotL ((tabP i).take 28) _ ++ rotL ((tabP i).drop 28) _ from h) with h | h
    · exact List.mem_of_mem_take (rotL_mem h)
    · exact List.mem_of_mem_drop (rotL_mem h)
theorem c1_in : ∀ t ∈ c1L, 1 ≤ t ∧ t ≤ 63 ∧ t % 8 ≠ 0 := by rw [c1L_is]; decide
theorem c2_in : ∀ t ∈ c2L, 1 ≤ t ∧ t ≤ 56 := by decide
theorem mx_in : ∀ t ∈ mxL, 1 ≤ t ∧ t ≤ 32 := by decide
theorem ipN_len (k : Nat) : (ipN k).length = k := by simp [ipN]
theorem eN_len (k : Nat) : (eN k).length = k := by simp [eN]
theorem ip_in : ∀ t ∈ ipL, 1 ≤ t ∧ t ≤ 64 := by decide +kernel
theorem e_in : ∀ t ∈ eL, 1 ≤ t ∧ t ≤ 32 := by decide +kernel
theorem ip_perm : IsPerm 64 ipL := by
  have h : ∀ i, i < 64 → ∀ j, j < 64 → ipL.getD i 0 = ipL.getD j 0 → i = j := by decide +kernel
  exact ⟨by decide +kernel, by decide +kernel, by decide +kernel, fun i j hi hj e => h i hi j hj e, by decide +kernel⟩
theorem ip_inv : invG ipL 64 64 = some ipU := by
  obtain ⟨us, hu, _⟩ := inv_perm ip_perm
  unfold ipU; rw [hu]; rfl
theorem ipU_perm : IsPerm 64 ipU ∧ Undo 64 ipL ipU := by
  obtain ⟨us, hu, h1, h2⟩ := inv_perm ip_perm
  rw [ip_inv] at hu
  cases hu
  exact ⟨h1, h2⟩
theorem tabP_ok (i : Nat) : okT 8 (tabP i) = true := okT_in fun t ht => by have := c1_in t (tabP_mem i t ht); omega
theorem c2_ok : okT 7 c2L = true := okT_in fun t ht => by have := c2_in t ht; omega
theorem mx_ok : okT 4 mxL = true := okT_in fun t ht => by have := mx_in t ht; omega
theorem ip_ok : okT 8 ipL = true := okT_in fun t ht => by have := ip_in t ht; omega
theorem e_ok : okT 4 eL = true := okT_in fun t ht => by have := e_in t ht; omega
theorem ipU_ok : okT 8 ipU = true := ipU_perm.1.ok rfl
theorem xorL_length (xs ys : List UInt8) (n : Nat) : (xorL xs ys n).length = n := by simp [xorL]
theorem perm_len (bs : List UInt8) (ts : List Int) (n : Nat) (h : ts.length = n) : (permL bs ts).length = (n + 7) / 8 := by rw [permL_length, h]
theorem keyF_len (key : List UInt8) (i : Nat) : (keyF key i).length = 6 := by unfold keyF; rw [permL_length]; rfl
theorem fx_len (r k : List UInt8) : (fx r k).length = 6 := xorL_length _ _ _
theorem fourL_len (x : List UInt8) : (fourL x).length = 4 := by simp [fourL]
theorem fL_len (r k : List UInt8) : (fL r k).length = 4 := by unfold fL; rw [permL_length]; rfl
theorem sN_lt (i s : Nat) : sN i s < 16 := Nat.mod_lt _ (by omega)
theorem sixG_lt (x : List UInt8) (i : Nat) : ∀ j, sixG x i j < 2 ^ j
  | 0 => by simp [sixG]
  | j + 1 => by
    have h1 := sixG_lt x i j
    have h2 := bitN_le x ((6 * i + j : Nat) + 1)
    rw [sixG, Nat.pow_succ]; omega
theorem six_lt (x : List UInt8) (i : Nat) : six x i < 64 := sixG_lt x i 6
theorem feL_len (kf : Nat → List UInt8) {l r : List UInt8} (hl : l.length = 4) (hr : r.length = 4) : ∀ i, (feL kf l r i).1.length = 4 ∧ (feL kf l r i).2.length = 4
  | 0 => ⟨hl, hr⟩
  | i + 1 => ⟨(feL_len kf hl hr i).2, xorL_length _ _ _⟩
theorem turnL_len (kf : Nat → List UInt8) (b : List UInt8) : (turnL kf b).length = 8 := by
  unfold turnL; rw [permL_length, ipU_perm.1.len]
theorem blkG_len (m : Nat) (kf : Nat → Nat → List UInt8) (back : Bool) (b : List UInt8) (hb : b.length = 8) : ∀ i, (blkG m kf back b i).length = 8
  | 0 => hb
  | _ + 1 => turnL_len _ _
end Go.Proofs.YthfcndaccfpnmaaDoor
