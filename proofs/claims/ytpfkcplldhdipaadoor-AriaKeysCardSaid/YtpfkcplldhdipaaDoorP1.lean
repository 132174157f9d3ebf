/- Chapter 10 as plain functions: tables, layers, Mix, keys, blocks; own lemmas of the verifier, no statement is proved here. -/
import Derived.Test.YtpfkcplldhdipaaDoorK5
namespace Go.Proofs.YtpfkcplldhdipaaDoor
open Go.RowKit
def rows1 : List UInt8 := [241, 227, 199, 143, 31, 62, 124, 248]
def rows2 : List UInt8 := [122, 188, 235, 185, 52, 129, 186, 203]
def S1 : List UInt8 := [99, 124, 119, 123, 242, 107, 111, 197, 48, 1, 103, 43, 254, 215, 171, 118, 202, 130, 201, 125, 250, 89, 71, 240, 173, 212, 162, 175, 156, 164, 114, 192, 183, 253, 147, 38, 54, 63, 247, 204, 52, 165, 229, 241, 113, 216, 49, 21, 4, 199, 35, 195, 24, 150, 5, 154, 7, 18, 128, 226, 235, 39, 178, 117, 9, 131, 44, 26, 27, 110, 90, 160, 82, 59, 214, 179, 41, 227, 47, 132, 83, 209, 0, 237, 32, 252, 177, 91, 106, 203, 190, 57, 74, 76, 88, 207, 208, 239, 170, 251, 67, 77, 51, 133, 69, 249, 2, 127, 80, 60, 159, 168, 81, 163, 64, 143, 146, 157, 56, 245, 188, 182, 218, 33, 16, 255, 243, 210, 205, 12, 19, 236, 95, 151, 68, 23, 196, 167, 126, 61, 100, 93, 25, 115, 96, 129, 79, 220, 34, 42, 144, 136, 70, 238, 184, 20, 222, 94, 11, 219, 224, 50, 58, 10, 73, 6, 36, 92, 194, 211, 172, 98, 145, 149, 228, 121, 231, 200, 55, 109, 141, 213, 78, 169, 108, 86, 244, 234, 101, 122, 174, 8, 186, 120, 37, 46, 28, 166, 180, 198, 232, 221, 116, 31, 75, 189, 139, 138, 112, 62, 181, 102, 72, 3, 246, 14, 97, 53, 87, 185, 134, 193, 29, 158, 225, 248, 152, 17, 105, 217, 142, 148, 155, 30, 135, 233, 206, 85, 40, 223, 140, 161, 137, 13, 191, 230, 66, 104, 65, 153, 45, 15, 176, 84, 187, 22]
def S2 : List UInt8 := [226, 78, 84, 252, 148, 194, 74, 204, 98, 13, 106, 70, 60, 77, 139, 209, 94, 250, 100, 203, 180, 151, 190, 43, 188, 119, 46, 3, 211, 25, 89, 193, 29, 6, 65, 107, 85, 240, 153, 105, 234, 156, 24, 174, 99, 223, 231, 187, 0, 115, 102, 251, 150, 76, 133, 228, 58, 9, 69, 170, 15, 238, 16, 235, 45, 127, 244, 41, 172, 207, 173, 145, 141, 120, 200, 149, 249, 47, 206, 205, 8, 122, 136, 56, 92, 131, 42, 40, 71, 219, 184, 199, 147, 164, 18, 83, 255, 135, 14, 49, 54, 33, 88, 72, 1, 142, 55, 116, 50, 202, 233, 177, 183, 171, 12, 215, 196, 86, 66, 38, 7, 152, 96, 217, 182, 185, 17, 64, 236, 32, 140, 189, 160, 201, 132, 4, 73, 35, 241, 79, 80, 31, 19, 220, 216, 192, 158, 87, 227, 195, 123, 101, 59, 2, 143, 62, 232, 37, 146, 229, 21, 221, 253, 23, 169, 191, 212, 154, 126, 197, 57, 103, 254, 118, 157, 67, 167, 225, 208, 245, 104, 242, 27, 52, 112, 5, 163, 138, 213, 121, 134, 168, 48, 198, 81, 75, 30, 166, 39, 246, 53, 210, 110, 36, 22, 130, 95, 218, 230, 117, 162, 239, 44, 178, 28, 159, 93, 111, 128, 10, 114, 68, 155, 108, 144, 11, 91, 51, 125, 90, 82, 243, 97, 161, 247, 176, 214, 63, 124, 109, 237, 20, 224, 165, 61, 34, 179, 248, 137, 222, 113, 26, 175, 186, 181, 129]
def X1 : List UInt8 := [82, 9, 106, 213, 48, 54, 165, 56, 191, 64, 163, 158, 129, 243, 215, 251, 124, 227, 57, 130, 155, 47, 255, 135, 52, 142, 67, 68, 196, 222, 233, 203, 84, 123, 148, 50, 166, 194, 35, 61, 238, 76, 149, 11, 66, 250, 195, 78, 8, 46, 161, 102, 40, 217, 36, 178, 118, 91, 162, 73, 109, 139, 209, 37, 114, 248, 246, 100, 134, 104, 152, 22, 212, 164, 92, 204, 93, 101, 182, 146, 108, 112, 72, 80, 253, 237, 185, 218, 94, 21, 70, 87, 167, 141, 157, 132, 144, 216, 171, 0, 140, 188, 211, 10, 247, 228, 88, 5, 184, 179, 69, 6, 208, 44, 30, 143, 202, 63, 15, 2, 193, 175, 189, 3, 1, 19, 138, 107, 58, 145, 17, 65, 79, 103, 220, 234, 151, 242, 207, 206, 240, 180, 230, 115, 150, 172, 116, 34, 231, 173, 53, 133, 226, 249, 55, 232, 28, 117, 223, 110, 71, 241, 26, 113, 29, 41, 197, 137, 111, 183, 98, 14, 170, 24, 190, 27, 252, 86, 62, 75, 198, 210, 121, 32, 154, 219, 192, 254, 120, 205, 90, 244, 31, 221, 168, 51, 136, 7, 199, 49, 177, 18, 16, 89, 39, 128, 236, 95, 96, 81, 127, 169, 25, 181, 74, 13, 45, 229, 122, 159, 147, 201, 156, 239, 160, 224, 59, 77, 174, 42, 245, 176, 200, 235, 187, 60, 131, 83, 153, 97, 23, 43, 4, 126, 186, 119, 214, 38, 225, 105, 20, 99, 85, 33, 12, 125]
def X2 : List UInt8 := [48, 104, 153, 27, 135, 185, 33, 120, 80, 57, 219, 225, 114, 9, 98, 60, 62, 126, 94, 142, 241, 160, 204, 163, 42, 29, 251, 182, 214, 32, 196, 141, 129, 101, 245, 137, 203, 157, 119, 198, 87, 67, 86, 23, 212, 64, 26, 77, 192, 99, 108, 227, 183, 200, 100, 106, 83, 170, 56, 152, 12, 244, 155, 237, 127, 34, 118, 175, 221, 58, 11, 88, 103, 136, 6, 195, 53, 13, 1, 139, 140, 194, 230, 95, 2, 36, 117, 147, 102, 30, 229, 226, 84, 216, 16, 206, 122, 232, 8, 44, 18, 151, 50, 171, 180, 39, 10, 35, 223, 239, 202, 217, 184, 250, 220, 49, 107, 209, 173, 25, 73, 189, 81, 150, 238, 228, 168, 65, 218, 255, 205, 85, 134, 54, 190, 97, 82, 248, 187, 14, 130, 72, 105, 154, 224, 71, 158, 92, 4, 75, 52, 21, 121, 38, 167, 222, 41, 174, 146, 215, 132, 233, 210, 186, 93, 243, 197, 176, 191, 164, 59, 113, 68, 70, 43, 252, 235, 111, 213, 246, 20, 254, 124, 112, 90, 125, 253, 47, 24, 131, 22, 165, 145, 31, 5, 149, 116, 169, 193, 91, 74, 133, 109, 19, 7, 79, 78, 69, 178, 15, 201, 28, 166, 188, 236, 115, 144, 123, 207, 89, 143, 161, 249, 45, 242, 177, 0, 148, 55, 159, 208, 46, 156, 110, 40, 63, 128, 240, 61, 211, 37, 138, 181, 231, 66, 179, 199, 234, 247, 76, 17, 51, 3, 162, 172, 96]
theorem rest283 : IsRest 283 := ⟨by omega, by omega⟩
theorem mk_fast {m e c : Nat} {bs : List UInt8} (hm : IsRest m) (he : e < 1024) : mkL e m bs c = (List.range 256).map fun x => UInt8.ofNat (affN (pw m x e) (nb bs) c) := by
  unfold mkL tabF
  refine List.map_congr_left fun x hx => ?_
  rw [mkF, pw_eq hm (List.mem_range.1 hx) he]
theorem mk1 : mkL 254 283 rows1 99 = S1 := by rw [mk_fast rest283 (by omega)]; decide +kernel
theorem mk2 : mkL 247 283 rows2 226 = S2 := by rw [mk_fast rest283 (by omega)]; decide +kernel
theorem x1_s1 : ∀ i < 256, nb X1 (nb S1 i) = i := by decide +kernel
theorem x2_s2 : ∀ i < 256, nb X2 (nb S2 i) = i := by decide +kernel
theorem s1_x1 : ∀ i < 256, nb S1 (nb X1 i) = i := by decide +kernel
theorem s2_x2 : ∀ i < 256, nb S2 (nb X2 i) = i := by decide +kernel
theorem isT_S1 : IsT 256 S1 := ⟨by decide +kernel, fun i _ => nb_lt _ _, fun i j hi hj h => by rw [← x1_s1 i hi, h, x1_s1 j hj]⟩
theorem isT_S2 : IsT 256 S2 := ⟨by decide +kernel, fun i _ => nb_lt _ _, fun i j hi hj h => by rw [← x2_s2 i hi, h, x2_s2 j hj]⟩
theorem out1 : outB S1 = X1 := by rw [outB_of isT_S1]; decide +kernel
theorem out2 : outB S2 = X2 := by rw [outB_of isT_S2]; decide +kernel
/-- The four tables, in order. -/
def tabT : Nat → List UInt8
  | 0 => S1
  | 1 => S2
  | 2 => X1
  | _ => X2
theorem tabT_length (k : Nat) : (tabT k).length = 256 := by
  match k with
  | 0 => decide +kernel
  | 1 => decide +kernel
  | 2 => decide +kernel
  | _ + 3 => exact (by decide +kernel : X2.length = 256)
/-- A layer. -/
def layF (which : Nat) (b : List UInt8) (i : Nat) : UInt8 := (tabT ((2 * (which - 1) + i) % 4)).getD (nb b i) 0
def layL (which : Nat) (b : List UInt8) : List UInt8 := (List.range 16).map (layF which b)
theorem layL_length (which : Nat) (b : List UInt8) : (layL which b).length = 16 := by simp [layL]
/-- Of which bytes Mix makes each one. -/
def sevT : List (List Nat) := [[3, 4, 6, 8, 9, 13, 14], [2, 5, 7, 8, 9, 12, 15], [1, 4, 6, 10, 11, 12, 15], [0, 5, 7, 10, 11, 13, 14], [0, 2, 5, 8, 11, 14, 15], [1, 3, 4, 9, 10, 14, 15], [0, 2, 7, 9, 10, 12, 13], [1, 3, 6, 8, 11, 12, 13], [0, 1, 4, 7, 10, 13, 15], [0, 1, 5, 6, 11, 12, 14], [2, 3, 5, 6, 8, 13, 15], [2, 3, 4, 7, 9, 12, 14], [1, 2, 6, 7, 9, 11, 12], [0, 3, 6, 7, 8, 10, 13], [0, 3, 4, 5, 9, 11, 14], [1, 2, 4, 5, 8, 10, 15]]
def sevN (i j : Nat) : Nat := (sevT.getD i []).getD j 0
theorem sevN_lt : ∀ i < 16, ∀ j < 7, sevN i j < 16 := by decide
/-- The first k of the seven, added up. -/
def mixK (b : List UInt8) (i : Nat) : Nat → UInt8
  | 0 => 0
  | k + 1 => mixK b i k ^^^ b.getD (sevN i k) 0
def mixF (b : List UInt8) (i : Nat) : UInt8 := mixK b i 7
def mixL (b : List UInt8) : List UInt8 := (List.range 16).map (mixF b)
theorem mixL_length (b : List UInt8) : (mixL b).length = 16 := by simp [mixL]
theorem xorL_length (xs ys : List UInt8) (n : Nat) : (xorL xs ys n).length = n := by simp [xorL]
/-- A round's begin. -/
def stepL (i : Nat) (b k : List UInt8) : List UInt8 := layL (1 + i % 2) (xorL b k 16)
theorem stepL_length (i : Nat) (b k : List UInt8) : (stepL i b k).length = 16 := layL_length _ _
/-- The constants. -/
def chi (i : Nat) : Int := [5871781006564002452, 7904181063698728992, 15821769039155751280].getD i 0
def clo (i : Nat) : Int := [18308165927316385504, 18386141011142107824, 226472410124699918].getD i 0
def constL (i : Nat) : List UInt8 := spreadL (chi (i % 3)) 8 ++ spreadL (clo (i % 3)) 8
theorem spreadL_length (v : Int) (n : Nat) : (spreadL v n).length = n := by simp [spreadL]
theorem constL_length (i : Nat) : (constL i).length = 16 := by rw [constL, List.length_append, spreadL_length, spreadL_length]
/-- Sixteen bytes of a key, from o on, noughts behind. -/
def frontL (key : List UInt8) (o : Nat) : List UInt8 := (List.range 16).map fun i => key.getD (o + i) 0
theorem frontL_length (key : List UInt8) (o : Nat) : (frontL key o).length = 16 := by simp [frontL]
/-- The words of a key: the last one, and the one ahead of it. -/
def seedP (key : List UInt8) : Nat → List UInt8 × List UInt8
  | 0 => (frontL key 0, frontL key 16)
  | i + 1 => (xorL (mixL (stepL i (seedP key i).1 (constL (key.length / 8 - 2 + i)))) (seedP key i).2 16, (seedP key i).1)
def seedL (key : List UInt8) (i : Nat) : List UInt8 := (seedP key i).1
def headL (key : List UInt8) (i : Nat) : List UInt8 := (seedP key i).2
theorem seedL_succ (key : List UInt8) (i : Nat) : seedL key (i + 1) = xorL (mixL (stepL i (seedL key i) (constL (key.length / 8 - 2 + i)))) (headL key i) 16 := rfl
theorem headL_succ (key : List UInt8) (i : Nat) : headL key (i + 1) = seedL key i := rfl
theorem seedL_length (key : List UInt8) : ∀ i, (seedL key i).length = 16
  | 0 => frontL_length _ _
  | _ + 1 => xorL_length _ _ _
theorem headL_length (key : List UInt8) : ∀ i, (headL key i).length = 16
  | 0 => frontL_length _ _
  | i + 1 => seedL_length key i
/-- By how many bits, keys four by four. -/
def turnT (q : Nat) : Int := [-19, -31, 61, 31, 19].getD q 0
def turnB (b : List UInt8) (q : Nat) : List UInt8 := turnL b 16 (tf (turnT q) 16) (ts (turnT q))
theorem turnB_length (b : List UInt8) (q : Nat) : (turnB b q).length = 16 := turnL_length _ _ _ _
def keyF (key : List UInt8) (i : Nat) : List UInt8 := xorL (seedL key (i % 4)) (turnB (seedL key ((i + 1) % 4)) (i / 4)) 16
theorem keyF_length (key : List UInt8) (i : Nat) : (keyF key i).length = 16 := xorL_length _ _ _
def keyN (key : List UInt8) : Nat := 9 + key.length / 4
def keysL (key : List UInt8) : List (List UInt8) := (List.range (keyN key)).map (keyF key)
/-- The rounds behind which Mix comes. -/
def passB (ks : Nat → List UInt8) (b : List UInt8) : Nat → List UInt8
  | 0 => b
  | i + 1 => mixL (stepL i (passB ks b i) (ks i))
/-- All rounds: r of them, and the last key. -/
def passL (ks : Nat → List UInt8) (r : Nat) (b : List UInt8) : List UInt8 := xorL (stepL (r - 1) (passB ks b (r - 1)) (ks (r - 1))) (ks r) 16
theorem passB_length (ks : Nat → List UInt8) {b : List UInt8} (h : b.length = 16) : ∀ i, (passB ks b i).length = 16
  | 0 => h
  | _ + 1 => mixL_length _
theorem passL_length (ks : Nat → List UInt8) (r : Nat) (b : List UInt8) : (passL ks r b).length = 16 := xorL_length _ _ _
/-- The keys of the way back. -/
def undoF (ks : Nat → List UInt8) (r i : Nat) : List UInt8 := if 0 < i ∧ i < r then mixL (ks (r - i)) else ks (r - i)
end Go.Proofs.YtpfkcplldhdipaaDoor
