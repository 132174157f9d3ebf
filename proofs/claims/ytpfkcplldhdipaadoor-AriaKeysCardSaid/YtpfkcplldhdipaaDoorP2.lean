/- The block of noughts, by a key of noughts, there and back: closed steps; and plain facts on layers and Mix; own lemmas of the verifier, no statement is proved here. -/
import Derived.Test.YtpfkcplldhdipaaDoorP1
namespace Go.Proofs.YtpfkcplldhdipaaDoor
open Go.RowKit
def k0 : List UInt8 := [0, 0, 0, 0, 0, 0, 0, 0, 0, 0, 0, 0, 0, 0, 0, 0]
def w0L : List UInt8 := [0, 0, 0, 0, 0, 0, 0, 0, 0, 0, 0, 0, 0, 0, 0, 0]
def w1L : List UInt8 := [165, 55, 148, 204, 221, 120, 111, 224, 220, 113, 137, 198, 182, 60, 62, 161]
def w2L : List UInt8 := [152, 240, 165, 61, 55, 93, 120, 4, 78, 21, 157, 38, 15, 226, 122, 22]
def w3L : List UInt8 := [126, 96, 140, 185, 183, 1, 251, 62, 7, 47, 170, 12, 12, 74, 92, 47]
theorem seed0 : seedL k0 0 = w0L := by decide +kernel
theorem head0 : headL k0 0 = w0L := by decide +kernel
theorem seed1 : seedL k0 1 = w1L := by rw [seedL_succ, seed0, head0]; decide +kernel
theorem head1 : headL k0 1 = w0L := by rw [headL_succ, seed0]
theorem seed2 : seedL k0 2 = w2L := by rw [seedL_succ, seed1, head1]; decide +kernel
theorem head2 : headL k0 2 = w1L := by rw [headL_succ, seed1]
theorem seed3 : seedL k0 3 = w3L := by rw [seedL_succ, seed2, head2]; decide +kernel
def q0L : List UInt8 := [135, 212, 52, 166, 242, 153, 155, 175, 13, 252, 27, 142, 49, 56, 214, 199]
theorem key0 : keyF k0 0 = q0L := by
  show xorL (seedL k0 0) (turnB (seedL k0 1) 0) 16 = _
  rw [seed0, seed1]; decide +kernel
def q1L : List UInt8 := [234, 117, 71, 210, 201, 223, 201, 11, 115, 113, 0, 4, 5, 152, 255, 93]
theorem key1 : keyF k0 1 = q1L := by
  show xorL (seedL k0 1) (turnB (seedL k0 2) 0) 16 = _
  rw [seed1, seed2]; decide +kernel
def q2L : List UInt8 := [211, 117, 74, 241, 38, 202, 78, 228, 113, 114, 93, 195, 250, 163, 251, 159]
theorem key2 : keyF k0 2 = q2L := by
  show xorL (seedL k0 2) (turnB (seedL k0 3) 0) 16 = _
  rw [seed2, seed3]; decide +kernel
def q3L : List UInt8 := [126, 96, 140, 185, 183, 1, 251, 62, 7, 47, 170, 12, 12, 74, 92, 47]
theorem key3 : keyF k0 3 = q3L := by
  show xorL (seedL k0 3) (turnB (seedL k0 0) 0) 16 = _
  rw [seed3, seed0]; decide +kernel
def q4L : List UInt8 := [108, 120, 125, 67, 74, 111, 41, 153, 186, 240, 223, 193, 184, 227, 19, 141]
theorem key4 : keyF k0 4 = q4L := by
  show xorL (seedL k0 0) (turnB (seedL k0 1) 1) 16 = _
  rw [seed0, seed1]; decide +kernel
def q5L : List UInt8 := [186, 243, 96, 225, 236, 153, 37, 154, 178, 203, 121, 206, 42, 23, 4, 237]
theorem key5 : keyF k0 5 = q5L := by
  show xorL (seedL k0 1) (turnB (seedL k0 2) 1) 16 = _
  rw [seed1, seed2]; decide +kernel
def q6L : List UInt8 := [128, 100, 29, 99, 203, 156, 97, 119, 32, 22, 107, 90, 1, 189, 46, 14]
theorem key6 : keyF k0 6 = q6L := by
  show xorL (seedL k0 2) (turnB (seedL k0 3) 1) 16 = _
  rw [seed2, seed3]; decide +kernel
def q7L : List UInt8 := [126, 96, 140, 185, 183, 1, 251, 62, 7, 47, 170, 12, 12, 74, 92, 47]
theorem key7 : keyF k0 7 = q7L := by
  show xorL (seedL k0 3) (turnB (seedL k0 0) 1) 16 = _
  rw [seed3, seed0]; decide +kernel
def q8L : List UInt8 := [27, 142, 49, 56, 214, 199, 135, 212, 52, 166, 242, 153, 155, 175, 13, 252]
theorem key8 : keyF k0 8 = q8L := by
  show xorL (seedL k0 0) (turnB (seedL k0 1) 2) 16 = _
  rw [seed0, seed1]; decide +kernel
def q9L : List UInt8 := [44, 245, 39, 104, 28, 132, 32, 162, 15, 111, 157, 97, 16, 215, 145, 161]
theorem key9 : keyF k0 9 = q9L := by
  show xorL (seedL k0 1) (turnB (seedL k0 2) 2) 16 = _
  rw [seed1, seed2]; decide +kernel
def q10L : List UInt8 := [88, 21, 80, 124, 182, 212, 51, 129, 161, 217, 140, 177, 57, 2, 69, 113]
theorem key10 : keyF k0 10 = q10L := by
  show xorL (seedL k0 2) (turnB (seedL k0 3) 2) 16 = _
  rw [seed2, seed3]; decide +kernel
def q11L : List UInt8 := [126, 96, 140, 185, 183, 1, 251, 62, 7, 47, 170, 12, 12, 74, 92, 47]
theorem key11 : keyF k0 11 = q11L := by
  show xorL (seedL k0 3) (turnB (seedL k0 0) 2) 16 = _
  rw [seed3, seed0]; decide +kernel
def q12L : List UInt8 := [110, 188, 55, 240, 110, 56, 196, 227, 91, 30, 31, 80, 210, 155, 202, 102]
theorem key12 : keyF k0 12 = q12L := by
  show xorL (seedL k0 0) (turnB (seedL k0 1) 3) 16 = _
  rw [seed0, seed1]; decide +kernel
def v0L : List UInt8 := [110, 188, 55, 240, 110, 56, 196, 227, 91, 30, 31, 80, 210, 155, 202, 102]
theorem und0 : undoF (keyF k0) 12 0 = v0L := by
  show keyF k0 12 = _
  rw [key12]; decide +kernel
def v1L : List UInt8 := [203, 184, 169, 241, 139, 152, 15, 111, 88, 184, 173, 195, 6, 229, 14, 216]
theorem und1 : undoF (keyF k0) 12 1 = v1L := by
  show mixL (keyF k0 11) = _
  rw [key11]; decide +kernel
def v2L : List UInt8 := [198, 53, 229, 119, 248, 190, 231, 113, 133, 103, 25, 190, 166, 185, 107, 123]
theorem und2 : undoF (keyF k0) 12 2 = v2L := by
  show mixL (keyF k0 10) = _
  rw [key10]; decide +kernel
def v3L : List UInt8 := [114, 208, 132, 176, 209, 67, 156, 20, 140, 157, 146, 31, 78, 131, 67, 121]
theorem und3 : undoF (keyF k0) 12 3 = v3L := by
  show mixL (keyF k0 9) = _
  rw [key9]; decide +kernel
def v4L : List UInt8 := [89, 215, 211, 193, 177, 197, 158, 168, 54, 218, 46, 59, 72, 25, 0, 148]
theorem und4 : undoF (keyF k0) 12 4 = v4L := by
  show mixL (keyF k0 8) = _
  rw [key8]; decide +kernel
def v5L : List UInt8 := [203, 184, 169, 241, 139, 152, 15, 111, 88, 184, 173, 195, 6, 229, 14, 216]
theorem und5 : undoF (keyF k0) 12 5 = v5L := by
  show mixL (keyF k0 7) = _
  rw [key7]; decide +kernel
def v6L : List UInt8 := [108, 207, 240, 201, 91, 145, 43, 160, 128, 108, 16, 251, 34, 3, 214, 107]
theorem und6 : undoF (keyF k0) 12 6 = v6L := by
  show mixL (keyF k0 6) = _
  rw [key6]; decide +kernel
def v7L : List UInt8 := [66, 221, 74, 29, 214, 165, 207, 118, 188, 21, 117, 18, 3, 56, 47, 192]
theorem und7 : undoF (keyF k0) 12 7 = v7L := by
  show mixL (keyF k0 5) = _
  rw [key5]; decide +kernel
def v8L : List UInt8 := [154, 244, 48, 116, 155, 192, 252, 50, 118, 56, 172, 182, 60, 25, 40, 200]
theorem und8 : undoF (keyF k0) 12 8 = v8L := by
  show mixL (keyF k0 4) = _
  rw [key4]; decide +kernel
def v9L : List UInt8 := [203, 184, 169, 241, 139, 152, 15, 111, 88, 184, 173, 195, 6, 229, 14, 216]
theorem und9 : undoF (keyF k0) 12 9 = v9L := by
  show mixL (keyF k0 3) = _
  rw [key3]; decide +kernel
def v10L : List UInt8 := [194, 2, 230, 59, 133, 233, 11, 33, 5, 224, 114, 10, 222, 7, 132, 96]
theorem und10 : undoF (keyF k0) 12 10 = v10L := by
  show mixL (keyF k0 2) = _
  rw [key2]; decide +kernel
def v11L : List UInt8 := [183, 201, 41, 93, 167, 189, 74, 132, 152, 119, 53, 220, 128, 17, 164, 10]
theorem und11 : undoF (keyF k0) 12 11 = v11L := by
  show mixL (keyF k0 1) = _
  rw [key1]; decide +kernel
def v12L : List UInt8 := [135, 212, 52, 166, 242, 153, 155, 175, 13, 252, 27, 142, 49, 56, 214, 199]
theorem und12 : undoF (keyF k0) 12 12 = v12L := by
  show keyF k0 0 = _
  rw [key0]; decide +kernel
def tA0L : List UInt8 := [0, 0, 0, 0, 0, 0, 0, 0, 0, 0, 0, 0, 0, 0, 0, 0]
def tA1L : List UInt8 := [172, 50, 252, 180, 146, 154, 213, 66, 107, 53, 177, 186, 17, 111, 213, 71]
def tA2L : List UInt8 := [117, 244, 104, 155, 49, 137, 110, 95, 227, 158, 228, 62, 150, 50, 19, 13]
def tA3L : List UInt8 := [63, 197, 51, 83, 34, 129, 2, 3, 94, 67, 242, 15, 235, 1, 75, 103]
def tA4L : List UInt8 := [58, 203, 108, 105, 190, 97, 216, 7, 108, 244, 231, 35, 31, 196, 171, 126]
def tA5L : List UInt8 := [83, 35, 172, 45, 82, 131, 23, 75, 145, 34, 109, 202, 103, 183, 221, 69]
def tA6L : List UInt8 := [130, 130, 190, 186, 182, 33, 160, 192, 118, 69, 77, 76, 48, 231, 147, 238]
def tA7L : List UInt8 := [165, 196, 170, 228, 61, 242, 18, 246, 195, 71, 85, 183, 189, 139, 179, 197]
def tA8L : List UInt8 := [137, 184, 177, 17, 165, 188, 182, 172, 198, 56, 202, 148, 233, 145, 242, 235]
def tA9L : List UInt8 := [148, 82, 184, 205, 242, 115, 136, 56, 201, 9, 180, 16, 3, 132, 188, 181]
def tA10L : List UInt8 := [150, 125, 211, 118, 171, 109, 132, 124, 114, 243, 96, 26, 61, 85, 23, 206]
def tA11L : List UInt8 := [65, 207, 32, 190, 53, 8, 41, 55, 130, 100, 84, 62, 89, 31, 208, 161]
theorem tA_0 : passB (keyF k0) k0 0 = tA0L := rfl
theorem tA_1 : passB (keyF k0) k0 1 = tA1L := by rw [passB, tA_0, key0]; decide +kernel
theorem tA_2 : passB (keyF k0) k0 2 = tA2L := by rw [passB, tA_1, key1]; decide +kernel
theorem tA_3 : passB (keyF k0) k0 3 = tA3L := by rw [passB, tA_2, key2]; decide +kernel
theorem tA_4 : passB (keyF k0) k0 4 = tA4L := by rw [passB, tA_3, key3]; decide +kernel
theorem tA_5 : passB (keyF k0) k0 5 = tA5L := by rw [passB, tA_4, key4]; decide +kernel
theorem tA_6 : passB (keyF k0) k0 6 = tA6L := by rw [passB, tA_5, key5]; decide +kernel
theorem tA_7 : passB (keyF k0) k0 7 = tA7L := by rw [passB, tA_6, key6]; decide +kernel
theorem tA_8 : passB (keyF k0) k0 8 = tA8L := by rw [passB, tA_7, key7]; decide +kernel
theorem tA_9 : passB (keyF k0) k0 9 = tA9L := by rw [passB, tA_8, key8]; decide +kernel
theorem tA_10 : passB (keyF k0) k0 10 = tA10L := by rw [passB, tA_9, key9]; decide +kernel
theorem tA_11 : passB (keyF k0) k0 11 = tA11L := by rw [passB, tA_10, key10]; decide +kernel
def cL : List UInt8 := [75, 64, 166, 60, 127, 1, 113, 238, 60, 221, 164, 54, 63, 191, 174, 117]
theorem tA_out : passL (keyF k0) 12 k0 = cL := by
  show xorL (stepL 11 (passB (keyF k0) k0 11) ((keyF k0) 11)) ((keyF k0) 12) 16 = _
  rw [tA_11, key11, key12]; decide +kernel
def tB0L : List UInt8 := [75, 64, 166, 60, 127, 1, 113, 238, 60, 221, 164, 54, 63, 191, 174, 117]
def tB1L : List UInt8 := [64, 185, 232, 42, 47, 157, 47, 205, 62, 160, 46, 178, 244, 205, 70, 125]
def tB2L : List UInt8 := [92, 133, 62, 200, 97, 84, 37, 254, 66, 85, 188, 21, 36, 230, 179, 207]
def tB3L : List UInt8 := [61, 85, 190, 243, 94, 154, 178, 93, 5, 15, 228, 22, 14, 147, 62, 218]
def tB4L : List UInt8 := [198, 138, 36, 101, 126, 34, 128, 157, 190, 110, 56, 177, 30, 6, 223, 99]
def tB5L : List UInt8 := [188, 234, 216, 138, 116, 225, 210, 31, 233, 128, 142, 15, 193, 93, 195, 42]
def tB6L : List UInt8 := [135, 125, 187, 223, 1, 106, 8, 213, 178, 2, 234, 111, 71, 135, 227, 21]
def tB7L : List UInt8 := [243, 40, 169, 75, 105, 46, 228, 228, 74, 129, 3, 18, 95, 81, 181, 39]
def tB8L : List UInt8 := [98, 7, 56, 131, 54, 26, 101, 220, 99, 231, 198, 74, 140, 218, 216, 69]
def tB9L : List UInt8 := [239, 152, 61, 251, 123, 177, 91, 64, 23, 110, 118, 97, 86, 37, 198, 70]
def tB10L : List UInt8 := [90, 90, 12, 99, 210, 211, 151, 89, 49, 61, 186, 140, 69, 237, 97, 78]
def tB11L : List UInt8 := [160, 229, 1, 152, 46, 191, 162, 120, 79, 216, 113, 181, 71, 43, 238, 81]
theorem tB_0 : passB (undoF (keyF k0) 12) cL 0 = tB0L := rfl
theorem tB_1 : passB (undoF (keyF k0) 12) cL 1 = tB1L := by rw [passB, tB_0, und0]; decide +kernel
theorem tB_2 : passB (undoF (keyF k0) 12) cL 2 = tB2L := by rw [passB, tB_1, und1]; decide +kernel
theorem tB_3 : passB (undoF (keyF k0) 12) cL 3 = tB3L := by rw [passB, tB_2, und2]; decide +kernel
theorem tB_4 : passB (undoF (keyF k0) 12) cL 4 = tB4L := by rw [passB, tB_3, und3]; decide +kernel
theorem tB_5 : passB (undoF (keyF k0) 12) cL 5 = tB5L := by rw [passB, tB_4, und4]; decide +kernel
theorem tB_6 : passB (undoF (keyF k0) 12) cL 6 = tB6L := by rw [passB, tB_5, und5]; decide +kernel
theorem tB_7 : passB (undoF (keyF k0) 12) cL 7 = tB7L := by rw [passB, tB_6, und6]; decide +kernel
theorem tB_8 : passB (undoF (keyF k0) 12) cL 8 = tB8L := by rw [passB, tB_7, und7]; decide +kernel
theorem tB_9 : passB (undoF (keyF k0) 12) cL 9 = tB9L := by rw [passB, tB_8, und8]; decide +kernel
theorem tB_10 : passB (undoF (keyF k0) 12) cL 10 = tB10L := by rw [passB, tB_9, und9]; decide +kernel
theorem tB_11 : passB (undoF (keyF k0) 12) cL 11 = tB11L := by rw [passB, tB_10, und10]; decide +kernel
def dL : List UInt8 := [0, 0, 0, 0, 0, 0, 0, 0, 0, 0, 0, 0, 0, 0, 0, 0]
theorem tB_out : passL (undoF (keyF k0) 12) 12 cL = dL := by
  show xorL (stepL 11 (passB (undoF (keyF k0) 12) cL 11) ((undoF (keyF k0) 12) 11)) ((undoF (keyF k0) 12) 12) 16 = _
  rw [tB_11, und11, und12]; decide +kernel
theorem cL_ne : cL ≠ k0 := by decide +kernel
theorem dL_eq : dL = k0 := by decide +kernel
theorem keyN0 : keyN k0 = 13 := by decide +kernel
end Go.Proofs.YtpfkcplldhdipaaDoor
