/- Plain facts on tables of powers; own lemmas of the verifier, no statement is proved here. -/
import Derived.Test.YtcmhaomnabdopaaDoorX6
namespace Go.Proofs.YtcmhaomnabdopaaDoor
open Go.RowKit
def oneL : List UInt8 := [1, 2, 4, 8, 16, 32, 64, 128]
theorem nb_one (k : Nat) (h : k < 8) : nb oneL k = oneR k := by
  match k, h with
  | 0, _ | 1, _ | 2, _ | 3, _ | 4, _ | 5, _ | 6, _ | 7, _ => rfl
theorem affN_congr {x c : Nat} {rs ss : Nat → Nat} (h : ∀ j, j < 8 → rs j = ss j) : affN x rs c = affN x ss c := affG_congr 8 h
theorem aff_oneL {x c : Nat} (hx : x < 256) : affN x (nb oneL) c = x ^^^ c := by rw [affN_congr nb_one, aff_one hx]
theorem mk_one {m e c x : Nat} (hm : IsRest m) : mkF e m oneL c x = gp m x e ^^^ c := aff_oneL (gp_lt hm e)
theorem mkL_nb {m e c x : Nat} {bs : List UInt8} (hc : c < 256) (hx : x < 256) : nb (mkL e m bs c) x = mkF e m bs c x := tabF_nb (mkF_lt hc) hx
theorem mk_isT {m e c : Nat} {bs : List UInt8} (hc : c < 256) : IsT 256 (mkL e m bs c) ↔ ∀ i j, i < 256 → j < 256 → mkF e m bs c i = mkF e m bs c j → i = j :=
  tabF_isT (by omega) fun i _ => mkF_lt hc
theorem gp_one_n (m : Nat) : ∀ n, gp m 1 n = 1
  | 0 => rfl
  | n + 1 => by rw [gp, gp_one_n m n, gm_one]
theorem pow_back {m k l x : Nat} (hF : IsField m) (hk : 0 < k) (hkl : k * l % 255 = 1) (hx : x < 256) : gp m (gp m x k) l = x := by
  have hm := hF.toIsRest
  have hl : 0 < l := by
    rcases Nat.eq_zero_or_pos l with h | h
    · subst h; simp at hkl
    · exact h
  rcases Nat.eq_zero_or_pos x with h0 | h0
  · subst h0
    obtain ⟨k', rfl⟩ : ∃ k', k = k' + 1 := ⟨k - 1, by omega⟩
    obtain ⟨l', rfl⟩ : ∃ l', l = l' + 1 := ⟨l - 1, by omega⟩
    rw [gp_zero, gp_zero]
  · rw [gp_mul hm hx]
    have e : k * l = 255 * (k * l / 255) + 1 := by omega
    rw [e, gp_add hm hx, ← gp_mul hm hx, hF.all x h0 hx, gp_one_n, gp_one hm hx, gm_one_left hm hx]
theorem coprimes : ∀ k < 255, k % 3 ≠ 0 ∧ k % 5 ≠ 0 ∧ k % 17 ≠ 0 → ∃ l < 255, k * l % 255 = 1 := by decide +kernel
theorem pow_inj {m k : Nat} (hF : IsField m) (h0 : 0 < k) (h1 : k < 255) (h : k % 3 ≠ 0 ∧ k % 5 ≠ 0 ∧ k % 17 ≠ 0) {i j : Nat} (hi : i < 256) (hj : j < 256) (he : gp m i k = gp m j k) : i = j := by
  obtain ⟨l, _, hl⟩ := coprimes k h1 h
  have e1 := pow_back hF h0 hl hi
  have e2 := pow_back hF h0 hl hj
  rw [he, e2] at e1
  exact e1.symm
def wit (m : Nat) : Bool := ((List.range 256).any fun r => r != 1 && p3 m r == 1) && ((List.range 256).any fun r => r != 1 && p5 m r == 1) && ((List.range 256).any fun r => r != 1 && p17 m r == 1)
theorem wit283 : wit 283 = true := by decide +kernel
theorem wit361 : wit 361 = true := by decide +kernel
theorem wit333 : wit 333 = true := by decide +kernel
theorem wit285 : wit 285 = true := by decide +kernel
theorem wit299 : wit 299 = true := by decide +kernel
theorem modF_wit (a : Int) : wit (modF a) = true := by
  unfold modF
  obtain ⟨k, hk⟩ : ∃ k : Nat, (a % 5).toNat = k := ⟨_, rfl⟩
  have hk5 : k < 5 := by omega
  rw [hk]
  match k, hk5 with
  | 0, _ => exact wit283
  | 1, _ => exact wit361
  | 2, _ => exact wit333
  | 3, _ => exact wit285
  | 4, _ => exact wit299
theorem pow_same {m k d r : Nat} (hm : IsRest m) (hr : r < 256) (h1 : gp m r d = 1) (hd : k % d = 0) : gp m r k = gp m 1 k := by
  have e : k = d * (k / d) := by
    have := Nat.div_add_mod k d
    omega
  rw [gp_one_n, e, ← gp_mul hm hr, h1, gp_one_n]
theorem pow_not {m k : Nat} (hm : IsRest m) (hw : wit m = true) (h : ¬ (k % 3 ≠ 0 ∧ k % 5 ≠ 0 ∧ k % 17 ≠ 0)) : ∃ i j, i < 256 ∧ j < 256 ∧ i ≠ j ∧ gp m i k = gp m j k := by
  unfold wit at hw
  simp only [Bool.and_eq_true, List.any_eq_true, List.mem_range, bne_iff_ne, beq_iff_eq] at hw
  obtain ⟨⟨⟨a, ha, ha1, ha2⟩, ⟨b, hb, hb1, hb2⟩⟩, ⟨c, hc, hc1, hc2⟩⟩ := hw
  have h' : k % 3 = 0 ∨ k % 5 = 0 ∨ k % 17 = 0 := by omega
  rcases h' with h3 | h5 | h17
  · exact ⟨a, 1, ha, by omega, ha1, pow_same hm ha ((gp_p3 hm ha).symm.trans ha2) h3⟩
  · exact ⟨b, 1, hb, by omega, hb1, pow_same hm hb ((gp_p5 hm hb).symm.trans hb2) h5⟩
  · exact ⟨c, 1, hc, by omega, hc1, pow_same hm hc ((gp_p17 hm hc).symm.trans hc2) h17⟩
theorem xor_cancel {a b c : Nat} (h : a ^^^ c = b ^^^ c) : a = b := by
  have : a ^^^ c ^^^ c = b ^^^ c ^^^ c := by rw [h]
  rwa [Nat.xor_assoc, Nat.xor_self, Nat.xor_zero, Nat.xor_assoc, Nat.xor_self, Nat.xor_zero] at this
theorem powers_isT {m k c : Nat} (hF : IsField m) (hw : wit m = true) (h0 : 0 < k) (h1 : k < 255) (hc : c < 256) :
    IsT 256 (mkL k m oneL c) ↔ (k % 3 ≠ 0 ∧ k % 5 ≠ 0 ∧ k % 17 ≠ 0) := by
  rw [mk_isT hc]
  constructor
  · intro h
    rcases Decidable.em (k % 3 ≠ 0 ∧ k % 5 ≠ 0 ∧ k % 17 ≠ 0) with hg | hg
    · exact hg
    · obtain ⟨i, j, hi, hj, hne, he⟩ := pow_not hF.toIsRest hw hg
      exact absurd (h i j hi hj (by rw [mk_one hF.toIsRest, mk_one hF.toIsRest, he])) hne
  · intro hg i j hi hj he
    rw [mk_one hF.toIsRest, mk_one hF.toIsRest] at he
    exact pow_inj hF h0 h1 hg hi hj (xor_cancel he)
/-! The two tables of the law on known ones. -/
def knownR1 : List UInt8 := [241, 227, 199, 143, 31, 62, 124, 248]
def knownR2 : List UInt8 := [122, 188, 235, 185, 52, 129, 186, 203]
def inv1 : List Nat := [82, 9, 106, 213, 48, 54, 165, 56, 191, 64, 163, 158, 129, 243, 215, 251, 124, 227, 57, 130, 155, 47, 255, 135, 52, 142, 67, 68, 196, 222, 233, 203, 84, 123, 148, 50, 166, 194, 35, 61, 238, 76, 149, 11, 66, 250, 195, 78, 8, 46, 161, 102, 40, 217, 36, 178, 118, 91, 162, 73, 109, 139, 209, 37, 114, 248, 246, 100, 134, 104, 152, 22, 212, 164, 92, 204, 93, 101, 182, 146, 108, 112, 72, 80, 253, 237, 185, 218, 94, 21, 70, 87, 167, 141, 157, 132, 144, 216, 171, 0, 140, 188, 211, 10, 247, 228, 88, 5, 184, 179, 69, 6, 208, 44, 30, 143, 202, 63, 15, 2, 193, 175, 189, 3, 1, 19, 138, 107, 58, 145, 17, 65, 79, 103, 220, 234, 151, 242, 207, 206, 240, 180, 230, 115, 150, 172, 116, 34, 231, 173, 53, 133, 226, 249, 55, 232, 28, 117, 223, 110, 71, 241, 26, 113, 29, 41, 197, 137, 111, 183, 98, 14, 170, 24, 190, 27, 252, 86, 62, 75, 198, 210, 121, 32, 154, 219, 192, 254, 120, 205, 90, 244, 31, 221, 168, 51, 136, 7, 199, 49, 177, 18, 16, 89, 39, 128, 236, 95, 96, 81, 127, 169, 25, 181, 74, 13, 45, 229, 122, 159, 147, 201, 156, 239, 160, 224, 59, 77, 174, 42, 245, 176, 200, 235, 187, 60, 131, 83, 153, 97, 23, 43, 4, 126, 186, 119, 214, 38, 225, 105, 20, 99, 85, 33, 12, 125]
def inv2 : List Nat := [48, 104, 153, 27, 135, 185, 33, 120, 80, 57, 219, 225, 114, 9, 98, 60, 62, 126, 94, 142, 241, 160, 204, 163, 42, 29, 251, 182, 214, 32, 196, 141, 129, 101, 245, 137, 203, 157, 119, 198, 87, 67, 86, 23, 212, 64, 26, 77, 192, 99, 108, 227, 183, 200, 100, 106, 83, 170, 56, 152, 12, 244, 155, 237, 127, 34, 118, 175, 221, 58, 11, 88, 103, 136, 6, 195, 53, 13, 1, 139, 140, 194, 230, 95, 2, 36, 117, 147, 102, 30, 229, 226, 84, 216, 16, 206, 122, 232, 8, 44, 18, 151, 50, 171, 180, 39, 10, 35, 223, 239, 202, 217, 184, 250, 220, 49, 107, 209, 173, 25, 73, 189, 81, 150, 238, 228, 168, 65, 218, 255, 205, 85, 134, 54, 190, 97, 82, 248, 187, 14, 130, 72, 105, 154, 224, 71, 158, 92, 4, 75, 52, 21, 121, 38, 167, 222, 41, 174, 146, 215, 132, 233, 210, 186, 93, 243, 197, 176, 191, 164, 59, 113, 68, 70, 43, 252, 235, 111, 213, 246, 20, 254, 124, 112, 90, 125, 253, 47, 24, 131, 22, 165, 145, 31, 5, 149, 116, 169, 193, 91, 74, 133, 109, 19, 7, 79, 78, 69, 178, 15, 201, 28, 166, 188, 236, 115, 144, 123, 207, 89, 143, 161, 249, 45, 242, 177, 0, 148, 55, 159, 208, 46, 156, 110, 40, 63, 128, 240, 61, 211, 37, 138, 181, 231, 66, 179, 199, 234, 247, 76, 17, 51, 3, 162, 172, 96]
theorem left1 : ∀ x < 256, inv1.getD (affN (pw 283 x 254) (nb knownR1) 99) 0 = x := by decide +kernel
theorem left2 : ∀ x < 256, inv2.getD (affN (pw 283 x 247) (nb knownR2) 226) 0 = x := by decide +kernel
theorem mk_pw {e c x : Nat} {bs : List UInt8} (hx : x < 256) (he : e < 1024) : mkF e 283 bs c x = affN (pw 283 x e) (nb bs) c := by
  unfold mkF; rw [pw_eq rest283 hx he]
theorem known1 : IsT 256 (mkL 254 283 knownR1 99) := (mk_isT (by omega)).2 fun i j hi hj he => by
  rw [mk_pw hi (by omega), mk_pw hj (by omega)] at he
  rw [← left1 i hi, he, left1 j hj]
theorem known2 : IsT 256 (mkL 247 283 knownR2 226) := (mk_isT (by omega)).2 fun i j hi hj he => by
  rw [mk_pw hi (by omega), mk_pw hj (by omega)] at he
  rw [← left2 i hi, he, left2 j hj]
theorem k10 : nb (mkL 254 283 knownR1 99) 0 = 99 := by rw [mkL_nb (by omega) (by omega), mk_pw (by omega) (by omega)]; decide +kernel
theorem k11 : nb (mkL 254 283 knownR1 99) 1 = 124 := by rw [mkL_nb (by omega) (by omega), mk_pw (by omega) (by omega)]; decide +kernel
theorem k20 : nb (mkL 247 283 knownR2 226) 0 = 226 := by rw [mkL_nb (by omega) (by omega), mk_pw (by omega) (by omega)]; decide +kernel
theorem k21 : nb (mkL 247 283 knownR2 226) 1 = 78 := by rw [mkL_nb (by omega) (by omega), mk_pw (by omega) (by omega)]; decide +kernel
end Go.Proofs.YtcmhaomnabdopaaDoor
