/- Plain facts on rounds, turned keys, parities; own text of the verifier, no statement is proved here. -/
import Derived.Test.YthfcndaccfpnmaaDoorF1
namespace Go.Proofs.YthfcndaccfpnmaaDoor
open Go.RowKit
theorem bytes_ext {xs ys : List UInt8} {n : Nat} (hx : xs.length = n) (hy : ys.length = n) (h : ∀ i, i < n → xs.getD i 0 = ys.getD i 0) : xs = ys := by
  apply List.ext_getElem (by omega)
  intro i h1 h2
  have := h i (by omega)
  rwa [getD_eq _ _ _ h1, getD_eq _ _ _ h2] at this
theorem xorL_self (xs ys : List UInt8) (n : Nat) (hx : xs.length = n) : xorL (xorL xs ys n) ys n = xs := by
  refine bytes_ext (xorL_length _ _ _) hx fun i hi => ?_
  rw [xorL_get _ _ _ _ hi, xorL_get _ _ _ _ hi, UInt8.xor_assoc, UInt8.xor_self, UInt8.xor_zero]
theorem feL_congr {kf kg : Nat → List UInt8} (l r : List UInt8) : ∀ n, (∀ i, i < n → kf i = kg i) → feL kf l r n = feL kg l r n
  | 0, _ => rfl
  | n + 1, h => by
    rw [feL, feL, feL_congr l r n (fun i hi => h i (by omega)), h n (by omega)]
theorem turnL_def (kf : Nat → List UInt8) (b : List UInt8) : turnL kf b = permL ((feL kf ((permL b ipL).take 4) ((permL b ipL).drop 4) 16).2 ++ (feL kf ((permL b ipL).take 4) ((permL b ipL).drop 4) 16).1) ipU := rfl
theorem turnL_congr {kf kg : Nat → List UInt8} (b : List UInt8) (h : ∀ i, i < 16 → kf i = kg i) : turnL kf b = turnL kg b := by
  unfold turnL
  rw [feL_congr _ _ 16 h]
/-- The rounds, back. -/
theorem feL_back {kf kg : Nat → List UInt8} {l r : List UInt8} (hl : l.length = 4) (hr : r.length = 4) (h : ∀ i, i < 16 → kg i = kf (15 - i)) :
    ∀ i, i ≤ 16 → feL kg (feL kf l r 16).2 (feL kf l r 16).1 i = ((feL kf l r (16 - i)).2, (feL kf l r (16 - i)).1)
  | 0, _ => rfl
  | i + 1, hi => by
    rw [feL, feL_back hl hr h i (by omega), h i (by omega)]
    obtain ⟨j, hj⟩ : ∃ j, 16 - i = j + 1 := ⟨15 - i, by omega⟩
    rw [hj, show 16 - (i + 1) = j by omega, show 15 - i = j by omega]
    have e : feL kf l r (j + 1) = ((feL kf l r j).2, xorL (feL kf l r j).1 (fL (feL kf l r j).2 (kf j)) 4) := rfl
    rw [e]
    simp only
    rw [xorL_self _ _ 4 (feL_len kf hl hr j).1]
theorem ip_back (y : List UInt8) (hy : y.length = 8) : permL (permL y ipU) ipL = y := by
  have hun : Undo 64 ipU ipL := fun i j hi hj => (ipU_perm.2 j i hj hi).symm
  exact permL_back (n := 8) hy ipU_perm.1 ip_perm hun
theorem ip_there (y : List UInt8) (hy : y.length = 8) : permL (permL y ipL) ipU = y := permL_back (n := 8) hy ip_perm ipU_perm.1 ipU_perm.2
theorem turnL_back {kf kg : Nat → List UInt8} (b : List UInt8) (hb : b.length = 8) (h : ∀ i, i < 16 → kg i = kf (15 - i)) : turnL kg (turnL kf b) = b := by
  have hx : (permL b ipL).length = 8 := perm_len b ipL 64 (ipN_len 64)
  have hl : ((permL b ipL).take 4).length = 4 := by simp; omega
  have hr : ((permL b ipL).drop 4).length = 4 := by simp; omega
  obtain ⟨l, hle⟩ : ∃ l, (permL b ipL).take 4 = l := ⟨_, rfl⟩
  obtain ⟨r, hre⟩ : ∃ r, (permL b ipL).drop 4 = r := ⟨_, rfl⟩
  have hlen := feL_len kf (l := l) (r := r) (by rw [← hle]; exact hl) (by rw [← hre]; exact hr) 16
  have e1 : turnL kf b = permL ((feL kf l r 16).2 ++ (feL kf l r 16).1) ipU := by unfold turnL; rw [hle, hre]
  have e2 : permL (turnL kf b) ipL = (feL kf l r 16).2 ++ (feL kf l r 16).1 := by
    rw [e1, ip_back _ (by rw [List.length_append, hlen.1, hlen.2])]
  have e3 := turnL_def kg (turnL kf b)
  rw [e3, e2, List.take_left' hlen.2, List.drop_left' hlen.2, feL_back (by rw [← hle]; exact hl) (by rw [← hre]; exact hr) h 16 (Nat.le_refl _)]
  simp only [Nat.sub_self, feL]
  rw [← hle, ← hre, List.take_append_drop]
  exact ip_there b hb
/-! All bits others. -/
theorem notL_len (bs : List UInt8) : (notL bs).length = bs.length := by simp [notL]
theorem notL_get (bs : List UInt8) (i : Nat) (hi : i < bs.length) : (notL bs).getD i 0 = bs.getD i 0 ^^^ 255 := by
  simp [notL, List.getD, hi]
theorem bit_255 : ∀ j, j < 8 → (255 : UInt8).toNat / 2 ^ j % 2 = 1 := by decide
theorem bitN_not (bs : List UInt8) (i : Int) (h : hasN bs.length i = true) : bitN (notL bs) i = 1 - bitN bs i := by
  have hb := bitN_le bs i
  unfold bitN at hb ⊢
  rw [notL_len, if_pos h]
  rw [if_pos h] at hb ⊢
  have hi : ((i - 1) / 8).toNat < bs.length := by
    have := h
    unfold hasN at this
    simp only [decide_eq_true_eq] at this
    omega
  rw [notL_get _ _ hi, u8_bit, bit_255 _ (by omega)]
  omega
theorem permL_not (bs : List UInt8) (ts : List Int) (hok : okT bs.length ts = true) (h8 : ts.length % 8 = 0) : permL (notL bs) ts = notL (permL bs ts) := by
  refine ext_bits (by rw [notL_len, permL_length, permL_length]) fun q hq => ?_
  rw [permL_length] at hq
  have hql : q < ts.length := by omega
  have hin : ∀ j, j < ts.length → hasN bs.length (ts.getD j 0) = true := fun j hj => by
    unfold okT at hok
    rw [List.all_eq_true] at hok
    apply hok
    rw [getD_eq _ _ _ hj]
    exact List.getElem_mem _
  rw [bit_permL _ _ _ (by omega), tb_in hql, bitN_not _ _ (hin q hql), bitN_not _ _ (hasN_in (by omega) (by rw [permL_length]; omega)), bit_permL _ _ _ (by omega), tb_in hql]
theorem notL_drop (bs : List UInt8) (k : Nat) : (notL bs).drop k = notL (bs.drop k) := by simp [notL, List.map_drop]
theorem notL_take (bs : List UInt8) (k : Nat) : (notL bs).take k = notL (bs.take k) := by simp [notL, List.map_take]
theorem notL_append (xs ys : List UInt8) : notL (xs ++ ys) = notL xs ++ notL ys := by simp [notL]
theorem xorL_not (xs ys : List UInt8) (n : Nat) (hx : xs.length = n) : xorL (notL xs) ys n = notL (xorL xs ys n) := by
  refine bytes_ext (xorL_length _ _ _) (by rw [notL_len, xorL_length]) fun i hi => ?_
  rw [xorL_get _ _ _ _ hi, notL_get _ _ (by omega), notL_get _ _ (by rw [xorL_length]; exact hi), xorL_get _ _ _ _ hi, UInt8.xor_assoc, UInt8.xor_assoc, UInt8.xor_comm 255]
theorem xorL_nots (xs ys : List UInt8) (n : Nat) (hx : xs.length = n) (hy : ys.length = n) : xorL (notL xs) (notL ys) n = xorL xs ys n := by
  refine bytes_ext (xorL_length _ _ _) (xorL_length _ _ _) fun i hi => ?_
  rw [xorL_get _ _ _ _ hi, xorL_get _ _ _ _ hi, notL_get _ _ (by omega), notL_get _ _ (by omega), UInt8.xor_comm (ys.getD i 0), UInt8.xor_assoc, ← UInt8.xor_assoc 255, UInt8.xor_self, UInt8.zero_xor]
theorem fL_not (r k : List UInt8) (hr : r.length = 4) (hk : k.length = 6) : fL (notL r) (notL k) = fL r k := by
  have e : fx (notL r) (notL k) = fx r k := by
    unfold fx
    rw [permL_not r eL (by rw [hr]; exact e_ok) (by rw [show eL.length = 48 from eN_len 48])]
    exact xorL_nots _ _ 6 (perm_len _ _ 48 (eN_len 48)) hk
  unfold fL
  rw [e]
theorem feL_not (kf : Nat → List UInt8) {l r : List UInt8} (hl : l.length = 4) (hr : r.length = 4) : ∀ i, (∀ j, j < i → (kf j).length = 6) → feL (fun j => notL (kf j)) (notL l) (notL r) i = (notL (feL kf l r i).1, notL (feL kf l r i).2)
  | 0, _ => rfl
  | i + 1, h => by
    have hlen := feL_len kf hl hr i
    rw [feL, feL_not kf hl hr i (fun j hj => h j (by omega))]
    simp only
    rw [fL_not _ _ hlen.2 (h i (by omega)), xorL_not _ _ 4 hlen.1]
    rfl
theorem turnL_not (kf : Nat → List UInt8) (b : List UInt8) (hb : b.length = 8) (hk : ∀ j, j < 16 → (kf j).length = 6) : turnL (fun j => notL (kf j)) (notL b) = notL (turnL kf b) := by
  have hx : (permL b ipL).length = 8 := perm_len b ipL 64 (ipN_len 64)
  unfold turnL
  rw [permL_not b ipL (by rw [hb]; exact ip_ok) (by rw [show ipL.length = 64 from ipN_len 64]), notL_take, notL_drop, feL_not kf (by simp; omega) (by simp; omega) 16 hk]
  simp only
  rw [← notL_append, permL_not]
  · have hlen := feL_len kf (l := (permL b ipL).take 4) (r := (permL b ipL).drop 4) (by simp; omega) (by simp; omega) 16
    rw [List.length_append, hlen.1, hlen.2]
    exact ipU_ok
  · rw [ipU_perm.1.len]
theorem keyF_not (key : List UInt8) (i : Nat) (hk : key.length = 8) : keyF (notL key) i = notL (keyF key i) := by
  unfold keyF
  rw [permL_not key _ (by rw [hk]; exact tabP_ok _) (by rw [tabP_len]), permL_not _ _ (by rw [perm_len _ _ 56 (tabP_len _)]; exact c2_ok) (by rfl)]
/-! Parities. -/
def ParEq (xs ys : List UInt8) : Prop := xs.length = ys.length ∧ ∀ i, i < xs.length → ∃ d : UInt8, d.toNat ≤ 1 ∧ ys.getD i 0 = xs.getD i 0 ^^^ d
theorem ParEq.bit {xs ys : List UInt8} (h : ParEq xs ys) (t : Int) (ht : t % 8 ≠ 0) : bitN ys t = bitN xs t := by
  unfold bitN
  rw [← h.1]
  by_cases hh : hasN xs.length t = true
  · rw [if_pos hh, if_pos hh]
    have hi : ((t - 1) / 8).toNat < xs.length ∧ 1 ≤ t := by
      have := hh
      unfold hasN at this
      simp only [decide_eq_true_eq] at this
      omega
    obtain ⟨d, hd, he⟩ := h.2 _ hi.1
    rw [he, u8_bit]
    obtain ⟨s, hs⟩ : ∃ s, 7 - ((t - 1) % 8).toNat = s + 1 := ⟨6 - ((t - 1) % 8).toNat, by omega⟩
    rw [hs]
    have : d.toNat / 2 ^ (s + 1) = 0 := Nat.div_eq_of_lt (by rw [Nat.pow_succ]; have := Nat.two_pow_pos s; omega)
    rw [this]
    omega
  · rw [if_neg hh, if_neg hh]
theorem ParEq.key {xs ys : List UInt8} (h : ParEq xs ys) (i : Nat) : keyF ys i = keyF xs i := by
  have e : permL ys (tabP (i + 1)) = permL xs (tabP (i + 1)) := by
    refine ext_bits (by rw [permL_length, permL_length]) fun q hq => ?_
    rw [permL_length, tabP_len] at hq
    have hq56 : q < 56 := by omega
    rw [bit_permL _ _ _ (by rw [tabP_len]; omega), bit_permL _ _ _ (by rw [tabP_len]; omega), tb_in (by rw [tabP_len]; exact hq56), tb_in (by rw [tabP_len]; exact hq56)]
    refine h.bit _ ?_
    have hm : (tabP (i + 1)).getD q 0 ∈ tabP (i + 1) := by rw [getD_eq _ _ _ (by rw [tabP_len]; exact hq56)]; exact List.getElem_mem _
    exact (c1_in _ (tabP_mem _ _ hm)).2.2
  unfold keyF
  rw [e]
/-! F by its sum alone. -/
theorem fx_wide (a b k : List UInt8) (hk : k.length = 6) : fx b (xorL k (xorL (permL a eL) (permL b eL) 6) 6) = fx a k := by
  have _hk := hk
  unfold fx
  refine bytes_ext (xorL_length _ _ _) (xorL_length _ _ _) fun i hi => ?_
  rw [xorL_get _ _ _ _ hi, xorL_get _ _ _ _ hi, xorL_get _ _ _ _ hi, xorL_get _ _ _ _ hi]
  generalize (permL a eL).getD i 0 = x
  generalize (permL b eL).getD i 0 = y
  generalize k.getD i 0 = z
  rw [UInt8.xor_comm x y, ← UInt8.xor_assoc z, UInt8.xor_comm z y, ← UInt8.xor_assoc, ← UInt8.xor_assoc, UInt8.xor_self, UInt8.zero_xor, UInt8.xor_comm]
end Go.Proofs.YthfcndaccfpnmaaDoor
