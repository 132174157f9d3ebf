/- Plain facts on tables whose numbers are sums; own lemmas of the verifier, no statement is proved here. -/
import Derived.Test.YthfiijmmebgmoaaM2
namespace Go.Proofs.Ythfiijmmebgmoaa
/-- The sum of the rows whose bits a number has, of the first m. -/
def linN (bs : List UInt8) (i : Nat) : Nat → Nat
  | 0 => 0
  | m + 1 => if i / 2 ^ m % 2 = 1 then linN bs i m ^^^ nb bs m else linN bs i m
theorem linN_lt (bs : List UInt8) (i : Nat) : ∀ m, linN bs i m < 256
  | 0 => by simp [linN]
  | m + 1 => by
    rw [linN]
    split
    · exact xor_lt8 (linN_lt bs i m) (nb_lt bs m)
    · exact linN_lt bs i m
def linF (bs : List UInt8) (i : Nat) : UInt8 := UInt8.ofNat (linN bs i 8)
theorem bits_of : ∀ k < 8, ∀ i < 2 ^ k, ∀ j < 8, (2 ^ k + i) / 2 ^ j % 2 = if j = k then 1 else i / 2 ^ j % 2 := by decide +kernel
theorem bits_own : ∀ k < 8, ∀ i < 2 ^ k, i / 2 ^ k % 2 = 0 := by decide +kernel
theorem lin_step (bs : List UInt8) (k i : Nat) (hk : k < 8) (hi : i < 2 ^ k) : ∀ m, m ≤ 8 → linN bs (2 ^ k + i) m = if k < m then linN bs i m ^^^ nb bs k else linN bs i m
  | 0, _ => rfl
  | m + 1, hm => by
    rw [linN, linN, lin_step bs k i hk hi m (by omega), bits_of k hk i hi m (by omega)]
    by_cases h : m = k
    · subst h
      rw [if_pos rfl, if_pos rfl, if_neg (by omega), if_pos (by omega), bits_own m hk i hi, if_neg (by omega)]
    · rw [if_neg h]
      by_cases h2 : k < m
      · rw [if_pos h2, if_pos (show k < m + 1 by omega)]
        split
        · rw [Nat.xor_assoc, Nat.xor_comm (nb bs k), ← Nat.xor_assoc]
        · rfl
      · rw [if_neg h2, if_neg (show ¬ k < m + 1 by omega)]
theorem dbl_lin (bs : List UInt8) (x y : Nat) : Dbl (fun i => chi (i &&& x) * chi (linN bs i 8 &&& y)) (fun k => chi (2 ^ k &&& x) * chi (nb bs k &&& y)) :=
  ⟨by
    show chi (0 &&& x) * chi (linN bs 0 8 &&& y) = 1
    have : linN bs 0 8 = 0 := by simp [linN]
    rw [this, Nat.zero_and, Nat.zero_and, chi_zero]; rfl,
   fun k _ => by rcases chi_one (2 ^ k &&& x) with h1 | h1 <;> rcases chi_one (nb bs k &&& y) with h2 | h2 <;> simp [h1, h2],
   fun k hk i hi => by
    show chi ((2 ^ k + i) &&& x) * chi (linN bs (2 ^ k + i) 8 &&& y) = chi (2 ^ k &&& x) * chi (nb bs k &&& y) * (chi (i &&& x) * chi (linN bs i 8 &&& y))
    rw [lin_step bs k i hk hi 8 (by omega), if_pos (by omega), pow_xor k hk i hi, chi_and, chi_and, Int.mul_assoc, Int.mul_assoc, Int.mul_left_comm (chi (nb bs k &&& y)), Int.mul_comm (chi (nb bs k &&& y))]⟩
/-- The table. -/
def linL (bs : List UInt8) : List UInt8 := (List.range 256).map (linF bs)
theorem linL_at (bs : List UInt8) (i : Nat) (h : i < 256) : nb (linL bs) i = linN bs i 8 := by
  unfold nb linL linF
  simp [List.getD, h, UInt8.toNat_ofNat']
  exact linN_lt bs i 8
theorem lin_bias (bs : List UInt8) (x y : Nat) : biasS (linL bs) x y 256 = 0 ∨ biasS (linL bs) x y 256 = 256 := by
  rw [biasS_chi, sm_congr (g := fun i => chi (i &&& x) * chi (linN bs i 8 &&& y)) 256 fun i hi => by rw [linL_at bs i hi]]
  exact (dbl_lin bs x y).all_or
/-- The table behind i numbers and k rows of the next one. -/
def linG (bs : List UInt8) (i k : Nat) : List UInt8 := (fillTo (linF bs) 256 i).set i (UInt8.ofNat (linN bs i k))
theorem linG_length (bs : List UInt8) (i k : Nat) : (linG bs i k).length = 256 := by simp [linG, fillTo_length]
theorem linG_start (bs : List UInt8) (i : Nat) : linG bs i 0 = fillTo (linF bs) 256 i := by
  unfold linG
  apply List.ext_getElem
  · simp [fillTo_length]
  · intro j h1 h2
    have hj : j < 256 := by simpa [fillTo_length] using h2
    simp only [List.getElem_set]
    split
    · rename_i h; subst h; simp [fillTo, linN]
    · rfl
theorem linG_end (bs : List UInt8) (i : Nat) : linG bs i 8 = fillTo (linF bs) 256 (i + 1) := fillTo_set _ _ _ _ rfl
theorem linG_at (bs : List UInt8) (i k : Nat) (h : i < 256) : nb (linG bs i k) i = linN bs i k := by
  unfold linG
  rw [nb_set _ _ _ _ (by rw [fillTo_length]; exact h) (linN_lt bs i k), if_pos rfl]
theorem linG_set (bs : List UInt8) (i k v : Nat) (hv : v = linN bs i (k + 1)) : (linG bs i k).set i (UInt8.ofNat v) = linG bs i (k + 1) := by
  subst hv
  unfold linG
  rw [List.set_set]
end Go.Proofs.Ythfiijmmebgmoaa
