/- Plain facts on sums of signs of bytes' parities; own lemmas of the verifier, no statement is proved here. -/
import Derived.Test.YthfiijmmebgmoaaE5
namespace Go.Proofs.Ythfiijmmebgmoaa
/-- The sign of a byte's parity. -/
def chi (y : Nat) : Int := if par y = 0 then 1 else -1
theorem chi_xor (x y : Nat) : chi (x ^^^ y) = chi x * chi y := by
  have h1 := par_le x
  have h2 := par_le y
  unfold chi
  rw [par_xor]
  rcases (show par x = 0 ∨ par x = 1 by omega) with e1 | e1 <;> rcases (show par y = 0 ∨ par y = 1 by omega) with e2 | e2 <;> rw [e1, e2] <;> rfl
theorem chi_zero : chi 0 = 1 := by unfold chi; rw [par_zero]; rfl
theorem chi_sq (x : Nat) : chi x * chi x = 1 := by unfold chi; split <;> rfl
theorem chi_one (x : Nat) : chi x = 1 ∨ chi x = -1 := by unfold chi; split <;> simp
theorem chi_and (x y z : Nat) : chi ((x ^^^ y) &&& z) = chi (x &&& z) * chi (y &&& z) := by
  rw [Nat.and_xor_distrib_right, chi_xor]
/-- The sum is doubled, or is nothing, at each bit. -/
structure Dbl (f : Nat → Int) (c : Nat → Int) : Prop where
  start : f 0 = 1
  sign : ∀ k, k < 8 → c k = 1 ∨ c k = -1
  step : ∀ k, k < 8 → ∀ i, i < 2 ^ k → f (2 ^ k + i) = c k * f i
theorem Dbl.next {f c : Nat → Int} (h : Dbl f c) {k : Nat} (hk : k < 8) : sm f (2 ^ (k + 1)) = sm f (2 ^ k) + c k * sm f (2 ^ k) := by
  rw [show 2 ^ (k + 1) = 2 ^ k + 2 ^ k by rw [Nat.pow_succ]; omega, sm_plus, ← sm_mul]
  congr 1
  exact sm_congr _ fun i hi => h.step k hk i hi
theorem Dbl.pow {f c : Nat → Int} (h : Dbl f c) : ∀ k, k ≤ 8 → ((∀ j, j < k → c j = 1) ∧ sm f (2 ^ k) = 2 ^ k) ∨ ((∃ j, j < k ∧ c j = -1) ∧ sm f (2 ^ k) = 0)
  | 0, _ => .inl ⟨fun j hj => absurd hj (by omega), by show (0 : Int) + f 0 = 1; rw [h.start]; rfl⟩
  | k + 1, hk => by
    rw [h.next (by omega)]
    rcases h.pow k (by omega) with ⟨h1, h2⟩ | ⟨⟨j, hj, hc⟩, h2⟩
    · rcases h.sign k (by omega) with h3 | h3
      · refine .inl ⟨fun j hj => ?_, by rw [h2, h3, Int.pow_succ]; omega⟩
        rcases Nat.lt_or_ge j k with h4 | h4
        · exact h1 j h4
        · rw [show j = k by omega]; exact h3
      · exact .inr ⟨⟨k, by omega, h3⟩, by rw [h2, h3]; omega⟩
    · exact .inr ⟨⟨j, by omega, hc⟩, by rw [h2]; omega⟩
theorem Dbl.all_or {f c : Nat → Int} (h : Dbl f c) : sm f 256 = 0 ∨ sm f 256 = 256 := by
  rcases h.pow 8 (by omega) with h1 | h1
  · exact .inr h1.2
  · exact .inl h1.2
theorem Dbl.none {f c : Nat → Int} (h : Dbl f c) {k : Nat} (hk : k < 8) (hc : c k = -1) : sm f 256 = 0 := by
  rcases h.pow 8 (by omega) with h1 | h1
  · have := h1.1 k hk
    omega
  · exact h1.2
theorem pow_xor : ∀ k < 8, ∀ i < 2 ^ k, 2 ^ k + i = 2 ^ k ^^^ i := by decide +kernel
theorem one_bit : ∀ z < 256, z ≠ 0 → ∃ k < 8, par (2 ^ k &&& z) = 1 := by decide +kernel
theorem dbl_chi (z : Nat) : Dbl (fun x => chi (x &&& z)) (fun k => chi (2 ^ k &&& z)) :=
  ⟨by simp [chi_zero], fun k _ => chi_one _, fun k hk i hi => by
    show chi ((2 ^ k + i) &&& z) = _
    rw [pow_xor k hk i hi, chi_and]⟩
/-- Of a number that is not nothing the signs add up to nothing. -/
theorem chi_sum (z : Nat) (h : z < 256) (h0 : z ≠ 0) : sm (fun x => chi (x &&& z)) 256 = 0 := by
  obtain ⟨k, hk, hp⟩ := one_bit z h h0
  refine (dbl_chi z).none hk ?_
  show chi (2 ^ k &&& z) = -1
  unfold chi
  rw [hp]; rfl
theorem sm_one : ∀ k, sm (fun _ => 1) k = k
  | 0 => rfl
  | k + 1 => by rw [sm, sm_one k]; omega
theorem chi_sum0 : sm (fun x => chi (x &&& 0)) 256 = 256 := by
  rw [sm_congr (g := fun _ => 1) 256 fun i _ => by rw [Nat.and_zero, chi_zero], sm_one]; rfl
theorem sm_comm (F : Nat → Nat → Int) (m : Nat) : ∀ n, sm (fun i => sm (fun j => F i j) m) n = sm (fun j => sm (fun i => F i j) n) m
  | 0 => (sm_zero m).symm
  | n + 1 => by
    rw [sm, sm_comm F m n, ← sm_add]
    exact sm_congr _ fun j _ => rfl
theorem sm_single (c : Int) (y : Nat) : ∀ n, sm (fun i => if i = y then c else 0) n = if y < n then c else 0
  | 0 => rfl
  | n + 1 => by
    rw [sm, sm_single c y n]
    by_cases h1 : y < n
    · rw [if_pos h1, if_neg (by omega), if_pos (by omega)]; omega
    · by_cases h2 : n = y
      · rw [if_neg h1, if_pos h2, if_pos (by omega)]; omega
      · rw [if_neg h1, if_neg h2, if_neg (by omega)]; rfl
/-- A sum by a table that has each number once is the sum. -/
theorem sm_perm {bs : List UInt8} {n : Nat} (h : IsT n bs) (f : Nat → Int) : sm (fun x => f (nb bs x)) n = sm f n := by
  have e1 : sm (fun x => f (nb bs x)) n = sm (fun x => sm (fun y => if y = nb bs x then f y else 0) n) n := by
    refine sm_congr _ fun x hx => ?_
    have : sm (fun y => if y = nb bs x then f y else 0) n = sm (fun y => if y = nb bs x then f (nb bs x) else 0) n := by
      refine sm_congr _ fun y _ => ?_
      show (if y = nb bs x then f y else 0) = if y = nb bs x then f (nb bs x) else 0
      by_cases hy : y = nb bs x
      · rw [if_pos hy, if_pos hy, hy]
      · rw [if_neg hy, if_neg hy]
    rw [this, sm_single, if_pos (h.lt x hx)]
  rw [e1, sm_comm]
  refine sm_congr _ fun y hy => ?_
  obtain ⟨x, hx, hxy⟩ := h.onto y hy
  have : sm (fun i => if y = nb bs i then f y else 0) n = sm (fun i => if i = x then f y else 0) n := by
    refine sm_congr _ fun i hi => ?_
    show (if y = nb bs i then f y else 0) = if i = x then f y else 0
    by_cases hix : i = x
    · rw [if_pos hix, if_pos (by rw [hix, hxy])]
    · rw [if_neg hix, if_neg]
      intro he
      exact hix (h.inj i x hi hx (by rw [← he, hxy]))
  rw [this, sm_single, if_pos hx]
theorem biasF_chi (bs : List UInt8) (a b x : Nat) (hx : x < 256) : biasF bs a b x = chi (x &&& a) * chi (nb bs x &&& b) := by
  rw [← chi_xor]
  unfold biasF chi
  rw [Nat.mod_eq_of_lt hx]
theorem biasS_chi (bs : List UInt8) (a b : Nat) : biasS bs a b 256 = sm (fun x => chi (x &&& a) * chi (nb bs x &&& b)) 256 := sm_congr _ fun x hx => biasF_chi bs a b x hx
theorem bias_left (bs : List UInt8) (a : Nat) (h : a < 256) (h0 : a ≠ 0) : biasS bs a 0 256 = 0 := by
  rw [biasS_chi, sm_congr (g := fun x => chi (x &&& a)) 256 fun x _ => by rw [Nat.and_zero, chi_zero, Int.mul_one]]
  exact chi_sum a h h0
theorem bias_right {bs : List UInt8} (hT : IsT 256 bs) (b : Nat) (h : b < 256) (h0 : b ≠ 0) : biasS bs 0 b 256 = 0 := by
  rw [biasS_chi, sm_congr (g := fun x => chi (nb bs x &&& b)) 256 fun x _ => by rw [Nat.and_zero, chi_zero, Int.one_mul]]
  rw [sm_perm hT (fun y => chi (y &&& b))]
  exact chi_sum b h h0
theorem bias_none (bs : List UInt8) : biasS bs 0 0 256 = 256 := by
  rw [biasS_chi, sm_congr (g := fun _ => 1) 256 fun x _ => by rw [Nat.and_zero, Nat.and_zero, chi_zero]; rfl, sm_one]; rfl
theorem chi_sums (z : Nat) (h : z < 256) : sm (fun x => chi (x &&& z)) 256 % 4 = 0 := by
  by_cases h0 : z = 0
  · subst h0; rw [chi_sum0]; rfl
  · rw [chi_sum z h h0]; rfl
theorem bias_four {bs : List UInt8} (hT : IsT 256 bs) (a b : Nat) (ha : a < 256) (hb : b < 256) : biasS bs a b 256 % 4 = 0 := by
  have e : biasS bs a b 256 = sm (fun x => chi (x &&& a)) 256 + sm (fun x => chi (nb bs x &&& b)) 256 + (-1 * sm (fun _ => 1) 256) + 4 * sm (fun x => if chi (x &&& a) = -1 ∧ chi (nb bs x &&& b) = -1 then 1 else 0) 256 := by
    rw [biasS_chi, ← sm_mul, ← sm_mul, ← sm_add, ← sm_add, ← sm_add]
    refine sm_congr _ fun x _ => ?_
    rcases chi_one (x &&& a) with h1 | h1 <;> rcases chi_one (nb bs x &&& b) with h2 | h2 <;> simp [h1, h2]
  rw [sm_perm hT (fun y => chi (y &&& b)), sm_one] at e
  have h1 := chi_sums a ha
  have h2 := chi_sums b hb
  omega
theorem xor_none {x y : Nat} (h : x ^^^ y = 0) : x = y := by
  have h1 : x ^^^ y ^^^ y = y := by rw [h, Nat.zero_xor]
  rw [Nat.xor_assoc, Nat.xor_self, Nat.xor_zero] at h1
  exact h1
/-- The squares of all biases. -/
theorem sm_mul_sm (f : Nat → Int) (n : Nat) : sm f n * sm f n = sm (fun x => sm (fun y => f x * f y) n) n := by
  have : (fun x => sm (fun y => f x * f y) n) = fun x => sm f n * f x := by
    funext x; rw [sm_mul, Int.mul_comm]
  rw [this, sm_mul]
theorem bias_squares (bs : List UInt8) (b : Nat) : sm (fun a => biasS bs a b 256 * biasS bs a b 256) 256 = 65536 := by
  have e1 : sm (fun a => biasS bs a b 256 * biasS bs a b 256) 256 = sm (fun a => sm (fun x => sm (fun y => chi (a &&& (x ^^^ y)) * (chi (nb bs x &&& b) * chi (nb bs y &&& b))) 256) 256) 256 := by
    refine sm_congr _ fun a _ => ?_
    rw [biasS_chi, sm_mul_sm]
    refine sm_congr _ fun x _ => sm_congr _ fun y _ => ?_
    show chi (x &&& a) * chi (nb bs x &&& b) * (chi (y &&& a) * chi (nb bs y &&& b)) = chi (a &&& (x ^^^ y)) * (chi (nb bs x &&& b) * chi (nb bs y &&& b))
    rw [Nat.and_comm a, chi_and, Int.mul_assoc, Int.mul_assoc, Int.mul_left_comm (chi (nb bs x &&& b))]
  have e2 : sm (fun a => sm (fun x => sm (fun y => chi (a &&& (x ^^^ y)) * (chi (nb bs x &&& b) * chi (nb bs y &&& b))) 256) 256) 256 = sm (fun x => 256) 256 := by
    rw [sm_comm]
    refine sm_congr _ fun x hx => ?_
    show sm (fun a => sm (fun y => chi (a &&& (x ^^^ y)) * (chi (nb bs x &&& b) * chi (nb bs y &&& b))) 256) 256 = 256
    rw [sm_comm]
    have e3 : sm (fun y => sm (fun a => chi (a &&& (x ^^^ y)) * (chi (nb bs x &&& b) * chi (nb bs y &&& b))) 256) 256 = sm (fun y => if y = x then 256 else 0) 256 := by
      refine sm_congr _ fun y hy => ?_
      show sm (fun a => chi (a &&& (x ^^^ y)) * (chi (nb bs x &&& b) * chi (nb bs y &&& b))) 256 = if y = x then 256 else 0
      have e4 : sm (fun a => chi (a &&& (x ^^^ y)) * (chi (nb bs x &&& b) * chi (nb bs y &&& b))) 256 = (chi (nb bs x &&& b) * chi (nb bs y &&& b)) * sm (fun a => chi (a &&& (x ^^^ y))) 256 := by
        rw [← sm_mul]; exact sm_congr _ fun a _ => Int.mul_comm _ _
      rw [e4]
      by_cases h : y = x
      · subst h
        rw [if_pos rfl, Nat.xor_self, chi_sum0, chi_sq]; rfl
      · rw [if_neg h, chi_sum (x ^^^ y) (xor_lt8 hx hy) (fun h0 => h (xor_none h0).symm), Int.mul_zero]
    rw [e3, sm_single, if_pos hx]
  rw [e1, e2, show (fun _ : Nat => (256 : Int)) = fun _ => 256 * 1 from rfl, sm_mul, sm_one]; rfl
end Go.Proofs.Ythfiijmmebgmoaa
