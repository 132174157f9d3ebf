/- Plain facts on sums of turns by the rest of the place; own lemmas of the verifier, no statement is proved here. -/
import Derived.Test.YthfiijmmebgmoaaE1
namespace Go.Proofs.Ythfiijmmebgmoaa
/-- The sums over the places of one rest by 4. -/
def pR (bs : List UInt8) (r k : Nat) : Int := sm (fun x => if x % 4 = r then tR (byteAt bs x) else 0) k
def pI (bs : List UInt8) (r k : Nat) : Int := sm (fun x => if x % 4 = r then tI (byteAt bs x) else 0) k
theorem pR_succ (bs : List UInt8) (r k : Nat) : pR bs r (k + 1) = pR bs r k + if k % 4 = r then tR (byteAt bs k) else 0 := rfl
theorem pI_succ (bs : List UInt8) (r k : Nat) : pI bs r (k + 1) = pI bs r k + if k % 4 = r then tI (byteAt bs k) else 0 := rfl
theorem pR_abs (bs : List UInt8) (r k : Nat) : (pR bs r k).natAbs ≤ k := sm_abs (fun x => by
  have := tR_abs (byteAt bs x)
  split
  · exact this
  · decide) k
theorem pI_abs (bs : List UInt8) (r k : Nat) : (pI bs r k).natAbs ≤ k := sm_abs (fun x => by
  have := tI_abs (byteAt bs x)
  split
  · exact this
  · decide) k
theorem p_stay (bs : List UInt8) (r k : Nat) : ∀ m, (∀ i, k ≤ i → i < k + m → i % 4 ≠ r) → pR bs r (k + m) = pR bs r k ∧ pI bs r (k + m) = pI bs r k
  | 0, _ => ⟨rfl, rfl⟩
  | m + 1, h => by
    obtain ⟨h1, h2⟩ := p_stay bs r k m fun i hi hm => h i hi (by omega)
    have h3 := h (k + m) (by omega) (by omega)
    rw [← Nat.add_assoc, pR_succ, pI_succ, if_neg h3, if_neg h3, h1, h2]
    constructor <;> omega
theorem t_neg1 (b : Int) : tR (b + 3) = tI b ∧ tI (b + 3) = -tR b := by
  have := t_add b 3
  rw [show tR 3 = 0 from rfl, show tI 3 = -1 from rfl] at this
  omega
theorem t_neg2 (b : Int) : tR (b + 2) = -tR b ∧ tI (b + 2) = -tI b := by
  have := t_add b 2
  rw [show tR 2 = -1 from rfl, show tI 2 = 0 from rfl] at this
  omega
theorem t_neg3 (b : Int) : tR (b + 1) = -tI b ∧ tI (b + 1) = tR b := by
  have := t_add b 1
  rw [show tR 1 = 0 from rfl, show tI 1 = 1 from rfl] at this
  omega
/-- The four sums by the sums of one rest. -/
structure EP (e0 f0 e1 f1 e2 f2 e3 f3 p0 q0 p1 q1 p2 q2 p3 q3 : Int) : Prop where
  a0 : e0 = p0 + p1 + p2 + p3
  b0 : f0 = q0 + q1 + q2 + q3
  a1 : e1 = p0 + q1 - p2 - q3
  b1 : f1 = q0 - p1 - q2 + p3
  a2 : e2 = p0 - p1 + p2 - p3
  b2 : f2 = q0 - q1 + q2 - q3
  a3 : e3 = p0 - q1 - p2 + q3
  b3 : f3 = q0 + p1 - q2 - p3
theorem e_parts (bs : List UInt8) : ∀ k, EP (eR bs 0 k) (eI bs 0 k) (eR bs 1 k) (eI bs 1 k) (eR bs 2 k) (eI bs 2 k) (eR bs 3 k) (eI bs 3 k)
    (pR bs 0 k) (pI bs 0 k) (pR bs 1 k) (pI bs 1 k) (pR bs 2 k) (pI bs 2 k) (pR bs 3 k) (pI bs 3 k)
  | 0 => ⟨rfl, rfl, rfl, rfl, rfl, rfl, rfl, rfl⟩
  | k + 1 => by
    obtain ⟨h1, h2, h3, h4, h5, h6, h7, h8⟩ := e_parts bs k
    have s : ∀ a, eR bs a (k + 1) = eR bs a k + tR (byteAt bs k - a * k) := fun _ => rfl
    have t : ∀ a, eI bs a (k + 1) = eI bs a k + tI (byteAt bs k - a * k) := fun _ => rfl
    have u : ∀ r, pR bs r (k + 1) = pR bs r k + if k % 4 = r then tR (byteAt bs k) else 0 := fun _ => rfl
    have v : ∀ r, pI bs r (k + 1) = pI bs r k + if k % 4 = r then tI (byteAt bs k) else 0 := fun _ => rfl
    generalize byteAt bs k = b at *
    have z := t_neg1 b
    have y := t_neg2 b
    have x := t_neg3 b
    have g : ∀ c a : Int, (b - a * k) % 4 = (b + c) % 4 → tR (b - a * k) = tR (b + c) ∧ tI (b - a * k) = tI (b + c) := fun c a h => ⟨tR_mod h, tI_mod h⟩
    rcases (show k % 4 = 0 ∨ k % 4 = 1 ∨ k % 4 = 2 ∨ k % 4 = 3 by omega) with h | h | h | h
    · have g0 := g 0 0 (by omega)
      have g1 := g 0 1 (by omega)
      have g2 := g 0 2 (by omega)
      have g3 := g 0 3 (by omega)
      simp only [Int.add_zero] at g0 g1 g2 g3
      constructor <;> simp only [s, t, u, v, h, g0, g1, g2, g3] <;> simp <;> omega
    · have g0 := g 0 0 (by omega)
      have g1 := g 3 1 (by omega)
      have g2 := g 2 2 (by omega)
      have g3 := g 1 3 (by omega)
      simp only [Int.add_zero] at g0 g1 g2 g3
      constructor <;> simp only [s, t, u, v, h, g0, g1, g2, g3, x, y, z] <;> simp <;> omega
    · have g0 := g 0 0 (by omega)
      have g1 := g 2 1 (by omega)
      have g2 := g 0 2 (by omega)
      have g3 := g 2 3 (by omega)
      simp only [Int.add_zero] at g0 g1 g2 g3
      constructor <;> simp only [s, t, u, v, h, g0, g1, g2, g3, y] <;> simp <;> omega
    · have g0 := g 0 0 (by omega)
      have g1 := g 1 1 (by omega)
      have g2 := g 2 2 (by omega)
      have g3 := g 3 3 (by omega)
      simp only [Int.add_zero] at g0 g1 g2 g3
      constructor <;> simp only [s, t, u, v, h, g0, g1, g2, g3, x, y, z] <;> simp <;> omega
/-- The squares of the four are four times those of the parts. -/
theorem par_sq (u v : Int) : (u + v) * (u + v) + (u - v) * (u - v) = 2 * (u * u) + 2 * (v * v) := by
  rw [Int.add_mul, Int.mul_add, Int.mul_add, Int.sub_mul, Int.mul_sub, Int.mul_sub, Int.mul_comm v u]; omega
theorem EP.squares {e0 f0 e1 f1 e2 f2 e3 f3 p0 q0 p1 q1 p2 q2 p3 q3 : Int} (h : EP e0 f0 e1 f1 e2 f2 e3 f3 p0 q0 p1 q1 p2 q2 p3 q3) :
    (e0 * e0 + f0 * f0) + (e1 * e1 + f1 * f1) + (e2 * e2 + f2 * f2) + (e3 * e3 + f3 * f3) = 4 * ((p0 * p0 + q0 * q0) + (p1 * p1 + q1 * q1) + (p2 * p2 + q2 * q2) + (p3 * p3 + q3 * q3)) := by
  obtain ⟨a0, b0, a1, b1, a2, b2, a3, b3⟩ := h
  have k1 := par_sq (p0 + p2) (p1 + p3)
  have k2 := par_sq (q0 + q2) (q1 + q3)
  have k3 := par_sq (p0 - p2) (q1 - q3)
  have k4 := par_sq (q0 - q2) (p3 - p1)
  have k5 := par_sq p0 p2
  have k6 := par_sq p1 p3
  have k7 := par_sq q0 q2
  have k8 := par_sq q1 q3
  have k9 : (p3 - p1) * (p3 - p1) = (p1 - p3) * (p1 - p3) := by rw [show p3 - p1 = -(p1 - p3) by omega, Int.neg_mul_neg]
  rw [show p0 + p2 + (p1 + p3) = e0 by omega, show p0 + p2 - (p1 + p3) = e2 by omega] at k1
  rw [show q0 + q2 + (q1 + q3) = f0 by omega, show q0 + q2 - (q1 + q3) = f2 by omega] at k2
  rw [show p0 - p2 + (q1 - q3) = e1 by omega, show p0 - p2 - (q1 - q3) = e3 by omega] at k3
  rw [show q0 - q2 + (p3 - p1) = f1 by omega, show q0 - q2 - (p3 - p1) = f3 by omega] at k4
  omega
theorem squares (bs : List UInt8) (n : Nat) :
    sm (fun a => eR bs a n * eR bs a n + eI bs a n * eI bs a n) 4 = 4 * sm (fun r => pR bs r n * pR bs r n + pI bs r n * pI bs r n) 4 := by
  have h := (e_parts bs n).squares
  simp only [sm]
  simp only [Int.zero_add]
  exact h
theorem p_start (bs : List UInt8) (r n : Nat) (hr : r < 4) : pR bs r (min r n) = 0 ∧ pI bs r (min r n) = 0 := by
  have := p_stay bs r 0 (min r n) fun i _ hi => by omega
  rw [Nat.zero_add] at this
  exact this
theorem p_step (bs : List UInt8) (r x n : Nat) (hx : x % 4 = r) (hlt : x < n) : pR bs r (min (x + 4) n) = pR bs r x + tR (byteAt bs x) ∧ pI bs r (min (x + 4) n) = pI bs r x + tI (byteAt bs x) := by
  have := p_stay bs r (x + 1) (min (x + 4) n - (x + 1)) fun i h1 h2 => by omega
  rw [show x + 1 + (min (x + 4) n - (x + 1)) = min (x + 4) n by omega, pR_succ, pI_succ, if_pos hx, if_pos hx] at this
  exact this
end Go.Proofs.Ythfiijmmebgmoaa
