/- The reference's rounds and the program's steps are one, as plain facts; own lemmas of the verifier, no statement is proved here. -/
import Derived.Test.YtgkfohgeelfceaaDoorP1
namespace Go.Proofs.YtgkfohgeelfceaaDoor
open Go.RowKit
theorem two12 : 2 * 12 = 24 := rfl
theorem W2.ext_ {x y : W2} (h1 : x.a = y.a) (h2 : x.b = y.b) : x = y := by cases x; cases y; simp at h1 h2; rw [h1, h2]
/-- XTEA: a time there, and so many. -/
def xtT (k : Nat → UInt32) (i : Nat) (z : W2) : W2 :=
  ⟨z.a + mixW z.b (sumX i + k ((sumX i).toNat % 4)), z.b + mixW (z.a + mixW z.b (sumX i + k ((sumX i).toNat % 4))) (sumX (i + 1) + k ((sumX (i + 1)).toNat / 2048 % 4))⟩
def xtAt (k : Nat → UInt32) (z : W2) : Nat → W2
  | 0 => z
  | i + 1 => xtT k i (xtAt k z i)
theorem xkey_get (key : List UInt8) (j : Nat) (h : j < 64) : (keysOf .x key).getD j 0 = keyX (kw .x key) j := by simp [keysOf, h]
theorem mkey_get (key : List UInt8) (j : Nat) (h : j < 32) : (keysOf .m key).getD j 0 = keyM (kw .m key) j := by simp [keysOf, h]
theorem rkey_get (key : List UInt8) (j : Nat) : (keysOf .r key).getD j 0 = (rc5S key).getD (2 + j) 0 := by simp [keysOf]
theorem xt_fwd (key : List UInt8) (z : W2) : ∀ i, i ≤ 32 → fwd .x (keysOf .x key) z (2 * i) = xtAt (kw .x key) z i
  | 0, _ => rfl
  | i + 1, h => by
    have ih := xt_fwd key z i (by omega)
    rw [show 2 * (i + 1) = 2 * i + 1 + 1 by omega, fwd, fwd, ih, xkey_get _ _ (by omega), xkey_get _ _ (by omega)]
    unfold keyX
    rw [if_pos (by omega), if_neg (by omega), show 2 * i / 2 = i by omega, show (2 * i + 1) / 2 = i by omega]
    rfl
/-- XTEA: a time back, and so many. -/
def xtB (k : Nat → UInt32) (i : Nat) (z : W2) : W2 :=
  ⟨z.a - mixW (z.b - mixW z.a (sumX (32 - i) + k ((sumX (32 - i)).toNat / 2048 % 4))) (sumX (31 - i) + k ((sumX (31 - i)).toNat % 4)), z.b - mixW z.a (sumX (32 - i) + k ((sumX (32 - i)).toNat / 2048 % 4))⟩
def xbAt (k : Nat → UInt32) (z : W2) : Nat → W2
  | 0 => z
  | i + 1 => xtB k i (xbAt k z i)
theorem xt_bwd (key : List UInt8) (z : W2) : ∀ i, i ≤ 32 → bwd .x (keysOf .x key) 64 z (2 * i) = xbAt (kw .x key) z i
  | 0, _ => rfl
  | i + 1, h => by
    have ih := xt_bwd key z i (by omega)
    rw [show 2 * (i + 1) = 2 * i + 1 + 1 by omega, bwd, bwd, ih, xkey_get _ _ (by omega), xkey_get _ _ (by omega)]
    have k1 : keyX (kw .x key) (64 - 1 - 2 * i) = sumX (32 - i) + kw .x key ((sumX (32 - i)).toNat / 2048 % 4) := by
      unfold keyX
      rw [if_neg (by omega), show (64 - 1 - 2 * i) / 2 + 1 = 32 - i by omega]
    have k2 : keyX (kw .x key) (64 - 1 - (2 * i + 1)) = sumX (31 - i) + kw .x key ((sumX (31 - i)).toNat % 4) := by
      unfold keyX
      rw [if_pos (by omega), show (64 - 1 - (2 * i + 1)) / 2 = 31 - i by omega]
    rw [k1, k2]
    rfl
/-- Magma: so many rounds. -/
def mAt (back : Bool) (i : Nat) : Nat := if (if back then 31 - i else i) < 24 then (if back then 31 - i else i) % 8 else 31 - (if back then 31 - i else i)
def mgAt (k : Nat → UInt32) (back : Bool) (z : W2) : Nat → W2
  | 0 => z
  | i + 1 => ⟨(mgAt k back z i).b, (mgAt k back z i).a ^^^ gW (mgAt k back z i).b (k (mAt back i))⟩
theorem keyM_at (k : Nat → UInt32) (i : Nat) : keyM k i = k (mAt false i) := by unfold keyM mAt; simp only [Bool.false_eq_true, if_false]; split <;> rfl
theorem keyM_back (k : Nat → UInt32) (i : Nat) : keyM k (31 - i) = k (mAt true i) := by unfold keyM mAt; simp only [if_true]; split <;> rfl
theorem mg_fwd (key : List UInt8) (z : W2) : ∀ i, i ≤ 32 → fwd .m (keysOf .m key) z i = mgAt (kw .m key) false z i
  | 0, _ => rfl
  | i + 1, h => by
    have ih := mg_fwd key z i (by omega)
    rw [fwd, ih, mkey_get _ _ (by omega), keyM_at]
    rfl
theorem mg_bwd (key : List UInt8) (z : W2) : ∀ i, i ≤ 32 → bwd .m (keysOf .m key) 32 ⟨z.b, z.a⟩ i = ⟨(mgAt (kw .m key) true z i).b, (mgAt (kw .m key) true z i).a⟩
  | 0, _ => rfl
  | i + 1, h => by
    have ih := mg_bwd key z i (by omega)
    rw [bwd, ih, mkey_get _ _ (by omega), show 32 - 1 - i = 31 - i by omega, keyM_back]
    rfl
/-- RC5: a time there, and so many. -/
def rcF (s : List UInt32) (r : Nat) (z : W2) : W2 :=
  ⟨rolI (z.a ^^^ z.b) (z.b.toNat % 32 : Nat) + s.getD (2 * (r + 1)) 0, rolI (z.b ^^^ (rolI (z.a ^^^ z.b) (z.b.toNat % 32 : Nat) + s.getD (2 * (r + 1)) 0)) ((rolI (z.a ^^^ z.b) (z.b.toNat % 32 : Nat) + s.getD (2 * (r + 1)) 0).toNat % 32 : Nat) + s.getD (2 * (r + 1) + 1) 0⟩
def rfAt (s : List UInt32) (z : W2) : Nat → W2
  | 0 => z
  | i + 1 => rcF s i (rfAt s z i)
theorem rc_fwd (key : List UInt8) (z : W2) : ∀ i, i ≤ 12 → fwd .r (keysOf .r key) z (2 * i) = rfAt (rc5S key) z i
  | 0, _ => rfl
  | i + 1, h => by
    have ih := rc_fwd key z i (by omega)
    rw [show 2 * (i + 1) = 2 * i + 1 + 1 by omega, fwd, fwd, ih, rkey_get, rkey_get, show 2 + 2 * i = 2 * (i + 1) by omega, show 2 + (2 * i + 1) = 2 * (i + 1) + 1 by omega]
    rfl
def rcB' (s : List UInt32) (i : Nat) (z : W2) : UInt32 := rolI (z.b - s.getD (2 * (12 - i) + 1) 0) (32 - ((z.a.toNat % 32 : Nat) : Int)) ^^^ z.a
def rcG (s : List UInt32) (i : Nat) (z : W2) : W2 := ⟨rolI (z.a - s.getD (2 * (12 - i)) 0) (32 - (((rcB' s i z).toNat % 32 : Nat) : Int)) ^^^ rcB' s i z, rcB' s i z⟩
def rbAt (s : List UInt32) (z : W2) : Nat → W2
  | 0 => z
  | i + 1 => rcG s i (rbAt s z i)
theorem rc_bwd (key : List UInt8) (z : W2) : ∀ i, i ≤ 12 → bwd .r (keysOf .r key) 24 z (2 * i) = rbAt (rc5S key) z i
  | 0, _ => rfl
  | i + 1, h => by
    have ih := rc_bwd key z i (by omega)
    rw [show 2 * (i + 1) = 2 * i + 1 + 1 by omega, bwd, bwd, ih, rkey_get, rkey_get, show 2 + (24 - 1 - 2 * i) = 2 * (12 - i) + 1 by omega, show 2 + (24 - 1 - (2 * i + 1)) = 2 * (12 - i) by omega]
    obtain ⟨y, hy⟩ : ∃ y, rbAt (rc5S key) z i = y := ⟨_, rfl⟩
    rw [rbAt, hy]
    have e (x : UInt32) (n : Nat) : rolI x (-(n : Int)) = rolI x (32 - (n : Int)) := rolI_congr x (by omega)
    simp only [unmadeW, rcG, rcB', e]
theorem w2_add0 (z : W2) : (⟨z.a + 0, z.b + 0⟩ : W2) = z := by simp
theorem w2_sub0 (z : W2) : (⟨z.a - 0, z.b - 0⟩ : W2) = z := by simp
theorem thereW_eq (t : T3) (ah : W2) (ks : List UInt32) (n : Nat) (x : W2) (h : ks.length = n) : thereW t ah ks x = crs t (fwd t ks ⟨x.a + ah.a, x.b + ah.b⟩ n) := by unfold thereW; rw [h]
theorem backW_eq (t : T3) (ah : W2) (ks : List UInt32) (n : Nat) (x : W2) (h : ks.length = n) : backW t ah ks x = ⟨(bwd t ks n (crs t x) n).a - ah.a, (bwd t ks n (crs t x) n).b - ah.b⟩ := by unfold backW; rw [h]
theorem turn_there (t : T3) (key : List UInt8) (z : W2) : turnW t key false z = thereW t (aheadOf t key) (keysOf t key) z := by unfold turnW; rw [if_neg (by simp)]
theorem turn_back (t : T3) (key : List UInt8) (z : W2) : turnW t key true z = backW t (aheadOf t key) (keysOf t key) z := by unfold turnW; rw [if_pos rfl]
theorem ah0 (t : T3) (key : List UInt8) (h : t ≠ .r) : aheadOf t key = ⟨0, 0⟩ := by
  cases t
  · simp only [aheadOf]
  · simp only [aheadOf]
  · exact absurd rfl h
theorem ahr (key : List UInt8) : aheadOf .r key = ⟨(rc5S key).getD 0 0, (rc5S key).getD 1 0⟩ := by simp only [aheadOf]
theorem crsx (z : W2) : crs .x z = z := by simp only [crs]
theorem crsm (z : W2) : crs .m z = ⟨z.b, z.a⟩ := by simp only [crs]
theorem crsr (z : W2) : crs .r z = z := by simp only [crs]
theorem turn_xt (key : List UInt8) (z : W2) : turnW .x key false z = xtAt (kw .x key) z 32 := by
  rw [turn_there, thereW_eq _ _ _ (2 * 32) _ (keysOf_length _ _), ah0 _ _ (by decide), crsx]
  simp only [UInt32.add_zero]
  exact xt_fwd _ _ _ (Nat.le_refl _)
theorem turn_xb (key : List UInt8) (z : W2) : turnW .x key true z = xbAt (kw .x key) z 32 := by
  have e := xt_bwd key z 32 (Nat.le_refl _)
  rw [show 2 * 32 = 64 from rfl] at e
  rw [turn_back, backW_eq _ _ _ 64 _ (keysOf_length _ _), ah0 _ _ (by decide), crsx, e]
  simp only [UInt32.sub_zero]
theorem turn_m (key : List UInt8) (back : Bool) (z : W2) : turnW .m key back z = ⟨(mgAt (kw .m key) back z 32).b, (mgAt (kw .m key) back z 32).a⟩ := by
  cases back
  · rw [turn_there, thereW_eq _ _ _ 32 _ (keysOf_length _ _), ah0 _ _ (by decide), crsm]
    simp only [UInt32.add_zero]
    rw [mg_fwd _ _ _ (Nat.le_refl _)]
  · rw [turn_back, backW_eq _ _ _ 32 _ (keysOf_length _ _), ah0 _ _ (by decide), crsm, mg_bwd _ _ _ (Nat.le_refl _)]
    simp only [UInt32.sub_zero]
theorem turn_rf (key : List UInt8) (z : W2) : turnW .r key false z = rfAt (rc5S key) ⟨z.a + (rc5S key).getD 0 0, z.b + (rc5S key).getD 1 0⟩ 12 := by
  have hl : (keysOf .r key).length = 24 := keysOf_length .r key
  have e := rc_fwd key ⟨z.a + (rc5S key).getD 0 0, z.b + (rc5S key).getD 1 0⟩ 12 (by omega)
  rw [two12] at e
  rw [turn_there, thereW_eq _ _ _ 24 _ hl, crsr, ahr, ← e]
theorem turn_rb (key : List UInt8) (z : W2) : turnW .r key true z = ⟨(rbAt (rc5S key) z 12).a - (rc5S key).getD 0 0, (rbAt (rc5S key) z 12).b - (rc5S key).getD 1 0⟩ := by
  have e := rc_bwd key z 12 (Nat.le_refl _)
  rw [two12] at e
  have hl : (keysOf .r key).length = 24 := keysOf_length .r key
  rw [turn_back, backW_eq _ _ _ 24 _ hl]
  rw [crsr, e, ahr]
/-- XTEA by half rounds: which word is turned. -/
def xh (key : List UInt8) (z : W2) (i : Nat) : W2 := if i % 2 = 0 then fwd .x (keysOf .x key) z i else ⟨(fwd .x (keysOf .x key) z i).b, (fwd .x (keysOf .x key) z i).a⟩
def sumH (i : Nat) : UInt32 := sumX ((i + 1) / 2)
theorem xh_even (key : List UInt8) (z : W2) (i : Nat) (hi : i < 64) (h : i % 2 = 0) : xh key z (i + 1) = ⟨(xh key z i).a + mixW (xh key z i).b (sumH i + kw .x key ((sumH i).toNat % 4)), (xh key z i).b⟩ := by
  unfold xh sumH
  rw [if_neg (by omega), if_pos h, fwd, xkey_get _ _ hi]
  unfold keyX
  rw [if_pos h, show (i + 1) / 2 = i / 2 by omega]
  rfl
theorem xh_odd (key : List UInt8) (z : W2) (i : Nat) (hi : i < 64) (h : i % 2 = 1) : xh key z (i + 1) = ⟨(xh key z i).a, (xh key z i).b + mixW (xh key z i).a (sumH i + kw .x key ((sumH i).toNat / 2048 % 4))⟩ := by
  unfold xh sumH
  rw [if_pos (by omega), if_neg (by omega), fwd, xkey_get _ _ hi]
  unfold keyX
  rw [if_neg (by omega), show (i + 1) / 2 = i / 2 + 1 by omega]
  rfl
theorem sumH_even (i : Nat) (h : i % 2 = 0) : sumH (i + 1) = sumH i + gold := by
  unfold sumH
  rw [show (i + 1 + 1) / 2 = (i + 1) / 2 + 1 by omega, sumX_succ]
theorem sumH_odd (i : Nat) (h : i % 2 = 1) : sumH (i + 1) = sumH i := by
  unfold sumH
  rw [show (i + 1 + 1) / 2 = (i + 1) / 2 by omega]
theorem xh_all (key : List UInt8) (z : W2) : xh key z 64 = turnW .x key false z := by
  rw [turn_xt, ← xt_fwd _ _ _ (Nat.le_refl _)]; rfl
end Go.Proofs.YtgkfohgeelfceaaDoor
