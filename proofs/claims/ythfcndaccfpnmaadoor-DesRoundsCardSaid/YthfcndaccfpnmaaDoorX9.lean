/- Walk over the program's F; own lemmas of the verifier, no statement is proved here. -/
import Derived.Test.YthfcndaccfpnmaaDoorF1
namespace Go.Proofs.YthfcndaccfpnmaaDoor
open Go.RowKit
theorem rol_win (R k : Nat) (w : World) (hR : R < 4294967296) (_hk : k < 8) :
    Calls Tryd.prog 33 #[.int .u32 R, .int .i64 (4 * (k : Int) - 1)] w fun e w' => e = .returned (.int .u32 (rolN 32 R ((4 * k + 31) % 32) : Nat)) ∧ w = w' := by
  refine (rol_any _ _ _).mono ?_
  rintro e w' ⟨rfl, rfl⟩
  refine ⟨ret_int ?_, rfl⟩
  rw [show ((4 * (k : Int) - 1) % 32).toNat = (4 * k + 31) % 32 by omega]
  exact rol32_nat R _ hR (by omega)
def fN (x : List UInt8) : Nat → Nat
  | 0 => 0
  | k + 1 => fN x k * 16 + sN k (six x k)
theorem fN_lt (x : List UInt8) : ∀ k, fN x k < 16 ^ k
  | 0 => by simp [fN]
  | k + 1 => by
    have h := fN_lt x k
    have := sN_lt k (six x k)
    rw [fN, Nat.pow_succ]; omega
theorem win_val (L K S j : Nat) (hL : L < 4294967296) (h : L / 2 ^ 26 ^^^ (K / 2 ^ (42 - 6 * j) % 64) = S) :
    bits .xor .u32 ((L : Int) / 67108864) (bits .and .u32 ((K : Int) / 2 ^ (42 - 6 * j) % 4294967296) 63) = (S : Int) := by
  have hq : (K : Int) / 2 ^ (42 - 6 * j) % 4294967296 = ((K / 2 ^ (42 - 6 * j) % 4294967296 : Nat) : Int) := by rw [natdiv_cast]; omega
  rw [hq, show (63 : Int) = ((63 : Nat) : Int) from rfl, u32_and_nat _ _ (by omega) (by omega), nat_mask6, show (L : Int) / 67108864 = ((L / 2 ^ 26 : Nat) : Int) by omega,
    u32_xor_nat _ _ (by omega) (by omega), ← h]
  congr 2
  omega
theorem or_four (F s : Nat) (hF : F < 268435456) (hs : s < 16) : bits .or .u32 ((F : Int) * 16) (s : Int) = ((F * 16 + s : Nat) : Int) := by
  rw [show (F : Int) * 16 = ((F * 16 : Nat) : Int) by omega, u32_or_nat _ _ (by omega) (by omega)]
  have := Nat.two_pow_add_eq_or_of_lt (i := 4) (b := s) (by omega) F
  rw [show F * 16 = 2 ^ 4 * F by omega, ← this]
theorem fN_fourL (x : List UInt8) : put32 (fN x 8 : Nat) = fourL x := by
  have h0 := sN_lt 0 (six x 0); have h1 := sN_lt 1 (six x 1); have h2 := sN_lt 2 (six x 2); have h3 := sN_lt 3 (six x 3)
  have h4 := sN_lt 4 (six x 4); have h5 := sN_lt 5 (six x 5); have h6 := sN_lt 6 (six x 6); have h7 := sN_lt 7 (six x 7)
  have key : ∀ p a b : Nat, ∀ v : Int, a < 16 → b < 16 → v % 256 = ((16 * a + b : Nat) : Int) → fourF x p = UInt8.ofNat (16 * a + b) → u8 v = fourF x p := by
    intro p a b v ha hb hv hf
    rw [hf]
    unfold u8
    rw [hv]
    rfl
  have e : fourL x = [fourF x 0, fourF x 1, fourF x 2, fourF x 3] := rfl
  rw [e]
  unfold put32
  simp only [fN]
  congr 1
  · exact key 0 (sN 0 (six x 0)) (sN 1 (six x 1)) _ h0 h1 (by omega) rfl
  congr 1
  · exact key 1 (sN 2 (six x 2)) (sN 3 (six x 3)) _ h2 h3 (by omega) rfl
  congr 1
  · exact key 2 (sN 4 (six x 4)) (sN 5 (six x 5)) _ h4 h5 (by omega) rfl
  congr 1
  exact key 3 (sN 6 (six x 6)) (sN 7 (six x 7)) _ h6 h7 (by omega) rfl
/-- What F hands back. -/
def FRet (w : World) (r k : List UInt8) (e : Ending) (w' : World) : Prop :=
  ∃ A c, e = .returned (.tuple #[.slice A 4 c, .bool true]) ∧ 4 ≤ c ∧ Rd w' w'.heap.size A 4 (fL r k) ∧ Ext w w'
set_option maxHeartbeats 400000 in
theorem f_bad (A A' : Option Addr) (n m c c' : Nat) (w : World) (h : ¬ (n = 4 ∧ m = 6)) :
    Calls Tryd.prog 15 #[.slice A n c, .slice A' m c'] w fun e w' => e = .returned (.tuple #[.slice none 0 0, .bool false]) ∧ Ext w w' := by
  by_cases h4 : n = 4
  · subst h4
    have h5 : ((m : Int) != 6) = true := by simp; omega
    go_enter Tryd.func15, Tryd.ntmps15
    go_wp2
    go_ret2
    exact ⟨rfl, Ext.refl _⟩
  · have h5 : ((n : Int) != 4) = true := by simp; omega
    go_enter Tryd.func15, Tryd.ntmps15
    go_wp2
    go_ret2
    exact ⟨rfl, Ext.refl _⟩
set_option maxHeartbeats 4000000 in
theorem f_any (A A' : Option Addr) (c c' : Nat) (r k : List UInt8) (w : World) (hr : Rd w w.heap.size A 4 r) (hk : Rd w w.heap.size A' 6 k) (hB : Boxes w) :
    Calls Tryd.prog 15 #[.slice A 4 c, .slice A' 6 c'] w (FRet w r k) := by
  have hrl := hid hr.len
  have hkl := hid hk.len
  have HR := hid hr
  have HK := hid hk
  have HB := hid hB
  clear hr hk hB
  go_enter Tryd.func15, Tryd.ntmps15
  go_wp2_with fail
  refine (be32_any _ 4 _ _ _ _ HR.out (by omega)).mono ?_
  rintro e w1 ⟨rfl, rfl⟩
  have he : be32N r 4 = (beN r 4 : Nat) := by unfold be32N; rw [if_pos rfl]; exact be4_beN _
  rw [he]
  have hR : beN r 4 < 4294967296 := beN_lt r 4
  obtain ⟨R, hRe⟩ : ∃ R, beN r 4 = R := ⟨_, rfl⟩
  rw [hRe] at hR ⊢
  have HRe := hid hRe
  clear he hRe
  go_wp2_with fail
  refine (number_any _ _ _ _ HK.out).mono ?_
  rintro e w2 ⟨rfl, hx2⟩
  have hK : beN (0 :: 0 :: k) 8 < 18446744073709551616 := beN_lt (0 :: 0 :: k) 8
  obtain ⟨K, hKe⟩ : ∃ K, beN (0 :: 0 :: k) 8 = K := ⟨_, rfl⟩
  rw [hKe] at hK ⊢
  have HKe := hid hKe
  have HX2 := hid hx2
  clear hKe hx2
  go_wp2_with fail
  go_loopw [9, 27] (fun v i wr => ∃ j : Nat, j ≤ 8 ∧ i = .int .i64 j ∧ v = .int .u32 (fN (fx r k) j : Nat) ∧ Ext w wr) (fun _ i _ => 8 - (intOf i).toNat)
  case atStart => exact ⟨0, by omega, rfl, rfl, HX2.out⟩
  case round =>
    clear HX2
    obtain ⟨j, hj, rfl, rfl, hx⟩ := hrel
    by_cases hlt : j < 8
    · have HX := hid hx
      have HBj := hid (HB.out.later hx)
      have hwin := window r k j hrl.out hkl.out hlt
      rw [HRe.out, HKe.out] at hwin
      have h6 := six_lt (fx r k) j
      have hs := sN_lt j (six (fx r k) j)
      have hf := fN_lt (fx r k) j
      have hf7 : 16 ^ j ≤ 16 ^ 7 := Nat.pow_le_pow_right (by omega) (by omega)
      have hst : fN (fx r k) (j + 1) = fN (fx r k) j * 16 + sN j (six (fx r k) j) := rfl
      obtain ⟨S, hS⟩ : ∃ S, six (fx r k) j = S := ⟨_, rfl⟩
      obtain ⟨F, hF⟩ : ∃ F, fN (fx r k) j = F := ⟨_, rfl⟩
      obtain ⟨L, hL⟩ : ∃ L, rolN 32 R ((4 * j + 31) % 32) = L := ⟨_, rfl⟩
      have hrol := fun w => rol_win R j w hR hlt
      have hLl : L < 4294967296 := by rw [← hL]; exact rolN_lt 32 R _ hR
      rw [hL] at hwin hrol
      rw [hS] at hwin hs hst h6
      rw [hF] at hf hst ⊢
      have HW := hid hwin
      have HST := hid hst
      have HRO := hid hrol
      have hF16 : F < 268435456 := by omega
      clear hx hS hF hL hwin hst hrol hf hf7
      go_wp2_with fail
      go_quiet ((go_at_call 33; exact quietSame (HRO.out _)))
      rw [win_val L K S j hLl HW.out]
      have hor := or_four F (sN j S) hF16 hs
      rw [← HST.out] at hor
      have hsl : (sN j S : Int) < 4294967296 := by omega
      go_wp2_with (go_at_call 34; refine (look_any j S _ hlt h6 (HBj.out.later ?_)).mono ?_; exact below_drewN' (Ext.refl _) _; rintro e w' ⟨rfl, rfl⟩)
      go_roundw
      case rel => exact ⟨j + 1, by omega, by go_num, rfl, below_drewN' HX.out nq⟩
      case measure => simp [intOf]; omega
    · obtain rfl : j = 8 := by omega
      have hf := fN_lt (fx r k) 8
      have e4 := fN_fourL (fx r k)
      obtain ⟨F, hF⟩ : ∃ F, fN (fx r k) 8 = F := ⟨_, rfl⟩
      rw [hF] at hf e4 ⊢
      have HX := hid hx
      have HE4 := hid e4
      clear hx hF e4
      go_wp2_with fail
      refine (putBe32_any _ _ (by omega) (by omega)).mono ?_
      rw [HE4.out]
      rintro e w3 ⟨v3, rfl, ho3, hb3⟩
      obtain ⟨A3, c3, rfl, hr3, _⟩ := ho3.rdn (fourL_len (fx r k))
      have HX3 := hid (Ext.trans HX.out hb3)
      have HR3 := hid hr3
      clear hr3 hb3 ho3
      go_wp2_with fail
      refine (mix_any _).mono ?_
      rintro e w4 ⟨A4, c4, rfl, ht4, hx4⟩
      have HX4 := hid (Ext.trans HX3.out hx4)
      have HR4 := hid (HR3.out.later hx4)
      have HT4 := hid ht4
      clear hx4 ht4 HR3 HX3
      go_wp2_with fail
      refine (perm_rd _ _ 4 32 _ _ _ _ 4 _ HR4.out HT4.out mx_ok (by omega)).mono ?_
      rintro e w5 ⟨A5, c5, rfl, hc5, hr5, hx5⟩
      have HH := hid (And.intro hr5 (Ext.trans HX4.out hx5))
      clear hr5 hx5
      go_wp2_with fail
      go_ret2
      exact ⟨A5, c5, rfl, hc5, HH.out.1, HH.out.2⟩
end Go.Proofs.YthfcndaccfpnmaaDoor
