/- The law on doubled bytes, walked; own text of the verifier. -/
import Derived.Test.YtgdhbnnjafoifaaF3
namespace Go.Proofs.Ytgdhbnnjafoifaa
open Go.RowKit
theorem gm_two (m a : Nat) : gm m a 2 = xt m a := gm_pow2 m a 1 (by omega)
theorem and_bit (b k : Nat) (hb : b < 256) : bits .and .u8 ((b : Int) / 2 ^ k) 1 = ((b / 2 ^ k % 2 : Nat) : Int) := by
  have e : ((b / 2 ^ k : Nat) : Int) = (b : Int) / 2 ^ k := by simp
  rw [← e]
  exact u8_and_one _ (Nat.lt_of_le_of_lt (Nat.div_le_self _ _) hb)
set_option maxRecDepth 100000 in
set_option maxHeartbeats 4000000 in
theorem double_walk (a0 a1 a2 : Int) (w0 : (Lit.int .u8 a0).wf = true) (w1 : (Lit.int .u8 a1).wf = true) (_w2 : (Lit.int .i64 a2).wf = true) (w : World) :
    Calls Try.prog 11 #[.int .u8 a0, .int .u8 a1, .int .i64 a2] w fun e w' => e = .returned (.bool true) ∧ Below w.heap.size w w' := by
  obtain ⟨a, rfl, ha⟩ := byte_arg w0
  clear w0
  obtain ⟨b, rfl, hb⟩ := byte_arg w1
  clear w1
  go_enter Try.func11, Try.ntmps11
  go_wp2_with fail
  refine (known_any _).mono ?_
  rintro e wk ⟨rfl, rfl⟩
  obtain ⟨q, hq⟩ : ∃ q : Nat, a2 % 256 = q := ⟨(a2 % 256).toNat, by omega⟩
  have hq2 : q < 256 := by omega
  have HQ := hid hq
  obtain ⟨m, hm⟩ : ∃ m : Nat, 256 + q = m := ⟨_, rfl⟩
  have HM := hid (show IsRest m by constructor <;> omega)
  have HE := hid (show 256 + (q : Int) = ((m : Nat) : Int) by omega)
  have hm0 : 256 ≤ m := by omega
  have hm1 : m < 512 := by omega
  clear hq hm
  go_wp2_with fail
  refine (within_any _ _ _ (by omega) (by omega)).mono ?_
  rintro e w' ⟨rfl, rfl⟩
  rw [HQ.out]
  have hw8 := xt_lt HM.out ha
  rcases Nat.lt_or_ge (2 * a) 256 with h256 | h256
  all_goals
    (obtain ⟨W, hW⟩ : ∃ W, xt m a = W := ⟨_, rfl⟩
     rw [hW] at hw8
     have HW := hid hW
     have hs : (((a : Int) * 2 < 256 ∧ (a : Int) * 2 = W) ∨ (256 ≤ (a : Int) * 2 ∧ bits .xor .i64 ((a : Int) * 2) (256 + (q : Int)) = W)) := by
       rcases Nat.lt_or_ge (2 * a) 256 with h | h
       · refine .inl ⟨by omega, ?_⟩
         rw [← hW, xt, if_neg (by omega)]; omega
       · refine .inr ⟨by omega, ?_⟩
         rw [HE.out, ← hW, xt, if_pos h, show (a : Int) * 2 = ((2 * a : Nat) : Int) by omega]
         exact i64_xor_nat _ _ (by omega) (by omega)
     clear hW)
  · have hs2 : (a : Int) * 2 = W := by omega
    clear hs
    go_wp2_with fail
    rw [HE.out]
    clear hs2
    go_loop [9, 10, 11] (fun s x i => ∃ (k S X : Nat), k ≤ 8 ∧ i = .int .u64 k ∧ s = .int .u8 S ∧ x = .int .u8 X ∧ S = gmk m a b k ∧ X = xtk m k a) (fun _ _ i => 8 - natOf i)
    case atStart => exact ⟨0, 0, a, by omega, rfl, rfl, rfl, rfl, rfl⟩
    case round =>
      obtain ⟨k, S, X, hk, rfl, rfl, rfl, hS, hX⟩ := hrel
      by_cases hlt : k < 8
      · have hA := and_bit b k hb
        have hsl := hS ▸ gmk_lt HM.out ha b k
        have hxl := hX ▸ xtk_lt HM.out ha k
        have hN := gm_two m X
        have hN2 : xt m X = xtk m (k + 1) a := by rw [xtk, hX]
        have HN := hid (hN.trans hN2)
        have hx2 := u8_xor_nat S X hsl hxl
        rcases Nat.mod_two_eq_zero_or_one (b / 2 ^ k) with hz | hz
        · have HS := hid (show S = gmk m a b (k + 1) by rw [gmk, if_neg (by omega)]; exact hS)
          rw [hz] at hA
          clear hS hX hN hN2 hx2 hz
          go_wp2_with fail
          refine (mul_any X 2 m _ HM.out hxl (by omega)).mono ?_
          rintro e w' ⟨rfl, rfl⟩
          go_wp2_with fail
          go_round
          case rel => exact ⟨k + 1, _, _, by omega, by go_num, rfl, rfl, HS.out, HN.out⟩
          case measure => simp [natOf]; omega
        · have HS := hid (show S ^^^ X = gmk m a b (k + 1) by rw [gmk, if_pos hz, hS, hX])
          rw [hz] at hA
          clear hS hX hN hN2 hz
          go_wp2_with fail
          refine (mul_any X 2 m _ HM.out hxl (by omega)).mono ?_
          rintro e w' ⟨rfl, rfl⟩
          go_wp2_with fail
          go_round
          case rel => exact ⟨k + 1, _, _, by omega, by go_num, rfl, rfl, HS.out, HN.out⟩
          case measure => simp [natOf]; omega
      · obtain rfl : k = 8 := by omega
        have HS := hid (show S = gm m a b from hS)
        have hsl := hS ▸ gmk_lt HM.out ha b 8
        have H2 := hid ((gm_two m a).trans HW.out)
        clear hS hX
        go_wp2_with fail
        refine (mul_any a 2 m _ HM.out ha (by omega)).mono ?_
        rintro e w' ⟨rfl, rfl⟩
        rw [H2.out]
        go_wp2_with fail
        refine (mul_any a b m _ HM.out ha hb).mono ?_
        rintro e w' ⟨rfl, rfl⟩
        rw [← HS.out]
        go_wp2_with fail
        refine (rmul_any a b m _ HM.out ha hb).mono ?_
        rintro e w' ⟨rfl, rfl⟩
        rw [← HS.out]
        go_wp2_with fail
        go_ret
        exact ⟨rfl, Below.refl _ _⟩
  · have hs2 : 256 ≤ (a : Int) * 2 ∧ bits .xor .i64 ((a : Int) * 2) (256 + (q : Int)) = W := by
      rcases hs with ⟨h, _⟩ | h
      · omega
      · exact h
    obtain ⟨hs1, hs2⟩ := hs2
    clear hs
    go_wp2_with fail
    rw [HE.out]
    clear hs2
    go_loop [9, 10, 11] (fun s x i => ∃ (k S X : Nat), k ≤ 8 ∧ i = .int .u64 k ∧ s = .int .u8 S ∧ x = .int .u8 X ∧ S = gmk m a b k ∧ X = xtk m k a) (fun _ _ i => 8 - natOf i)
    case atStart => exact ⟨0, 0, a, by omega, rfl, rfl, rfl, rfl, rfl⟩
    case round =>
      obtain ⟨k, S, X, hk, rfl, rfl, rfl, hS, hX⟩ := hrel
      by_cases hlt : k < 8
      · have hA := and_bit b k hb
        have hsl := hS ▸ gmk_lt HM.out ha b k
        have hxl := hX ▸ xtk_lt HM.out ha k
        have hN := gm_two m X
        have hN2 : xt m X = xtk m (k + 1) a := by rw [xtk, hX]
        have HN := hid (hN.trans hN2)
        have hx2 := u8_xor_nat S X hsl hxl
        rcases Nat.mod_two_eq_zero_or_one (b / 2 ^ k) with hz | hz
        · have HS := hid (show S = gmk m a b (k + 1) by rw [gmk, if_neg (by omega)]; exact hS)
          rw [hz] at hA
          clear hS hX hN hN2 hx2 hz
          go_wp2_with fail
          refine (mul_any X 2 m _ HM.out hxl (by omega)).mono ?_
          rintro e w' ⟨rfl, rfl⟩
          go_wp2_with fail
          go_round
          case rel => exact ⟨k + 1, _, _, by omega, by go_num, rfl, rfl, HS.out, HN.out⟩
          case measure => simp [natOf]; omega
        · have HS := hid (show S ^^^ X = gmk m a b (k + 1) by rw [gmk, if_pos hz, hS, hX])
          rw [hz] at hA
          clear hS hX hN hN2 hz
          go_wp2_with fail
          refine (mul_any X 2 m _ HM.out hxl (by omega)).mono ?_
          rintro e w' ⟨rfl, rfl⟩
          go_wp2_with fail
          go_round
          case rel => exact ⟨k + 1, _, _, by omega, by go_num, rfl, rfl, HS.out, HN.out⟩
          case measure => simp [natOf]; omega
      · obtain rfl : k = 8 := by omega
        have HS := hid (show S = gm m a b from hS)
        have hsl := hS ▸ gmk_lt HM.out ha b 8
        have H2 := hid ((gm_two m a).trans HW.out)
        clear hS hX
        go_wp2_with fail
        refine (mul_any a 2 m _ HM.out ha (by omega)).mono ?_
        rintro e w' ⟨rfl, rfl⟩
        rw [H2.out]
        go_wp2_with fail
        refine (mul_any a b m _ HM.out ha hb).mono ?_
        rintro e w' ⟨rfl, rfl⟩
        rw [← HS.out]
        go_wp2_with fail
        refine (rmul_any a b m _ HM.out ha hb).mono ?_
        rintro e w' ⟨rfl, rfl⟩
        rw [← HS.out]
        go_wp2_with fail
        go_ret
        exact ⟨rfl, Below.refl _ _⟩
end Go.Proofs.Ytgdhbnnjafoifaa
