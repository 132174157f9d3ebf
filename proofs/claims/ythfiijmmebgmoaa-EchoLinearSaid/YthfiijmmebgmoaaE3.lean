/- Walks over the reference's sums, over the powers of both; own lemmas of the verifier, no statement is proved here. -/
import Derived.Test.YthfiijmmebgmoaaE2
namespace Go.Proofs.Ythfiijmmebgmoaa
open Go.RowKit
theorem t_rest (x a q : Int) (k : Nat) (h : a % 4 = q) : (x - q * k) % 4 = (x - a * k) % 4 := by
  subst h
  rw [Int.sub_emod, Int.mul_emod, Int.emod_emod, ← Int.mul_emod, ← Int.sub_emod]
set_option maxHeartbeats 1000000 in
theorem recho_any (A : Option Addr) (n c : Nat) (bs : List UInt8) (a : Int) (w : World) (B : Nat) (h : Rd w B A n bs) (hn : n ≤ 4096) :
    Calls Try.prog 17 #[.slice A n c, .int .i64 a] w fun e w' => e = .returned (.complex .f64 (flv false (eR bs a n)) (flv false (eI bs a n))) ∧ w = w' := by
  have h0 := tmod_four a
  have hb : -4 < a.tmod 4 ∧ a.tmod 4 < 4 := by have := @Int.tmod_eq_emod a 4; split at this <;> omega
  obtain ⟨hb0, hb1⟩ := hb
  obtain ⟨q, hq⟩ : ∃ q, a % 4 = q := ⟨_, rfl⟩
  have hq0 : 0 ≤ q := by omega
  have hq4 : q < 4 := by omega
  rw [hq] at h0
  have HQ := hid hq
  clear hq
  go_enter Try.func17, Try.ntmps17
  go_wp2_with fail
  go_loop [6, 7, 8] (fun s t i => ∃ (k : Nat) (S T : Int), k ≤ n ∧ i = .int .i64 k ∧ s = .int .i64 S ∧ t = .int .i64 T ∧ S = eR bs a k ∧ T = eI bs a k) (fun _ _ i => n - (intOf i).toNat)
  case atStart => exact ⟨0, _, _, by omega, rfl, rfl, rfl, rfl, rfl⟩
  case round =>
    obtain ⟨k, S, T, hk, rfl, rfl, rfl, hS, hT⟩ := hrel
    have hR := eR_abs bs a k
    have hI := eI_abs bs a k
    rw [← hS] at hR
    rw [← hT] at hI
    by_cases hlt : k < n
    · obtain ⟨b, o, rfl, hb, hc⟩ := h.at_ (by omega)
      have hck := hc k hlt
      have hxl := byteAt_lo bs k
      have hxh := byteAt_hi bs k
      have HR := hid (eR_succ bs a k)
      have HI := hid (eI_succ bs a k)
      obtain ⟨x, hx⟩ : ∃ x, byteAt bs k = x := ⟨_, rfl⟩
      rw [hx] at hck hxl hxh HR HI
      rw [← hS] at HR
      rw [← hT] at HI
      have h4 := t_rest x a q k HQ.out
      have b1 : 0 ≤ q * k := Int.mul_nonneg hq0 (by omega)
      have b2 : q * k ≤ 3 * k := Int.mul_le_mul_of_nonneg_right (by omega) (by omega)
      have a1 := tR_abs (x - q * k)
      have a2 := tI_abs (x - q * k)
      rw [← tR_mod h4] at HR
      rw [← tI_mod h4] at HI
      obtain ⟨y, hy⟩ : ∃ y, q * (k : Int) = y := ⟨_, rfl⟩
      rw [hy] at b1 b2 a1 a2 HR HI
      clear h4 hx hS hT hc h hb h0 hb0 hb1
      go_wp2_with fail
      refine (whole_any _ _ (by omega)).mono ?_
      rintro e w' ⟨rfl, rfl⟩
      obtain ⟨p, hp⟩ : ∃ p, tR (x - y) = p := ⟨_, rfl⟩
      obtain ⟨r, hr⟩ : ∃ r, tI (x - y) = r := ⟨_, rfl⟩
      rw [hp] at a1 HR ⊢
      rw [hr] at a2 HI ⊢
      clear hp hr hy
      go_wp2_with fail
      refine ⟨⟨k + 1, _, _, by omega, by go_num, rfl, rfl, HR.out.symm, HI.out.symm⟩, by simp [intOf]; omega⟩
    · obtain rfl : k = n := by omega
      have HS := hid hS
      have HT := hid hT
      clear hS hT
      go_wp2_with fail
      go_ret
      refine ⟨ret_cx ?_ ?_, rfl⟩
      · rw [← HS.out]; exact ofInt_flv _
      · rw [← HT.out]; exact ofInt_flv _
theorem u64_low63 (X : Nat) (h : X < 2 ^ 64) : bits .andNot .u64 (X : Int) 9223372036854775808 = ((X % 2 ^ 63 : Nat) : Int) := by
  rw [show (9223372036854775808 : Int) = ((9223372036854775808 : Nat) : Int) from rfl, u64_andNot_nat _ _ (by omega) (by omega), show (18446744073709551615 - 9223372036854775808 : Nat) = 2 ^ 63 - 1 from rfl, Nat.and_two_pow_sub_one_eq_mod]
theorem e36 (X : Nat) (w : World) : Sem.run Try.prog (Extern.MathFloatBits.float64bits #[.float .f64 X]) w = .ok (.int .u64 X) w := rfl
theorem e35 (X : Nat) (w : World) : Sem.run Try.prog (Extern.MathFloatBits.float64frombits #[.int .u64 (X : Int)]) w = .ok (.float .f64 X) w := rfl
set_option maxHeartbeats 400000 in
theorem abs_any (X Y : Nat) (w : World) (h : X < 2 ^ 64) (hY : X % 2 ^ 63 = Y) :
    Calls Try.prog 32 #[.float .f64 X] w fun e w' => e = .returned (.float .f64 Y) ∧ w = w' := by
  have h36 := @run_callFunc_extern Try.prog 36 _ Extern.MathFloatBits.float64bits Try.func36 (by kernel_rfl) (by kernel_rfl) (by kernel_rfl) (by kernel_rfl)
  have h35 := @run_callFunc_extern Try.prog 35 _ Extern.MathFloatBits.float64frombits Try.func35 (by kernel_rfl) (by kernel_rfl) (by kernel_rfl) (by kernel_rfl)
  have ha := u64_low63 X h
  have hl : Y < 2 ^ 63 := by omega
  rw [hY] at ha
  go_enter Try.func32, Try.ntmps32
  go_wp2_with (first | rw [e36]; simp only [Result.andThen]; rw [Oper.upon_value] | rw [e35]; simp only [Result.andThen]; rw [Oper.upon_value])
  go_ret
  exact ⟨rfl, rfl⟩
/-- The word of a whole number. -/
theorem flv_word (v : Int) (h0 : v ≠ 0) (h : v.natAbs < 2 ^ 53) : flv false v = Ieee.double.word (decide (v < 0)) (rung v.natAbs) := by
  unfold flv sgn
  rw [if_neg h0]
  exact fl_pos _ _ (by omega) h
theorem flv_parts (v : Int) (h0 : v ≠ 0) (h : v.natAbs < 2 ^ 53) : ∃ l t : Nat, l ≤ 52 ∧ 2 ^ l ≤ v.natAbs ∧ t < 2 ^ 52 ∧ t % 2 ^ (52 - l) = 0 ∧
    flv false v = (if v < 0 then 2 ^ 63 else 0) + (l + 1023) * 2 ^ 52 + t := by
  have hm : 0 < v.natAbs := by omega
  have hl := log2_lt53 hm h
  have ht := top_bits hm h
  have hlo := ((Nat.log2_eq_iff (show v.natAbs ≠ 0 by omega)).1 rfl).1
  obtain ⟨t, hte⟩ : ∃ t, v.natAbs * 2 ^ (52 - v.natAbs.log2) = 2 ^ 52 + t := ⟨v.natAbs * 2 ^ (52 - v.natAbs.log2) - 2 ^ 52, by omega⟩
  refine ⟨v.natAbs.log2, t, hl, hlo, by omega, ?_, ?_⟩
  · have h1 : (2 ^ 52 + t) % 2 ^ (52 - v.natAbs.log2) = 0 := by rw [← hte]; exact Nat.mul_mod_left _ _
    have h2 : (2 : Nat) ^ 52 % 2 ^ (52 - v.natAbs.log2) = 0 := Nat.mod_eq_zero_of_dvd (Nat.pow_dvd_pow 2 (by omega))
    rw [Nat.add_mod, h2, Nat.zero_add, Nat.mod_mod] at h1
    exact h1
  · have hr : rung v.natAbs = (v.natAbs.log2 + 1023) * 2 ^ 52 + t := by unfold rung; rw [hte]; omega
    rw [flv_word v h0 h]
    unfold Ieee.Format.word
    rw [dW, hr]
    by_cases hn : v < 0
    · rw [if_pos hn, decide_eq_true hn]; simp only [if_true]; omega
    · rw [if_neg hn, decide_eq_false hn]; simp only [Bool.false_eq_true, if_false]; omega
theorem flv_lt (v : Int) (h : v.natAbs < 2 ^ 53) : flv false v < 2 ^ 64 := by
  by_cases h0 : v = 0
  · subst h0; rw [f_0]; decide
  · obtain ⟨l, t, h1, _, h2, _, he⟩ := flv_parts v h0 h
    rw [he]
    split <;> omega
theorem flv_abs (v : Int) (h : v.natAbs < 2 ^ 53) : flv false v % 2 ^ 63 = flv false (v.natAbs : Int) := by
  by_cases h0 : v = 0
  · subst h0; rfl
  · have hr : rung v.natAbs < 2 ^ 63 := by
      have := log2_lt53 (show 0 < v.natAbs by omega) h
      have := top_bits (show 0 < v.natAbs by omega) h
      unfold rung; omega
    rw [flv_word v h0 h, flv_word _ (by omega) (by simpa using h)]
    rw [show ((v.natAbs : Int)).natAbs = v.natAbs by omega, decide_eq_false (show ¬ (v.natAbs : Int) < 0 by omega)]
    unfold Ieee.Format.word
    rw [dW]
    by_cases hn : v < 0
    · rw [decide_eq_true hn]; simp only [if_true, Bool.false_eq_true, if_false]; omega
    · rw [decide_eq_false hn]; simp only [Bool.false_eq_true, if_false]; omega
theorem fabs_any (v : Int) (w : World) (h : v.natAbs < 2 ^ 53) :
    Calls Try.prog 32 #[.float .f64 (flv false v)] w fun e w' => e = .returned (.float .f64 (flv false (v.natAbs : Int))) ∧ w = w' :=
  abs_any _ _ w (flv_lt v h) (flv_abs v h)
end Go.Proofs.Ythfiijmmebgmoaa
