/- Walks over the bias of the program and of the reference; own lemmas of the verifier, no statement is proved here. -/
import Derived.Test.YthfiijmmebgmoaaE5
namespace Go.Proofs.Ythfiijmmebgmoaa
open Go.RowKit
theorem par_eq (x y : Nat) : ((par x == 1) == (par y == 1)) = decide (par (x ^^^ y) = 0) := by
  have h1 := par_le x
  have h2 := par_le y
  rw [par_xor]
  rcases (show par x = 0 ∨ par x = 1 by omega) with e1 | e1 <;> rcases (show par y = 0 ∨ par y = 1 by omega) with e2 | e2 <;> rw [e1, e2] <;> rfl
set_option maxRecDepth 100000 in
set_option maxHeartbeats 4000000 in
theorem bias_any (A : Option Addr) (n c : Nat) (bs : List UInt8) (a b : Nat) (w : World) (B : Nat) (h : Rd w B A n bs) (hn : n ≤ 4096) (ha : a < 256) (hb : b < 256) :
    Calls Try.prog 20 #[.slice A n c, .int .u8 a, .int .u8 b] w fun e w' => e = .returned (.int .i64 (biasS bs a b n)) ∧ w = w' := by
  go_enter Try.func20, Try.ntmps20
  go_wp2_with fail
  go_loop [7, 15] (fun s i => ∃ (k : Nat) (S : Int), k ≤ n ∧ i = .int .i64 k ∧ s = .int .i64 S ∧ S = biasS bs a b k) (fun _ i => n - (intOf i).toNat)
  case atStart => exact ⟨0, _, by omega, rfl, rfl, rfl⟩
  case round =>
    obtain ⟨k, S, hk, rfl, rfl, hS⟩ := hrel
    have hA := biasS_abs bs a b k
    rw [← hS] at hA
    by_cases hlt : k < n
    · obtain ⟨bk, o, rfl, hbk, hc⟩ := h.at_ (by omega)
      have hck := hc k hlt
      rw [byteAt_nb] at hck
      have hyl := nb_lt bs k
      have HS := hid (biasS_succ bs a b k)
      rw [← hS] at HS
      unfold biasF at HS
      obtain ⟨y, hy⟩ : ∃ y, nb bs k = y := ⟨_, rfl⟩
      rw [hy] at hck hyl HS
      obtain ⟨x, hx⟩ : ∃ x, k % 256 = x := ⟨_, rfl⟩
      have hxi : (k : Int) % 256 = (x : Int) := by omega
      have hxl : x < 256 := by omega
      rw [hx] at HS
      have g1 := u8_and_nat x a hxl ha
      have g2 := u8_and_nat y b hyl hb
      have l1 := and_lt8 (b := a) hxl
      have l2 := and_lt8 (b := b) hyl
      obtain ⟨p, hp⟩ : ∃ p, x &&& a = p := ⟨_, rfl⟩
      obtain ⟨q, hq⟩ : ∃ q, y &&& b = q := ⟨_, rfl⟩
      rw [hp] at g1 l1 HS
      rw [hq] at g2 l2 HS
      have g3 := u8_xor_nat p q l1 l2
      have l3 := xor_lt8 l1 l2
      obtain ⟨r, hr⟩ : ∃ r, p ^^^ q = r := ⟨_, rfl⟩
      rw [hr] at g3 l3 HS
      clear hp hq hr hx hy hS hc h hbk
      go_wp2_with fail
      refine (ones_any r _ l3).mono ?_
      rintro e w' ⟨cc, rfl, hcp, hc8, rfl⟩
      have hpl := par_le r
      rcases (show par r = 0 ∨ par r = 1 by omega) with h0 | h0
      · have hm : (cc : Int) % 2 = 0 := by omega
        have hm2 : (cc : Int).tmod 2 = 0 := by rw [Int.tmod_eq_emod_of_nonneg (by omega)]; exact hm
        rw [if_pos h0] at HS
        clear hcp h0 hpl hm
        go_wp2_with fail
        refine ⟨⟨k + 1, _, by omega, by go_num, rfl, ?_⟩, by simp [intOf]; omega⟩
        rw [HS.out]
      · have hm : (cc : Int) % 2 = 1 := by omega
        have hm2 : (cc : Int).tmod 2 = 1 := by rw [Int.tmod_eq_emod_of_nonneg (by omega)]; exact hm
        rw [if_neg (by omega)] at HS
        clear hcp h0 hpl hm
        go_wp2_with fail
        refine ⟨⟨k + 1, _, by omega, by go_num, rfl, ?_⟩, by simp [intOf]; omega⟩
        rw [HS.out]; rfl
    · obtain rfl : k = n := by omega
      have HS := hid hS
      clear hS
      go_wp2_with fail
      go_ret
      exact ⟨ret_int HS.out, rfl⟩
end Go.Proofs.Ythfiijmmebgmoaa
