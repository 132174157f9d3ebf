/- The law on the squares of all biases, walked; own text of the verifier. -/
import Derived.Test.YthfiijmmebgmoaaE9
import Derived.Test.YthfiijmmebgmoaaM2
namespace Go.Proofs.Ythfiijmmebgmoaa
open Go.RowKit
theorem sm_bound0 {f : Nat → Int} {b : Int} (h : ∀ i, 0 ≤ f i ∧ f i ≤ b) : ∀ k, 0 ≤ sm f k ∧ sm f k ≤ b * k
  | 0 => by simp [sm]
  | k + 1 => by
    have h1 := sm_bound0 h k
    have h2 := h k
    rw [sm, show (b * ((k + 1 : Nat) : Int)) = b * k + b by rw [show ((k + 1 : Nat) : Int) = (k : Int) + 1 by omega, Int.mul_add, Int.mul_one]]
    omega
set_option maxRecDepth 100000 in
set_option maxHeartbeats 4000000 in
theorem sums_walk (a0 : Option Addr) (len0 cap0 : Nat) (z0 : List Int) (a1 : Int) (w : World) (w0 : IsRow .i64 w a0 len0 cap0 z0) (w1 : (Lit.int .u8 a1).wf = true) :
    Calls Try.prog 8 #[.slice a0 len0 cap0, .int .u8 a1] w fun e w' => e = .returned (.bool true) ∧ Below w.heap.size w w' := by
  obtain ⟨b, rfl, hb⟩ := byte_arg w1
  obtain ⟨ns, hrn, hmax, hcap, _⟩ := w0.rdN
  unfold maxLen at hmax
  clear w0 w1
  go_enter Try.func8, Try.ntmps8
  go_wp2_with fail
  refine (known_any _).mono ?_
  rintro e wk ⟨rfl, hbk⟩
  have HB := hid hbk
  have HR := hid ((hrn.below hbk (Nat.le_refl _)).more hbk.size)
  clear hbk hrn
  go_wp2_with fail
  refine (table_any a0 256 len0 cap0 ns wk HR.out (by omega) (by omega)).mono ?_
  rintro e w1 ⟨v, rfl, hown, hbt⟩
  have hT := tabL_isT 256 ns (by omega)
  obtain ⟨bs, hbs⟩ : ∃ bs, tabL 256 ns = bs := ⟨_, rfl⟩
  rw [hbs] at hown hT
  obtain ⟨A, c, rfl, hR, _⟩ := hown.rd
  rw [hT.len] at hR ⊢
  have HX := hid (HB.out.trans (hbt.mono HB.out.size))
  obtain ⟨F, hF⟩ : ∃ F : Nat → Int, (fun a : Nat => biasS bs a b 256 * biasS bs a b 256) = F := ⟨_, rfl⟩
  have hs : sm F 256 = 65536 := by rw [← hF]; exact bias_squares bs b
  have hFb : ∀ i, 0 ≤ F i ∧ F i ≤ 65536 := fun i => by
    rw [← hF]
    have h1 := biasS_abs bs i b 256
    have h2 : (biasS bs i b 256 * biasS bs i b 256).natAbs ≤ 256 * 256 := by rw [Int.natAbs_mul]; exact Nat.mul_le_mul h1 h1
    have h3 := Int.natAbs_mul_self (a := biasS bs i b 256)
    show 0 ≤ biasS bs i b 256 * biasS bs i b 256 ∧ biasS bs i b 256 * biasS bs i b 256 ≤ 65536
    omega
  have HFb := hid (sm_bound0 hFb)
  have HS := hid hs
  have HF := hid hF
  clear hF hs hFb hbs hown hbt
  go_wp2_with fail
  go_loop [6, 7] (fun s i => ∃ (k : Nat) (S : Int), k ≤ 256 ∧ i = .int .i64 k ∧ s = .int .i64 S ∧ S = sm F k) (fun _ i => 256 - (intOf i).toNat)
  case atStart => exact ⟨0, _, by omega, rfl, rfl, rfl⟩
  case round =>
    obtain ⟨k, S, hk, rfl, rfl, hS⟩ := hrel
    by_cases hlt : k < 256
    · have hb1 := HFb.out k
      have hb2 := HFb.out (k + 1)
      have h1 := biasS_abs bs k b 256
      have C := hid (bias_any A 256 c bs k b w1 _ hR (by omega) hlt hb)
      have hv : F k = biasS bs k b 256 * biasS bs k b 256 := by rw [← HF.out]
      have hs : sm F (k + 1) = sm F k + F k := rfl
      rw [← hS] at hb1 hs
      rw [hs] at hb2
      obtain ⟨n, hn⟩ : ∃ n, biasS bs k b 256 = n := ⟨_, rfl⟩
      rw [hn] at C hv h1
      obtain ⟨P, hP⟩ : ∃ P, F k = P := ⟨_, rfl⟩
      rw [hP] at hv hs hb2
      have c1 : 0 ≤ S := by omega
      have c2 : S ≤ 100000000 := by omega
      have c3 : 0 ≤ S + P := by omega
      have c4 : S + P ≤ 100000000 := by omega
      have c5 : 0 ≤ P := by have := Int.natAbs_mul_self (a := n); omega
      have c6 : P ≤ 100000000 := by omega
      have hnn := hv.symm
      have HSS := hid hs
      clear hS hs hb1 hb2 hn hP hv
      go_wp2_with fail
      refine C.out.mono ?_
      rintro e w' ⟨rfl, rfl⟩
      go_wp2_with fail
      refine ⟨⟨k + 1, _, by omega, by go_num, rfl, HSS.out.symm⟩, by simp [intOf]; omega⟩
    · obtain rfl : k = 256 := by omega
      rw [HS.out] at hS
      subst hS
      go_wp2_with fail
      go_ret
      exact ⟨rfl, HX.out⟩
end Go.Proofs.Ythfiijmmebgmoaa
