/- Plain facts on the parity of a byte's bits, walks over the bias of the program and of the reference; own lemmas of the verifier, no statement is proved here. -/
import Derived.Test.YthfiijmmebgmoaaE1
import Derived.Test.YthfiijmmebgmoaaB1
import Derived.StillTailTactics
import Derived.Deep.RegionWith
namespace Go.Proofs.Ythfiijmmebgmoaa
open Go.RowKit
theorem quietSame {P : Program} {f : FuncId} {args : Array Value} {w : World} {n : Nat} {v : Value}
    (h : Calls P f args (w.drewN n) fun e w' => e = .returned v ∧ w.drewN n = w') : Calls P f args (w.drewN n) fun e w'' => e = .returned v ∧ ∃ m, w'' = w.drewN m :=
  h.mono fun _ _ ⟨he, hm⟩ => ⟨he, n, hm.symm⟩
/-- Whether an odd number of the first k bits are set. -/
def parK (y : Nat) : Nat → Nat
  | 0 => 0
  | k + 1 => (parK y k + y / 2 ^ k % 2) % 2
def par (y : Nat) : Nat := parK y 8
theorem parK_le (y : Nat) : ∀ k, parK y k ≤ 1
  | 0 => by simp [parK]
  | k + 1 => by rw [parK]; omega
theorem par_le (y : Nat) : par y ≤ 1 := parK_le y 8
theorem bit_xor (a b k : Nat) : (a ^^^ b) / 2 ^ k % 2 = (a / 2 ^ k % 2 + b / 2 ^ k % 2) % 2 := by
  have h := Nat.testBit_xor a b k
  simp only [Nat.testBit_eq_decide_div_mod_eq] at h
  have h1 := Nat.mod_lt (a / 2 ^ k) (show 0 < 2 by omega)
  have h2 := Nat.mod_lt (b / 2 ^ k) (show 0 < 2 by omega)
  have h3 := Nat.mod_lt ((a ^^^ b) / 2 ^ k) (show 0 < 2 by omega)
  rcases (show a / 2 ^ k % 2 = 0 ∨ a / 2 ^ k % 2 = 1 by omega) with e1 | e1 <;> rcases (show b / 2 ^ k % 2 = 0 ∨ b / 2 ^ k % 2 = 1 by omega) with e2 | e2 <;> rw [e1, e2] at h ⊢ <;> simp at h <;> omega
theorem parK_xor (a b : Nat) : ∀ k, parK (a ^^^ b) k = (parK a k + parK b k) % 2
  | 0 => rfl
  | k + 1 => by
    rw [parK, parK_xor a b k, bit_xor, parK, parK]; omega
theorem par_xor (a b : Nat) : par (a ^^^ b) = (par a + par b) % 2 := parK_xor a b 8
theorem par_and_xor (x y r : Nat) : par ((x ^^^ y) &&& r) = (par (x &&& r) + par (y &&& r)) % 2 := by
  rw [Nat.and_xor_distrib_right]; exact parK_xor _ _ 8
theorem parK_zero : ∀ k, parK 0 k = 0
  | 0 => rfl
  | k + 1 => by rw [parK, parK_zero k]; simp
theorem par_zero : par 0 = 0 := parK_zero 8
theorem and_lt8 {a b : Nat} (ha : a < 256) : a &&& b < 256 := Nat.lt_of_le_of_lt Nat.and_le_left ha
theorem xor_lt8 {a b : Nat} (ha : a < 256) (hb : b < 256) : a ^^^ b < 256 := Nat.xor_lt_two_pow (n := 8) ha hb
theorem u8_and_one (q : Nat) (h : q < 256) : bits .and .u8 (q : Int) 1 = ((q % 2 : Nat) : Int) := by
  rw [show (1 : Int) = ((1 : Nat) : Int) from rfl, u8_and_nat _ _ h (by omega), nat_mask1]
/-- What a place adds to the bias. -/
def biasF (bs : List UInt8) (a b x : Nat) : Int := if par (((x % 256) &&& a) ^^^ (nb bs x &&& b)) = 0 then 1 else -1
def biasS (bs : List UInt8) (a b k : Nat) : Int := sm (biasF bs a b) k
theorem biasS_succ (bs : List UInt8) (a b k : Nat) : biasS bs a b (k + 1) = biasS bs a b k + biasF bs a b k := rfl
theorem biasF_abs (bs : List UInt8) (a b x : Nat) : (biasF bs a b x).natAbs ≤ 1 := by unfold biasF; split <;> decide
theorem biasS_abs (bs : List UInt8) (a b k : Nat) : (biasS bs a b k).natAbs ≤ k := sm_abs (biasF_abs bs a b) k
set_option maxHeartbeats 1000000 in
theorem odd_any (y : Nat) (w : World) (hy : y < 256) : Calls Try.prog 29 #[.int .u8 y] w fun e w' => e = .returned (.bool (par y == 1)) ∧ w = w' := by
  go_enter Try.func29, Try.ntmps29
  go_wp2_with fail
  go_loop [3, 4] (fun v i => ∃ (k : Nat) (b : Bool), k ≤ 8 ∧ i = .int .u64 k ∧ v = .bool b ∧ b = (parK y k == 1)) (fun _ i => (8 - intOf i).toNat)
  case atStart => exact ⟨0, false, by omega, rfl, rfl, rfl⟩
  case round =>
    obtain ⟨k, b, hk, rfl, rfl, hb⟩ := hrel
    by_cases hlt : k < 8
    · have h1 : bits .and .u8 ((y / 2 ^ k : Nat) : Int) 1 = ((y / 2 ^ k % 2 : Nat) : Int) := u8_and_one _ (Nat.lt_of_le_of_lt (Nat.div_le_self _ _) hy)
      have hs : parK y (k + 1) = (parK y k + y / 2 ^ k % 2) % 2 := rfl
      have hp := parK_le y k
      have e : ((y / 2 ^ k : Nat) : Int) = (y : Int) / 2 ^ k := by simp
      rw [e] at h1
      rcases (show y / 2 ^ k % 2 = 0 ∨ y / 2 ^ k % 2 = 1 by omega) with h0 | h0
      · rw [h0] at h1 hs
        have HB := hid (show b = (parK y (k + 1) == 1) by rw [hb, hs]; congr 1; omega)
        clear hb hs hp h0 e
        go_wp2
        refine ⟨⟨k + 1, _, by omega, by go_num, rfl, HB.out⟩, by simp [intOf]; omega⟩
      · rw [h0] at h1 hs
        have HB := hid (show (!b) = (parK y (k + 1) == 1) by
          rw [hb, hs]
          rcases (show parK y k = 0 ∨ parK y k = 1 by omega) with h2 | h2 <;> rw [h2] <;> rfl)
        clear hb hs hp h0 e
        go_wp2
        refine ⟨⟨k + 1, _, by omega, by go_num, rfl, HB.out⟩, by simp [intOf]; omega⟩
    · obtain rfl : k = 8 := by omega
      have HB := hid hb
      clear hb
      go_wp2
      go_ret
      exact ⟨ret_bool HB.out, rfl⟩
theorem wrap_byte (x : UInt8) : wrap64 (x.toNat : Int) = ((x.toNat : Nat) : Int) := by
  have := x.toNat_lt
  unfold wrap64; omega
theorem byte_tab {d : ByteArray} {y : Nat} (h : y < d.size) (hy : y < 256) (hd : ((List.range 256).all fun j => decide ((d.data.getD j 0).toNat % 2 = par j) && decide ((d.data.getD j 0).toNat ≤ 8)) = true) :
    (d[y]'h).toNat % 2 = par y ∧ (d[y]'h).toNat ≤ 8 := by
  have h1 := List.all_eq_true.1 hd y (List.mem_range.2 hy)
  simp only [Bool.and_eq_true, decide_eq_true_eq] at h1
  have e : d.data.getD y 0 = d[y]'h := by
    rw [Array.getD_eq_getD_getElem?, Array.getElem?_eq_getElem (show y < d.data.size from h)]; rfl
  rw [e] at h1
  exact h1
set_option maxRecDepth 100000 in
set_option maxHeartbeats 1000000 in
theorem ones_any (y : Nat) (w : World) (hy : y < 256) : Calls Try.prog 28 #[.int .u8 y] w fun e w' => ∃ c : Nat, e = .returned (.int .i64 c) ∧ c % 2 = par y ∧ c ≤ 8 ∧ w = w' := by
  go_enter Try.func28, Try.ntmps28
  go_wp2
  go_ret
  refine ⟨_, ret_int (wrap_byte _), ?_, ?_, rfl⟩
  · exact (byte_tab _ hy (by decide +kernel)).1
  · exact (byte_tab _ hy (by decide +kernel)).2
end Go.Proofs.Ythfiijmmebgmoaa
