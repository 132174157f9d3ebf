/- Walks over the functions that the laws of chapter 2 call; own lemmas of the verifier, no statement is proved here. -/
import Derived.Test.YthfcndaccfpnmaaDoorProg
import Derived.Test.YthfcndaccfpnmaaDoorMemN
namespace Go.Proofs.YthfcndaccfpnmaaDoor
open Go.RowKit
theorem ret_int {k : IntKind} {a b : Int} (h : a = b) : Ending.returned (.int k a) = .returned (.int k b) := by rw [h]
theorem ret_bool {a b : Bool} (h : a = b) : Ending.returned (.bool a) = .returned (.bool b) := by rw [h]
theorem tmod_neg (a n : Int) (hn : 0 < n) (h : a.tmod n < 0) : a.tmod n + n = a % n := by
  have h := @Int.tmod_eq_emod a n
  have h1 := Int.emod_nonneg a (Int.ne_of_gt hn)
  have h2 := Int.emod_lt_of_pos a hn
  split at h <;> omega
theorem tmod_pos (a n : Int) (hn : 0 < n) (h : ¬ a.tmod n < 0) : a.tmod n = a % n := by
  have h := @Int.tmod_eq_emod a n
  have h1 := Int.emod_nonneg a (Int.ne_of_gt hn)
  have h2 := Int.emod_lt_of_pos a hn
  split at h <;> omega
set_option maxHeartbeats 400000 in
theorem within_any (a n : Int) (w : World) (h0 : 0 < n) (h1 : n ≤ 9223372036854775807) :
    Calls Tryd.prog 20 #[.int .i64 a, .int .i64 n] w fun e w' => e = .returned (.int .i64 (a % n)) ∧ w = w' := by
  have b1 := Int.tmod_lt_of_pos a h0
  by_cases hc : a.tmod n < 0
  · have hf := tmod_neg a n h0 hc
    have b2 := Int.emod_nonneg a (Int.ne_of_gt h0)
    have b3 : 0 ≤ a.tmod n + n := by omega
    have HF := hid hf; clear hf b2
    go_enter Tryd.func20, Tryd.ntmps20
    go_wp2
    go_ret
    exact ⟨ret_int HF.out, rfl⟩
  · have hf := tmod_pos a n h0 hc
    have HF := hid hf; clear hf
    go_enter Tryd.func20, Tryd.ntmps20
    go_wp2
    go_ret
    exact ⟨ret_int HF.out, rfl⟩
theorem natdiv_cast (x s : Nat) : (x : Int) / 2 ^ s = ((x / 2 ^ s : Nat) : Int) := by
  rw [Int.natCast_ediv, Int.natCast_pow]; rfl
theorem bit_fin (x s : Nat) (h : x < 256) : wrap64 (bits .and .u8 ((x : Int) / 2 ^ s) 1) = ((x / 2 ^ s % 2 : Nat) : Int) := by
  have h1 : x / 2 ^ s < 256 := Nat.lt_of_le_of_lt (Nat.div_le_self _ _) h
  rw [natdiv_cast, show (1 : Int) = ((1 : Nat) : Int) from rfl, u8_and_nat _ _ h1 (by omega), nat_mask1]
  unfold wrap64; omega
theorem and1i (t : Int) : bits .and .i64 t 1 = t % 2 := by
  have e0 : bits .and .i64 t 1 = IntKind.i64.wrap ((BitVec.ofInt 64 t &&& BitVec.ofInt 64 1).toNat : Int) := rfl
  have e : (BitVec.ofInt 64 t &&& BitVec.ofInt 64 1).toNat = (t % 2).toNat := by
    rw [BitVec.toNat_and, BitVec.toNat_ofInt, BitVec.toNat_ofInt]
    have : (1 % ((2 ^ 64 : Nat) : Int)).toNat = 1 := rfl
    rw [this, nat_mask1]
    omega
  rw [e0, e]
  simp [IntKind.wrap, IntKind.bits, IntKind.signed]
  omega
theorem bit_fin' (x s : Nat) (h : x < 256) : bits .and .i64 (wrap64 ((x : Int) / 2 ^ s)) 1 = ((x / 2 ^ s % 2 : Nat) : Int) := by
  have h1 : x / 2 ^ s < 256 := Nat.lt_of_le_of_lt (Nat.div_le_self _ _) h
  rw [natdiv_cast, and1i]
  unfold wrap64; omega
/-- Has a row of n bytes a bit i? -/
def hasN (n : Nat) (i : Int) : Bool := decide (1 ≤ i ∧ (i - 1) / 8 < n)
set_option maxHeartbeats 400000 in
theorem has_any (A : Option Addr) (n c : Nat) (i : Int) (w : World) (h0 : -9223372036854775808 ≤ i) (h1 : i ≤ 9223372036854775807) :
    Calls Tryd.prog 50 #[.slice A n c, .int .i64 i] w fun e w' => e = .returned (.bool (hasN n i)) ∧ w = w' := by
  by_cases hi : 1 ≤ i
  · obtain ⟨q, hq⟩ : ∃ q : Nat, i = q + 1 := ⟨(i - 1).toNat, by omega⟩
    subst hq
    have e1 : ((q : Int) + 1 - 1) = q := by omega
    go_enter Tryd.func50, Tryd.ntmps50
    go_wp2
    go_ret
    refine ⟨ret_bool ?_, rfl⟩
    unfold hasN
    rw [e1]
    have : (1 : Int) ≤ q + 1 := hi
    simp [this]
  · have HF := hid (show hasN n i = false by unfold hasN; simp; omega)
    go_enter Tryd.func50, Tryd.ntmps50
    go_wp2
    go_ret
    exact ⟨ret_bool (by rw [HF.out]), rfl⟩
/-- Bit i of bytes. -/
def bitN (bs : List UInt8) (i : Int) : Nat := if hasN bs.length i then (bs.getD ((i - 1) / 8).toNat 0).toNat / 2 ^ (7 - ((i - 1) % 8).toNat) % 2 else 0
theorem bitN_le (bs : List UInt8) (i : Int) : bitN bs i ≤ 1 := by
  unfold bitN; split <;> omega
theorem bitN_in {bs : List UInt8} {q : Nat} (h : q / 8 < bs.length) : bitN bs ((q : Int) + 1) = (bs.getD (q / 8) 0).toNat / 2 ^ (7 - q % 8) % 2 := by
  unfold bitN hasN
  rw [if_pos (by simp; omega)]
  have e1 : ((q : Int) + 1 - 1) = q := by omega
  rw [e1]
  have e2 : ((q : Int) / 8).toNat = q / 8 := by omega
  have e3 : ((q : Int) % 8).toNat = q % 8 := by omega
  rw [e2, e3]
theorem bitN_out {bs : List UInt8} {i : Int} (h : hasN bs.length i = false) : bitN bs i = 0 := by unfold bitN; rw [h]; rfl
set_option maxHeartbeats 400000 in
theorem bit_any (A : Option Addr) (n c : Nat) (i : Int) (bs : List UInt8) (w : World) (h : Rd w w.heap.size A n bs) (h0 : -9223372036854775808 ≤ i) (h1 : i ≤ 9223372036854775807) :
    Calls Tryd.prog 51 #[.slice A n c, .int .i64 i] w fun e w' => e = .returned (.int .i64 (bitN bs i)) ∧ w = w' := by
  have hl := h.len
  cases hh : hasN n i with
  | false =>
    have HF := hid (bitN_out (bs := bs) (i := i) (by rw [hl]; exact hh))
    go_enter Tryd.func51, Tryd.ntmps51
    go_wp2_with (go_at_call 50; refine (has_any _ _ _ _ _ h0 h1).mono ?_; rintro e w' ⟨rfl, rfl⟩; rw [hh])
    go_ret
    exact ⟨ret_int (by rw [HF.out]; rfl), rfl⟩
  | true =>
    have hh' := hh
    unfold hasN at hh'
    simp only [decide_eq_true_eq] at hh'
    obtain ⟨q, hq⟩ : ∃ q : Nat, i = q + 1 := ⟨(i - 1).toNat, by omega⟩
    subst hq
    have e1 : ((q : Int) + 1 - 1) = q := by omega
    rw [e1] at hh'
    have hq8 : q / 8 < n := by omega
    obtain ⟨b, o, rfl, hb, hc⟩ := h.at_ (by omega)
    have hck := hc _ hq8
    have HF := hid (bitN_in (bs := bs) (q := q) (by omega))
    have r1 := byteAt_lo bs (q / 8); have r2 := byteAt_hi bs (q / 8)
    have HB := hid (show byteAt bs (q / 8) = ((bs.getD (q / 8) 0).toNat : Int) from rfl)
    obtain ⟨X, hX⟩ : ∃ X, byteAt bs (q / 8) = X := ⟨_, rfl⟩
    rw [hX] at hck r1 r2 HB
    clear h hc hX hh'
    go_enter Tryd.func51, Tryd.ntmps51
    go_wp2_with (go_at_call 50; refine (has_any _ _ _ _ _ h0 h1).mono ?_; rintro e w' ⟨rfl, rfl⟩; rw [hh])
    go_ret
    refine ⟨ret_int ?_, rfl⟩
    rw [HF.out, HB.out]
    exact bit_fin _ _ (UInt8.toNat_lt _)
set_option maxHeartbeats 400000 in
theorem rbit_any (A : Option Addr) (n c : Nat) (i : Int) (bs : List UInt8) (w : World) (h : Rd w w.heap.size A n bs) (h0 : -9223372036854775808 ≤ i) (h1 : i ≤ 9223372036854775807) (hn : n ≤ 140737488355328) :
    Calls Tryd.prog 38 #[.slice A n c, .int .i64 i] w fun e w' => e = .returned (.int .i64 (bitN bs i)) ∧ w = w' := by
  have hl := h.len
  cases hh : hasN n i with
  | false =>
    have HF := hid (bitN_out (bs := bs) (i := i) (by rw [hl]; exact hh))
    unfold hasN at hh
    simp only [decide_eq_false_iff_not] at hh
    by_cases hi : i < 1
    · go_enter Tryd.func38, Tryd.ntmps38
      go_wp2
      go_ret
      exact ⟨ret_int (by rw [HF.out]; rfl), rfl⟩
    · have hi2 : 8 * (n : Int) < i := by omega
      go_enter Tryd.func38, Tryd.ntmps38
      go_wp2
      go_ret
      exact ⟨ret_int (by rw [HF.out]; rfl), rfl⟩
  | true =>
    have hh' := hh
    unfold hasN at hh'
    simp only [decide_eq_true_eq] at hh'
    obtain ⟨q, hq⟩ : ∃ q : Nat, i = q + 1 := ⟨(i - 1).toNat, by omega⟩
    subst hq
    have e1 : ((q : Int) + 1 - 1) = q := by omega
    rw [e1] at hh'
    have hq8 : q / 8 < n := by omega
    have hq9 : ¬ (8 * (n : Int) < q + 1) := by omega
    have hq10 : ¬ ((q : Int) + 1 < 1) := by omega
    obtain ⟨b, o, rfl, hb, hc⟩ := h.at_ (by omega)
    have hck := hc _ hq8
    have HF := hid (bitN_in (bs := bs) (q := q) (by omega))
    have r1 := byteAt_lo bs (q / 8); have r2 := byteAt_hi bs (q / 8)
    have HB := hid (show byteAt bs (q / 8) = ((bs.getD (q / 8) 0).toNat : Int) from rfl)
    obtain ⟨X, hX⟩ : ∃ X, byteAt bs (q / 8) = X := ⟨_, rfl⟩
    rw [hX] at hck r1 r2 HB
    clear h hc hX hh'
    go_enter Tryd.func38, Tryd.ntmps38
    go_wp2
    go_ret
    refine ⟨ret_int ?_, rfl⟩
    rw [HF.out, HB.out]
    exact bit_fin' _ _ (UInt8.toNat_lt _)
end Go.Proofs.YthfcndaccfpnmaaDoor
