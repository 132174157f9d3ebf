/- Walks over the functions of chapter 1 that chapter 8 calls; own lemmas of the verifier, no statement is proved here. -/
import Derived.Test.YtbdncalllfpodaaDoorRegO
import Derived.Test.YtbdncalllfpodaaDoorNum
import Derived.Deep.QuietTactic
import Derived.BigQuiet
namespace Go.Proofs.YtbdncalllfpodaaDoor
open Go.RowKit
theorem Tryd.info5 : (Tryd.prog.info? 5).map (fun i => (i.zero, i.size, i.bytes)) = some (some (.int .u8 0), 1, 1) := by kernel_rfl
theorem ret_bool {a b : Bool} (h : a = b) : Ending.returned (.bool a) = .returned (.bool b) := by rw [h]
theorem ret_int {k : IntKind} {a b : Int} (h : a = b) : Ending.returned (.int k a) = .returned (.int k b) := by rw [h]
theorem tmod_neg (a n : Int) (hn : 0 < n) (h : a.tmod n < 0) : a.tmod n + n = a % n := by
  have h := @Int.tmod_eq_emod a n
  have h1 := Int.emod_nonneg a (Int.ne_of_gt hn)
  have h2 := Int.emod_lt_of_pos a hn
  split at h <;> omega
theorem tmod_pos (a n : Int) (hn : 0 < n) (h : ¬ a.tmod n < 0) : a.tmod n = a % n := by
  have h := @Int.tmod_eq_emod a n
  have h1 := Int.emod_nonneg a (Int.ne_of_gt hn)
  have h2 := Int.emod_lt_of_pos a hn
  split at h <;> omega
theorem tmod_lo (a n : Int) (hn : 0 < n) : - n < a.tmod n := by
  have h := @Int.tmod_eq_emod a n
  have h1 := Int.emod_nonneg a (Int.ne_of_gt hn)
  have h2 := Int.emod_lt_of_pos a hn
  split at h <;> omega
theorem tmod_add_emod (a n : Int) (hn : 0 < n) : (a.tmod n + n) % n = a % n := by
  have h := @Int.tmod_eq_emod a n
  rw [Int.add_emod_right]
  split at h
  · rw [h]; simp
  · rw [h, Int.sub_emod]; 
    have : (n.natAbs : Int) % n = 0 := by rw [Int.natAbs_of_nonneg (by omega)]; simp
    rw [this]; simp
set_option maxHeartbeats 400000 in
theorem within_any (a n : Int) (w : World) (h0 : 0 < n) (h1 : n ≤ 9223372036854775807) :
    Calls Tryd.prog 13 #[.int .i64 a, .int .i64 n] w fun e w' => e = .returned (.int .i64 (a % n)) ∧ w = w' := by
  have b1 := Int.tmod_lt_of_pos a h0
  by_cases hc : a.tmod n < 0
  · have hf := tmod_neg a n h0 hc
    have b2 := Int.emod_nonneg a (Int.ne_of_gt h0)
    have b3 : 0 ≤ a.tmod n + n := by omega
    have HF := hid hf; clear hf b2
    go_enter Tryd.func13, Tryd.ntmps13
    go_wp2
    go_ret
    exact ⟨ret_int HF.out, rfl⟩
  · have hf := tmod_pos a n h0 hc
    have HF := hid hf; clear hf
    go_enter Tryd.func13, Tryd.ntmps13
    go_wp2
    go_ret
    exact ⟨ret_int HF.out, rfl⟩
set_option maxHeartbeats 400000 in
theorem rrest_any (a n : Int) (w : World) (h0 : 0 < n) (h1 : n ≤ 4611686018427387903) :
    Calls Tryd.prog 38 #[.int .i64 a, .int .i64 n] w fun e w' => e = .returned (.int .i64 (a % n)) ∧ w = w' := by
  have b1 := Int.tmod_lt_of_pos a h0
  have b2 := tmod_lo a n h0
  have hf := tmod_add_emod a n h0
  have HF := hid hf; clear hf
  go_enter Tryd.func38, Tryd.ntmps38
  go_wp2
  go_ret
  exact ⟨ret_int HF.out, rfl⟩
theorem and31 (n : Int) : bits .and .u64 (IntKind.u64.wrap n) 31 = n % 32 := by
  rw [IntKind.wrap_u64, show (31 : Int) = ((31 : Nat) : Int) from rfl, show n % 18446744073709551616 = ((n % 18446744073709551616).toNat : Int) by omega, u64_and_nat _ _ (by omega) (by omega), nat_mask5]
  omega
/-- Turned to the left by s < 32 bits. -/
def rol32 (a : Int) (s : Nat) : Int := bits .or .u32 (a * 2 ^ s % 4294967296) (a / 2 ^ (32 - s))
set_option maxHeartbeats 400000 in
theorem rl32 (a n : Int) (w : World) :
    Calls Tryd.prog 54 #[.int .u32 a, .int .i64 n] w fun e w' => e = .returned (.int .u32 (rol32 a (n % 32).toNat)) ∧ w = w' := by
  have hs := and31 n
  obtain ⟨s, hsn⟩ : ∃ s : Nat, n % 32 = s := ⟨(n % 32).toNat, by omega⟩
  have hs1 : s ≤ 31 := by omega
  rw [hsn] at hs
  have HS := hid (show (n % 32).toNat = s by omega)
  clear hsn
  go_enter Tryd.func54, Tryd.ntmps54
  go_wp2
  go_ret
  exact ⟨ret_int (by rw [HS.out]; rfl), rfl⟩
set_option maxHeartbeats 400000 in
theorem rrl32 (a n : Int) (w : World) :
    Calls Tryd.prog 21 #[.int .u32 a, .int .i64 n] w fun e w' => e = .returned (.int .u32 (rol32 a (n % 32).toNat)) ∧ w = w' := by
  obtain ⟨s, hsn⟩ : ∃ s : Nat, n % 32 = s := ⟨(n % 32).toNat, by omega⟩
  have hs1 : s ≤ 31 := by omega
  have HS := hid (show (n % 32).toNat = s by omega)
  go_enter Tryd.func21, Tryd.ntmps21
  go_wp2_with (go_at_call 38; refine (rrest_any _ _ _ (by omega) (by omega)).mono ?_; rintro e w' ⟨rfl, rfl⟩)
  go_ret
  exact ⟨ret_int (by rw [HS.out]; rfl), rfl⟩
set_option maxHeartbeats 400000 in
theorem rol_any (a n : Int) (w : World) :
    Calls Tryd.prog 45 #[.int .u32 a, .int .i64 n] w fun e w' => e = .returned (.int .u32 (rol32 a (n % 32).toNat)) ∧ w = w' := by
  go_enter Tryd.func45, Tryd.ntmps45
  go_wp2_with (go_at_call 54; refine (rl32 _ _ _).mono ?_; rintro e w' ⟨rfl, rfl⟩)
  go_ret
  exact ⟨rfl, rfl⟩
set_option maxHeartbeats 400000 in
theorem gather_any (A : Option Addr) (n c B : Nat) (bs : List UInt8) (w : World) (h : Rd w B A n bs) (hn : n ≤ 140737488355328) :
    Calls Tryd.prog 56 #[.slice A n c] w fun e w' => e = .returned (.int .u64 (be bs n)) ∧ w = w' := by
  go_enter Tryd.func56, Tryd.ntmps56
  go_wp2
  go_loop [3, 8] (fun v i => ∃ k : Nat, k ≤ n ∧ i = .int .i64 k ∧ v = .int .u64 (be bs k)) (fun _ i => n - (intOf i).toNat)
  case atStart => exact ⟨0, Nat.zero_le _, rfl, rfl⟩
  case round =>
    obtain ⟨k, hk, rfl, rfl⟩ := hrel
    by_cases hlt : k < n
    · obtain ⟨b, o, rfl, hb, hc⟩ := h.at_ (by omega)
      have hck := hc k hlt
      have h1 := byteAt_lo bs k
      have h2 := byteAt_hi bs k
      clear h hc
      go_wp2
      go_round
      case rel => exact ⟨k + 1, by omega, by go_num, rfl⟩
      case measure => simp [intOf]; omega
    · go_wp2
      go_ret
      obtain rfl : k = n := by omega
      exact ⟨rfl, rfl⟩

set_option maxHeartbeats 400000 in
theorem little_any (A : Option Addr) (n c B : Nat) (bs : List UInt8) (w : World) (h : Rd w B A n bs) (hn : n ≤ 140737488355328) :
    Calls Tryd.prog 20 #[.slice A n c] w fun e w' => e = .returned (.int .u64 (le bs n n)) ∧ w = w' := by
  go_enter Tryd.func20, Tryd.ntmps20
  go_wp2
  go_loop [3, 4] (fun v i => ∃ k : Nat, k ≤ n ∧ i = .int .i64 ((n : Int) - k) ∧ v = .int .u64 (le bs n k)) (fun _ i => (intOf i).toNat)
  case atStart => exact ⟨0, Nat.zero_le _, by simp, rfl⟩
  case round =>
    obtain ⟨k, hk, rfl, rfl⟩ := hrel
    by_cases hlt : k < n
    · obtain ⟨b, o, rfl, hb, hc⟩ := h.at_ (by omega)
      have hck := hc (n - 1 - k) (by omega)
      have e : o + (n - 1 - k) = o + (n - k - 1) := by omega
      rw [e] at hck
      have h1 := byteAt_lo bs (n - 1 - k)
      have h2 := byteAt_hi bs (n - 1 - k)
      have hpos : (0 : Int) < (n : Int) - k := by omega
      clear h hc e
      go_wp2
      go_round
      case rel => exact ⟨k + 1, by omega, by go_num, rfl⟩
      case measure => simp [intOf]; omega
    · go_wp2
      go_ret
      obtain rfl : k = n := by omega
      exact ⟨rfl, rfl⟩
set_option maxHeartbeats 400000 in
theorem spread_any (v : Int) (n : Nat)  (w : World) (hn : n ≤ 8) :
    Calls Tryd.prog 55 #[.int .u64 v, .int .i64 n] w (RetB w (spreadL v n)) := by
  go_enter Tryd.func55, Tryd.ntmps55
  go_wp2_with (at_make; refine wpL_make rfl (.tmp 7) (.tmp 7) 22 rfl Tryd.underlying22 Tryd.info5 .i64 n n rfl rfl rfl (by omega) w.heap.size (Nat.le_refl _) ?_; intro w1 hown1 hb1 _)
  go_loopw [11] (fun i wr => ∃ k : Nat, k ≤ n ∧ i = .int .i64 k ∧ Own wr w.heap.size (.slice (some ⟨w.heap.size, 0, none⟩) n n) (fillTo (spreadF v n) n k) ∧ Below w.heap.size w wr) (fun i _ => n - (intOf i).toNat)
  case atStart => exact ⟨0, Nat.zero_le _, rfl, by rw [fillTo_zero]; exact hown1, hb1⟩
  case round =>
    obtain ⟨k, hk, rfl, hown, hb⟩ := hrel
    by_cases hlt : k < n
    · obtain ⟨cur, hcur⟩ : ∃ cur, fillTo (spreadF v n) n k = cur := ⟨_, rfl⟩
      have hcl : cur.length = n := by rw [← hcur]; exact fillTo_length _ _ _
      rw [hcur] at hown
      have hown0 : Own wr w.heap.size (.slice (some ⟨w.heap.size, 0, none⟩) cur.length n) cur := by rw [hcl]; exact hown
      have hcell := hown0.cell k (by omega)
      have hfree := hown0.free k
      have hset := hown0.set_ k (spreadF v n k)
      rw [← hcur, fillTo_set _ _ _ _ rfl, fillTo_length] at hset
      have hval : ((spreadF v n k).toNat : Int) = v / 2 ^ (8 * (n - 1 - k)) % 256 := by unfold spreadF; exact u8_toNat _
      rw [hval] at hset
      have HH := hid hset
      have HB := hid hb
      clear hset hval hown0 hown hb hcl hcur hown1 hb1
      go_wp2
      go_roundw
      case rel => exact ⟨k + 1, by omega, by go_num, HH.out, HB.out.setCell (by simp) _⟩
      case measure => simp [intOf]; omega
    · obtain rfl : k = n := by omega
      have HH := hid (And.intro hown hb)
      clear hown hb hown1 hb1
      go_wp2
      go_ret
      exact ⟨_, rfl, by have := HH.out.1; rw [fillTo_full] at this; exact this, HH.out.2⟩

theorem wrap64_u32 (v : Int) (h0 : 0 ≤ v) (h1 : v < 4294967296) : IntKind.u64.wrap v = v := by rw [IntKind.wrap_u64]; omega
set_option maxHeartbeats 400000 in
theorem putBe32_any (v : Int) (w : World) (h0 : 0 ≤ v) (h1 : v < 4294967296) :
    Calls Tryd.prog 50 #[.int .u32 v] w (RetB w (put32 v)) := by
  go_enter Tryd.func50, Tryd.ntmps50
  go_wp2_with (go_at_call 55; refine (spread_any _ 4 _ (by omega)).mono ?_; rintro e w' ⟨x, rfl, hx, hb⟩)
  go_ret
  exact ⟨_, rfl, by rw [← spread4]; exact hx, hb⟩
set_option maxHeartbeats 400000 in
theorem rev_any (v : Int) (w : World) :
    Calls Tryd.prog 51 #[.int .u32 v] w fun e w' => e = .returned (.int .u32 (rev32 v)) ∧ w = w' := by
  go_enter Tryd.func51, Tryd.ntmps51
  go_wp2
  go_ret
  exact ⟨rfl, rfl⟩
theorem rev32_range (v : Int) (h0 : 0 ≤ v) (h1 : v < 4294967296) : 0 ≤ rev32 v ∧ rev32 v < 4294967296 := by
  rw [rev32_eq v h0 h1]; omega
set_option maxHeartbeats 400000 in
theorem putLe32_any (v : Int) (w : World) (h0 : 0 ≤ v) (h1 : v < 4294967296) :
    Calls Tryd.prog 41 #[.int .u32 v] w (RetB w (putL32 v)) := by
  have hr := rev32_range v h0 h1
  go_enter Tryd.func41, Tryd.ntmps41
  go_wp2_with (first
    | (go_at_call 51; refine (rev_any _ _).mono ?_; rintro e w' ⟨rfl, rfl⟩)
    | (go_at_call 50; refine (putBe32_any _ _ hr.1 hr.2).mono ?_; rintro e w' ⟨x, rfl, hx, hb⟩))
  go_ret
  exact ⟨_, rfl, by rw [← put_rev v h0 h1]; exact hx, hb⟩

set_option maxHeartbeats 400000 in
theorem rputL32_any (v : Int) (w : World) :
    Calls Tryd.prog 23 #[.int .u32 v] w (RetB w (putL32 v)) := by
  go_enter Tryd.func23, Tryd.ntmps23
  go_wp2
  go_ret
  refine ⟨_, rfl, ?_, (Below.refl _ _).alloc (Nat.le_refl _) _⟩
  exact Own.lit w (putL32 v) _ 4 w.heap.size (by simp [putL32, cellsOf, u8_toNat]) rfl (by unfold maxLen; omega) (Nat.le_refl _)
def isLen (k n : Nat) : Bool := decide (n = k)
def be32N (bs : List UInt8) (n : Nat) : Int := if n = 4 then be bs 4 else 0
def le32N (bs : List UInt8) (n : Nat) : Int := if n = 4 then le bs 4 4 else 0
theorem ret_pair {k : IntKind} {a b : Int} {p q : Bool} (h : a = b) (hp : p = q) : Ending.returned (.tuple #[.int k a, .bool p]) = .returned (.tuple #[.int k b, .bool q]) := by rw [h, hp]
theorem be4_range (bs : List UInt8) : 0 ≤ be bs 4 ∧ be bs 4 < 4294967296 := by
  have h0 := byteAt_lo bs 0; have h1 := byteAt_lo bs 1; have h2 := byteAt_lo bs 2; have h3 := byteAt_lo bs 3
  have k0 := byteAt_hi bs 0; have k1 := byteAt_hi bs 1; have k2 := byteAt_hi bs 2; have k3 := byteAt_hi bs 3
  rw [be4]; omega
theorem le4_range (bs : List UInt8) : 0 ≤ le bs 4 4 ∧ le bs 4 4 < 4294967296 := by
  have h0 := byteAt_lo bs 0; have h1 := byteAt_lo bs 1; have h2 := byteAt_lo bs 2; have h3 := byteAt_lo bs 3
  have k0 := byteAt_hi bs 0; have k1 := byteAt_hi bs 1; have k2 := byteAt_hi bs 2; have k3 := byteAt_hi bs 3
  rw [le4]; omega
theorem be32N_range (bs : List UInt8) (n : Nat) : 0 ≤ be32N bs n ∧ be32N bs n < 4294967296 := by
  unfold be32N; split
  · exact be4_range bs
  · omega
theorem rev_be32N (bs : List UInt8) (n : Nat) : rev32 (be32N bs n) = le32N bs n := by
  unfold be32N le32N
  split
  · exact rev_be4 bs
  · exact rev32_eq 0 (by omega) (by omega)
set_option maxHeartbeats 400000 in
theorem be32_any (A : Option Addr) (n c B : Nat) (bs : List UInt8) (w : World) (h : Rd w B A n bs) (hn : n ≤ 140737488355328) :
    Calls Tryd.prog 52 #[.slice A n c] w fun e w' => e = .returned (.tuple #[.int .u32 (be32N bs n), .bool (isLen 4 n)]) ∧ w = w' := by
  by_cases h4 : n = 4
  · subst h4
    go_enter Tryd.func52, Tryd.ntmps52
    go_wp2_with (go_at_call 56; refine (gather_any _ _ _ _ _ _ h hn).mono ?_; rintro e w' ⟨rfl, rfl⟩)
    go_ret2
    exact ⟨ret_pair (by have := be4_range bs; unfold be32N; rw [if_pos rfl]; omega) rfl, rfl⟩
  · have h5 : ((n : Int) != 4) = true := by simp; omega
    go_enter Tryd.func52, Tryd.ntmps52
    go_wp2_with (go_at_call 56; refine (gather_any _ _ _ _ _ _ h hn).mono ?_; rintro e w' ⟨rfl, rfl⟩)
    go_ret2
    exact ⟨ret_pair (by simp [be32N, h4]) (by simp [isLen, h4]), rfl⟩
set_option maxHeartbeats 400000 in
theorem le32_any (A : Option Addr) (n c B : Nat) (bs : List UInt8) (w : World) (h : Rd w B A n bs) (hn : n ≤ 140737488355328) :
    Calls Tryd.prog 43 #[.slice A n c] w fun e w' => e = .returned (.tuple #[.int .u32 (le32N bs n), .bool (isLen 4 n)]) ∧ w = w' := by
  go_enter Tryd.func43, Tryd.ntmps43
  go_wp2_with (first
    | (go_at_call 52; refine (be32_any _ _ _ _ _ _ h hn).mono ?_; rintro e w' ⟨rfl, rfl⟩)
    | (go_at_call 51; refine (rev_any _ _).mono ?_; rintro e w' ⟨rfl, rfl⟩))
  go_ret2
  exact ⟨ret_pair (rev_be32N bs n) rfl, rfl⟩
/-- A number of w bits, turned to the left by s. -/
def rolN (w a s : Nat) : Nat := a * 2 ^ s % 2 ^ w ||| a / 2 ^ (w - s)
theorem rolN_bit (w a s k : Nat) (ha : a < 2 ^ w) (hs : s < w) (hk : k < w) : (rolN w a s).testBit k = a.testBit ((k + w - s) % w) := by
  have big : ∀ m, w ≤ m → a.testBit m = false := fun m hm => Nat.testBit_lt_two_pow (Nat.lt_of_lt_of_le ha (Nat.pow_le_pow_right (by omega) hm))
  unfold rolN
  rw [Nat.testBit_or, Nat.testBit_mod_two_pow, Nat.testBit_mul_two_pow, Nat.testBit_div_two_pow]
  by_cases h : s ≤ k
  · rw [big (k + (w - s)) (by omega)]
    have e : (k + w - s) % w = k - s := by
      rw [show k + w - s = (k - s) + w by omega, Nat.add_mod_right, Nat.mod_eq_of_lt (by omega)]
    rw [e]; simp [hk, h]
  · have e : (k + w - s) % w = k + (w - s) := by
      rw [show k + w - s = k + (w - s) by omega, Nat.mod_eq_of_lt (by omega)]
    rw [e]; simp [h]
theorem rolN_lt (w a s : Nat) (ha : a < 2 ^ w) : rolN w a s < 2 ^ w := by
  unfold rolN
  exact Nat.or_lt_two_pow (Nat.mod_lt _ (Nat.two_pow_pos _)) (Nat.lt_of_le_of_lt (Nat.div_le_self _ _) ha)
theorem eq_of_bits (w a b : Nat) (ha : a < 2 ^ w) (hb : b < 2 ^ w) (h : ∀ k, k < w → a.testBit k = b.testBit k) : a = b := by
  apply Nat.eq_of_testBit_eq
  intro k
  rcases Nat.lt_or_ge k w with hk | hk
  · exact h k hk
  · rw [Nat.testBit_lt_two_pow (Nat.lt_of_lt_of_le ha (Nat.pow_le_pow_right (by omega) hk)), Nat.testBit_lt_two_pow (Nat.lt_of_lt_of_le hb (Nat.pow_le_pow_right (by omega) hk))]
theorem rolN_rolN (w a i j : Nat) (ha : a < 2 ^ w) (hi : i < w) (hj : j < w) : rolN w (rolN w a i) j = rolN w a ((i + j) % w) := by
  have hl : (i + j) % w < w := Nat.mod_lt _ (by omega)
  refine eq_of_bits w _ _ (rolN_lt _ _ _ (rolN_lt _ _ _ ha)) (rolN_lt _ _ _ ha) fun k hk => ?_
  have hm : (k + w - j) % w < w := Nat.mod_lt _ (by omega)
  rw [rolN_bit w _ j k (rolN_lt _ _ _ ha) hj hk, rolN_bit w a i _ ha hi hm, rolN_bit w a _ k ha hl hk]
  congr 1
  -- all are k - i - j, by w
  rcases Nat.lt_or_ge (i + j) w with h | h
  · rw [Nat.mod_eq_of_lt h]
    rcases Nat.lt_or_ge k j with h1 | h1
    · rw [Nat.mod_eq_of_lt (show k + w - j < w by omega), show k + w - j + w - i = k + w - (i + j) + w by omega, Nat.add_mod_right]
    · rw [show k + w - j = (k - j) + w by omega, Nat.add_mod_right, Nat.mod_eq_of_lt (show k - j < w by omega)]
      congr 1; omega
  · rw [show (i + j) % w = i + j - w by rw [Nat.mod_eq_sub_mod h, Nat.mod_eq_of_lt (by omega)]]
    rcases Nat.lt_or_ge k j with h1 | h1
    · rw [Nat.mod_eq_of_lt (show k + w - j < w by omega)]
      congr 1; omega
    · rw [show k + w - j = (k - j) + w by omega, Nat.add_mod_right, Nat.mod_eq_of_lt (show k - j < w by omega), show k + w - (i + j - w) = k - j + w - i + w by omega, Nat.add_mod_right]
theorem rolN_zero (w a : Nat) (ha : a < 2 ^ w) : rolN w a 0 = a := by
  unfold rolN
  rw [Nat.pow_zero, Nat.mul_one, Nat.mod_eq_of_lt ha, Nat.sub_zero, Nat.div_eq_of_lt ha, Nat.or_zero]
theorem cast_mul (x s m : Nat) : ((x * 2 ^ s % m : Nat) : Int) = (x : Int) * 2 ^ s % (m : Int) := by
  rw [Int.natCast_emod, Int.natCast_mul, Int.natCast_pow]; rfl
theorem cast_div (x s : Nat) : ((x / 2 ^ s : Nat) : Int) = (x : Int) / 2 ^ s := by
  rw [Int.natCast_ediv, Int.natCast_pow]; rfl
theorem rol32_nat (x s : Nat) (hx : x < 4294967296) (_hs : s < 32) : rol32 (x : Int) s = ((rolN 32 x s : Nat) : Int) := by
  unfold rol32 rolN
  have h1 : x * 2 ^ s % 2 ^ 32 < 4294967296 := Nat.mod_lt _ (by omega)
  have h2 : x / 2 ^ (32 - s) < 4294967296 := Nat.lt_of_le_of_lt (Nat.div_le_self _ _) hx
  rw [← u32_or_nat _ _ h1 h2, cast_mul, cast_div]
  rfl
end Go.Proofs.YtbdncalllfpodaaDoor
