/- Walks over Turn of the program and of the reference, and what turning does to each bit; own lemmas of the verifier, no statement is proved here. -/
import Derived.Test.YtpfkcplldhdipaaDoorProg
import Derived.Test.YtpfkcplldhdipaaDoorRegO
import Derived.Test.YtpfkcplldhdipaaDoorNum
import Derived.Deep.QuietTactic
import Derived.BigQuiet
namespace Go.Proofs.YtpfkcplldhdipaaDoor
open Go.RowKit
theorem Tryd.info5 : (Tryd.prog.info? 5).map (fun i => (i.zero, i.size, i.bytes)) = some (some (.int .u8 0), 1, 1) := by kernel_rfl
theorem ret_bool {a b : Bool} (h : a = b) : Ending.returned (.bool a) = .returned (.bool b) := by rw [h]
theorem ret_int {k : IntKind} {a b : Int} (h : a = b) : Ending.returned (.int k a) = .returned (.int k b) := by rw [h]
theorem tmod_neg (a n : Int) (hn : 0 < n) (h : a.tmod n < 0) : a.tmod n + n = a % n := by
  have h := @Int.tmod_eq_emod a n
  have h1 := Int.emod_nonneg a (Int.ne_of_gt hn)
  have h2 := Int.emod_lt_of_pos a hn
  split at h <;> omega
theorem tmod_pos (a n : Int) (hn : 0 < n) (h : ¬ a.tmod n < 0) : a.tmod n = a % n := by
  have h := @Int.tmod_eq_emod a n
  have h1 := Int.emod_nonneg a (Int.ne_of_gt hn)
  have h2 := Int.emod_lt_of_pos a hn
  split at h <;> omega
theorem tmod_lo (a n : Int) (hn : 0 < n) : - n < a.tmod n := by
  have h := @Int.tmod_eq_emod a n
  have h1 := Int.emod_nonneg a (Int.ne_of_gt hn)
  have h2 := Int.emod_lt_of_pos a hn
  split at h <;> omega
theorem tmod_add_emod (a n : Int) (hn : 0 < n) : (a.tmod n + n) % n = a % n := by
  have h := @Int.tmod_eq_emod a n
  rw [Int.add_emod_right]
  split at h
  · rw [h]; simp
  · rw [h, Int.sub_emod]; 
    have : (n.natAbs : Int) % n = 0 := by rw [Int.natAbs_of_nonneg (by omega)]; simp
    rw [this]; simp
set_option maxHeartbeats 400000 in
theorem within_any (a n : Int) (w : World) (h0 : 0 < n) (h1 : n ≤ 9223372036854775807) :
    Calls Tryd.prog 18 #[.int .i64 a, .int .i64 n] w fun e w' => e = .returned (.int .i64 (a % n)) ∧ w = w' := by
  have b1 := Int.tmod_lt_of_pos a h0
  by_cases hc : a.tmod n < 0
  · have hf := tmod_neg a n h0 hc
    have b2 := Int.emod_nonneg a (Int.ne_of_gt h0)
    have b3 : 0 ≤ a.tmod n + n := by omega
    have HF := hid hf; clear hf b2
    go_enter Tryd.func18, Tryd.ntmps18
    go_wp2
    go_ret
    exact ⟨ret_int HF.out, rfl⟩
  · have hf := tmod_pos a n h0 hc
    have HF := hid hf; clear hf
    go_enter Tryd.func18, Tryd.ntmps18
    go_wp2
    go_ret
    exact ⟨ret_int HF.out, rfl⟩
set_option maxHeartbeats 400000 in
theorem rest_any (a n : Int) (w : World) (h0 : 0 < n) (h1 : n ≤ 9223372036854775807) :
    Calls Tryd.prog 52 #[.int .i64 a, .int .i64 n] w fun e w' => e = .returned (.int .i64 (a % n)) ∧ w = w' := by
  have b1 := Int.tmod_lt_of_pos a h0
  by_cases hc : a.tmod n < 0
  · have hf := tmod_neg a n h0 hc
    have b2 := Int.emod_nonneg a (Int.ne_of_gt h0)
    have b3 : 0 ≤ a.tmod n + n := by omega
    have HF := hid hf; clear hf b2
    go_enter Tryd.func52, Tryd.ntmps52
    go_wp2
    go_ret
    exact ⟨ret_int HF.out, rfl⟩
  · have hf := tmod_pos a n h0 hc
    have HF := hid hf; clear hf
    go_enter Tryd.func52, Tryd.ntmps52
    go_wp2
    go_ret
    exact ⟨ret_int HF.out, rfl⟩
set_option maxHeartbeats 400000 in
theorem rrest_any (a n : Int) (w : World) (h0 : 0 < n) (h1 : n ≤ 4611686018427387903) :
    Calls Tryd.prog 57 #[.int .i64 a, .int .i64 n] w fun e w' => e = .returned (.int .i64 (a % n)) ∧ w = w' := by
  have b1 := Int.tmod_lt_of_pos a h0
  have b2 := tmod_lo a n h0
  have hf := tmod_add_emod a n h0
  have HF := hid hf; clear hf
  go_enter Tryd.func57, Tryd.ntmps57
  go_wp2
  go_ret
  exact ⟨ret_int HF.out, rfl⟩
theorem and7i (t : Int) : bits .and .i64 t 7 = t % 8 := by
  have e0 : bits .and .i64 t 7 = IntKind.i64.wrap ((BitVec.ofInt 64 t &&& BitVec.ofInt 64 7).toNat : Int) := rfl
  have e : (BitVec.ofInt 64 t &&& BitVec.ofInt 64 7).toNat = (t % 8).toNat := by
    rw [BitVec.toNat_and, BitVec.toNat_ofInt, BitVec.toNat_ofInt]
    have : (7 % ((2 ^ 64 : Nat) : Int)).toNat = 7 := rfl
    rw [this, nat_mask3]
    omega
  rw [e0, e]
  simp [IntKind.wrap, IntKind.bits, IntKind.signed]
  omega
theorem bits_u8_range (op : BinOp) (a b : Int) : 0 ≤ bits op .u8 a b ∧ bits op .u8 a b < 256 := by
  unfold bits
  simp [IntKind.wrap, IntKind.bits, IntKind.signed]
  omega
theorem turn_k (t : Int) (n : Nat) (hn : 0 < n) : t % (8 * n) = 8 * (t / 8 % n) + t % 8 := by
  have h1 : t = 8 * n * (t / 8 / n) + (8 * (t / 8 % n) + t % 8) := by
    have a := Int.mul_ediv_add_emod (t / 8) n
    have b := Int.mul_ediv_add_emod t 8
    have c : 8 * (n : Int) * (t / 8 / n) = 8 * (n * (t / 8 / n)) := by rw [Int.mul_assoc]
    rw [c]; omega
  have h2 := Int.emod_nonneg (t / 8) (show (n : Int) ≠ 0 by omega)
  have h3 := Int.emod_lt_of_pos (t / 8) (show (0 : Int) < n by omega)
  have h4 : (8 * (t / 8 % n) + t % 8) < 8 * n := by omega
  conv => lhs; rw [h1]
  rw [Int.add_comm, Int.add_mul_emod_self_left, Int.emod_eq_of_lt (by omega) h4]
def turnF (bs : List UInt8) (n f s i : Nat) : UInt8 :=
  u8 (bits .or .u8 (byteAt bs ((f + i) % n) * 2 ^ s % 256) (byteAt bs ((f + i + 1) % n) / 2 ^ (8 - s)))
def turnL (bs : List UInt8) (n f s : Nat) : List UInt8 := (List.range n).map (turnF bs n f s)
theorem turnF_val (bs : List UInt8) (n f s i : Nat) : ((turnF bs n f s i).toNat : Int) = bits .or .u8 (byteAt bs ((f + i) % n) * 2 ^ s % 256) (byteAt bs ((f + i + 1) % n) / 2 ^ (8 - s)) := by
  unfold turnF
  rw [u8_toNat]
  have := bits_u8_range .or (byteAt bs ((f + i) % n) * 2 ^ s % 256) (byteAt bs ((f + i + 1) % n) / 2 ^ (8 - s))
  omega
theorem next_mod (a n : Nat) (_hn : 0 < n) : (a + 1) % n = if a % n + 1 = n then 0 else a % n + 1 := by
  rw [Nat.add_mod]
  rcases Nat.eq_or_lt_of_le (show 1 ≤ n by omega) with h1 | h1
  · subst h1; simp [Nat.mod_one]
  · have h2 : a % n < n := Nat.mod_lt _ (by omega)
    rw [Nat.mod_eq_of_lt h1]
    split
    · next h => rw [h]; exact Nat.mod_self n
    · exact Nat.mod_eq_of_lt (by omega)
/-- What Turn starts from. -/
def tf (t : Int) (n : Nat) : Nat := (t / 8 % n).toNat
def ts (t : Int) : Nat := (t % 8).toNat
set_option maxHeartbeats 1000000 in
theorem turn_any (A : Option Addr) (n c : Nat) (t : Int) (bs : List UInt8) (w : World) (h : Rd w w.heap.size A n bs) (hn : n ≤ 140737488355328) (h0 : 0 < n) :
    Calls Tryd.prog 37 #[.slice A n c, .int .i64 t] w (RetB w (turnL bs n (tf t n) (ts t))) := by
  have hz : ((n : Int) == 0) = false := by simp; omega
  have ht := and7i t
  obtain ⟨f, hf⟩ : ∃ f : Nat, t / 8 % n = f := ⟨(t / 8 % n).toNat, by have := Int.emod_nonneg (t / 8) (show (n : Int) ≠ 0 by omega); omega⟩
  obtain ⟨s, hs⟩ : ∃ s : Nat, t % 8 = s := ⟨(t % 8).toNat, by omega⟩
  have hs7 : s ≤ 7 := by omega
  have hfn : f < n := by have := Int.emod_lt_of_pos (t / 8) (show (0 : Int) < n by omega); omega
  have HT := hid (show tf t n = f ∧ ts t = s by unfold tf ts; omega)
  rw [hs] at ht
  have HF := hid hf
  clear hs hf
  go_enter Tryd.func37, Tryd.ntmps37
  go_wp2_with (first
    | (go_at_call 52; refine (rest_any _ _ _ (by omega) (by omega)).mono ?_; rintro e w' ⟨rfl, rfl⟩; rw [HF.out])
    | (at_make; refine wpL_make rfl (.tmp 21) (.tmp 21) 22 rfl Tryd.underlying22 Tryd.info5 .i64 n n rfl rfl rfl (by omega) w.heap.size (Nat.le_refl _) ?_; intro w1 hown1 hb1 _))
  go_loopw [5, 25] (fun x i wr => ∃ k fr : Nat, k ≤ n ∧ fr < n ∧ i = .int .i64 k ∧ x = .int .i64 fr ∧ fr = (f + k) % n ∧ Own wr w.heap.size (.slice (some ⟨w.heap.size, 0, none⟩) n n) (fillTo (turnF bs n f s) n k) ∧ Below w.heap.size w wr) (fun _ i _ => n - (intOf i).toNat)
  case atStart => exact ⟨0, f, Nat.zero_le _, hfn, rfl, rfl, by rw [Nat.add_zero, Nat.mod_eq_of_lt hfn], by rw [fillTo_zero]; exact hown1, hb1⟩
  case round =>
    obtain ⟨k, fr, hk, hfr, rfl, rfl, hfk, hown, hb⟩ := hrel
    have HK := hid hfk
    clear hfk
    by_cases hlt : k < n
    · obtain ⟨b1, o1, rfl, hb1', hc1⟩ := (h.below hb (Nat.le_refl _)).at_ (by omega)
      have hck1 := hc1 fr hfr
      obtain ⟨nx, hnx⟩ : ∃ nx, nx = if fr + 1 = n then 0 else fr + 1 := ⟨_, rfl⟩
      have hnk : nx = (f + k + 1) % n := by rw [next_mod _ _ h0, ← HK.out]; exact hnx
      have hnl : nx < n := by rw [hnk]; exact Nat.mod_lt _ h0
      have hck2 := hc1 nx hnl
      have r1 := byteAt_lo bs fr; have r2 := byteAt_hi bs fr; have r3 := byteAt_lo bs nx; have r4 := byteAt_hi bs nx
      obtain ⟨cur, hcur⟩ : ∃ cur, fillTo (turnF bs n f s) n k = cur := ⟨_, rfl⟩
      have hcl : cur.length = n := by rw [← hcur]; exact fillTo_length _ _ _
      rw [hcur] at hown
      have hown0 : Own wr w.heap.size (.slice (some ⟨w.heap.size, 0, none⟩) cur.length n) cur := by rw [hcl]; exact hown
      have hcell := hown0.cell k (by omega)
      have hfree := hown0.free k
      have hset := hown0.set_ k (turnF bs n f s k)
      rw [← hcur, fillTo_set _ _ _ _ rfl, fillTo_length] at hset
      rw [turnF_val, ← HK.out, ← hnk] at hset
      have HH := hid hset
      have HB := hid hb
      have HN := hid hnk
      clear hset hown0 hown hb hcl hcur hown1 hb1 h hc1 hnk
      by_cases hw : fr + 1 = n
      · rw [if_pos hw] at hnx
        have g1 : n ≤ fr + 1 := by omega
        have g2 : ((fr : Int) + 1 == (n : Int)) = true := by simp; omega
        subst hnx
        rw [Nat.add_zero] at hck2
        clear hw
        go_wp2
        go_region
        go_wp2
        go_roundw
        case rel => exact ⟨k + 1, 0, by omega, by omega, by go_num, rfl, HN.out, HH.out, (HB.out.setCell (by simp) _).drew⟩
        case measure => simp [intOf]; omega
      · rw [if_neg hw] at hnx
        have g2 : ((fr : Int) + 1 == (n : Int)) = false := by simp; omega
        have g3 : fr + 1 < n := by omega
        subst hnx
        clear hw
        go_wp2
        go_region
        go_wp2
        go_roundw
        case rel => exact ⟨k + 1, fr + 1, by omega, by omega, by go_num, by go_num, HN.out, HH.out, (HB.out.setCell (by simp) _).drew⟩
        case measure => simp [intOf]; omega
    · obtain rfl : k = n := by omega
      have HH := hid (And.intro hown hb)
      clear hown hb hown1 hb1
      go_wp2
      go_ret
      exact ⟨_, rfl, by have := HH.out.1; rw [fillTo_full] at this; rw [HT.out.1, HT.out.2]; exact this, HH.out.2⟩
set_option maxHeartbeats 400000 in
theorem turn_nil (A : Option Addr) (c : Nat) (t : Int) (w : World) :
    Calls Tryd.prog 37 #[.slice A 0 c, .int .i64 t] w fun e w' => e = .returned (.slice none 0 0) ∧ w = w' := by
  go_enter Tryd.func37, Tryd.ntmps37
  go_wp2
  go_ret
  exact ⟨rfl, rfl⟩
set_option maxHeartbeats 400000 in
theorem rturn_nil (A : Option Addr) (c : Nat) (t : Int) (w : World) :
    Calls Tryd.prog 42 #[.slice A 0 c, .int .i64 t] w (RetB w []) := by
  go_enter Tryd.func42, Tryd.ntmps42
  go_wp2_with (at_make; refine wpL_make rfl (.tmp 11) (.tmp 11) 22 rfl Tryd.underlying22 Tryd.info5 .i64 0 0 rfl rfl rfl (by omega) w.heap.size (Nat.le_refl _) ?_; intro w1 hown1 hb1 _)
  go_ret
  exact ⟨_, rfl, hown1, hb1⟩
theorem own_set_drewN {w : World} {base : Nat} {v u : Value} {p : Addr} {bs : List UInt8} (h : Own (w.setCell p u) base v bs) (n : Nat) : Own ((w.drewN n).setCell p u) base v bs := h
theorem below_drewN' {B : Nat} {a w : World} (h : Below B a w) (n : Nat) : Below B a (w.drewN n) := ⟨h.os, h.tape, h.output, h.size, h.block⟩
set_option maxHeartbeats 1000000 in
theorem rturn_any (A : Option Addr) (n c : Nat) (t : Int) (bs : List UInt8) (w : World) (h : Rd w w.heap.size A n bs) (hn : n ≤ 140737488355328) (h0 : 0 < n) :
    Calls Tryd.prog 42 #[.slice A n c, .int .i64 t] w (RetB w (turnL bs n (tf t n) (ts t))) := by
  have hz : ((n : Int) == 0) = false := by simp; omega
  obtain ⟨f, hf⟩ : ∃ f : Nat, t / 8 % n = f := ⟨(t / 8 % n).toNat, by have := Int.emod_nonneg (t / 8) (show (n : Int) ≠ 0 by omega); omega⟩
  obtain ⟨s, hs⟩ : ∃ s : Nat, t % 8 = s := ⟨(t % 8).toNat, by omega⟩
  have hs7 : s ≤ 7 := by omega
  have hfn : f < n := by have := Int.emod_lt_of_pos (t / 8) (show (0 : Int) < n by omega); omega
  have HT := hid (show tf t n = f ∧ ts t = s by unfold tf ts; omega)
  have hK : t % (8 * (n : Int)) = ((8 * f + s : Nat) : Int) := by rw [turn_k t n h0, hf, hs]; omega
  have HF := hid hK
  obtain ⟨K, hKK⟩ : ∃ K, K = 8 * f + s := ⟨_, rfl⟩
  rw [← hKK] at HF
  have HD := hid (show (K : Int) / 8 = f ∧ (K : Int) % 8 = s by omega)
  have hKb : K < 8 * n := by omega
  clear hs hf hK hKK
  go_enter Tryd.func42, Tryd.ntmps42
  go_wp2_with (first
    | (go_at_call 57; refine (rrest_any _ _ _ (by omega) (by omega)).mono ?_; rintro e w' ⟨rfl, rfl⟩; rw [HF.out])
    | (at_make; refine wpL_make rfl (.tmp 11) (.tmp 11) 22 rfl Tryd.underlying22 Tryd.info5 .i64 n n rfl rfl rfl (by omega) w.heap.size (Nat.le_refl _) ?_; intro w1 hown1 hb1 _))
  go_loopw [7] (fun i wr => ∃ k : Nat, k ≤ n ∧ i = .int .i64 k ∧ Own wr w.heap.size (.slice (some ⟨w.heap.size, 0, none⟩) n n) (fillTo (turnF bs n f s) n k) ∧ Below w.heap.size w wr) (fun i _ => n - (intOf i).toNat)
  case atStart => exact ⟨0, Nat.zero_le _, rfl, by rw [fillTo_zero]; exact hown1, hb1⟩
  case round =>
    obtain ⟨k, hk, rfl, hown, hb⟩ := hrel
    by_cases hlt : k < n
    · obtain ⟨b1, o1, rfl, hb1', hc1⟩ := (h.below hb (Nat.le_refl _)).at_ (by omega)
      have hl1 : (f + k) % n < n := Nat.mod_lt _ h0
      have hl2 : (f + k + 1) % n < n := Nat.mod_lt _ h0
      have hck1 := hc1 _ hl1
      have hck2 := hc1 _ hl2
      have r1 := byteAt_lo bs ((f + k) % n); have r2 := byteAt_hi bs ((f + k) % n); have r3 := byteAt_lo bs ((f + k + 1) % n); have r4 := byteAt_hi bs ((f + k + 1) % n)
      obtain ⟨cur, hcur⟩ : ∃ cur, fillTo (turnF bs n f s) n k = cur := ⟨_, rfl⟩
      have hcl : cur.length = n := by rw [← hcur]; exact fillTo_length _ _ _
      rw [hcur] at hown
      have hown0 : Own wr w.heap.size (.slice (some ⟨w.heap.size, 0, none⟩) cur.length n) cur := by rw [hcl]; exact hown
      have hcell := hown0.cell k (by omega)
      have hfree := hown0.free k
      have hset := hown0.set_ k (turnF bs n f s k)
      rw [← hcur, fillTo_set _ _ _ _ rfl, fillTo_length] at hset
      rw [turnF_val, Nat.add_comm f k] at hset
      have HH := hid hset
      have HB := hid hb
      clear hset hown0 hown hb hcl hcur hown1 hb1 h hc1
      have hD1 := HD.out.1
      have hD2 := HD.out.2
      rw [Nat.add_comm f k] at hck1 hck2
      have q1 : (0 : Int) ≤ ((k : Int) + f) % n := Int.emod_nonneg _ (by omega)
      have q2 : ((k : Int) + f) % n < n := Int.emod_lt_of_pos _ (by omega)
      have q3 : (0 : Int) ≤ ((k : Int) + f + 1) % n := Int.emod_nonneg _ (by omega)
      have q4 : ((k : Int) + f + 1) % n < n := Int.emod_lt_of_pos _ (by omega)
      go_wp2
      go_quiet (fail)
      go_wp2
      go_roundw
      case rel => exact ⟨k + 1, by omega, by go_num, own_set_drewN HH.out nq, (below_drewN' HB.out nq).setCell (by simp) _⟩
      case measure => simp [intOf]; omega
    · obtain rfl : k = n := by omega
      have HH := hid (And.intro hown hb)
      clear hown hb hown1 hb1
      go_wp2
      go_ret
      exact ⟨_, rfl, by have := HH.out.1; rw [fillTo_full] at this; rw [HT.out.1, HT.out.2]; exact this, HH.out.2⟩
theorem turn_all (A : Option Addr) (n c : Nat) (t : Int) (bs : List UInt8) (w : World) (h : Rd w w.heap.size A n bs) (hn : n ≤ 140737488355328) :
    Calls Tryd.prog 37 #[.slice A n c, .int .i64 t] w (RetB w (turnL bs n (tf t n) (ts t))) := by
  rcases Nat.eq_zero_or_pos n with rfl | hp
  · refine (turn_nil A c t w).mono ?_
    rintro e w' ⟨rfl, rfl⟩
    exact ⟨_, rfl, World.ownsRow_nil _ _ _ _, Below.refl _ _⟩
  · exact turn_any A n c t bs w h hn hp
theorem rturn_all (A : Option Addr) (n c : Nat) (t : Int) (bs : List UInt8) (w : World) (h : Rd w w.heap.size A n bs) (hn : n ≤ 140737488355328) :
    Calls Tryd.prog 42 #[.slice A n c, .int .i64 t] w (RetB w (turnL bs n (tf t n) (ts t))) := by
  rcases Nat.eq_zero_or_pos n with rfl | hp
  · exact rturn_nil A c t w
  · exact rturn_any A n c t bs w h hn hp
theorem eq_of_bits (w a b : Nat) (ha : a < 2 ^ w) (hb : b < 2 ^ w) (h : ∀ k, k < w → a.testBit k = b.testBit k) : a = b := by
  apply Nat.eq_of_testBit_eq
  intro k
  rcases Nat.lt_or_ge k w with hk | hk
  · exact h k hk
  · rw [Nat.testBit_lt_two_pow (Nat.lt_of_lt_of_le ha (Nat.pow_le_pow_right (by omega) hk)), Nat.testBit_lt_two_pow (Nat.lt_of_lt_of_le hb (Nat.pow_le_pow_right (by omega) hk))]
theorem cast_mul (x s m : Nat) : ((x * 2 ^ s % m : Nat) : Int) = (x : Int) * 2 ^ s % (m : Int) := by
  rw [Int.natCast_emod, Int.natCast_mul, Int.natCast_pow]; rfl
theorem cast_div (x s : Nat) : ((x / 2 ^ s : Nat) : Int) = (x : Int) / 2 ^ s := by
  rw [Int.natCast_ediv, Int.natCast_pow]; rfl
/-- Bit number p of a row of bytes: the highest one of the first byte is the first. -/
def bitOf (bs : List UInt8) (p : Nat) : Bool := (bs.getD (p / 8) 0).toNat.testBit (7 - p % 8)
theorem bytes_ext (xs ys : List UInt8) (n : Nat) (hx : xs.length = n) (hy : ys.length = n) (h : ∀ p, p < 8 * n → bitOf xs p = bitOf ys p) : xs = ys := by
  apply List.ext_getElem (by omega)
  intro i h1 h2
  apply UInt8.toNat_inj.1
  refine eq_of_bits 8 _ _ (UInt8.toNat_lt _) (UInt8.toNat_lt _) fun k hk => ?_
  have hp := h (8 * i + (7 - k)) (by omega)
  unfold bitOf at hp
  rw [show (8 * i + (7 - k)) / 8 = i by omega, show 7 - (8 * i + (7 - k)) % 8 = k by omega] at hp
  simpa [List.getD, h1, h2] using hp
theorem turnF_nat (bs : List UInt8) (n f s i : Nat) (_hs : s < 8) :
    (turnF bs n f s i).toNat = (bs.getD ((f + i) % n) 0).toNat * 2 ^ s % 256 ||| (bs.getD ((f + i + 1) % n) 0).toNat / 2 ^ (8 - s) := by
  have hv := turnF_val bs n f s i
  have b1 := (bs.getD ((f + i) % n) 0).toNat_lt
  have b2 := (bs.getD ((f + i + 1) % n) 0).toNat_lt
  obtain ⟨x, hx⟩ : ∃ x, (bs.getD ((f + i) % n) 0).toNat = x := ⟨_, rfl⟩
  obtain ⟨y, hy⟩ : ∃ y, (bs.getD ((f + i + 1) % n) 0).toNat = y := ⟨_, rfl⟩
  unfold byteAt at hv
  rw [hx] at hv b1 ⊢
  rw [hy] at hv b2 ⊢
  have h1 : x * 2 ^ s % 256 < 256 := Nat.mod_lt _ (by omega)
  have h2 : y / 2 ^ (8 - s) < 256 := Nat.lt_of_le_of_lt (Nat.div_le_self _ _) b2
  have e := u8_or_nat _ _ h1 h2
  have e1 : ((x * 2 ^ s % 256 : Nat) : Int) = (x : Int) * 2 ^ s % 256 := cast_mul x s 256
  have e2 : ((y / 2 ^ (8 - s) : Nat) : Int) = (y : Int) / 2 ^ (8 - s) := cast_div y (8 - s)
  rw [e1, e2] at e
  rw [e] at hv
  exact Int.ofNat.inj hv
theorem turn_bit (bs : List UInt8) (n f s p : Nat) (hs : s < 8) (hp : p < 8 * n) : bitOf (turnL bs n f s) p = bitOf bs ((p + (8 * f + s)) % (8 * n)) := by
  have hi : p / 8 < n := by omega
  have hg : (turnL bs n f s).getD (p / 8) 0 = turnF bs n f s (p / 8) := by simp [turnL, List.getD, hi]
  unfold bitOf
  rw [hg, turnF_nat bs n f s _ hs, Nat.testBit_or, show (256 : Nat) = 2 ^ 8 from rfl, Nat.testBit_mod_two_pow, Nat.testBit_mul_two_pow, Nat.testBit_div_two_pow]
  rw [Nat.mod_mul_right_div_self, Nat.mod_mul_right_mod]
  have hq : p % 8 < 8 := Nat.mod_lt _ (by omega)
  by_cases h : s ≤ 7 - p % 8
  · have e1 : (p + (8 * f + s)) / 8 = f + p / 8 := by omega
    have e2 : (p + (8 * f + s)) % 8 = p % 8 + s := by omega
    have hz : (bs.getD ((f + p / 8 + 1) % n) 0).toNat.testBit (7 - p % 8 + (8 - s)) = false :=
      Nat.testBit_lt_two_pow (Nat.lt_of_lt_of_le (UInt8.toNat_lt _) (Nat.pow_le_pow_right (by omega) (by omega : 8 ≤ 7 - p % 8 + (8 - s))))
    rw [e1, e2, hz]
    have e3 : 7 - p % 8 < 8 := by omega
    have e4 : 7 - p % 8 - s = 7 - (p % 8 + s) := by omega
    simp [e3, h, e4]
  · have e1 : (p + (8 * f + s)) / 8 = f + p / 8 + 1 := by omega
    have e2 : (p + (8 * f + s)) % 8 = p % 8 + s - 8 := by omega
    rw [e1, e2]
    have e4 : 7 - p % 8 + (8 - s) = 7 - (p % 8 + s - 8) := by omega
    simp [h, e4]
theorem turnL_length (bs : List UInt8) (n f s : Nat) : (turnL bs n f s).length = n := by simp [turnL]
end Go.Proofs.YtpfkcplldhdipaaDoor
