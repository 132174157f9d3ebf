/- Walks over Xor and Turn of chapter 1: what each call returns; own lemmas of the verifier, no statement is proved here. -/
import Derived.Test.YtllkbfhkpnncgaaW2
import Derived.Deep.QuietTactic
import Derived.BigQuiet
namespace Go.Proofs.Ytllkbfhkpnncgaa
open Go.RowKit
def xorF (xs ys : List UInt8) (i : Nat) : UInt8 := xs.getD i 0 ^^^ ys.getD i 0
def xorL (xs ys : List UInt8) (n : Nat) : List UInt8 := (List.range n).map (xorF xs ys)
theorem xorF_val (xs ys : List UInt8) (k : Nat) : ((xorF xs ys k).toNat : Int) = bits .xor .u8 (byteAt xs k) (byteAt ys k) := by
  unfold xorF byteAt
  rw [UInt8.toNat_xor, u8_xor_nat _ _ (UInt8.toNat_lt _) (UInt8.toNat_lt _)]
theorem Own.drew {w : World} {base : Nat} {v : Value} {bs : List UInt8} (h : Own w base v bs) : Own w.drew base v bs := h
theorem Rd.drew {w : World} {B n : Nat} {A : Option Addr} {bs : List UInt8} (h : Rd w B A n bs) : Rd w.drew B A n bs := ⟨h.len, h.at_⟩
set_option maxHeartbeats 400000 in
theorem xor_eq (A A' : Option Addr) (n c c' : Nat) (xs ys : List UInt8) (w : World) (h : Rd w w.heap.size A n xs) (h' : Rd w w.heap.size A' n ys) (hn : n ≤ 140737488355328) :
    Calls Try.prog 34 #[.slice A n c, .slice A' n c'] w fun e w' => ∃ v, e = .returned (.tuple #[v, .bool true]) ∧ Own w' w.heap.size v (xorL xs ys n) ∧ Below w.heap.size w w' := by
  go_enter Try.func34, Try.ntmps34
  go_wp2_with (at_make; refine wpL_make rfl (.tmp 15) (.tmp 15) 22 rfl Try.underlying22 Try.info5 .i64 n n rfl rfl rfl (by omega) w.heap.size (Nat.le_refl _) ?_; intro w1 hown1 hb1 _)
  go_loopw [19] (fun i wr => ∃ k : Nat, k ≤ n ∧ i = .int .i64 k ∧ Own wr w.heap.size (.slice (some ⟨w.heap.size, 0, none⟩) n n) (fillTo (xorF xs ys) n k) ∧ Below w.heap.size w wr) (fun i _ => n - (intOf i).toNat)
  case atStart => exact ⟨0, Nat.zero_le _, rfl, by rw [fillTo_zero]; exact hown1, hb1⟩
  case round =>
    obtain ⟨k, hk, rfl, hown, hb⟩ := hrel
    by_cases hlt : k < n
    · obtain ⟨b1, o1, rfl, hb1', hc1⟩ := (h.below hb (Nat.le_refl _)).at_ (by omega)
      obtain ⟨b2, o2, rfl, hb2', hc2⟩ := (h'.below hb (Nat.le_refl _)).at_ (by omega)
      have hck1 := hc1 k hlt
      have hck2 := hc2 k hlt
      have r1 := byteAt_lo xs k; have r2 := byteAt_hi xs k; have r3 := byteAt_lo ys k; have r4 := byteAt_hi ys k
      obtain ⟨cur, hcur⟩ : ∃ cur, fillTo (xorF xs ys) n k = cur := ⟨_, rfl⟩
      have hcl : cur.length = n := by rw [← hcur]; exact fillTo_length _ _ _
      rw [hcur] at hown
      have hown0 : Own wr w.heap.size (.slice (some ⟨w.heap.size, 0, none⟩) cur.length n) cur := by rw [hcl]; exact hown
      have hcell := hown0.cell k (by omega)
      have hfree := hown0.free k
      have hset := hown0.set_ k (xorF xs ys k)
      rw [← hcur, fillTo_set _ _ _ _ rfl, fillTo_length] at hset
      rw [xorF_val] at hset
      have HH := hid hset
      have HB := hid hb
      clear hset hown0 hown hb hcl hcur hown1 hb1 h h' hc1 hc2
      go_wp2
      go_roundw
      case rel => exact ⟨k + 1, by omega, by go_num, HH.out, HB.out.setCell (by simp) _⟩
      case measure => simp [intOf]; omega
    · obtain rfl : k = n := by omega
      have HH := hid (And.intro hown hb)
      clear hown hb hown1 hb1
      go_wp2
      go_ret2
      exact ⟨_, rfl, by have := HH.out.1; rw [fillTo_full] at this; exact this, HH.out.2⟩
set_option maxHeartbeats 400000 in
theorem both_any (A A' : Option Addr) (n c c' : Nat) (xs ys : List UInt8) (w : World) (h : Rd w w.heap.size A n xs) (h' : Rd w w.heap.size A' n ys) (hn : n ≤ 140737488355328) :
    Calls Try.prog 47 #[.slice A n c, .slice A' n c'] w (RetB w (xorL xs ys n)) := by
  go_enter Try.func47, Try.ntmps47
  go_wp2_with (at_make; refine wpL_make rfl (.tmp 8) (.tmp 8) 22 rfl Try.underlying22 Try.info5 .i64 n n rfl rfl rfl (by omega) w.heap.size (Nat.le_refl _) ?_; intro w1 hown1 hb1 _)
  go_loopw [6] (fun i wr => ∃ k : Nat, k ≤ n ∧ i = .int .i64 k ∧ Own wr w.heap.size (.slice (some ⟨w.heap.size, 0, none⟩) n n) (fillTo (xorF xs ys) n k) ∧ Below w.heap.size w wr) (fun i _ => n - (intOf i).toNat)
  case atStart => exact ⟨0, Nat.zero_le _, rfl, by rw [fillTo_zero]; exact hown1, hb1⟩
  case round =>
    obtain ⟨k, hk, rfl, hown, hb⟩ := hrel
    by_cases hlt : k < n
    · obtain ⟨b1, o1, rfl, hb1', hc1⟩ := (h.below hb (Nat.le_refl _)).at_ (by omega)
      obtain ⟨b2, o2, rfl, hb2', hc2⟩ := (h'.below hb (Nat.le_refl _)).at_ (by omega)
      have hck1 := hc1 k hlt
      have hck2 := hc2 k hlt
      have r1 := byteAt_lo xs k; have r2 := byteAt_hi xs k; have r3 := byteAt_lo ys k; have r4 := byteAt_hi ys k
      obtain ⟨cur, hcur⟩ : ∃ cur, fillTo (xorF xs ys) n k = cur := ⟨_, rfl⟩
      have hcl : cur.length = n := by rw [← hcur]; exact fillTo_length _ _ _
      rw [hcur] at hown
      have hown0 : Own wr w.heap.size (.slice (some ⟨w.heap.size, 0, none⟩) cur.length n) cur := by rw [hcl]; exact hown
      have hcell := hown0.cell k (by omega)
      have hfree := hown0.free k
      have hset := hown0.set_ k (xorF xs ys k)
      rw [← hcur, fillTo_set _ _ _ _ rfl, fillTo_length] at hset
      rw [xorF_val] at hset
      have HH := hid hset
      have HB := hid hb
      clear hset hown0 hown hb hcl hcur hown1 hb1 h h' hc1 hc2
      go_wp2
      go_region
      go_wp2
      go_roundw
      case rel => exact ⟨k + 1, by omega, by go_num, HH.out, (HB.out.setCell (by simp) _).drew⟩
      case measure => simp [intOf]; omega
    · obtain rfl : k = n := by omega
      have HH := hid (And.intro hown hb)
      clear hown hb hown1 hb1
      go_wp2
      go_ret
      exact ⟨_, rfl, by have := HH.out.1; rw [fillTo_full] at this; exact this, HH.out.2⟩

set_option maxHeartbeats 400000 in
theorem xor_ne (A A' : Option Addr) (n n' c c' : Nat) (w : World) (hne : n ≠ n') :
    Calls Try.prog 34 #[.slice A n c, .slice A' n' c'] w fun e w' => e = .returned (.tuple #[.slice none 0 0, .bool false]) ∧ w = w' := by
  have h5 : ((n : Int) != n') = true := by simp; omega
  go_enter Try.func34, Try.ntmps34
  go_wp2
  go_ret2
  exact ⟨rfl, rfl⟩
set_option maxHeartbeats 400000 in
theorem rxor_ne (A A' : Option Addr) (n n' c c' : Nat) (w : World) (hne : n ≠ n') :
    Calls Try.prog 35 #[.slice A n c, .slice A' n' c'] w fun e w' => e = .returned (.tuple #[.slice none 0 0, .bool false]) ∧ w = w' := by
  have h5 : ((n : Int) != n') = true := by simp; omega
  go_enter Try.func35, Try.ntmps35
  go_wp2
  go_ret2
  exact ⟨rfl, rfl⟩
set_option maxHeartbeats 400000 in
theorem rxor_eq (A A' : Option Addr) (n c c' : Nat) (xs ys : List UInt8) (w : World) (h : Rd w w.heap.size A n xs) (h' : Rd w w.heap.size A' n ys) (hn : n ≤ 140737488355328) :
    Calls Try.prog 35 #[.slice A n c, .slice A' n c'] w fun e w' => ∃ v, e = .returned (.tuple #[v, .bool true]) ∧ Own w' w.heap.size v (xorL xs ys n) ∧ Below w.heap.size w w' := by
  go_enter Try.func35, Try.ntmps35
  go_wp2_with (go_at_call 47; refine (both_any _ _ _ _ _ _ _ _ h h' hn).mono ?_; rintro e w' ⟨v, rfl, hv, hb⟩)
  go_ret2
  exact ⟨_, rfl, hv, hb⟩
theorem and7i (t : Int) : bits .and .i64 t 7 = t % 8 := by
  have e0 : bits .and .i64 t 7 = IntKind.i64.wrap ((BitVec.ofInt 64 t &&& BitVec.ofInt 64 7).toNat : Int) := rfl
  have e : (BitVec.ofInt 64 t &&& BitVec.ofInt 64 7).toNat = (t % 8).toNat := by
    rw [BitVec.toNat_and, BitVec.toNat_ofInt, BitVec.toNat_ofInt]
    have : (7 % ((2 ^ 64 : Nat) : Int)).toNat = 7 := rfl
    rw [this, nat_mask3]
    omega
  rw [e0, e]
  simp [IntKind.wrap, IntKind.bits, IntKind.signed]
  omega
theorem bits_u8_range (op : BinOp) (a b : Int) : 0 ≤ bits op .u8 a b ∧ bits op .u8 a b < 256 := by
  unfold bits
  simp [IntKind.wrap, IntKind.bits, IntKind.signed]
  omega
theorem turn_k (t : Int) (n : Nat) (hn : 0 < n) : t % (8 * n) = 8 * (t / 8 % n) + t % 8 := by
  have h1 : t = 8 * n * (t / 8 / n) + (8 * (t / 8 % n) + t % 8) := by
    have a := Int.mul_ediv_add_emod (t / 8) n
    have b := Int.mul_ediv_add_emod t 8
    have c : 8 * (n : Int) * (t / 8 / n) = 8 * (n * (t / 8 / n)) := by rw [Int.mul_assoc]
    rw [c]; omega
  have h2 := Int.emod_nonneg (t / 8) (show (n : Int) ≠ 0 by omega)
  have h3 := Int.emod_lt_of_pos (t / 8) (show (0 : Int) < n by omega)
  have h4 : (8 * (t / 8 % n) + t % 8) < 8 * n := by omega
  conv => lhs; rw [h1]
  rw [Int.add_comm, Int.add_mul_emod_self_left, Int.emod_eq_of_lt (by omega) h4]
def turnF (bs : List UInt8) (n f s i : Nat) : UInt8 :=
  u8 (bits .or .u8 (byteAt bs ((f + i) % n) * 2 ^ s % 256) (byteAt bs ((f + i + 1) % n) / 2 ^ (8 - s)))
def turnL (bs : List UInt8) (n f s : Nat) : List UInt8 := (List.range n).map (turnF bs n f s)
theorem turnF_val (bs : List UInt8) (n f s i : Nat) : ((turnF bs n f s i).toNat : Int) = bits .or .u8 (byteAt bs ((f + i) % n) * 2 ^ s % 256) (byteAt bs ((f + i + 1) % n) / 2 ^ (8 - s)) := by
  unfold turnF
  rw [u8_toNat]
  have := bits_u8_range .or (byteAt bs ((f + i) % n) * 2 ^ s % 256) (byteAt bs ((f + i + 1) % n) / 2 ^ (8 - s))
  omega
theorem next_mod (a n : Nat) (_hn : 0 < n) : (a + 1) % n = if a % n + 1 = n then 0 else a % n + 1 := by
  rw [Nat.add_mod]
  rcases Nat.eq_or_lt_of_le (show 1 ≤ n by omega) with h1 | h1
  · subst h1; simp [Nat.mod_one]
  · have h2 : a % n < n := Nat.mod_lt _ (by omega)
    rw [Nat.mod_eq_of_lt h1]
    split
    · next h => rw [h]; exact Nat.mod_self n
    · exact Nat.mod_eq_of_lt (by omega)
/-- What Turn starts from. -/
def tf (t : Int) (n : Nat) : Nat := (t / 8 % n).toNat
def ts (t : Int) : Nat := (t % 8).toNat
set_option maxHeartbeats 1000000 in
theorem turn_any (A : Option Addr) (n c : Nat) (t : Int) (bs : List UInt8) (w : World) (h : Rd w w.heap.size A n bs) (hn : n ≤ 140737488355328) (h0 : 0 < n) :
    Calls Try.prog 32 #[.slice A n c, .int .i64 t] w (RetB w (turnL bs n (tf t n) (ts t))) := by
  have hz : ((n : Int) == 0) = false := by simp; omega
  have ht := and7i t
  obtain ⟨f, hf⟩ : ∃ f : Nat, t / 8 % n = f := ⟨(t / 8 % n).toNat, by have := Int.emod_nonneg (t / 8) (show (n : Int) ≠ 0 by omega); omega⟩
  obtain ⟨s, hs⟩ : ∃ s : Nat, t % 8 = s := ⟨(t % 8).toNat, by omega⟩
  have hs7 : s ≤ 7 := by omega
  have hfn : f < n := by have := Int.emod_lt_of_pos (t / 8) (show (0 : Int) < n by omega); omega
  have HT := hid (show tf t n = f ∧ ts t = s by unfold tf ts; omega)
  rw [hs] at ht
  have HF := hid hf
  clear hs hf
  go_enter Try.func32, Try.ntmps32
  go_wp2_with (first
    | (go_at_call 46; refine (rest_any _ _ _ (by omega) (by omega)).mono ?_; rintro e w' ⟨rfl, rfl⟩; rw [HF.out])
    | (at_make; refine wpL_make rfl (.tmp 21) (.tmp 21) 22 rfl Try.underlying22 Try.info5 .i64 n n rfl rfl rfl (by omega) w.heap.size (Nat.le_refl _) ?_; intro w1 hown1 hb1 _))
  go_loopw [5, 25] (fun x i wr => ∃ k fr : Nat, k ≤ n ∧ fr < n ∧ i = .int .i64 k ∧ x = .int .i64 fr ∧ fr = (f + k) % n ∧ Own wr w.heap.size (.slice (some ⟨w.heap.size, 0, none⟩) n n) (fillTo (turnF bs n f s) n k) ∧ Below w.heap.size w wr) (fun _ i _ => n - (intOf i).toNat)
  case atStart => exact ⟨0, f, Nat.zero_le _, hfn, rfl, rfl, by rw [Nat.add_zero, Nat.mod_eq_of_lt hfn], by rw [fillTo_zero]; exact hown1, hb1⟩
  case round =>
    obtain ⟨k, fr, hk, hfr, rfl, rfl, hfk, hown, hb⟩ := hrel
    have HK := hid hfk
    clear hfk
    by_cases hlt : k < n
    · obtain ⟨b1, o1, rfl, hb1', hc1⟩ := (h.below hb (Nat.le_refl _)).at_ (by omega)
      have hck1 := hc1 fr hfr
      obtain ⟨nx, hnx⟩ : ∃ nx, nx = if fr + 1 = n then 0 else fr + 1 := ⟨_, rfl⟩
      have hnk : nx = (f + k + 1) % n := by rw [next_mod _ _ h0, ← HK.out]; exact hnx
      have hnl : nx < n := by rw [hnk]; exact Nat.mod_lt _ h0
      have hck2 := hc1 nx hnl
      have r1 := byteAt_lo bs fr; have r2 := byteAt_hi bs fr; have r3 := byteAt_lo bs nx; have r4 := byteAt_hi bs nx
      obtain ⟨cur, hcur⟩ : ∃ cur, fillTo (turnF bs n f s) n k = cur := ⟨_, rfl⟩
      have hcl : cur.length = n := by rw [← hcur]; exact fillTo_length _ _ _
      rw [hcur] at hown
      have hown0 : Own wr w.heap.size (.slice (some ⟨w.heap.size, 0, none⟩) cur.length n) cur := by rw [hcl]; exact hown
      have hcell := hown0.cell k (by omega)
      have hfree := hown0.free k
      have hset := hown0.set_ k (turnF bs n f s k)
      rw [← hcur, fillTo_set _ _ _ _ rfl, fillTo_length] at hset
      rw [turnF_val, ← HK.out, ← hnk] at hset
      have HH := hid hset
      have HB := hid hb
      have HN := hid hnk
      clear hset hown0 hown hb hcl hcur hown1 hb1 h hc1 hnk
      by_cases hw : fr + 1 = n
      · rw [if_pos hw] at hnx
        have g1 : n ≤ fr + 1 := by omega
        have g2 : ((fr : Int) + 1 == (n : Int)) = true := by simp; omega
        subst hnx
        rw [Nat.add_zero] at hck2
        clear hw
        go_wp2
        go_region
        go_wp2
        go_roundw
        case rel => exact ⟨k + 1, 0, by omega, by omega, by go_num, rfl, HN.out, HH.out, (HB.out.setCell (by simp) _).drew⟩
        case measure => simp [intOf]; omega
      · rw [if_neg hw] at hnx
        have g2 : ((fr : Int) + 1 == (n : Int)) = false := by simp; omega
        have g3 : fr + 1 < n := by omega
        subst hnx
        clear hw
        go_wp2
        go_region
        go_wp2
        go_roundw
        case rel => exact ⟨k + 1, fr + 1, by omega, by omega, by go_num, by go_num, HN.out, HH.out, (HB.out.setCell (by simp) _).drew⟩
        case measure => simp [intOf]; omega
    · obtain rfl : k = n := by omega
      have HH := hid (And.intro hown hb)
      clear hown hb hown1 hb1
      go_wp2
      go_ret
      exact ⟨_, rfl, by have := HH.out.1; rw [fillTo_full] at this; rw [HT.out.1, HT.out.2]; exact this, HH.out.2⟩
set_option maxHeartbeats 400000 in
theorem turn_nil (A : Option Addr) (c : Nat) (t : Int) (w : World) :
    Calls Try.prog 32 #[.slice A 0 c, .int .i64 t] w fun e w' => e = .returned (.slice none 0 0) ∧ w = w' := by
  go_enter Try.func32, Try.ntmps32
  go_wp2
  go_ret
  exact ⟨rfl, rfl⟩
set_option maxHeartbeats 400000 in
theorem rturn_nil (A : Option Addr) (c : Nat) (t : Int) (w : World) :
    Calls Try.prog 33 #[.slice A 0 c, .int .i64 t] w (RetB w []) := by
  go_enter Try.func33, Try.ntmps33
  go_wp2_with (at_make; refine wpL_make rfl (.tmp 11) (.tmp 11) 22 rfl Try.underlying22 Try.info5 .i64 0 0 rfl rfl rfl (by omega) w.heap.size (Nat.le_refl _) ?_; intro w1 hown1 hb1 _)
  go_ret
  exact ⟨_, rfl, hown1, hb1⟩
theorem own_set_drewN {w : World} {base : Nat} {v u : Value} {p : Addr} {bs : List UInt8} (h : Own (w.setCell p u) base v bs) (n : Nat) : Own ((w.drewN n).setCell p u) base v bs := h
theorem below_drewN' {B : Nat} {a w : World} (h : Below B a w) (n : Nat) : Below B a (w.drewN n) := ⟨h.os, h.tape, h.output, h.size, h.block⟩
set_option maxHeartbeats 1000000 in
theorem rturn_any (A : Option Addr) (n c : Nat) (t : Int) (bs : List UInt8) (w : World) (h : Rd w w.heap.size A n bs) (hn : n ≤ 140737488355328) (h0 : 0 < n) :
    Calls Try.prog 33 #[.slice A n c, .int .i64 t] w (RetB w (turnL bs n (tf t n) (ts t))) := by
  have hz : ((n : Int) == 0) = false := by simp; omega
  obtain ⟨f, hf⟩ : ∃ f : Nat, t / 8 % n = f := ⟨(t / 8 % n).toNat, by have := Int.emod_nonneg (t / 8) (show (n : Int) ≠ 0 by omega); omega⟩
  obtain ⟨s, hs⟩ : ∃ s : Nat, t % 8 = s := ⟨(t % 8).toNat, by omega⟩
  have hs7 : s ≤ 7 := by omega
  have hfn : f < n := by have := Int.emod_lt_of_pos (t / 8) (show (0 : Int) < n by omega); omega
  have HT := hid (show tf t n = f ∧ ts t = s by unfold tf ts; omega)
  have hK : t % (8 * (n : Int)) = ((8 * f + s : Nat) : Int) := by rw [turn_k t n h0, hf, hs]; omega
  have HF := hid hK
  obtain ⟨K, hKK⟩ : ∃ K, K = 8 * f + s := ⟨_, rfl⟩
  rw [← hKK] at HF
  have HD := hid (show (K : Int) / 8 = f ∧ (K : Int) % 8 = s by omega)
  have hKb : K < 8 * n := by omega
  clear hs hf hK hKK
  go_enter Try.func33, Try.ntmps33
  go_wp2_with (first
    | (go_at_call 44; refine (rrest_any _ _ _ (by omega) (by omega)).mono ?_; rintro e w' ⟨rfl, rfl⟩; rw [HF.out])
    | (at_make; refine wpL_make rfl (.tmp 11) (.tmp 11) 22 rfl Try.underlying22 Try.info5 .i64 n n rfl rfl rfl (by omega) w.heap.size (Nat.le_refl _) ?_; intro w1 hown1 hb1 _))
  go_loopw [7] (fun i wr => ∃ k : Nat, k ≤ n ∧ i = .int .i64 k ∧ Own wr w.heap.size (.slice (some ⟨w.heap.size, 0, none⟩) n n) (fillTo (turnF bs n f s) n k) ∧ Below w.heap.size w wr) (fun i _ => n - (intOf i).toNat)
  case atStart => exact ⟨0, Nat.zero_le _, rfl, by rw [fillTo_zero]; exact hown1, hb1⟩
  case round =>
    obtain ⟨k, hk, rfl, hown, hb⟩ := hrel
    by_cases hlt : k < n
    · obtain ⟨b1, o1, rfl, hb1', hc1⟩ := (h.below hb (Nat.le_refl _)).at_ (by omega)
      have hl1 : (f + k) % n < n := Nat.mod_lt _ h0
      have hl2 : (f + k + 1) % n < n := Nat.mod_lt _ h0
      have hck1 := hc1 _ hl1
      have hck2 := hc1 _ hl2
      have r1 := byteAt_lo bs ((f + k) % n); have r2 := byteAt_hi bs ((f + k) % n); have r3 := byteAt_lo bs ((f + k + 1) % n); have r4 := byteAt_hi bs ((f + k + 1) % n)
      obtain ⟨cur, hcur⟩ : ∃ cur, fillTo (turnF bs n f s) n k = cur := ⟨_, rfl⟩
      have hcl : cur.length = n := by rw [← hcur]; exact fillTo_length _ _ _
      rw [hcur] at hown
      have hown0 : Own wr w.heap.size (.slice (some ⟨w.heap.size, 0, none⟩) cur.length n) cur := by rw [hcl]; exact hown
      have hcell := hown0.cell k (by omega)
      have hfree := hown0.free k
      have hset := hown0.set_ k (turnF bs n f s k)
      rw [← hcur, fillTo_set _ _ _ _ rfl, fillTo_length] at hset
      rw [turnF_val, Nat.add_comm f k] at hset
      have HH := hid hset
      have HB := hid hb
      clear hset hown0 hown hb hcl hcur hown1 hb1 h hc1
      have hD1 := HD.out.1
      have hD2 := HD.out.2
      rw [Nat.add_comm f k] at hck1 hck2
      have q1 : (0 : Int) ≤ ((k : Int) + f) % n := Int.emod_nonneg _ (by omega)
      have q2 : ((k : Int) + f) % n < n := Int.emod_lt_of_pos _ (by omega)
      have q3 : (0 : Int) ≤ ((k : Int) + f + 1) % n := Int.emod_nonneg _ (by omega)
      have q4 : ((k : Int) + f + 1) % n < n := Int.emod_lt_of_pos _ (by omega)
      go_wp2
      go_quiet (fail)
      go_wp2
      go_roundw
      case rel => exact ⟨k + 1, by omega, by go_num, own_set_drewN HH.out nq, (below_drewN' HB.out nq).setCell (by simp) _⟩
      case measure => simp [intOf]; omega
    · obtain rfl : k = n := by omega
      have HH := hid (And.intro hown hb)
      clear hown hb hown1 hb1
      go_wp2
      go_ret
      exact ⟨_, rfl, by have := HH.out.1; rw [fillTo_full] at this; rw [HT.out.1, HT.out.2]; exact this, HH.out.2⟩
end Go.Proofs.Ytllkbfhkpnncgaa
