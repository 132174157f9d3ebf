/- Walks over the functions of chapter 1 that chapter 6 calls; own lemmas of the verifier, no statement is proved here. -/
import Derived.Test.YthfcndaccfpnmaaDoorB5
import Derived.Test.YthfcndaccfpnmaaDoorNum
import Derived.Deep.QuietTactic
import Derived.BigQuiet
namespace Go.Proofs.YthfcndaccfpnmaaDoor
open Go.RowKit
theorem and31 (n : Int) : bits .and .u64 (IntKind.u64.wrap n) 31 = n % 32 := by
  rw [IntKind.wrap_u64, show (31 : Int) = ((31 : Nat) : Int) from rfl, show n % 18446744073709551616 = ((n % 18446744073709551616).toNat : Int) by omega, u64_and_nat _ _ (by omega) (by omega), nat_mask5]
  omega
/-- Turned to the left by s < 32 bits. -/
def rol32 (a : Int) (s : Nat) : Int := bits .or .u32 (a * 2 ^ s % 4294967296) (a / 2 ^ (32 - s))
set_option maxHeartbeats 400000 in
theorem rl32 (a n : Int) (w : World) :
    Calls Tryd.prog 54 #[.int .u32 a, .int .i64 n] w fun e w' => e = .returned (.int .u32 (rol32 a (n % 32).toNat)) ∧ w = w' := by
  have hs := and31 n
  obtain ⟨s, hsn⟩ : ∃ s : Nat, n % 32 = s := ⟨(n % 32).toNat, by omega⟩
  have hs1 : s ≤ 31 := by omega
  rw [hsn] at hs
  have HS := hid (show (n % 32).toNat = s by omega)
  clear hsn
  go_enter Tryd.func54, Tryd.ntmps54
  go_wp2
  go_ret
  exact ⟨ret_int (by rw [HS.out]; rfl), rfl⟩
set_option maxHeartbeats 400000 in
theorem rol_any (a n : Int) (w : World) :
    Calls Tryd.prog 33 #[.int .u32 a, .int .i64 n] w fun e w' => e = .returned (.int .u32 (rol32 a (n % 32).toNat)) ∧ w = w' := by
  go_enter Tryd.func33, Tryd.ntmps33
  go_wp2_with (go_at_call 54; refine (rl32 _ _ _).mono ?_; rintro e w' ⟨rfl, rfl⟩)
  go_ret
  exact ⟨rfl, rfl⟩
set_option maxHeartbeats 400000 in
theorem gather_any (A : Option Addr) (n c B : Nat) (bs : List UInt8) (w : World) (h : Rd w B A n bs) (hn : n ≤ 140737488355328) :
    Calls Tryd.prog 52 #[.slice A n c] w fun e w' => e = .returned (.int .u64 (be bs n)) ∧ w = w' := by
  go_enter Tryd.func52, Tryd.ntmps52
  go_wp2
  go_loop [3, 8] (fun v i => ∃ k : Nat, k ≤ n ∧ i = .int .i64 k ∧ v = .int .u64 (be bs k)) (fun _ i => n - (intOf i).toNat)
  case atStart => exact ⟨0, Nat.zero_le _, rfl, rfl⟩
  case round =>
    obtain ⟨k, hk, rfl, rfl⟩ := hrel
    by_cases hlt : k < n
    · obtain ⟨b, o, rfl, hb, hc⟩ := h.at_ (by omega)
      have hck := hc k hlt
      have h1 := byteAt_lo bs k
      have h2 := byteAt_hi bs k
      clear h hc
      go_wp2
      go_round
      case rel => exact ⟨k + 1, by omega, by go_num, rfl⟩
      case measure => simp [intOf]; omega
    · go_wp2
      go_ret
      obtain rfl : k = n := by omega
      exact ⟨rfl, rfl⟩
set_option maxHeartbeats 400000 in
theorem spread_any (v : Int) (n : Nat)  (w : World) (hn : n ≤ 8) :
    Calls Tryd.prog 55 #[.int .u64 v, .int .i64 n] w (RetB w (spreadL v n)) := by
  go_enter Tryd.func55, Tryd.ntmps55
  go_wp2_with (at_make; refine wpL_make rfl (.tmp 7) (.tmp 7) 22 rfl Tryd.underlying22 Tryd.info5 .i64 n n rfl rfl rfl (by omega) w.heap.size (Nat.le_refl _) ?_; intro w1 hown1 hb1 _)
  go_loopw [11] (fun i wr => ∃ k : Nat, k ≤ n ∧ i = .int .i64 k ∧ Own wr w.heap.size (.slice (some ⟨w.heap.size, 0, none⟩) n n) (fillTo (spreadF v n) n k) ∧ Below w.heap.size w wr) (fun i _ => n - (intOf i).toNat)
  case atStart => exact ⟨0, Nat.zero_le _, rfl, by rw [fillTo_zero]; exact hown1, hb1⟩
  case round =>
    obtain ⟨k, hk, rfl, hown, hb⟩ := hrel
    by_cases hlt : k < n
    · obtain ⟨cur, hcur⟩ : ∃ cur, fillTo (spreadF v n) n k = cur := ⟨_, rfl⟩
      have hcl : cur.length = n := by rw [← hcur]; exact fillTo_length _ _ _
      rw [hcur] at hown
      have hown0 : Own wr w.heap.size (.slice (some ⟨w.heap.size, 0, none⟩) cur.length n) cur := by rw [hcl]; exact hown
      have hcell := hown0.cell k (by omega)
      have hfree := hown0.free k
      have hset := hown0.set_ k (spreadF v n k)
      rw [← hcur, fillTo_set _ _ _ _ rfl, fillTo_length] at hset
      have hval : ((spreadF v n k).toNat : Int) = v / 2 ^ (8 * (n - 1 - k)) % 256 := by unfold spreadF; exact u8_toNat _
      rw [hval] at hset
      have HH := hid hset
      have HB := hid hb
      clear hset hval hown0 hown hb hcl hcur hown1 hb1
      go_wp2
      go_roundw
      case rel => exact ⟨k + 1, by omega, by go_num, HH.out, HB.out.setCell (by simp) _⟩
      case measure => simp [intOf]; omega
    · obtain rfl : k = n := by omega
      have HH := hid (And.intro hown hb)
      clear hown hb hown1 hb1
      go_wp2
      go_ret
      exact ⟨_, rfl, by have := HH.out.1; rw [fillTo_full] at this; exact this, HH.out.2⟩

theorem wrap64_u32 (v : Int) (h0 : 0 ≤ v) (h1 : v < 4294967296) : IntKind.u64.wrap v = v := by rw [IntKind.wrap_u64]; omega
set_option maxHeartbeats 400000 in
theorem putBe32_any (v : Int) (w : World) (h0 : 0 ≤ v) (h1 : v < 4294967296) :
    Calls Tryd.prog 35 #[.int .u32 v] w (RetB w (put32 v)) := by
  go_enter Tryd.func35, Tryd.ntmps35
  go_wp2_with (go_at_call 55; refine (spread_any _ 4 _ (by omega)).mono ?_; rintro e w' ⟨x, rfl, hx, hb⟩)
  go_ret
  exact ⟨_, rfl, by rw [← spread4]; exact hx, hb⟩
def isLen (k n : Nat) : Bool := decide (n = k)
def be32N (bs : List UInt8) (n : Nat) : Int := if n = 4 then be bs 4 else 0
def be64N (bs : List UInt8) (n : Nat) : Int := if n = 8 then be bs 8 else 0
theorem ret_pair {k : IntKind} {a b : Int} {p q : Bool} (h : a = b) (hp : p = q) : Ending.returned (.tuple #[.int k a, .bool p]) = .returned (.tuple #[.int k b, .bool q]) := by rw [h, hp]
theorem be4_range (bs : List UInt8) : 0 ≤ be bs 4 ∧ be bs 4 < 4294967296 := by
  have h0 := byteAt_lo bs 0; have h1 := byteAt_lo bs 1; have h2 := byteAt_lo bs 2; have h3 := byteAt_lo bs 3
  have k0 := byteAt_hi bs 0; have k1 := byteAt_hi bs 1; have k2 := byteAt_hi bs 2; have k3 := byteAt_hi bs 3
  rw [be4]; omega
theorem be8_range (bs : List UInt8) : 0 ≤ be bs 8 ∧ be bs 8 < 18446744073709551616 := by
  have h0 := byteAt_lo bs 0; have h1 := byteAt_lo bs 1; have h2 := byteAt_lo bs 2; have h3 := byteAt_lo bs 3
  have k0 := byteAt_hi bs 0; have k1 := byteAt_hi bs 1; have k2 := byteAt_hi bs 2; have k3 := byteAt_hi bs 3
  have h4 := byteAt_lo bs 4; have h5 := byteAt_lo bs 5; have h6 := byteAt_lo bs 6; have h7 := byteAt_lo bs 7
  have k4 := byteAt_hi bs 4; have k5 := byteAt_hi bs 5; have k6 := byteAt_hi bs 6; have k7 := byteAt_hi bs 7
  rw [be8]; omega
set_option maxHeartbeats 400000 in
theorem be32_any (A : Option Addr) (n c B : Nat) (bs : List UInt8) (w : World) (h : Rd w B A n bs) (hn : n ≤ 140737488355328) :
    Calls Tryd.prog 31 #[.slice A n c] w fun e w' => e = .returned (.tuple #[.int .u32 (be32N bs n), .bool (isLen 4 n)]) ∧ w = w' := by
  by_cases h4 : n = 4
  · subst h4
    go_enter Tryd.func31, Tryd.ntmps31
    go_wp2_with (go_at_call 52; refine (gather_any _ _ _ _ _ _ h hn).mono ?_; rintro e w' ⟨rfl, rfl⟩)
    go_ret2
    exact ⟨ret_pair (by have := be4_range bs; unfold be32N; rw [if_pos rfl]; omega) rfl, rfl⟩
  · have h5 : ((n : Int) != 4) = true := by simp; omega
    go_enter Tryd.func31, Tryd.ntmps31
    go_wp2_with (go_at_call 52; refine (gather_any _ _ _ _ _ _ h hn).mono ?_; rintro e w' ⟨rfl, rfl⟩)
    go_ret2
    exact ⟨ret_pair (by simp [be32N, h4]) (by simp [isLen, h4]), rfl⟩
set_option maxHeartbeats 400000 in
theorem be64_any (A : Option Addr) (n c B : Nat) (bs : List UInt8) (w : World) (h : Rd w B A n bs) (hn : n ≤ 140737488355328) :
    Calls Tryd.prog 53 #[.slice A n c] w fun e w' => e = .returned (.tuple #[.int .u64 (be64N bs n), .bool (isLen 8 n)]) ∧ w = w' := by
  by_cases h4 : n = 8
  · subst h4
    go_enter Tryd.func53, Tryd.ntmps53
    go_wp2_with (go_at_call 52; refine (gather_any _ _ _ _ _ _ h hn).mono ?_; rintro e w' ⟨rfl, rfl⟩)
    go_ret2
    exact ⟨ret_pair (by unfold be64N; rw [if_pos rfl]) rfl, rfl⟩
  · have h5 : ((n : Int) != 8) = true := by simp; omega
    go_enter Tryd.func53, Tryd.ntmps53
    go_wp2_with (go_at_call 52; refine (gather_any _ _ _ _ _ _ h hn).mono ?_; rintro e w' ⟨rfl, rfl⟩)
    go_ret2
    exact ⟨ret_pair (by simp [be64N, h4]) (by simp [isLen, h4]), rfl⟩
def xorF (xs ys : List UInt8) (i : Nat) : UInt8 := xs.getD i 0 ^^^ ys.getD i 0
def xorL (xs ys : List UInt8) (n : Nat) : List UInt8 := (List.range n).map (xorF xs ys)
theorem xorF_val (xs ys : List UInt8) (k : Nat) : ((xorF xs ys k).toNat : Int) = bits .xor .u8 (byteAt xs k) (byteAt ys k) := by
  unfold xorF byteAt
  rw [UInt8.toNat_xor, u8_xor_nat _ _ (UInt8.toNat_lt _) (UInt8.toNat_lt _)]
theorem Own.drew {w : World} {base : Nat} {v : Value} {bs : List UInt8} (h : Own w base v bs) : Own w.drew base v bs := h
set_option maxHeartbeats 400000 in
theorem xor_eq (A A' : Option Addr) (n c c' : Nat) (xs ys : List UInt8) (w : World) (h : Rd w w.heap.size A n xs) (h' : Rd w w.heap.size A' n ys) (hn : n ≤ 140737488355328) :
    Calls Tryd.prog 59 #[.slice A n c, .slice A' n c'] w fun e w' => ∃ v, e = .returned (.tuple #[v, .bool true]) ∧ Own w' w.heap.size v (xorL xs ys n) ∧ Below w.heap.size w w' := by
  go_enter Tryd.func59, Tryd.ntmps59
  go_wp2_with (at_make; refine wpL_make rfl (.tmp 15) (.tmp 15) 22 rfl Tryd.underlying22 Tryd.info5 .i64 n n rfl rfl rfl (by omega) w.heap.size (Nat.le_refl _) ?_; intro w1 hown1 hb1 _)
  go_loopw [19] (fun i wr => ∃ k : Nat, k ≤ n ∧ i = .int .i64 k ∧ Own wr w.heap.size (.slice (some ⟨w.heap.size, 0, none⟩) n n) (fillTo (xorF xs ys) n k) ∧ Below w.heap.size w wr) (fun i _ => n - (intOf i).toNat)
  case atStart => exact ⟨0, Nat.zero_le _, rfl, by rw [fillTo_zero]; exact hown1, hb1⟩
  case round =>
    obtain ⟨k, hk, rfl, hown, hb⟩ := hrel
    by_cases hlt : k < n
    · obtain ⟨b1, o1, rfl, hb1', hc1⟩ := (h.below hb (Nat.le_refl _)).at_ (by omega)
      obtain ⟨b2, o2, rfl, hb2', hc2⟩ := (h'.below hb (Nat.le_refl _)).at_ (by omega)
      have hck1 := hc1 k hlt
      have hck2 := hc2 k hlt
      have r1 := byteAt_lo xs k; have r2 := byteAt_hi xs k; have r3 := byteAt_lo ys k; have r4 := byteAt_hi ys k
      obtain ⟨cur, hcur⟩ : ∃ cur, fillTo (xorF xs ys) n k = cur := ⟨_, rfl⟩
      have hcl : cur.length = n := by rw [← hcur]; exact fillTo_length _ _ _
      rw [hcur] at hown
      have hown0 : Own wr w.heap.size (.slice (some ⟨w.heap.size, 0, none⟩) cur.length n) cur := by rw [hcl]; exact hown
      have hcell := hown0.cell k (by omega)
      have hfree := hown0.free k
      have hset := hown0.set_ k (xorF xs ys k)
      rw [← hcur, fillTo_set _ _ _ _ rfl, fillTo_length] at hset
      rw [xorF_val] at hset
      have HH := hid hset
      have HB := hid hb
      clear hset hown0 hown hb hcl hcur hown1 hb1 h h' hc1 hc2
      go_wp2
      go_roundw
      case rel => exact ⟨k + 1, by omega, by go_num, HH.out, HB.out.setCell (by simp) _⟩
      case measure => simp [intOf]; omega
    · obtain rfl : k = n := by omega
      have HH := hid (And.intro hown hb)
      clear hown hb hown1 hb1
      go_wp2
      go_ret2
      exact ⟨_, rfl, by have := HH.out.1; rw [fillTo_full] at this; exact this, HH.out.2⟩
set_option maxHeartbeats 400000 in
theorem both_any (A A' : Option Addr) (n c c' : Nat) (xs ys : List UInt8) (w : World) (h : Rd w w.heap.size A n xs) (h' : Rd w w.heap.size A' n ys) (hn : n ≤ 140737488355328) :
    Calls Tryd.prog 22 #[.slice A n c, .slice A' n c'] w (RetB w (xorL xs ys n)) := by
  go_enter Tryd.func22, Tryd.ntmps22
  go_wp2_with (at_make; refine wpL_make rfl (.tmp 8) (.tmp 8) 22 rfl Tryd.underlying22 Tryd.info5 .i64 n n rfl rfl rfl (by omega) w.heap.size (Nat.le_refl _) ?_; intro w1 hown1 hb1 _)
  go_loopw [6] (fun i wr => ∃ k : Nat, k ≤ n ∧ i = .int .i64 k ∧ Own wr w.heap.size (.slice (some ⟨w.heap.size, 0, none⟩) n n) (fillTo (xorF xs ys) n k) ∧ Below w.heap.size w wr) (fun i _ => n - (intOf i).toNat)
  case atStart => exact ⟨0, Nat.zero_le _, rfl, by rw [fillTo_zero]; exact hown1, hb1⟩
  case round =>
    obtain ⟨k, hk, rfl, hown, hb⟩ := hrel
    by_cases hlt : k < n
    · obtain ⟨b1, o1, rfl, hb1', hc1⟩ := (h.below hb (Nat.le_refl _)).at_ (by omega)
      obtain ⟨b2, o2, rfl, hb2', hc2⟩ := (h'.below hb (Nat.le_refl _)).at_ (by omega)
      have hck1 := hc1 k hlt
      have hck2 := hc2 k hlt
      have r1 := byteAt_lo xs k; have r2 := byteAt_hi xs k; have r3 := byteAt_lo ys k; have r4 := byteAt_hi ys k
      obtain ⟨cur, hcur⟩ : ∃ cur, fillTo (xorF xs ys) n k = cur := ⟨_, rfl⟩
      have hcl : cur.length = n := by rw [← hcur]; exact fillTo_length _ _ _
      rw [hcur] at hown
      have hown0 : Own wr w.heap.size (.slice (some ⟨w.heap.size, 0, none⟩) cur.length n) cur := by rw [hcl]; exact hown
      have hcell := hown0.cell k (by omega)
      have hfree := hown0.free k
      have hset := hown0.set_ k (xorF xs ys k)
      rw [← hcur, fillTo_set _ _ _ _ rfl, fillTo_length] at hset
      rw [xorF_val] at hset
      have HH := hid hset
      have HB := hid hb
      clear hset hown0 hown hb hcl hcur hown1 hb1 h h' hc1 hc2
      go_wp2
      go_region
      go_wp2
      go_roundw
      case rel => exact ⟨k + 1, by omega, by go_num, HH.out, (HB.out.setCell (by simp) _).drew⟩
      case measure => simp [intOf]; omega
    · obtain rfl : k = n := by omega
      have HH := hid (And.intro hown hb)
      clear hown hb hown1 hb1
      go_wp2
      go_ret
      exact ⟨_, rfl, by have := HH.out.1; rw [fillTo_full] at this; exact this, HH.out.2⟩
end Go.Proofs.YthfcndaccfpnmaaDoor
