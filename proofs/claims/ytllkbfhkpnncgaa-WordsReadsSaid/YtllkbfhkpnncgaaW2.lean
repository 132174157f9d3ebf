/- Walks over the functions of chapter 1 that read and write words: what each call returns; own lemmas of the verifier, no statement is proved here. -/
import Derived.Test.YtllkbfhkpnncgaaW1
import Derived.Test.YtllkbfhkpnncgaaNum
namespace Go.Proofs.Ytllkbfhkpnncgaa
open Go.RowKit
set_option maxHeartbeats 400000 in
theorem gather_any (A : Option Addr) (n c B : Nat) (bs : List UInt8) (w : World) (h : Rd w B A n bs) (hn : n ≤ 140737488355328) :
    Calls Try.prog 38 #[.slice A n c] w fun e w' => e = .returned (.int .u64 (be bs n)) ∧ w = w' := by
  go_enter Try.func38, Try.ntmps38
  go_wp2
  go_loop [3, 8] (fun v i => ∃ k : Nat, k ≤ n ∧ i = .int .i64 k ∧ v = .int .u64 (be bs k)) (fun _ i => n - (intOf i).toNat)
  case atStart => exact ⟨0, Nat.zero_le _, rfl, rfl⟩
  case round =>
    obtain ⟨k, hk, rfl, rfl⟩ := hrel
    by_cases hlt : k < n
    · obtain ⟨b, o, rfl, hb, hc⟩ := h.at_ (by omega)
      have hck := hc k hlt
      have h1 := byteAt_lo bs k
      have h2 := byteAt_hi bs k
      clear h hc
      go_wp2
      go_round
      case rel => exact ⟨k + 1, by omega, by go_num, rfl⟩
      case measure => simp [intOf]; omega
    · go_wp2
      go_ret
      obtain rfl : k = n := by omega
      exact ⟨rfl, rfl⟩
set_option maxHeartbeats 400000 in
theorem big_any (A : Option Addr) (n c B : Nat) (bs : List UInt8) (w : World) (h : Rd w B A n bs) (hn : n ≤ 140737488355328) :
    Calls Try.prog 39 #[.slice A n c] w fun e w' => e = .returned (.int .u64 (be bs n)) ∧ w = w' := by
  go_enter Try.func39, Try.ntmps39
  go_wp2
  go_loop [3, 4] (fun v i => ∃ k : Nat, k ≤ n ∧ i = .int .i64 k ∧ v = .int .u64 (be bs k)) (fun _ i => n - (intOf i).toNat)
  case atStart => exact ⟨0, Nat.zero_le _, rfl, rfl⟩
  case round =>
    obtain ⟨k, hk, rfl, rfl⟩ := hrel
    by_cases hlt : k < n
    · obtain ⟨b, o, rfl, hb, hc⟩ := h.at_ (by omega)
      have hck := hc k hlt
      have h1 := byteAt_lo bs k
      have h2 := byteAt_hi bs k
      clear h hc
      go_wp2
      go_round
      case rel => exact ⟨k + 1, by omega, by go_num, rfl⟩
      case measure => simp [intOf]; omega
    · go_wp2
      go_ret
      obtain rfl : k = n := by omega
      exact ⟨rfl, rfl⟩
set_option maxHeartbeats 400000 in
theorem little_any (A : Option Addr) (n c B : Nat) (bs : List UInt8) (w : World) (h : Rd w B A n bs) (hn : n ≤ 140737488355328) :
    Calls Try.prog 41 #[.slice A n c] w fun e w' => e = .returned (.int .u64 (le bs n n)) ∧ w = w' := by
  go_enter Try.func41, Try.ntmps41
  go_wp2
  go_loop [3, 4] (fun v i => ∃ k : Nat, k ≤ n ∧ i = .int .i64 ((n : Int) - k) ∧ v = .int .u64 (le bs n k)) (fun _ i => (intOf i).toNat)
  case atStart => exact ⟨0, Nat.zero_le _, by simp, rfl⟩
  case round =>
    obtain ⟨k, hk, rfl, rfl⟩ := hrel
    by_cases hlt : k < n
    · obtain ⟨b, o, rfl, hb, hc⟩ := h.at_ (by omega)
      have hck := hc (n - 1 - k) (by omega)
      have e : o + (n - 1 - k) = o + (n - k - 1) := by omega
      rw [e] at hck
      have h1 := byteAt_lo bs (n - 1 - k)
      have h2 := byteAt_hi bs (n - 1 - k)
      have hpos : (0 : Int) < (n : Int) - k := by omega
      clear h hc e
      go_wp2
      go_round
      case rel => exact ⟨k + 1, by omega, by go_num, rfl⟩
      case measure => simp [intOf]; omega
    · go_wp2
      go_ret
      obtain rfl : k = n := by omega
      exact ⟨rfl, rfl⟩
set_option maxHeartbeats 400000 in
theorem spread_any (v : Int) (n : Nat)  (w : World) (hn : n ≤ 8) :
    Calls Try.prog 42 #[.int .u64 v, .int .i64 n] w (RetB w (spreadL v n)) := by
  go_enter Try.func42, Try.ntmps42
  go_wp2_with (at_make; refine wpL_make rfl (.tmp 7) (.tmp 7) 22 rfl Try.underlying22 Try.info5 .i64 n n rfl rfl rfl (by omega) w.heap.size (Nat.le_refl _) ?_; intro w1 hown1 hb1 _)
  go_loopw [11] (fun i wr => ∃ k : Nat, k ≤ n ∧ i = .int .i64 k ∧ Own wr w.heap.size (.slice (some ⟨w.heap.size, 0, none⟩) n n) (fillTo (spreadF v n) n k) ∧ Below w.heap.size w wr) (fun i _ => n - (intOf i).toNat)
  case atStart => exact ⟨0, Nat.zero_le _, rfl, by rw [fillTo_zero]; exact hown1, hb1⟩
  case round =>
    obtain ⟨k, hk, rfl, hown, hb⟩ := hrel
    by_cases hlt : k < n
    · obtain ⟨cur, hcur⟩ : ∃ cur, fillTo (spreadF v n) n k = cur := ⟨_, rfl⟩
      have hcl : cur.length = n := by rw [← hcur]; exact fillTo_length _ _ _
      rw [hcur] at hown
      have hown0 : Own wr w.heap.size (.slice (some ⟨w.heap.size, 0, none⟩) cur.length n) cur := by rw [hcl]; exact hown
      have hcell := hown0.cell k (by omega)
      have hfree := hown0.free k
      have hset := hown0.set_ k (spreadF v n k)
      rw [← hcur, fillTo_set _ _ _ _ rfl, fillTo_length] at hset
      have hval : ((spreadF v n k).toNat : Int) = v / 2 ^ (8 * (n - 1 - k)) % 256 := by unfold spreadF; exact u8_toNat _
      rw [hval] at hset
      have HH := hid hset
      have HB := hid hb
      clear hset hval hown0 hown hb hcl hcur hown1 hb1
      go_wp2
      go_roundw
      case rel => exact ⟨k + 1, by omega, by go_num, HH.out, HB.out.setCell (by simp) _⟩
      case measure => simp [intOf]; omega
    · obtain rfl : k = n := by omega
      have HH := hid (And.intro hown hb)
      clear hown hb hown1 hb1
      go_wp2
      go_ret
      exact ⟨_, rfl, by have := HH.out.1; rw [fillTo_full] at this; exact this, HH.out.2⟩

theorem RetB.mono_eq {w : World} {xs ys : List UInt8} (h : xs = ys) {e : Ending} {w' : World} (hr : RetB w xs e w') : RetB w ys e w' := by rw [← h]; exact hr
theorem wrap64_u32 (v : Int) (h0 : 0 ≤ v) (h1 : v < 4294967296) : IntKind.u64.wrap v = v := by rw [IntKind.wrap_u64]; omega
set_option maxHeartbeats 400000 in
theorem putBe32_any (v : Int) (w : World) (h0 : 0 ≤ v) (h1 : v < 4294967296) :
    Calls Try.prog 21 #[.int .u32 v] w (RetB w (put32 v)) := by
  go_enter Try.func21, Try.ntmps21
  go_wp2_with (go_at_call 42; refine (spread_any _ 4 _ (by omega)).mono ?_; rintro e w' ⟨x, rfl, hx, hb⟩)
  go_ret
  exact ⟨_, rfl, by rw [← spread4]; exact hx, hb⟩
set_option maxHeartbeats 400000 in
theorem rev_any (v : Int) (w : World) :
    Calls Try.prog 40 #[.int .u32 v] w fun e w' => e = .returned (.int .u32 (rev32 v)) ∧ w = w' := by
  go_enter Try.func40, Try.ntmps40
  go_wp2
  go_ret
  exact ⟨rfl, rfl⟩
theorem rev32_range (v : Int) (h0 : 0 ≤ v) (h1 : v < 4294967296) : 0 ≤ rev32 v ∧ rev32 v < 4294967296 := by
  rw [rev32_eq v h0 h1]; omega
set_option maxHeartbeats 400000 in
theorem putLe32_any (v : Int) (w : World) (h0 : 0 ≤ v) (h1 : v < 4294967296) :
    Calls Try.prog 22 #[.int .u32 v] w (RetB w (putL32 v)) := by
  have hr := rev32_range v h0 h1
  go_enter Try.func22, Try.ntmps22
  go_wp2_with (first
    | (go_at_call 40; refine (rev_any _ _).mono ?_; rintro e w' ⟨rfl, rfl⟩)
    | (go_at_call 21; refine (putBe32_any _ _ hr.1 hr.2).mono ?_; rintro e w' ⟨x, rfl, hx, hb⟩))
  go_ret
  exact ⟨_, rfl, by rw [← put_rev v h0 h1]; exact hx, hb⟩
set_option maxHeartbeats 400000 in
theorem putBe64_any (v : Int) (w : World) :
    Calls Try.prog 23 #[.int .u64 v] w (RetB w (spreadL v 8)) := by
  go_enter Try.func23, Try.ntmps23
  go_wp2_with (go_at_call 42; refine (spread_any _ 8 _ (by omega)).mono ?_; rintro e w' ⟨x, rfl, hx, hb⟩)
  go_ret
  exact ⟨_, rfl, hx, hb⟩
set_option maxHeartbeats 400000 in
theorem rput32_any (v : Int) (w : World) :
    Calls Try.prog 24 #[.int .u32 v] w (RetB w (put32 v)) := by
  go_enter Try.func24, Try.ntmps24
  go_wp2
  go_ret
  refine ⟨_, rfl, ?_, (Below.refl _ _).alloc (Nat.le_refl _) _⟩
  exact Own.lit w (put32 v) _ 4 w.heap.size (by simp [put32, cellsOf, u8_toNat]) rfl (by unfold maxLen; omega) (Nat.le_refl _)
set_option maxHeartbeats 400000 in
theorem rputL32_any (v : Int) (w : World) :
    Calls Try.prog 25 #[.int .u32 v] w (RetB w (putL32 v)) := by
  go_enter Try.func25, Try.ntmps25
  go_wp2
  go_ret
  refine ⟨_, rfl, ?_, (Below.refl _ _).alloc (Nat.le_refl _) _⟩
  exact Own.lit w (putL32 v) _ 4 w.heap.size (by simp [putL32, cellsOf, u8_toNat]) rfl (by unfold maxLen; omega) (Nat.le_refl _)
set_option maxHeartbeats 400000 in
theorem rput64_any (v : Int) (w : World) :
    Calls Try.prog 26 #[.int .u64 v] w (RetB w (spreadL v 8)) := by
  go_enter Try.func26, Try.ntmps26
  go_wp2_with fail
  refine (rput32_any _ _).mono ?_
  rintro e w1 ⟨x, rfl, hx, hb⟩
  go_wp2_with fail
  refine (rput32_any _ _).mono ?_
  rintro e w2 ⟨y, rfl, hy, hb2⟩
  have hx2 := hx.kept hb2
  obtain ⟨A, c, rfl, hrd, _, _⟩ := hy.rd
  have hsz := hb.size
  have hsz2 := hb2.size
  go_wp2_with (at_builtin; refine wpL_append _ rfl (.tmp 6) (.tmp 9) 22 rfl Try.underlying22 Try.info5 w.heap.size x _ rfl hx2 _ A _ c _ rfl hrd (by simp [put32]) (by omega) ?_; intro v3 w3 hown3 hb3)
  go_ret
  refine ⟨_, rfl, ?_, ((hb.trans (hb2.mono hsz)).trans hb3)⟩
  rw [spread8]
  have e : put32 (v / 4294967296) = put32 (v / 4294967296 % 4294967296) := by
    simp only [put32]
    congr 1
    · apply u8_congr; omega
    congr 1
    · apply u8_congr; omega
    congr 1
    · apply u8_congr; omega
    congr 1
    apply u8_congr; omega
  rw [e]
  exact hown3
def isLen (k n : Nat) : Bool := decide (n = k)
def be32N (bs : List UInt8) (n : Nat) : Int := if n = 4 then be bs 4 else 0
def le32N (bs : List UInt8) (n : Nat) : Int := if n = 4 then le bs 4 4 else 0
def be64N (bs : List UInt8) (n : Nat) : Int := if n = 8 then be bs 8 else 0
theorem ret_pair {k : IntKind} {a b : Int} {p q : Bool} (h : a = b) (hp : p = q) : Ending.returned (.tuple #[.int k a, .bool p]) = .returned (.tuple #[.int k b, .bool q]) := by rw [h, hp]
theorem be4_range (bs : List UInt8) : 0 ≤ be bs 4 ∧ be bs 4 < 4294967296 := by
  have h0 := byteAt_lo bs 0; have h1 := byteAt_lo bs 1; have h2 := byteAt_lo bs 2; have h3 := byteAt_lo bs 3
  have k0 := byteAt_hi bs 0; have k1 := byteAt_hi bs 1; have k2 := byteAt_hi bs 2; have k3 := byteAt_hi bs 3
  rw [be4]; omega
theorem le4_range (bs : List UInt8) : 0 ≤ le bs 4 4 ∧ le bs 4 4 < 4294967296 := by
  have h0 := byteAt_lo bs 0; have h1 := byteAt_lo bs 1; have h2 := byteAt_lo bs 2; have h3 := byteAt_lo bs 3
  have k0 := byteAt_hi bs 0; have k1 := byteAt_hi bs 1; have k2 := byteAt_hi bs 2; have k3 := byteAt_hi bs 3
  rw [le4]; omega
theorem be8_range (bs : List UInt8) : 0 ≤ be bs 8 ∧ be bs 8 < 18446744073709551616 := by
  have h0 := byteAt_lo bs 0; have h1 := byteAt_lo bs 1; have h2 := byteAt_lo bs 2; have h3 := byteAt_lo bs 3
  have k0 := byteAt_hi bs 0; have k1 := byteAt_hi bs 1; have k2 := byteAt_hi bs 2; have k3 := byteAt_hi bs 3
  have h4 := byteAt_lo bs 4; have h5 := byteAt_lo bs 5; have h6 := byteAt_lo bs 6; have h7 := byteAt_lo bs 7
  have k4 := byteAt_hi bs 4; have k5 := byteAt_hi bs 5; have k6 := byteAt_hi bs 6; have k7 := byteAt_hi bs 7
  rw [be8]; omega
theorem be32N_range (bs : List UInt8) (n : Nat) : 0 ≤ be32N bs n ∧ be32N bs n < 4294967296 := by
  unfold be32N; split
  · exact be4_range bs
  · omega
theorem rev_be32N (bs : List UInt8) (n : Nat) : rev32 (be32N bs n) = le32N bs n := by
  unfold be32N le32N
  split
  · exact rev_be4 bs
  · exact rev32_eq 0 (by omega) (by omega)
set_option maxHeartbeats 400000 in
theorem be32_any (A : Option Addr) (n c B : Nat) (bs : List UInt8) (w : World) (h : Rd w B A n bs) (hn : n ≤ 140737488355328) :
    Calls Try.prog 15 #[.slice A n c] w fun e w' => e = .returned (.tuple #[.int .u32 (be32N bs n), .bool (isLen 4 n)]) ∧ w = w' := by
  by_cases h4 : n = 4
  · subst h4
    go_enter Try.func15, Try.ntmps15
    go_wp2_with (go_at_call 38; refine (gather_any _ _ _ _ _ _ h hn).mono ?_; rintro e w' ⟨rfl, rfl⟩)
    go_ret2
    exact ⟨ret_pair (by have := be4_range bs; unfold be32N; rw [if_pos rfl]; omega) rfl, rfl⟩
  · have h5 : ((n : Int) != 4) = true := by simp; omega
    go_enter Try.func15, Try.ntmps15
    go_wp2_with (go_at_call 38; refine (gather_any _ _ _ _ _ _ h hn).mono ?_; rintro e w' ⟨rfl, rfl⟩)
    go_ret2
    exact ⟨ret_pair (by simp [be32N, h4]) (by simp [isLen, h4]), rfl⟩
set_option maxHeartbeats 400000 in
theorem rbe32_any (A : Option Addr) (n c B : Nat) (bs : List UInt8) (w : World) (h : Rd w B A n bs) (hn : n ≤ 140737488355328) :
    Calls Try.prog 16 #[.slice A n c] w fun e w' => e = .returned (.tuple #[.int .u32 (be32N bs n), .bool (isLen 4 n)]) ∧ w = w' := by
  by_cases h4 : n = 4
  · subst h4
    go_enter Try.func16, Try.ntmps16
    go_wp2_with (go_at_call 39; refine (big_any _ _ _ _ _ _ h hn).mono ?_; rintro e w' ⟨rfl, rfl⟩)
    go_ret2
    exact ⟨ret_pair (by have := be4_range bs; unfold be32N; rw [if_pos rfl]; omega) rfl, rfl⟩
  · have h5 : ((n : Int) != 4) = true := by simp; omega
    go_enter Try.func16, Try.ntmps16
    go_wp2_with (go_at_call 39; refine (big_any _ _ _ _ _ _ h hn).mono ?_; rintro e w' ⟨rfl, rfl⟩)
    go_ret2
    exact ⟨ret_pair (by simp [be32N, h4]) (by simp [isLen, h4]), rfl⟩
set_option maxHeartbeats 400000 in
theorem rle32_any (A : Option Addr) (n c B : Nat) (bs : List UInt8) (w : World) (h : Rd w B A n bs) (hn : n ≤ 140737488355328) :
    Calls Try.prog 18 #[.slice A n c] w fun e w' => e = .returned (.tuple #[.int .u32 (le32N bs n), .bool (isLen 4 n)]) ∧ w = w' := by
  by_cases h4 : n = 4
  · subst h4
    go_enter Try.func18, Try.ntmps18
    go_wp2_with (go_at_call 41; refine (little_any _ _ _ _ _ _ h hn).mono ?_; rintro e w' ⟨rfl, rfl⟩)
    go_ret2
    exact ⟨ret_pair (by have := le4_range bs; unfold le32N; rw [if_pos rfl]; omega) rfl, rfl⟩
  · have h5 : ((n : Int) != 4) = true := by simp; omega
    go_enter Try.func18, Try.ntmps18
    go_wp2_with (go_at_call 41; refine (little_any _ _ _ _ _ _ h hn).mono ?_; rintro e w' ⟨rfl, rfl⟩)
    go_ret2
    exact ⟨ret_pair (by simp [le32N, h4]) (by simp [isLen, h4]), rfl⟩
set_option maxHeartbeats 400000 in
theorem be64_any (A : Option Addr) (n c B : Nat) (bs : List UInt8) (w : World) (h : Rd w B A n bs) (hn : n ≤ 140737488355328) :
    Calls Try.prog 19 #[.slice A n c] w fun e w' => e = .returned (.tuple #[.int .u64 (be64N bs n), .bool (isLen 8 n)]) ∧ w = w' := by
  by_cases h4 : n = 8
  · subst h4
    go_enter Try.func19, Try.ntmps19
    go_wp2_with (go_at_call 38; refine (gather_any _ _ _ _ _ _ h hn).mono ?_; rintro e w' ⟨rfl, rfl⟩)
    go_ret2
    exact ⟨ret_pair (by unfold be64N; rw [if_pos rfl]) rfl, rfl⟩
  · have h5 : ((n : Int) != 8) = true := by simp; omega
    go_enter Try.func19, Try.ntmps19
    go_wp2_with (go_at_call 38; refine (gather_any _ _ _ _ _ _ h hn).mono ?_; rintro e w' ⟨rfl, rfl⟩)
    go_ret2
    exact ⟨ret_pair (by simp [be64N, h4]) (by simp [isLen, h4]), rfl⟩
set_option maxHeartbeats 400000 in
theorem rbe64_any (A : Option Addr) (n c B : Nat) (bs : List UInt8) (w : World) (h : Rd w B A n bs) (hn : n ≤ 140737488355328) :
    Calls Try.prog 20 #[.slice A n c] w fun e w' => e = .returned (.tuple #[.int .u64 (be64N bs n), .bool (isLen 8 n)]) ∧ w = w' := by
  by_cases h4 : n = 8
  · subst h4
    go_enter Try.func20, Try.ntmps20
    go_wp2_with (go_at_call 39; refine (big_any _ _ _ _ _ _ h hn).mono ?_; rintro e w' ⟨rfl, rfl⟩)
    go_ret2
    exact ⟨ret_pair (by unfold be64N; rw [if_pos rfl]) rfl, rfl⟩
  · have h5 : ((n : Int) != 8) = true := by simp; omega
    go_enter Try.func20, Try.ntmps20
    go_wp2_with (go_at_call 39; refine (big_any _ _ _ _ _ _ h hn).mono ?_; rintro e w' ⟨rfl, rfl⟩)
    go_ret2
    exact ⟨ret_pair (by simp [be64N, h4]) (by simp [isLen, h4]), rfl⟩
set_option maxHeartbeats 400000 in
theorem le32_any (A : Option Addr) (n c B : Nat) (bs : List UInt8) (w : World) (h : Rd w B A n bs) (hn : n ≤ 140737488355328) :
    Calls Try.prog 17 #[.slice A n c] w fun e w' => e = .returned (.tuple #[.int .u32 (le32N bs n), .bool (isLen 4 n)]) ∧ w = w' := by
  go_enter Try.func17, Try.ntmps17
  go_wp2_with (first
    | (go_at_call 15; refine (be32_any _ _ _ _ _ _ h hn).mono ?_; rintro e w' ⟨rfl, rfl⟩)
    | (go_at_call 40; refine (rev_any _ _).mono ?_; rintro e w' ⟨rfl, rfl⟩))
  go_ret2
  exact ⟨ret_pair (rev_be32N bs n) rfl, rfl⟩
end Go.Proofs.Ytllkbfhkpnncgaa
