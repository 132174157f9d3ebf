/- Walks over Xor, Both, spread, PutBe64, PutBe32 of the program and of the reference; own lemmas of the verifier, no statement is proved here. -/
import Derived.Test.YtpfkcplldhdipaaDoorW1
namespace Go.Proofs.YtpfkcplldhdipaaDoor
open Go.RowKit
/-- The sum (xor) of two rows of bytes. -/
def xorF (xs ys : List UInt8) (i : Nat) : UInt8 := xs.getD i 0 ^^^ ys.getD i 0
def xorL (xs ys : List UInt8) (n : Nat) : List UInt8 := (List.range n).map (xorF xs ys)
theorem xorF_val (xs ys : List UInt8) (k : Nat) : ((xorF xs ys k).toNat : Int) = bits .xor .u8 (byteAt xs k) (byteAt ys k) := by
  unfold xorF byteAt
  rw [UInt8.toNat_xor, u8_xor_nat _ _ (UInt8.toNat_lt _) (UInt8.toNat_lt _)]
theorem Own.drew {w : World} {base : Nat} {v : Value} {bs : List UInt8} (h : Own w base v bs) : Own w.drew base v bs := h
set_option maxHeartbeats 400000 in
theorem xor_eq (A A' : Option Addr) (n c c' : Nat) (xs ys : List UInt8) (w : World) (h : Rd w w.heap.size A n xs) (h' : Rd w w.heap.size A' n ys) (hn : n ≤ 140737488355328) :
    Calls Tryd.prog 51 #[.slice A n c, .slice A' n c'] w fun e w' => ∃ v, e = .returned (.tuple #[v, .bool true]) ∧ Own w' w.heap.size v (xorL xs ys n) ∧ Below w.heap.size w w' := by
  go_enter Tryd.func51, Tryd.ntmps51
  go_wp2_with (at_make; refine wpL_make rfl (.tmp 15) (.tmp 15) 22 rfl Tryd.underlying22 Tryd.info5 .i64 n n rfl rfl rfl (by omega) w.heap.size (Nat.le_refl _) ?_; intro w1 hown1 hb1 _)
  go_loopw [19] (fun i wr => ∃ k : Nat, k ≤ n ∧ i = .int .i64 k ∧ Own wr w.heap.size (.slice (some ⟨w.heap.size, 0, none⟩) n n) (fillTo (xorF xs ys) n k) ∧ Below w.heap.size w wr) (fun i _ => n - (intOf i).toNat)
  case atStart => exact ⟨0, Nat.zero_le _, rfl, by rw [fillTo_zero]; exact hown1, hb1⟩
  case round =>
    obtain ⟨k, hk, rfl, hown, hb⟩ := hrel
    by_cases hlt : k < n
    · obtain ⟨b1, o1, rfl, hb1', hc1⟩ := (h.below hb (Nat.le_refl _)).at_ (by omega)
      obtain ⟨b2, o2, rfl, hb2', hc2⟩ := (h'.below hb (Nat.le_refl _)).at_ (by omega)
      have hck1 := hc1 k hlt
      have hck2 := hc2 k hlt
      have r1 := byteAt_lo xs k; have r2 := byteAt_hi xs k; have r3 := byteAt_lo ys k; have r4 := byteAt_hi ys k
      obtain ⟨cur, hcur⟩ : ∃ cur, fillTo (xorF xs ys) n k = cur := ⟨_, rfl⟩
      have hcl : cur.length = n := by rw [← hcur]; exact fillTo_length _ _ _
      rw [hcur] at hown
      have hown0 : Own wr w.heap.size (.slice (some ⟨w.heap.size, 0, none⟩) cur.length n) cur := by rw [hcl]; exact hown
      have hcell := hown0.cell k (by omega)
      have hfree := hown0.free k
      have hset := hown0.set_ k (xorF xs ys k)
      rw [← hcur, fillTo_set _ _ _ _ rfl, fillTo_length] at hset
      rw [xorF_val] at hset
      have HH := hid hset
      have HB := hid hb
      clear hset hown0 hown hb hcl hcur hown1 hb1 h h' hc1 hc2
      go_wp2
      go_roundw
      case rel => exact ⟨k + 1, by omega, by go_num, HH.out, HB.out.setCell (by simp) _⟩
      case measure => simp [intOf]; omega
    · obtain rfl : k = n := by omega
      have HH := hid (And.intro hown hb)
      clear hown hb hown1 hb1
      go_wp2
      go_ret2
      exact ⟨_, rfl, by have := HH.out.1; rw [fillTo_full] at this; exact this, HH.out.2⟩
set_option maxHeartbeats 400000 in
theorem both_any (A A' : Option Addr) (n c c' : Nat) (xs ys : List UInt8) (w : World) (h : Rd w w.heap.size A n xs) (h' : Rd w w.heap.size A' n ys) (hn : n ≤ 140737488355328) :
    Calls Tryd.prog 20 #[.slice A n c, .slice A' n c'] w (RetB w (xorL xs ys n)) := by
  go_enter Tryd.func20, Tryd.ntmps20
  go_wp2_with (at_make; refine wpL_make rfl (.tmp 8) (.tmp 8) 22 rfl Tryd.underlying22 Tryd.info5 .i64 n n rfl rfl rfl (by omega) w.heap.size (Nat.le_refl _) ?_; intro w1 hown1 hb1 _)
  go_loopw [6] (fun i wr => ∃ k : Nat, k ≤ n ∧ i = .int .i64 k ∧ Own wr w.heap.size (.slice (some ⟨w.heap.size, 0, none⟩) n n) (fillTo (xorF xs ys) n k) ∧ Below w.heap.size w wr) (fun i _ => n - (intOf i).toNat)
  case atStart => exact ⟨0, Nat.zero_le _, rfl, by rw [fillTo_zero]; exact hown1, hb1⟩
  case round =>
    obtain ⟨k, hk, rfl, hown, hb⟩ := hrel
    by_cases hlt : k < n
    · obtain ⟨b1, o1, rfl, hb1', hc1⟩ := (h.below hb (Nat.le_refl _)).at_ (by omega)
      obtain ⟨b2, o2, rfl, hb2', hc2⟩ := (h'.below hb (Nat.le_refl _)).at_ (by omega)
      have hck1 := hc1 k hlt
      have hck2 := hc2 k hlt
      have r1 := byteAt_lo xs k; have r2 := byteAt_hi xs k; have r3 := byteAt_lo ys k; have r4 := byteAt_hi ys k
      obtain ⟨cur, hcur⟩ : ∃ cur, fillTo (xorF xs ys) n k = cur := ⟨_, rfl⟩
      have hcl : cur.length = n := by rw [← hcur]; exact fillTo_length _ _ _
      rw [hcur] at hown
      have hown0 : Own wr w.heap.size (.slice (some ⟨w.heap.size, 0, none⟩) cur.length n) cur := by rw [hcl]; exact hown
      have hcell := hown0.cell k (by omega)
      have hfree := hown0.free k
      have hset := hown0.set_ k (xorF xs ys k)
      rw [← hcur, fillTo_set _ _ _ _ rfl, fillTo_length] at hset
      rw [xorF_val] at hset
      have HH := hid hset
      have HB := hid hb
      clear hset hown0 hown hb hcl hcur hown1 hb1 h h' hc1 hc2
      go_wp2
      go_region
      go_wp2
      go_roundw
      case rel => exact ⟨k + 1, by omega, by go_num, HH.out, (HB.out.setCell (by simp) _).drew⟩
      case measure => simp [intOf]; omega
    · obtain rfl : k = n := by omega
      have HH := hid (And.intro hown hb)
      clear hown hb hown1 hb1
      go_wp2
      go_ret
      exact ⟨_, rfl, by have := HH.out.1; rw [fillTo_full] at this; exact this, HH.out.2⟩
set_option maxHeartbeats 400000 in
theorem spread_any (v : Int) (n : Nat)  (w : World) (hn : n ≤ 8) :
    Calls Tryd.prog 67 #[.int .u64 v, .int .i64 n] w (RetB w (spreadL v n)) := by
  go_enter Tryd.func67, Tryd.ntmps67
  go_wp2_with (at_make; refine wpL_make rfl (.tmp 7) (.tmp 7) 22 rfl Tryd.underlying22 Tryd.info5 .i64 n n rfl rfl rfl (by omega) w.heap.size (Nat.le_refl _) ?_; intro w1 hown1 hb1 _)
  go_loopw [11] (fun i wr => ∃ k : Nat, k ≤ n ∧ i = .int .i64 k ∧ Own wr w.heap.size (.slice (some ⟨w.heap.size, 0, none⟩) n n) (fillTo (spreadF v n) n k) ∧ Below w.heap.size w wr) (fun i _ => n - (intOf i).toNat)
  case atStart => exact ⟨0, Nat.zero_le _, rfl, by rw [fillTo_zero]; exact hown1, hb1⟩
  case round =>
    obtain ⟨k, hk, rfl, hown, hb⟩ := hrel
    by_cases hlt : k < n
    · obtain ⟨cur, hcur⟩ : ∃ cur, fillTo (spreadF v n) n k = cur := ⟨_, rfl⟩
      have hcl : cur.length = n := by rw [← hcur]; exact fillTo_length _ _ _
      rw [hcur] at hown
      have hown0 : Own wr w.heap.size (.slice (some ⟨w.heap.size, 0, none⟩) cur.length n) cur := by rw [hcl]; exact hown
      have hcell := hown0.cell k (by omega)
      have hfree := hown0.free k
      have hset := hown0.set_ k (spreadF v n k)
      rw [← hcur, fillTo_set _ _ _ _ rfl, fillTo_length] at hset
      have hval : ((spreadF v n k).toNat : Int) = v / 2 ^ (8 * (n - 1 - k)) % 256 := by unfold spreadF; exact u8_toNat _
      rw [hval] at hset
      have HH := hid hset
      have HB := hid hb
      clear hset hval hown0 hown hb hcl hcur hown1 hb1
      go_wp2
      go_roundw
      case rel => exact ⟨k + 1, by omega, by go_num, HH.out, HB.out.setCell (by simp) _⟩
      case measure => simp [intOf]; omega
    · obtain rfl : k = n := by omega
      have HH := hid (And.intro hown hb)
      clear hown hb hown1 hb1
      go_wp2
      go_ret
      exact ⟨_, rfl, by have := HH.out.1; rw [fillTo_full] at this; exact this, HH.out.2⟩

set_option maxHeartbeats 400000 in
theorem putBe64_any (v : Int) (w : World) :
    Calls Tryd.prog 63 #[.int .u64 v] w (RetB w (spreadL v 8)) := by
  go_enter Tryd.func63, Tryd.ntmps63
  go_wp2_with (go_at_call 67; refine (spread_any _ 8 _ (by omega)).mono ?_; rintro e w' ⟨x, rfl, hx, hb⟩)
  go_ret
  exact ⟨_, rfl, hx, hb⟩
set_option maxHeartbeats 400000 in
theorem rput32_any (v : Int) (w : World) :
    Calls Tryd.prog 65 #[.int .u32 v] w (RetB w (put32 v)) := by
  go_enter Tryd.func65, Tryd.ntmps65
  go_wp2
  go_ret
  refine ⟨_, rfl, ?_, (Below.refl _ _).alloc (Nat.le_refl _) _⟩
  exact Own.lit w (put32 v) _ 4 w.heap.size (by simp [put32, cellsOf, u8_toNat]) rfl (by unfold maxLen; omega) (Nat.le_refl _)
set_option maxHeartbeats 400000 in
theorem rput64_any (v : Int) (w : World) :
    Calls Tryd.prog 56 #[.int .u64 v] w (RetB w (spreadL v 8)) := by
  go_enter Tryd.func56, Tryd.ntmps56
  go_wp2_with fail
  refine (rput32_any _ _).mono ?_
  rintro e w1 ⟨x, rfl, hx, hb⟩
  go_wp2_with fail
  refine (rput32_any _ _).mono ?_
  rintro e w2 ⟨y, rfl, hy, hb2⟩
  have hx2 := hx.kept hb2
  obtain ⟨A, c, rfl, hrd, _, _⟩ := hy.rd
  have hsz := hb.size
  have hsz2 := hb2.size
  go_wp2_with (at_builtin; refine wpL_append _ rfl (.tmp 6) (.tmp 9) 22 rfl Tryd.underlying22 Tryd.info5 w.heap.size x _ rfl hx2 _ A _ c _ rfl hrd (by simp [put32]) (by omega) ?_; intro v3 w3 hown3 hb3)
  go_ret
  refine ⟨_, rfl, ?_, ((hb.trans (hb2.mono hsz)).trans hb3)⟩
  rw [spread8]
  have e : put32 (v / 4294967296) = put32 (v / 4294967296 % 4294967296) := by
    simp only [put32]
    congr 1
    · apply u8_congr; omega
    congr 1
    · apply u8_congr; omega
    congr 1
    · apply u8_congr; omega
    congr 1
    apply u8_congr; omega
  rw [e]
  exact hown3
end Go.Proofs.YtpfkcplldhdipaaDoor
