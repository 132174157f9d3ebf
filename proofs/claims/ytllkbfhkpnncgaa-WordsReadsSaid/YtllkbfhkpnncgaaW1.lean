/- Walks over the functions that the laws of chapter 1 call: what each call returns, and that it leaves old memory as it was; own lemmas of the verifier, no statement is proved here. -/
import Derived.Test.YtllkbfhkpnncgaaProg
import Derived.Test.YtllkbfhkpnncgaaMem
namespace Go.Proofs.Ytllkbfhkpnncgaa
open Go.RowKit
theorem ret_int {k : IntKind} {a b : Int} (h : a = b) : Ending.returned (.int k a) = .returned (.int k b) := by rw [h]
theorem tmod_neg (a n : Int) (hn : 0 < n) (h : a.tmod n < 0) : a.tmod n + n = a % n := by
  have h := @Int.tmod_eq_emod a n
  have h1 := Int.emod_nonneg a (Int.ne_of_gt hn)
  have h2 := Int.emod_lt_of_pos a hn
  split at h <;> omega
theorem tmod_pos (a n : Int) (hn : 0 < n) (h : ¬ a.tmod n < 0) : a.tmod n = a % n := by
  have h := @Int.tmod_eq_emod a n
  have h1 := Int.emod_nonneg a (Int.ne_of_gt hn)
  have h2 := Int.emod_lt_of_pos a hn
  split at h <;> omega
theorem tmod_lo (a n : Int) (hn : 0 < n) : - n < a.tmod n := by
  have h := @Int.tmod_eq_emod a n
  have h1 := Int.emod_nonneg a (Int.ne_of_gt hn)
  have h2 := Int.emod_lt_of_pos a hn
  split at h <;> omega
theorem tmod_add_emod (a n : Int) (hn : 0 < n) : (a.tmod n + n) % n = a % n := by
  have h := @Int.tmod_eq_emod a n
  rw [Int.add_emod_right]
  split at h
  · rw [h]; simp
  · rw [h, Int.sub_emod]; 
    have : (n.natAbs : Int) % n = 0 := by rw [Int.natAbs_of_nonneg (by omega)]; simp
    rw [this]; simp
set_option maxHeartbeats 400000 in
theorem within_any (a n : Int) (w : World) (h0 : 0 < n) (h1 : n ≤ 9223372036854775807) :
    Calls Try.prog 27 #[.int .i64 a, .int .i64 n] w fun e w' => e = .returned (.int .i64 (a % n)) ∧ w = w' := by
  have b1 := Int.tmod_lt_of_pos a h0
  by_cases hc : a.tmod n < 0
  · have hf := tmod_neg a n h0 hc
    have b2 := Int.emod_nonneg a (Int.ne_of_gt h0)
    have b3 : 0 ≤ a.tmod n + n := by omega
    have HF := hid hf; clear hf b2
    go_enter Try.func27, Try.ntmps27
    go_wp2
    go_ret
    exact ⟨ret_int HF.out, rfl⟩
  · have hf := tmod_pos a n h0 hc
    have HF := hid hf; clear hf
    go_enter Try.func27, Try.ntmps27
    go_wp2
    go_ret
    exact ⟨ret_int HF.out, rfl⟩
set_option maxHeartbeats 400000 in
theorem rest_any (a n : Int) (w : World) (h0 : 0 < n) (h1 : n ≤ 9223372036854775807) :
    Calls Try.prog 46 #[.int .i64 a, .int .i64 n] w fun e w' => e = .returned (.int .i64 (a % n)) ∧ w = w' := by
  have b1 := Int.tmod_lt_of_pos a h0
  by_cases hc : a.tmod n < 0
  · have hf := tmod_neg a n h0 hc
    have b2 := Int.emod_nonneg a (Int.ne_of_gt h0)
    have b3 : 0 ≤ a.tmod n + n := by omega
    have HF := hid hf; clear hf b2
    go_enter Try.func46, Try.ntmps46
    go_wp2
    go_ret
    exact ⟨ret_int HF.out, rfl⟩
  · have hf := tmod_pos a n h0 hc
    have HF := hid hf; clear hf
    go_enter Try.func46, Try.ntmps46
    go_wp2
    go_ret
    exact ⟨ret_int HF.out, rfl⟩
set_option maxHeartbeats 400000 in
theorem rrest_any (a n : Int) (w : World) (h0 : 0 < n) (h1 : n ≤ 4611686018427387903) :
    Calls Try.prog 44 #[.int .i64 a, .int .i64 n] w fun e w' => e = .returned (.int .i64 (a % n)) ∧ w = w' := by
  have b1 := Int.tmod_lt_of_pos a h0
  have b2 := tmod_lo a n h0
  have hf := tmod_add_emod a n h0
  have HF := hid hf; clear hf
  go_enter Try.func44, Try.ntmps44
  go_wp2
  go_ret
  exact ⟨ret_int HF.out, rfl⟩
theorem and31 (n : Int) : bits .and .u64 (IntKind.u64.wrap n) 31 = n % 32 := by
  rw [IntKind.wrap_u64, show (31 : Int) = ((31 : Nat) : Int) from rfl, show n % 18446744073709551616 = ((n % 18446744073709551616).toNat : Int) by omega, u64_and_nat _ _ (by omega) (by omega), nat_mask5]
  omega
theorem and7 (n : Int) : bits .and .u64 (IntKind.u64.wrap n) 7 = n % 8 := by
  rw [IntKind.wrap_u64, show (7 : Int) = ((7 : Nat) : Int) from rfl, show n % 18446744073709551616 = ((n % 18446744073709551616).toNat : Int) by omega, u64_and_nat _ _ (by omega) (by omega), nat_mask3]
  omega
/-- Turned to the left by s < 32 bits. -/
def rol32 (a : Int) (s : Nat) : Int := bits .or .u32 (a * 2 ^ s % 4294967296) (a / 2 ^ (32 - s))
def rol8 (a : Int) (s : Nat) : Int := bits .or .u8 (a * 2 ^ s % 256) (a / 2 ^ (8 - s))
set_option maxHeartbeats 400000 in
theorem rl32 (a n : Int) (w : World) :
    Calls Try.prog 28 #[.int .u32 a, .int .i64 n] w fun e w' => e = .returned (.int .u32 (rol32 a (n % 32).toNat)) ∧ w = w' := by
  have hs := and31 n
  obtain ⟨s, hsn⟩ : ∃ s : Nat, n % 32 = s := ⟨(n % 32).toNat, by omega⟩
  have hs1 : s ≤ 31 := by omega
  rw [hsn] at hs
  have HS := hid (show (n % 32).toNat = s by omega)
  clear hsn
  go_enter Try.func28, Try.ntmps28
  go_wp2
  go_ret
  exact ⟨ret_int (by rw [HS.out]; rfl), rfl⟩
set_option maxHeartbeats 400000 in
theorem rl8 (a n : Int) (w : World) :
    Calls Try.prog 30 #[.int .u8 a, .int .i64 n] w fun e w' => e = .returned (.int .u8 (rol8 a (n % 8).toNat)) ∧ w = w' := by
  have hs := and7 n
  obtain ⟨s, hsn⟩ : ∃ s : Nat, n % 8 = s := ⟨(n % 8).toNat, by omega⟩
  have hs1 : s ≤ 7 := by omega
  rw [hsn] at hs
  have HS := hid (show (n % 8).toNat = s by omega)
  clear hsn
  go_enter Try.func30, Try.ntmps30
  go_wp2
  go_ret
  exact ⟨ret_int (by rw [HS.out]; rfl), rfl⟩
set_option maxHeartbeats 400000 in
theorem rrl32 (a n : Int) (w : World) :
    Calls Try.prog 29 #[.int .u32 a, .int .i64 n] w fun e w' => e = .returned (.int .u32 (rol32 a (n % 32).toNat)) ∧ w = w' := by
  obtain ⟨s, hsn⟩ : ∃ s : Nat, n % 32 = s := ⟨(n % 32).toNat, by omega⟩
  have hs1 : s ≤ 31 := by omega
  have HS := hid (show (n % 32).toNat = s by omega)
  go_enter Try.func29, Try.ntmps29
  go_wp2_with (go_at_call 44; refine (rrest_any _ _ _ (by omega) (by omega)).mono ?_; rintro e w' ⟨rfl, rfl⟩)
  go_ret
  exact ⟨ret_int (by rw [HS.out]; rfl), rfl⟩
set_option maxHeartbeats 400000 in
theorem rrl8 (a n : Int) (w : World) :
    Calls Try.prog 31 #[.int .u8 a, .int .i64 n] w fun e w' => e = .returned (.int .u8 (rol8 a (n % 8).toNat)) ∧ w = w' := by
  obtain ⟨s, hsn⟩ : ∃ s : Nat, n % 8 = s := ⟨(n % 8).toNat, by omega⟩
  have hs1 : s ≤ 7 := by omega
  have HS := hid (show (n % 8).toNat = s by omega)
  go_enter Try.func31, Try.ntmps31
  go_wp2_with (go_at_call 44; refine (rrest_any _ _ _ (by omega) (by omega)).mono ?_; rintro e w' ⟨rfl, rfl⟩)
  go_ret
  exact ⟨ret_int (by rw [HS.out]; rfl), rfl⟩
theorem Try.info5 : (Try.prog.info? 5).map (fun i => (i.zero, i.size, i.bytes)) = some (some (.int .u8 0), 1, 1) := by kernel_rfl
def IncJ (w : World) (A : Option Addr) (n c g : Nat) (bs : List UInt8) (a : Act) (w1 : World) : Prop :=
  ∃ (i : Nat) (u5 u6 u7 u8 u9 u10 u11 u12 u13 u14 u15 u16 u17 u18 u19 u20 u21 u22 u23 u24 u25 u26 u27 u28 u29 : Value),
    a = { tmps := #[.slice A n c, undef, .slice none 0 0, .slice (some ⟨g, 0, none⟩) n n, .int .i64 i, u5, u6, u7, u8, u9, u10, u11, u12, u13, u14, u15, u16, u17, u18, u19, u20, u21, u22, u23, u24, u25, u26, u27, u28, u29], defers := [] } ∧
    i ≤ n ∧ Own w1 w.heap.size (.slice (some ⟨g, 0, none⟩) n n) (bs.take i ++ List.replicate (n - i) 0) ∧ Below w.heap.size w w1 ∧ incB bs = incB (bs.take i) ++ List.replicate (n - i) 0
set_option maxHeartbeats 1000000 in
theorem inc_any (A : Option Addr) (n c : Nat) (bs : List UInt8) (w : World) (h : Rd w w.heap.size A n bs) (hn : n ≤ 140737488355328) :
    Calls Try.prog 36 #[.slice A n c] w (RetB w (incB bs)) := by
  go_enter Try.func36, Try.ntmps36
  go_wp2
  refine wp_scope_jumps2 0 (IncJ w A n c w.heap.size bs) (fun a' _ => (intOf (a'.tmps.getD 4 undef)).toNat) rfl ?_ ?_
  · rintro a w1 ⟨i, u5, u6, u7, u8, u9, u10, u11, u12, u13, u14, u15, u16, u17, u18, u19, u20, u21, u22, u23, u24, u25, u26, u27, u28, u29, rfl, hi, hown, hb, hI⟩
    have hl := h.len
    rcases Nat.eq_zero_or_pos i with rfl | hpos
    · have hown' : Own w1 w.heap.size (.slice (some ⟨w.heap.size, 0, none⟩) n n) (incB bs) := by
        rw [hI]; simpa [incB_nil] using hown
      have HL := hid hl
      clear hI hown hl
      go_wp2
      simp only [Exit.jump]
      go_ret
      exact ⟨_, rfl, hown', hb⟩
    · obtain ⟨j, rfl⟩ : ∃ j, i = j + 1 := ⟨i - 1, by omega⟩
      obtain ⟨cur, hcur⟩ : ∃ cur, cur = bs.take (j + 1) ++ List.replicate (n - (j + 1)) (0 : UInt8) := ⟨_, rfl⟩
      have hcl : cur.length = n := by rw [hcur]; simp; omega
      have hget : cur.getD j 0 = bs.getD j 0 := by rw [hcur]; exact inc_get bs n j hl (by omega)
      rw [← hcur] at hown
      have hown0 : Own w1 w.heap.size (.slice (some ⟨w.heap.size, 0, none⟩) cur.length n) cur := by rw [hcl]; exact hown
      have hcell := hown0.cell j (by omega)
      have hfree := hown0.free j
      have hlt := hown.base_le
      by_cases hx : bs.getD j 0 + 1 = 0
      · have hov := inc_over bs n j hl (by omega) hI hx
        rw [← hcur] at hov
        have hx8 : byteAt cur j = 255 := by
          unfold byteAt; rw [hget]
          have h1 := congrArg UInt8.toNat hx
          simp [UInt8.toNat_add] at h1
          have := (bs.getD j 0).toNat_lt
          simp at *; omega
        rw [hx8] at hcell
        have hset := hown0.set_ j 0
        rw [hov.2, hcl] at hset
        have HH := hid (And.intro hov.1 hset)
        have HB := hid (And.intro hb hlt)
        clear hov hset hI hcur hget hx8 hown0 hown hx hb hlt hcl hl h
        go_wp2
        go_step3
        (try simp only [Exit.jump])
        refine ⟨rfl, ⟨j, _, _, _, _, _, _, _, _, _, _, _, _, _, _, _, _, _, _, _, _, _, _, _, _, _, rfl, by omega, HH.out.2, HB.out.1.setCell (by simp) _, HH.out.1⟩, ?_⟩
        simp [intOf]
      · have hst := inc_stop bs n j hl (by omega) hI hx
        rw [← hcur] at hst
        have hset := hown0.set_ j (bs.getD j 0 + 1)
        rw [hst, hcl] at hset
        obtain ⟨X, hX⟩ : ∃ X : Int, byteAt cur j = X := ⟨_, rfl⟩
        have hX1 : 0 ≤ X := by rw [← hX]; exact byteAt_lo _ _
        have hX3 : ((bs.getD j 0 + 1).toNat : Int) = X + 1 ∧ X ≤ 254 := by
          rw [← hX]; unfold byteAt; rw [hget]
          have h1 : ¬ (bs.getD j 0).toNat = 255 := fun h2 => hx (by
            apply UInt8.toNat_inj.1; simp [UInt8.toNat_add] at h2 ⊢; omega)
          have := (bs.getD j 0).toNat_lt
          rw [UInt8.toNat_add]; simp at *; omega
        have hX2 := hX3.2
        rw [hX3.1] at hset
        rw [hX] at hcell
        have HH := hid hset
        have HB := hid (And.intro hb hlt)
        clear hset hst hX3 hX hI hcur hget hown0 hown hx hb hlt hcl hl h
        go_wp2
        (try simp only [Exit.jump])
        go_ret
        exact ⟨_, rfl, HH.out, HB.out.1.setCell (by simp) _⟩
  · intro hrest
    go_wp2_with (first
      | (at_make; refine wpL_make rfl (.tmp 6) (.tmp 6) 22 rfl Try.underlying22 Try.info5 .i64 n n rfl rfl rfl hn w.heap.size (Nat.le_refl _) ?_; intro w1 hown1 hb1 _)
      | (with_reducible refine wpL_copy rfl (.tmp 8) (.tmp 9) 22 rfl Try.underlying22 Try.info5 w.heap.size n c A rfl rfl w.heap.size (List.replicate n 0) bs hown1 (by simp) w.heap.size (h.below hb1 (Nat.le_refl _)) w.heap.size w hb1 (Nat.le_refl _) ?_; intro w2 hown2 hb2))
    go_step3
    rename_i hk
    apply hk
    refine hrest.out _ _ ⟨n, _, _, _, _, _, _, _, _, _, _, _, _, _, _, _, _, _, _, _, _, _, _, _, _, _, rfl, Nat.le_refl _, ?_, hb2, ?_⟩
    · have := h.len
      rw [List.take_of_length_le (by omega)]; simpa using hown2
    · have := h.len
      rw [List.take_of_length_le (by omega)]; simp
end Go.Proofs.Ytllkbfhkpnncgaa
