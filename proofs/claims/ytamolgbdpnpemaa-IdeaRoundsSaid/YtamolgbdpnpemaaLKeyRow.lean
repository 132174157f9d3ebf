/- The law on keys as the key's own bits, walked; own text of the verifier. -/
import Derived.Test.YtamolgbdpnpemaaLEnds
namespace Go.Proofs.Ytamolgbdpnpemaa
open Go.RowKit
/-- Bit number p of a row of bytes, as a number. -/
def bN (bs : List UInt8) (p : Nat) : Nat := nb bs (p / 8) / 2 ^ (7 - p % 8) % 2
theorem bN_bit (bs : List UInt8) (p : Nat) : bN bs p = (bitOf bs p).toNat := by
  unfold bN bitOf nb
  rw [Nat.testBit_eq_decide_div_mod_eq]
  have h := Nat.mod_lt ((bs.getD (p / 8) 0).toNat / 2 ^ (7 - p % 8)) (show 0 < 2 by omega)
  generalize (bs.getD (p / 8) 0).toNat / 2 ^ (7 - p % 8) % 2 = q at h
  match q, h with
  | 0, _ => rfl
  | 1, _ => rfl
def wR (bs : List UInt8) (s : Nat) : Nat → Nat
  | 0 => 0
  | j + 1 => 2 * wR bs s j + bN bs (s + j)
def wK (key : List UInt8) (at_ : Nat) : Nat → Nat
  | 0 => 0
  | j + 1 => 2 * wK key at_ j + bN key ((at_ + j) % 128)
theorem byte_bits (x : Nat) (h : x < 256) : 2 * (2 * (2 * (2 * (2 * (2 * (2 * (2 * 0 + x / 2 ^ 7 % 2) + x / 2 ^ 6 % 2) + x / 2 ^ 5 % 2) + x / 2 ^ 4 % 2) + x / 2 ^ 3 % 2) + x / 2 ^ 2 % 2) + x / 2 ^ 1 % 2) + x / 2 ^ 0 % 2 = x := by
  omega
theorem bN_at (bs : List UInt8) (q j : Nat) (h : j < 8) : bN bs (8 * q + j) = nb bs q / 2 ^ (7 - j) % 2 := by
  unfold bN
  rw [show (8 * q + j) / 8 = q by omega, show (8 * q + j) % 8 = j by omega]
theorem wR_8 (bs : List UInt8) (q : Nat) : wR bs (8 * q) 8 = nb bs q := by
  have h := byte_bits (nb bs q) (nb_lt bs q)
  simp only [wR]
  rw [bN_at bs q 0 (by omega), bN_at bs q 1 (by omega), bN_at bs q 2 (by omega), bN_at bs q 3 (by omega), bN_at bs q 4 (by omega), bN_at bs q 5 (by omega), bN_at bs q 6 (by omega), bN_at bs q 7 (by omega)]
  exact h
theorem wR_add (bs : List UInt8) (s m : Nat) : ∀ n, wR bs s (m + n) = wR bs s m * 2 ^ n + wR bs (s + m) n
  | 0 => by simp [wR]
  | n + 1 => by
    rw [← Nat.add_assoc, wR, wR, wR_add bs s m n, Nat.pow_succ, Nat.add_assoc s m n]
    have : wR bs s m * (2 ^ n * 2) = 2 * (wR bs s m * 2 ^ n) := by rw [← Nat.mul_assoc, Nat.mul_comm]
    omega
theorem wR_num (bs : List UInt8) (q : Nat) : wR bs (16 * q) 16 = numF bs q := by
  have h := wR_add bs (16 * q) 8 8
  rw [show 16 * q = 8 * (2 * q) by omega, wR_8, show 8 * (2 * q) + 8 = 8 * (2 * q + 1) by omega, wR_8] at h
  rw [show 16 * q = 8 * (2 * q) by omega]
  unfold numF
  rw [show (16 : Nat) = 8 + 8 from rfl, h]
  omega
theorem row_bit {key : List UInt8} : ∀ r p, p < 128 → bN (rowT key r) p = bN key ((p + 25 * r) % 128)
  | 0, p, h => by rw [rowT, Nat.mul_zero, Nat.add_zero, Nat.mod_eq_of_lt h]
  | r + 1, p, h => by
    have hb := turn_bit (rowT key r) 16 (tf 25 16) (ts 25) p (by decide) (by omega)
    rw [rowT, bN_bit, hb, show 8 * tf 25 16 + ts 25 = 25 by decide, show 8 * 16 = 128 from rfl, ← bN_bit, row_bit r _ (Nat.mod_lt _ (by omega))]
    congr 1
    omega
theorem wR_wK {key : List UInt8} (r q : Nat) (hq : q < 8) : ∀ j, j ≤ 16 → wR (rowT key r) (16 * q) j = wK key (25 * r + 16 * q) j
  | 0, _ => rfl
  | j + 1, h => by
    rw [wR, wK, wR_wK r q hq j (by omega), row_bit r _ (by omega)]
    congr 2
    congr 1
    omega
theorem key_bits (key : List UInt8) (i : Nat) : keyF key i = wK key (25 * (i / 8) + 16 * (i % 8)) 16 := by
  unfold keyF
  rw [← wR_num, wR_wK _ _ (Nat.mod_lt _ (by omega)) 16 (Nat.le_refl _)]
theorem bN_le (bs : List UInt8) (p : Nat) : bN bs p ≤ 1 := by unfold bN; omega
theorem wK_lt (key : List UInt8) (a : Nat) : ∀ j, wK key a j < 2 ^ j
  | 0 => by simp [wK]
  | j + 1 => by
    have := wK_lt key a j
    have := bN_le key ((a + j) % 128)
    rw [wK, Nat.pow_succ]; omega
theorem u8_and_one (q : Nat) (h : q < 256) : bits .and .u8 (q : Int) 1 = ((q % 2 : Nat) : Int) := by
  rw [show (1 : Int) = ((1 : Nat) : Int) from rfl, u8_and_nat _ _ h (by omega), nat_mask1]
set_option maxRecDepth 100000 in
set_option maxHeartbeats 4000000 in
theorem keyrow_walk (a0 : Option Addr) (len0 cap0 : Nat) (z0 : List Int) (w : World) (w0 : IsRow .u8 w a0 len0 cap0 z0) :
    Calls Try.prog 7 #[.slice a0 len0 cap0] w fun e w' => e = .returned (.bool true) ∧ Below w.heap.size w w' := by
  obtain ⟨ks, hr0, hmax0, _⟩ := w0.rdc
  unfold maxLen at hmax0
  have H0 := hid hr0
  clear w0 hr0
  go_enter Try.func7, Try.ntmps7
  go_wp2_with fail
  refine (known_any _).mono ?_
  rintro e w1 ⟨rfl, hx1⟩
  have HX1 := hid hx1
  clear hx1
  go_wp2_with fail
  refine (bytes_rd _ 16 _ _ _ _ (H0.out.later HX1.out) (by omega) (by omega)).mono ?_
  rintro e w3 ⟨A3, c3, rfl, hc3, hr3, hx3⟩
  have HX3 := hid (Ext.trans HX1.out hx3)
  have HR3 := hid hr3
  clear hr3 hx3 HX1
  go_wp2_with fail
  refine (keys_any _ _ _ _ HR3.out).mono ?_
  rintro e w4 ⟨g, rfl, _, hb4, hx4⟩
  have HX4 := hid (Ext.trans HX3.out hx4)
  have HB4 := hid hb4
  have HR4 := hid (HR3.out.later hx4)
  clear hb4 hx4 HX3 HR3
  obtain ⟨key, hkey⟩ : ∃ key, byL 16 ks = key := ⟨_, rfl⟩
  rw [hkey] at HB4 HR4
  clear hkey
  obtain ⟨bk, ok, rfl, _, _⟩ := HR4.out.at_ (by omega)
  go_wp2_with fail
  go_loopw [6] (fun i wr => ∃ k : Nat, k ≤ 8 ∧ i = .int .i64 k ∧ Ext w4 wr) (fun i _ => 8 - (intOf i).toNat)
  case atStart => exact ⟨0, by omega, rfl, Ext.refl _⟩
  case round =>
    obtain ⟨k, hk, rfl, hx⟩ := hrel
    by_cases hlt : k < 8
    · obtain ⟨b, o, e1, _, hc⟩ := (HR4.out.later hx).at_ (by omega)
      cases e1
      have hc1 := (HB4.out.later hx).cell k (by rw [tabN_length]; omega)
      rw [tabN_get _ _ _ (by omega)] at hc1
      have hc2 := hc (2 * k) (by omega)
      have hc3 := hc (2 * k + 1) (by omega)
      rw [byteAt_nb] at hc2 hc3
      have hv : ((keyF key k : Nat) : Int) = (nb key (2 * k) : Int) * 256 + nb key (2 * k + 1) := by
        have := num_key (key := key) (r := 0) (j := k) hlt
        rwa [show 8 * 0 + k = k by omega] at this
      have r1 := nb_lt key (2 * k)
      have r2 := nb_lt key (2 * k + 1)
      obtain ⟨x, hx1⟩ : ∃ x, nb key (2 * k) = x := ⟨_, rfl⟩
      obtain ⟨y, hy1⟩ : ∃ y, nb key (2 * k + 1) = y := ⟨_, rfl⟩
      rw [hx1] at hc2 hv r1
      rw [hy1] at hc3 hv r2
      rw [hv] at hc1
      have hki : (k : Int) < 52 := by omega
      have q1 : 2 * (k : Int) < 16 := by omega
      have q2 : 2 * (k : Int) + 1 < 16 := by omega
      have HX := hid hx
      clear hc hx hv hx1 hy1
      go_wp2_with fail
      go_quiet (fail)
      go_wp2_with fail
      go_roundw
      case rel => exact ⟨k + 1, by omega, by go_num, ext_drewN HX.out nq⟩
      case measure => simp [intOf]; omega
    · obtain rfl : k = 8 := by omega
      have HX := hid hx
      clear hx hk hlt
      go_wp2_with fail
      go_loop [7] (fun i => ∃ k : Nat, k ≤ 52 ∧ 8 ≤ k ∧ i = .int .i64 k) (fun i => 52 - (intOf i).toNat)
      case atStart => exact ⟨8, by omega, by omega, rfl⟩
      case round =>
        obtain ⟨i, hi, hi8, rfl⟩ := hrel
        by_cases hlt : i < 52
        · obtain ⟨T, hT⟩ : ∃ T : Nat, T = 25 * (i / 8) + 16 * (i % 8) := ⟨_, rfl⟩
          have hTi : 25 * ((i : Int) / 8) + 16 * ((i : Int) % 8) = (T : Int) := by omega
          have hTb : T < 300 := by omega
          have HT := hid hT
          clear hT
          go_wp2_with fail
          go_loop [9, 10] (fun v q => ∃ j : Nat, j ≤ 16 ∧ q = .int .i64 j ∧ v = .int .i64 (wK key T j : Nat)) (fun _ q => 16 - (intOf q).toNat)
          case atStart => exact ⟨0, by omega, rfl, rfl⟩
          case round =>
            obtain ⟨j, hj, rfl, rfl⟩ := hrel
            have hwl := wK_lt key T j
            have hwb : wK key T j < 65536 := Nat.lt_of_lt_of_le hwl (Nat.le_trans (Nat.pow_le_pow_right (by omega) hj) (by omega))
            by_cases hjt : j < 16
            · obtain ⟨p, hp⟩ : ∃ p : Nat, p = (T + j) % 128 := ⟨_, rfl⟩
              have hpi : ((T : Int) + (j : Int)) % 128 = (p : Int) := by omega
              have hpb : p < 128 := by omega
              obtain ⟨b, o, e1, _, hc⟩ := (HR4.out.later HX.out).at_ (by omega)
              cases e1
              have hc1 := hc (p / 8) (by omega)
              rw [byteAt_nb] at hc1
              have r1 := nb_lt key (p / 8)
              have hst : wK key T (j + 1) = 2 * wK key T j + bN key p := by rw [wK, hp]
              have hbn : bN key p = nb key (p / 8) / 2 ^ (7 - p % 8) % 2 := rfl
              obtain ⟨x, hx1⟩ : ∃ x, nb key (p / 8) = x := ⟨_, rfl⟩
              rw [hx1] at hc1 r1 hbn
              obtain ⟨s, hs⟩ : ∃ s, s = 7 - p % 8 := ⟨_, rfl⟩
              rw [← hs] at hbn
              have hsi : 7 - (p : Int) % 8 = (s : Int) := by omega
              have hsb : s ≤ 7 := by omega
              obtain ⟨u, hu⟩ : ∃ u, x / 2 ^ s = u := ⟨_, rfl⟩
              have hub : u < 256 := by rw [← hu]; exact Nat.lt_of_le_of_lt (Nat.div_le_self _ _) r1
              have hui : (x : Int) / 2 ^ s = (u : Int) := by rw [← hu]; simp
              rw [hu] at hbn
              have hand := u8_and_one u hub
              rw [← hbn] at hand
              have hble := bN_le key p
              obtain ⟨b1, hb1⟩ : ∃ b, bN key p = b := ⟨_, rfl⟩
              rw [hb1] at hand hble hst
              obtain ⟨W, hW⟩ : ∃ W, wK key T j = W := ⟨_, rfl⟩
              rw [hW] at hwb hst ⊢
              have HST := hid hst
              have HPI := hid hpi
              have HSI := hid hsi
              have p8 : (p : Int) / 8 < 16 := by omega
              have hw7 : IntKind.u64.wrap (s : Int) = (s : Int) := by rw [IntKind.wrap_u64]; omega
              clear hc hbn hx1 hs hu hb1 hW hst hwl hp
              go_wp2_with fail
              go_round
              case rel => exact ⟨j + 1, by omega, by go_num, by rw [show ((wK key T (j + 1) : Nat) : Int) = 2 * (W : Int) + b1 by rw [HST.out]; omega]⟩
              case measure => simp [intOf]; omega
            · obtain rfl : j = 16 := by omega
              have hkw := key_bits key i
              rw [← HT.out] at hkw
              have hc1 := (HB4.out.later HX.out).cell i (by rw [tabN_length]; omega)
              rw [tabN_get _ _ _ hlt, hkw] at hc1
              obtain ⟨V, hV⟩ : ∃ V, wK key T 16 = V := ⟨_, rfl⟩
              rw [hV] at hc1 ⊢
              have hii : (i : Int) < 52 := by omega
              clear hkw hV hwl hwb hjt hj
              go_wp2_with fail
              go_round
              case rel => exact ⟨i + 1, by omega, by omega, by go_num⟩
              case measure => simp [intOf]; omega
        · obtain rfl : i = 52 := by omega
          go_wp2_with fail
          refine (rmul_any 1 1 _ (by omega) (by omega)).mono ?_
          rw [mulF_one (by omega)]
          rintro e w' ⟨rfl, rfl⟩
          go_wp2_with fail
          go_ret
          exact ⟨rfl, HX4.out.trans HX.out⟩
end Go.Proofs.Ytamolgbdpnpemaa
