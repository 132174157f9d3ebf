/- Walk over the bias of the reference; own lemmas of the verifier, no statement is proved here. -/
import Derived.Test.YthfiijmmebgmoaaE7
import Derived.BigQuiet
namespace Go.Proofs.Ythfiijmmebgmoaa
open Go.RowKit
set_option maxRecDepth 100000 in
set_option maxHeartbeats 4000000 in
theorem rbias_any (A : Option Addr) (n c : Nat) (bs : List UInt8) (a b : Nat) (w : World) (B : Nat) (h : Rd w B A n bs) (hn : n ≤ 4096) (ha : a < 256) (hb : b < 256) :
    Calls Try.prog 21 #[.slice A n c, .int .u8 a, .int .u8 b] w fun e w' => e = .returned (.int .i64 (biasS bs a b n)) ∧ ∃ m, w' = w.drewN m := by
  go_enter Try.func21, Try.ntmps21
  go_wp2_with fail
  go_loopw [7, 8] (fun s i wr => ∃ (k : Nat) (S : Int) (m : Nat), k ≤ n ∧ i = .int .i64 k ∧ s = .int .i64 S ∧ S = biasS bs a b k ∧ wr = w.drewN m) (fun _ i _ => n - (intOf i).toNat)
  case atStart => exact ⟨0, _, 0, by omega, rfl, rfl, rfl, rfl⟩
  case round =>
    obtain ⟨k, S, m, hk, rfl, rfl, hS, hwr⟩ := hrel
    have HW := hid hwr
    have hA := biasS_abs bs a b k
    rw [← hS] at hA
    by_cases hlt : k < n
    · obtain ⟨bk, o, rfl, hbk, hc⟩ := h.at_ (by omega)
      have hck : wr.cell? ⟨bk, o + k, none⟩ = some (.int .u8 (byteAt bs k)) := by rw [hwr]; exact hc k hlt
      rw [byteAt_nb] at hck
      have hyl := nb_lt bs k
      have HS := hid (biasS_succ bs a b k)
      rw [← hS] at HS
      unfold biasF at HS
      obtain ⟨y, hy⟩ : ∃ y, nb bs k = y := ⟨_, rfl⟩
      rw [hy] at hck hyl HS
      obtain ⟨x, hx⟩ : ∃ x, k % 256 = x := ⟨_, rfl⟩
      have hxi : (k : Int) % 256 = (x : Int) := by omega
      have hxw : IntKind.u8.wrap (k : Int) = (x : Int) := by rw [IntKind.wrap_u8']; exact hxi
      have hxl : x < 256 := by omega
      rw [hx] at HS
      have g1 := u8_and_nat x a hxl ha
      have g2 := u8_and_nat y b hyl hb
      have l1 := and_lt8 (b := a) hxl
      have l2 := and_lt8 (b := b) hyl
      obtain ⟨p, hp⟩ : ∃ p, x &&& a = p := ⟨_, rfl⟩
      obtain ⟨q, hq⟩ : ∃ q, y &&& b = q := ⟨_, rfl⟩
      rw [hp] at g1 l1 HS
      rw [hq] at g2 l2 HS
      have hP := par_eq p q
      obtain ⟨P, hPe⟩ : ∃ P, (par p == 1) = P := ⟨_, rfl⟩
      obtain ⟨Q, hQe⟩ : ∃ Q, (par q == 1) = Q := ⟨_, rfl⟩
      rw [hPe, hQe] at hP
      have HE := hid (show biasS bs a b (k + 1) = if (P == Q) = true then S + 1 else S - 1 by
        rw [HS.out, hP]
        by_cases h0 : par (p ^^^ q) = 0
        · rw [if_pos h0, if_pos (by simpa using h0)]
        · rw [if_neg h0, if_neg (by simpa using h0)]; rfl)
      have hkl : (k : Int) < n := by omega
      clear hp hq hx hy hS hc h hbk hwr hP HS
      cases P <;> cases Q <;>
      · go_wp2_with fail
        go_quiet ((go_at_call 29; exact quietSame (odd_any _ _ (by assumption))))
        go_wp2_with fail
        go_roundw
        case rel => exact ⟨k + 1, _, m + nq, by omega, by go_num, rfl, HE.out.symm, by rw [HW.out, World.drewN_drewN]⟩
        case measure => simp [intOf]; omega
    · obtain rfl : k = n := by omega
      have HS := hid hS
      clear hS hwr
      go_wp2_with fail
      go_ret
      exact ⟨ret_int HS.out, _, HW.out⟩
end Go.Proofs.Ythfiijmmebgmoaa
