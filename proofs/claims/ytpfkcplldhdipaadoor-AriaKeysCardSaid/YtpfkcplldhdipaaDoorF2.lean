/- Walks over the powers of the program and of the reference; own lemmas of the verifier, no statement is proved here. -/
import Derived.Test.YtpfkcplldhdipaaDoorF1
namespace Go.Proofs.YtpfkcplldhdipaaDoor
open Go.RowKit
theorem and1i (t : Int) : bits .and .i64 t 1 = t % 2 := by
  have e0 : bits .and .i64 t 1 = IntKind.i64.wrap ((BitVec.ofInt 64 t &&& BitVec.ofInt 64 1).toNat : Int) := rfl
  have e : (BitVec.ofInt 64 t &&& BitVec.ofInt 64 1).toNat = (t % 2).toNat := by
    rw [BitVec.toNat_and, BitVec.toNat_ofInt, BitVec.toNat_ofInt]
    have : (1 % ((2 ^ 64 : Nat) : Int)).toNat = 1 := rfl
    rw [this, nat_mask1]
    omega
  rw [e0, e]
  simp [IntKind.wrap, IntKind.bits, IntKind.signed]
  omega
/-- Where a power stands: p times x to the n. -/
structure PowS (m a n0 : Nat) (p x n : Nat) : Prop where
  he : gm m p (gp m x n) = gp m a n0
  hp : p < 256
  hx : x < 256
  hn : n ≤ 1000000
theorem PowS.odd {m a n0 p x n : Nat} (h : PowS m a n0 p x n) (hm : IsRest m) (c : n % 2 = 1) : PowS m a n0 (gm m p x) (gm m x x) (n / 2) :=
  ⟨(gp_half_odd hm h.hp h.hx c).symm.trans h.he, gm_lt hm h.hp _, gm_lt hm h.hx _, by have := h.hn; omega⟩
theorem PowS.even {m a n0 p x n : Nat} (h : PowS m a n0 p x n) (hm : IsRest m) (c : n % 2 = 0) : PowS m a n0 p (gm m x x) (n / 2) :=
  ⟨by rw [← gp_half_even hm h.hx c]; exact h.he, h.hp, gm_lt hm h.hx _, by have := h.hn; omega⟩
theorem PowS.stop {m a n0 p x : Nat} (h : PowS m a n0 p x 0) : p = gp m a n0 := by
  have := h.he
  rw [show gp m x 0 = 1 from rfl, gm_one] at this
  exact this
def PowJ (m a n0 : Nat) (w : World) (a' : Act) (w' : World) : Prop :=
  w = w' ∧ ∃ (p x n : Nat) (N : Int) (u8 u9 u10 u11 u12 u13 u14 u15 u16 u17 u18 u19 u20 u21 u22 u23 u24 u25 u26 u27 u28 u29 u30 u31 u32 u33 : Value),
    a' = { tmps := #[.int .u8 x, .int .i64 N, .int .i64 m, undef, undef, undef, .int .u8 0, .int .u8 p,
      u8, u9, u10, u11, u12, u13, u14, u15, u16, u17, u18, u19, u20, u21, u22, u23, u24, u25, u26, u27, u28, u29, u30, u31, u32, u33, undef], defers := [] } ∧ N = n ∧ PowS m a n0 p x n
def nOf (a : Act) : Nat := match a.tmps.getD 1 undef with | .int _ q => q.toNat | _ => 0
set_option maxHeartbeats 4000000 in
theorem pow_any (a n0 m : Nat) (w : World) (hm : IsRest m) (ha : a < 256) (hn : n0 ≤ 1000000) :
    Calls Tryd.prog 48 #[.int .u8 a, .int .i64 n0, .int .i64 m] w fun e w' => e = .returned (.int .u8 (gp m a n0 : Nat)) ∧ w = w' := by
  have h0 := hm.lo
  have h1 := hm.hi
  have HM := hid hm
  clear hm
  go_enter Tryd.func48, Tryd.ntmps48
  go_wp2_with fail
  refine wp_scope_jumps 0 (PowJ m a n0 w) (fun a' _ => nOf a') rfl ?_ ?_
  · have HS := hid (show PowS m a n0 1 a n0 from ⟨gm_one_left HM.out (gp_lt HM.out _), by omega, ha, hn⟩)
    have n0' : ¬ (n0 : Int) < 0 := by omega
    have n1' : ¬ (1000000 : Int) < n0 := by omega
    go_wp2_with (go_at_call 58; refine (isMod_any _ _ (by omega) (by omega)).mono ?_; rintro e w' ⟨rfl, rfl⟩)
    go_step3
    clear n0' n1'
    by_cases hodd : n0 % 2 = 1
    · have hA : bits .and .i64 (n0 : Int) 1 = 1 := by rw [and1i]; omega
      have HS2 := hid (HS.out.odd HM.out hodd)
      clear hodd
      go_wp2_with fail
      refine (mul_any 1 a m _ HM.out (by omega) ha).mono ?_
      rintro e w' ⟨rfl, rfl⟩
      go_wp2_with fail
      refine (mul_any a a m _ HM.out ha ha).mono ?_
      rintro e w' ⟨rfl, rfl⟩
      go_wp2_with fail
      · go_step3
        rename_i hne
        have hne2 : ((n0 : Nat) : Int) / 2 ≠ 0 := by simpa using hne
        refine ⟨rfl, rfl, _, _, n0 / 2, ((n0 : Nat) : Int) / 2, _, _, _, _, _, _, _, _, _, _, _, _, _, _, _, _, _, _, _, _, _, _, _, _, _, _, rfl, by omega, HS2.out⟩
      · rename_i hz
        have hz2 : n0 / 2 = 0 := by
          have : ((n0 : Nat) : Int) / 2 = 0 := by simpa using hz
          omega
        have hs2 := HS2.out
        rw [hz2] at hs2
        have HF := hid hs2.stop
        clear hs2
        simp only [Exit.jump]
        go_ret
        exact ⟨ret_int (by have := HF.out; omega), rfl⟩
    · have hA : bits .and .i64 (n0 : Int) 1 = 0 := by rw [and1i]; omega
      have HS2 := hid (HS.out.even HM.out (by omega))
      clear hodd
      go_wp2_with fail
      refine (mul_any a a m _ HM.out ha ha).mono ?_
      rintro e w' ⟨rfl, rfl⟩
      go_wp2_with fail
      · go_step3
        rename_i hne
        have hne2 : ((n0 : Nat) : Int) / 2 ≠ 0 := by simpa using hne
        refine ⟨rfl, rfl, _, _, n0 / 2, ((n0 : Nat) : Int) / 2, _, _, _, _, _, _, _, _, _, _, _, _, _, _, _, _, _, _, _, _, _, _, _, _, _, _, rfl, by omega, HS2.out⟩
      · rename_i hz
        have hz2 : n0 / 2 = 0 := by
          have : ((n0 : Nat) : Int) / 2 = 0 := by simpa using hz
          omega
        have hs2 := HS2.out
        rw [hz2] at hs2
        have HF := hid hs2.stop
        clear hs2
        simp only [Exit.jump]
        go_ret
        exact ⟨ret_int (by have := HF.out; omega), rfl⟩
  · rintro a' w' ⟨rfl, p, x, n, N, u8, u9, u10, u11, u12, u13, u14, u15, u16, u17, u18, u19, u20, u21, u22, u23, u24, u25, u26, u27, u28, u29, u30, u31, u32, u33, rfl, rfl, hS⟩
    have hp := hS.hp
    have hx := hS.hx
    have hn' := hS.hn
    have HS := hid hS
    clear hS
    by_cases hodd : n % 2 = 1
    · have hA : bits .and .i64 (n : Int) 1 = 1 := by rw [and1i]; omega
      have HS2 := hid (HS.out.odd HM.out hodd)
      clear hodd
      go_wp2_with fail
      refine (mul_any p x m _ HM.out hp hx).mono ?_
      rintro e w' ⟨rfl, rfl⟩
      go_wp2_with fail
      refine (mul_any x x m _ HM.out hx hx).mono ?_
      rintro e w' ⟨rfl, rfl⟩
      go_wp2_with fail
      · go_step3
        rename_i hne
        have hne2 : ((n : Nat) : Int) / 2 ≠ 0 := by simpa using hne
        refine ⟨rfl, ⟨rfl, _, _, n / 2, ((n : Nat) : Int) / 2, _, _, _, _, _, _, _, _, _, _, _, _, _, _, _, _, _, _, _, _, _, _, _, _, _, _, rfl, by omega, HS2.out⟩, by simp [nOf]; omega⟩
      · rename_i hz
        have hz2 : n / 2 = 0 := by
          have : ((n : Nat) : Int) / 2 = 0 := by simpa using hz
          omega
        have hs2 := HS2.out
        rw [hz2] at hs2
        have HF := hid hs2.stop
        clear hs2
        simp only [Exit.jump]
        go_ret
        exact ⟨ret_int (by have := HF.out; omega), rfl⟩
    · have hA : bits .and .i64 (n : Int) 1 = 0 := by rw [and1i]; omega
      have HS2 := hid (HS.out.even HM.out (by omega))
      clear hodd
      go_wp2_with fail
      refine (mul_any x x m _ HM.out hx hx).mono ?_
      rintro e w' ⟨rfl, rfl⟩
      go_wp2_with fail
      · go_step3
        rename_i hne
        have hne2 : ((n : Nat) : Int) / 2 ≠ 0 := by simpa using hne
        refine ⟨rfl, ⟨rfl, _, _, n / 2, ((n : Nat) : Int) / 2, _, _, _, _, _, _, _, _, _, _, _, _, _, _, _, _, _, _, _, _, _, _, _, _, _, _, rfl, by omega, HS2.out⟩, by simp [nOf]; omega⟩
      · rename_i hz
        have hz2 : n / 2 = 0 := by
          have : ((n : Nat) : Int) / 2 = 0 := by simpa using hz
          omega
        have hs2 := HS2.out
        rw [hz2] at hs2
        have HF := hid hs2.stop
        clear hs2
        simp only [Exit.jump]
        go_ret
        exact ⟨ret_int (by have := HF.out; omega), rfl⟩
set_option maxHeartbeats 2000000 in
theorem rpow_any (a n0 m : Nat) (w : World) (hm : IsRest m) (ha : a < 256) (hn : n0 ≤ 1000000) :
    Calls Tryd.prog 54 #[.int .u8 a, .int .i64 n0, .int .i64 m] w fun e w' => e = .returned (.int .u8 (gp m a n0 : Nat)) ∧ w = w' := by
  have HM := hid hm
  clear hm
  have HS0 := hid (show PowS m a n0 1 a n0 from ⟨gm_one_left HM.out (gp_lt HM.out _), by omega, ha, hn⟩)
  go_enter Tryd.func54, Tryd.ntmps54
  go_wp2_with fail
  go_loop [0, 1, 7] (fun x n p => ∃ (X N P : Nat), x = .int .u8 X ∧ n = .int .i64 N ∧ p = .int .u8 P ∧ PowS m a n0 P X N) (fun _ n _ => (intOf n).toNat)
  case atStart => exact ⟨a, n0, 1, rfl, rfl, rfl, HS0.out⟩
  case round =>
    obtain ⟨X, N, P, rfl, rfl, rfl, hS⟩ := hrel
    have hp := hS.hp
    have hx := hS.hx
    have hn' := hS.hn
    rcases Nat.eq_zero_or_pos N with h0 | h0
    · subst h0
      have HF := hid hS.stop
      clear hS
      go_wp2_with fail
      go_ret
      exact ⟨ret_int (by have := HF.out; omega), rfl⟩
    · rcases Nat.mod_two_eq_zero_or_one N with hz | hz
      · have HS2 := hid (hS.even HM.out hz)
        have hz1 : ((N : Int) % 2 == 1) = false := by simp; omega
        have hz3 : (N : Int) / 2 = ((N / 2 : Nat) : Int) := by omega
        have H3 := hid hz3
        clear hS hz hz3
        go_wp2_with fail
        refine (rmul_any X X m _ HM.out hx hx).mono ?_
        rintro e w' ⟨rfl, rfl⟩
        clear hz1
        go_wp2_with fail
        go_round
        case rel => exact ⟨_, N / 2, _, rfl, by go_num, rfl, HS2.out⟩
        case measure => simp [intOf]; omega
      · have HS2 := hid (hS.odd HM.out hz)
        have hz1 : ((N : Int) % 2 == 1) = true := by simp; omega
        clear hS hz
        go_wp2_with fail
        refine (rmul_any P X m _ HM.out hp hx).mono ?_
        rintro e w' ⟨rfl, rfl⟩
        clear hz1
        go_wp2_with fail
        refine (rmul_any X X m _ HM.out hx hx).mono ?_
        rintro e w' ⟨rfl, rfl⟩
        go_wp2_with fail
        go_round
        case rel => exact ⟨_, N / 2, _, rfl, by go_num, rfl, HS2.out⟩
        case measure => simp [intOf]; omega
end Go.Proofs.YtpfkcplldhdipaaDoor
