/- Walks over what undoes a number, of the program and of the reference; own lemmas of the verifier, no statement is proved here. -/
import Derived.Test.YtamolgbdpnpemaaX1
import Derived.WalkMore
import Derived.ScopeJumps
namespace Go.Proofs.Ytamolgbdpnpemaa
open Go.RowKit
theorem ones_step {a : Nat} (ha : a < 65536) (k : Nat) : mulF (mulF (pwF a (2 ^ k - 1)) (pwF a (2 ^ k - 1))) a = pwF a (2 ^ (k + 1) - 1) := by
  have hp : 1 ≤ 2 ^ k := Nat.one_le_pow _ _ (by omega)
  rw [pwF_add ha]
  have h1 := pwF_add ha (2 ^ k - 1 + (2 ^ k - 1)) 1
  rw [pwF_one ha] at h1
  rw [h1, Nat.pow_succ]
  congr 1
  omega
/-- What holds at the label. -/
def InvJ (a : Nat) (w : World) (a' : Act) (w' : World) : Prop :=
  w = w' ∧ ∃ (k : Nat) (u5 u6 u7 u8 u9 u10 u11 u12 u13 : Value),
    a' = { tmps := #[.int .i64 a, undef, .int .i64 0, .int .i64 (pwF a (2 ^ k - 1) : Nat), .int .i64 k, u5, u6, u7, u8, u9, u10, u11, u12, u13, undef], defers := [] } ∧ k < 16
def iOf (a : Act) : Nat := match a.tmps.getD 4 undef with | .int _ q => q.toNat | _ => 0
set_option maxHeartbeats 2000000 in
theorem inv_any (a : Nat) (w : World) (ha : a < 65536) :
    Calls Try.prog 15 #[.int .i64 a] w fun e w' => e = .returned (.int .i64 (invF a : Nat)) ∧ w = w' := by
  go_enter Try.func15, Try.ntmps15
  go_wp2_with fail
  refine wp_scope_jumps2 0 (InvJ a w) (fun a' _ => 16 - iOf a') rfl ?_ ?_
  · rintro a' w' ⟨rfl, k, u5, u6, u7, u8, u9, u10, u11, u12, u13, rfl, hk⟩
    have hs := hid (ones_step ha k)
    have hl := pwF_lt a (2 ^ k - 1)
    obtain ⟨p, hp⟩ : ∃ p, pwF a (2 ^ k - 1) = p := ⟨_, rfl⟩
    rw [hp] at hs hl ⊢
    have hm := mulF_lt p p
    clear hp
    go_wp2_with fail
    refine (mul_any p p _ hl hl).mono ?_
    rintro e w' ⟨rfl, rfl⟩
    go_wp2_with fail
    refine (mul_any (mulF p p) a _ hm ha).mono ?_
    rintro e w' ⟨rfl, rfl⟩
    rw [hs.out]
    clear hm
    by_cases hlt : k + 1 < 16
    · have hlt2 : (k : Int) + 1 < 16 := by omega
      go_wp2_with fail
      go_step3
      refine ⟨rfl, ⟨rfl, k + 1, _, _, _, _, _, _, _, _, _, rfl, hlt⟩, ?_⟩
      simp [iOf]; omega
    · obtain rfl : k = 15 := by omega
      go_wp2_with fail
      simp only [Exit.jump]
      go_ret
      exact ⟨rfl, rfl⟩
  · intro hfirst
    go_wp2_with fail
    go_step3
    simp only [Exit.then]
    rename_i hK
    refine hK _ _ ?_
    exact hfirst.out _ _ ⟨rfl, 0, _, _, _, _, _, _, _, _, _, by rw [show pwF a (2 ^ 0 - 1) = 1 from pwF_zero a]; rfl, by omega⟩
/-- Where a power stands: s times x to the n. -/
structure PowS (a : Nat) (s x n : Nat) : Prop where
  he : mulF s (pwF x n) = invF a
  hs : s < 65536
  hx : x < 65536
theorem PowS.odd {a s x n : Nat} (h : PowS a s x n) (c : n % 2 = 1) : PowS a (mulF s x) (mulF x x) (n / 2) := by
  refine ⟨?_, mulF_lt _ _, mulF_lt _ _⟩
  rw [← h.he, mulF_assoc h.hs h.hx (pwF_lt _ _)]
  congr 1
  have h1 := pwF_add h.hx 1 1
  rw [pwF_one h.hx] at h1
  rw [h1, pwF_pw h.hx]
  have h2 := pwF_add h.hx 1 ((1 + 1) * (n / 2))
  rw [pwF_one h.hx] at h2
  rw [h2]
  congr 1
  omega
theorem PowS.even {a s x n : Nat} (h : PowS a s x n) (c : n % 2 = 0) : PowS a s (mulF x x) (n / 2) := by
  refine ⟨?_, h.hs, mulF_lt _ _⟩
  rw [← h.he]
  congr 1
  have h1 := pwF_add h.hx 1 1
  rw [pwF_one h.hx] at h1
  rw [h1, pwF_pw h.hx]
  congr 1
  omega
theorem PowS.stop {a s x : Nat} (h : PowS a s x 0) : s = invF a := by
  have := h.he
  rw [pwF_zero, mulF_one h.hs] at this
  exact this
theorem PowS.start {a : Nat} (ha : a < 65536) : PowS a 1 a 65535 := ⟨by rw [mulF_comm, mulF_one (pwF_lt _ _)]; rfl, by omega, ha⟩
set_option maxHeartbeats 2000000 in
theorem rinv_any (a : Nat) (w : World) (ha : a < 65536) :
    Calls Try.prog 16 #[.int .i64 a] w fun e w' => e = .returned (.int .i64 (invF a : Nat)) ∧ w = w' := by
  have HS0 := hid (PowS.start ha)
  go_enter Try.func16, Try.ntmps16
  go_wp2_with fail
  go_loop [0, 3, 4] (fun x s n => ∃ (X S N : Nat), x = .int .i64 X ∧ n = .int .i64 N ∧ s = .int .i64 S ∧ N ≤ 65535 ∧ PowS a S X N) (fun _ _ n => (intOf n).toNat)
  case atStart => exact ⟨a, 1, 65535, rfl, rfl, rfl, by omega, HS0.out⟩
  case round =>
    obtain ⟨X, S, N, rfl, rfl, rfl, hN, hS⟩ := hrel
    have hs := hS.hs
    have hx := hS.hx
    rcases Nat.eq_zero_or_pos N with h0 | h0
    · subst h0
      have HF := hid hS.stop
      clear hS
      go_wp2_with fail
      go_ret
      exact ⟨ret_int (by rw [HF.out]), rfl⟩
    · rcases Nat.mod_two_eq_zero_or_one N with hz | hz
      · have HS2 := hid (hS.even hz)
        have hz1 : ((N : Int) % 2 == 1) = false := by simp; omega
        have H3 := hid (show (N : Int) / 2 = ((N / 2 : Nat) : Int) by omega)
        clear hS hz
        go_wp2_with fail
        refine (rmul_any X X _ hx hx).mono ?_
        rintro e w' ⟨rfl, rfl⟩
        clear hz1
        go_wp2_with fail
        go_round
        case rel => exact ⟨_, _, N / 2, rfl, by go_num, rfl, by omega, HS2.out⟩
        case measure => simp [intOf]; omega
      · have HS2 := hid (hS.odd hz)
        have hz1 : ((N : Int) % 2 == 1) = true := by simp; omega
        clear hS hz
        go_wp2_with fail
        refine (rmul_any S X _ hs hx).mono ?_
        rintro e w' ⟨rfl, rfl⟩
        clear hz1
        go_wp2_with fail
        refine (rmul_any X X _ hx hx).mono ?_
        rintro e w' ⟨rfl, rfl⟩
        go_wp2_with fail
        go_round
        case rel => exact ⟨_, _, N / 2, rfl, by go_num, rfl, by omega, HS2.out⟩
        case measure => simp [intOf]; omega
end Go.Proofs.Ytamolgbdpnpemaa
