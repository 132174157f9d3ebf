/- Walks over turns and their sums, of the program and of the reference; own lemmas of the verifier, no statement is proved here. -/
import Derived.Test.YthfiijmmebgmoaaE1
namespace Go.Proofs.Ythfiijmmebgmoaa
open Go.RowKit
set_option maxHeartbeats 400000 in
theorem turn_any (n : Int) (w : World) :
    Calls Try.prog 15 #[.int .i64 n] w fun e w' => e = .returned (.complex .f64 (flv false (tR n)) (flv false (tI n))) ∧ w = w' := by
  have h0 := i64_and3 n
  rcases t_four n with ⟨h1, h2, h3⟩ | ⟨h1, h2, h3⟩ | ⟨h1, h2, h3⟩ | ⟨h1, h2, h3⟩ <;>
  · rw [h1] at h0
    have HF := hid (And.intro h2 h3)
    clear h1 h2 h3
    go_enter Try.func15, Try.ntmps15
    go_wp2
    go_ret
    refine ⟨ret_cx ?_ ?_, rfl⟩
    · rw [HF.out.1]; first | exact f_0.symm | exact f_1.symm | exact f_m1.symm
    · rw [HF.out.2]; first | exact f_0.symm | exact f_1.symm | exact f_m1.symm
set_option maxHeartbeats 400000 in
theorem whole_any (n : Int) (w : World) (_h : -9223372036854775808 ≤ n ∧ n ≤ 9223372036854775807) :
    Calls Try.prog 25 #[.int .i64 n] w fun e w' => e = .returned (.tuple #[.int .i64 (tR n), .int .i64 (tI n)]) ∧ w = w' := by
  have h0 := tmod_four n
  have hb : -4 < n.tmod 4 ∧ n.tmod 4 < 4 := by have := @Int.tmod_eq_emod n 4; split at this <;> omega
  obtain ⟨hb0, hb1⟩ := hb
  rcases t_four n with ⟨h1, h2, h3⟩ | ⟨h1, h2, h3⟩ | ⟨h1, h2, h3⟩ | ⟨h1, h2, h3⟩ <;>
  · rw [h1] at h0
    have HF := hid (And.intro h2 h3)
    clear h1 h2 h3
    go_enter Try.func25, Try.ntmps25
    go_wp2
    go_ret2
    refine ⟨?_, rfl⟩
    rw [HF.out.1, HF.out.2]
    rfl
set_option maxHeartbeats 400000 in
theorem rturn_any (n : Int) (w : World) (_h : -9223372036854775808 ≤ n ∧ n ≤ 9223372036854775807) :
    Calls Try.prog 16 #[.int .i64 n] w fun e w' => e = .returned (.complex .f64 (flv false (tR n)) (flv false (tI n))) ∧ w = w' := by
  go_enter Try.func16, Try.ntmps16
  go_wp2_with fail
  refine (whole_any n w _h).mono ?_
  rintro e w' ⟨rfl, rfl⟩
  go_wp2_with fail
  go_ret
  exact ⟨ret_cx (ofInt_flv _) (ofInt_flv _), rfl⟩
/-- What holds at the label. -/
def EchoJ (A : Option Addr) (n c : Nat) (bs : List UInt8) (a : Int) (w : World) (a' : Act) (w' : World) : Prop :=
  w = w' ∧ ∃ (k X Y : Nat) (i : Int) (u10 u11 u12 u13 u15 u16 u17 u18 u19 u20 u21 u22 u23 u24 u25 u26 u27 u28 u29 u30 : Value),
    a' = { tmps := #[.slice A n c, .int .i64 a, undef, undef, .complex .f64 0 0, .complex .f64 X Y, .int .i64 i, .slice A n c, .int .i64 n, .bool false, u10, u11, u12, u13, undef, u15, u16, u17, u18, u19, u20, u21, u22, u23, u24, u25, u26, u27, u28, u29, u30], defers := [] } ∧ k ≤ n ∧ i = k ∧ X = flv false (eR bs a k) ∧ Y = flv false (eI bs a k)
def iOf (a : Act) : Nat := match a.tmps.getD 6 undef with | .int _ q => q.toNat | _ => 0
theorem eR_succ (bs : List UInt8) (a : Int) (k : Nat) : eR bs a (k + 1) = eR bs a k + tR (byteAt bs k - a * k) := rfl
theorem eI_succ (bs : List UInt8) (a : Int) (k : Nat) : eI bs a (k + 1) = eI bs a k + tI (byteAt bs k - a * k) := rfl
set_option maxRecDepth 100000 in
set_option maxHeartbeats 4000000 in
theorem echo_any (A : Option Addr) (n c : Nat) (bs : List UInt8) (a : Int) (w : World) (B : Nat) (h : Rd w B A n bs) (hn : n ≤ 4096) :
    Calls Try.prog 13 #[.slice A n c, .int .i64 a] w fun e w' => e = .returned (.complex .f64 (flv false (eR bs a n)) (flv false (eI bs a n))) ∧ w = w' := by
  go_enter Try.func13, Try.ntmps13
  go_wp2_with fail
  refine wp_scope_jumps2 0 (EchoJ A n c bs a w) (fun a' _ => n - iOf a') rfl ?_ ?_
  · rintro a' w' ⟨rfl, k, X, Y, i, u10, u11, u12, u13, u15, u16, u17, u18, u19, u20, u21, u22, u23, u24, u25, u26, u27, u28, u29, u30, rfl, hk, rfl, rfl, rfl⟩
    have hR := eR_abs bs a k
    have hI := eI_abs bs a k
    by_cases hlt : k < n
    · obtain ⟨b, o, rfl, hb, hc⟩ := h.at_ (by omega)
      have hck := hc k hlt
      have hxl := byteAt_lo bs k
      have hxh := byteAt_hi bs k
      have HR := hid (eR_succ bs a k)
      have HI := hid (eI_succ bs a k)
      obtain ⟨x, hx⟩ : ∃ x, byteAt bs k = x := ⟨_, rfl⟩
      rw [hx] at hck hxl hxh HR HI
      obtain ⟨S, hS⟩ : ∃ S, eR bs a k = S := ⟨_, rfl⟩
      obtain ⟨T, hT⟩ : ∃ T, eI bs a k = T := ⟨_, rfl⟩
      rw [hS] at HR hR ⊢
      rw [hT] at HI hI ⊢
      clear hx hS hT hc h hb
      go_wp2_with fail
      refine (turn_any _ _).mono ?_
      rintro e w' ⟨rfl, rfl⟩
      go_wp2_with fail
      refine (turn_any _ _).mono ?_
      rintro e w' ⟨rfl, rfl⟩
      obtain ⟨y, hy⟩ : ∃ y, wrap64 (wrap64 (-a) * k) = y := ⟨_, rfl⟩
      have h4 : (x + wrap64 (wrap64 (-a) * k)) % 4 = (x - a * k) % 4 := t_i64 x a k
      rw [hy] at h4 ⊢
      obtain ⟨t1, t2⟩ := t_add x y
      rw [tR_mod h4] at t1
      rw [tI_mod h4] at t2
      have a1 := tR_abs x
      have a2 := tI_abs x
      have a3 := tR_abs y
      have a4 := tI_abs y
      have a5 := tR_abs (x - a * k)
      have a6 := tI_abs (x - a * k)
      obtain ⟨z1, z2, hm⟩ := cmul_any (tR x) (tI x) (tR y) (tI y) (by omega) (by omega) (by omega) (by omega)
      rw [← t1, ← t2] at hm
      have hop1 := fun t w => run_complex_mul (P := Try.prog) w t _ _ _ _ _ _ hm
      have hop2 := fun t w => run_complex_sum (P := Try.prog) w .add (Or.inl rfl) t .f64 _ _ _ _ _ _ (csum_any z1 z2 S T (tR (x - a * k)) (tI (x - a * k)) (by omega) (by omega) (by omega) (by omega))
      have hkw : IntKind.i64.wrap ((k : Int) + 1) = (k : Int) + 1 := by simp [IntKind.wrap, IntKind.bits, IntKind.signed]; omega
      clear hm t1 t2 h4 hy a1 a2 a3 a4 a5 a6
      go_wp2_with (first | rw [hop1] | rw [hop2])
      go_step3
      refine ⟨rfl, ⟨rfl, k + 1, _, _, _, _, _, _, _, _, _, _, _, _, _, _, _, _, _, _, _, _, _, _, _, rfl, by omega, by omega, ?_, ?_⟩, ?_⟩
      · rw [HR.out]
      · rw [HI.out]
      · simp [iOf]; omega
    · obtain rfl : k = n := by omega
      go_wp2_with fail
      simp only [Exit.jump]
      go_ret
      exact ⟨rfl, rfl⟩
  · intro hfirst
    go_wp2_with fail
    rw [show decide ((4096 : Int) < (n : Int)) = false by simp; omega]
    go_step3
    simp only [Exit.then]
    rename_i hK
    refine hK _ _ ?_
    exact hfirst.out _ _ ⟨rfl, 0, _, _, _, _, _, _, _, _, _, _, _, _, _, _, _, _, _, _, _, _, _, _, _, rfl, by omega, rfl, f_0.symm, f_0.symm⟩
end Go.Proofs.Ythfiijmmebgmoaa
