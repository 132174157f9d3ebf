/- The law on the four powers, walked; own text of the verifier. -/
import Derived.Test.YthfiijmmebgmoaaE9
import Derived.Test.YthfiijmmebgmoaaM1
namespace Go.Proofs.Ythfiijmmebgmoaa
open Go.RowKit
theorem sq_le (a : Int) (n : Nat) (h : a.natAbs ≤ n) (hn : n ≤ 1000) : 0 ≤ a * a ∧ a * a ≤ 1000000 := by
  have h1 : (a * a).natAbs ≤ 1000 * 1000 := by rw [Int.natAbs_mul]; exact Nat.mul_le_mul (by omega) (by omega)
  have h2 := Int.natAbs_mul_self (a := a)
  omega
theorem sm_bound {f : Nat → Int} {b : Int} (h : ∀ i, 0 ≤ f i ∧ f i ≤ b) : ∀ k, 0 ≤ sm f k ∧ sm f k ≤ b * k
  | 0 => by simp [sm]
  | k + 1 => by
    have h1 := sm_bound h k
    have h2 := h k
    rw [sm, show (b * ((k + 1 : Nat) : Int)) = b * k + b by rw [show ((k + 1 : Nat) : Int) = (k : Int) + 1 by omega, Int.mul_add, Int.mul_one]]
    omega
set_option maxRecDepth 100000 in
set_option maxHeartbeats 4000000 in
theorem squares_walk (a0 : Option Addr) (len0 cap0 : Nat) (z0 : List Int) (w : World) (w0 : IsRow .u8 w a0 len0 cap0 z0) :
    Calls Try.prog 5 #[.slice a0 len0 cap0] w fun e w' => e = .returned (.bool true) ∧ Below w.heap.size w w' := by
  obtain ⟨bs, hrb, hmax⟩ := w0.rd
  unfold maxLen at hmax
  clear w0
  go_enter Try.func5, Try.ntmps5
  go_wp2_with fail
  refine (known_any _).mono ?_
  rintro e wk ⟨rfl, hbk⟩
  have HB := hid hbk
  have HR := hid (hrb.below hbk (Nat.le_refl _))
  clear hbk hrb
  by_cases hlong : 1000 < len0
  · go_wp2_with fail
    go_ret
    exact ⟨rfl, HB.out⟩
  · obtain ⟨F, hF⟩ : ∃ F : Nat → Int, (fun a : Nat => eR bs a len0 * eR bs a len0 + eI bs a len0 * eI bs a len0) = F := ⟨_, rfl⟩
    obtain ⟨G, hG⟩ : ∃ G : Nat → Int, (fun r : Nat => pR bs r len0 * pR bs r len0 + pI bs r len0 * pI bs r len0) = G := ⟨_, rfl⟩
    have hFG : sm F 4 = 4 * sm G 4 := by rw [← hF, ← hG]; exact squares bs len0
    have hFb : ∀ i, 0 ≤ F i ∧ F i ≤ 2000000 := fun i => by
      rw [← hF]
      have := sq_le (eR bs i len0) len0 (eR_abs _ _ _) (by omega)
      have := sq_le (eI bs i len0) len0 (eI_abs _ _ _) (by omega)
      show 0 ≤ eR bs i len0 * eR bs i len0 + eI bs i len0 * eI bs i len0 ∧ eR bs i len0 * eR bs i len0 + eI bs i len0 * eI bs i len0 ≤ 2000000
      omega
    have hGb : ∀ i, 0 ≤ G i ∧ G i ≤ 2000000 := fun i => by
      rw [← hG]
      have := sq_le (pR bs i len0) len0 (pR_abs _ _ _) (by omega)
      have := sq_le (pI bs i len0) len0 (pI_abs _ _ _) (by omega)
      show 0 ≤ pR bs i len0 * pR bs i len0 + pI bs i len0 * pI bs i len0 ∧ pR bs i len0 * pR bs i len0 + pI bs i len0 * pI bs i len0 ≤ 2000000
      omega
    have HFG := hid hFG
    have HFb := hid (sm_bound hFb)
    have HGb := hid (sm_bound hGb)
    have HF := hid hF
    have HG := hid hG
    clear hF hG hFG hFb hGb
    go_wp2_with fail
    go_loop [3, 4] (fun s i => ∃ (k : Nat) (S : Int), k ≤ 4 ∧ i = .int .i64 k ∧ s = .int .i64 S ∧ S = sm F k) (fun _ i => 4 - (intOf i).toNat)
    case atStart => exact ⟨0, _, by omega, rfl, rfl, rfl⟩
    case round =>
      obtain ⟨k, S, hk, rfl, rfl, hS⟩ := hrel
      have hb := HFb.out k
      rw [← hS] at hb
      by_cases hlt : k < 4
      · have q1 := eR_abs bs k len0
        have q2 := eI_abs bs k len0
        have hb2 := HFb.out (k + 1)
        have hs : sm F (k + 1) = S + F k := by rw [hS]; rfl
        have hv : F k = eR bs k len0 * eR bs k len0 + eI bs k len0 * eI bs k len0 := by rw [← HF.out]
        rw [hs] at hb2
        have C13 := hid (echo_any a0 len0 cap0 bs k wk _ HR.out (by omega))
        obtain ⟨X, hXe⟩ : ∃ X, eR bs k len0 = X := ⟨_, rfl⟩
        obtain ⟨Y, hYe⟩ : ∃ Y, eI bs k len0 = Y := ⟨_, rfl⟩
        rw [hXe, hYe] at C13 hv
        rw [hXe] at q1
        rw [hYe] at q2
        have C18 := hid (fun w => power_any X Y w (by omega) (by omega))
        rw [← hv] at C18
        obtain ⟨P, hP⟩ : ∃ P, F k = P := ⟨_, rfl⟩
        rw [hP] at C18 hs hb2
        have HS := hid hs
        have hb3 : 0 ≤ S + P ∧ S + P ≤ 10000000 := by omega
        have hb4 : 0 ≤ S ∧ S ≤ 10000000 := by omega
        obtain ⟨hb5, hb6⟩ := hb3
        obtain ⟨hb7, hb8⟩ := hb4
        clear hXe hYe hP hS hv hs hb hb2
        go_wp2_with fail
        refine C13.out.mono ?_
        rintro e w' ⟨rfl, rfl⟩
        go_wp2_with fail
        refine (C18.out _).mono ?_
        rintro e w' ⟨rfl, rfl⟩
        go_wp2_with fail
        refine ⟨⟨k + 1, _, by omega, by go_num, rfl, HS.out.symm⟩, by simp [intOf]; omega⟩
      · obtain rfl : k = 4 := by omega
        have HS := hid hS
        have hb7 : 0 ≤ S := by omega
        have hb8 : S ≤ 8000000 := by omega
        clear hS hb
        go_wp2_with fail
        go_loop [5, 6] (fun s i => ∃ (k : Nat) (T : Int), k ≤ 4 ∧ i = .int .i64 k ∧ s = .int .i64 T ∧ T = sm G k) (fun _ i => 4 - (intOf i).toNat)
        case atStart => exact ⟨0, _, by omega, rfl, rfl, rfl⟩
        case round =>
          obtain ⟨r, T, hr, rfl, rfl, hT⟩ := hrel
          have hb := HGb.out r
          rw [← hT] at hb
          by_cases hlt : r < 4
          · have hb2 := HGb.out (r + 1)
            have hs : sm G (r + 1) = T + G r := by rw [hT]; rfl
            have hv : G r = pR bs r len0 * pR bs r len0 + pI bs r len0 * pI bs r len0 := by rw [← HG.out]
            rw [hs] at hb2
            have HV := hid hv
            have HT := hid hs
            have hb3 : 0 ≤ T + G r ∧ T + G r ≤ 10000000 := by omega
            have hb4 : 0 ≤ T ∧ T ≤ 10000000 := by omega
            obtain ⟨hb5, hb6⟩ := hb3
            obtain ⟨hb7', hb8'⟩ := hb4
            clear hT hv hs hb hb2
            go_wp2_with fail
            go_loop [7, 8] (fun s i => ∃ (x X Y : Nat), r ≤ x ∧ x ≤ len0 + 3 ∧ x % 4 = r ∧ i = .int .i64 x ∧ s = .complex .f64 X Y ∧ X = flv false (pR bs r (min x len0)) ∧ Y = flv false (pI bs r (min x len0))) (fun _ i => len0 + 3 - (intOf i).toNat)
            case atStart =>
              obtain ⟨s1, s2⟩ := p_start bs r len0 hlt
              exact ⟨r, 0, 0, by omega, by omega, by omega, rfl, rfl, by rw [s1]; exact f_0.symm, by rw [s2]; exact f_0.symm⟩
            case round =>
              obtain ⟨x, X, Y, hrx, hxn, hxm, rfl, rfl, hX, hY⟩ := hrel
              by_cases hx : x < len0
              · obtain ⟨b, o, rfl, hbk, hc⟩ := HR.out.at_ (by omega)
                have hck := hc x hx
                have hyl := byteAt_lo bs x
                have hyh := byteAt_hi bs x
                obtain ⟨s1, s2⟩ := p_step bs r x len0 hxm hx
                rw [show min x len0 = x by omega] at hX hY
                have q1 := pR_abs bs r x
                have q2 := pI_abs bs r x
                obtain ⟨y, hy⟩ : ∃ y, byteAt bs x = y := ⟨_, rfl⟩
                obtain ⟨P, hP⟩ : ∃ P, pR bs r x = P := ⟨_, rfl⟩
                obtain ⟨Q, hQ⟩ : ∃ Q, pI bs r x = Q := ⟨_, rfl⟩
                rw [hy] at hck hyl hyh s1 s2
                rw [hP] at s1 hX q1
                rw [hQ] at s2 hY q2
                subst hX
                subst hY
                have t1 := tR_abs y
                have t2 := tI_abs y
                have hop := fun t w => run_complex_sum (P := Try.prog) w .add (Or.inl rfl) t .f64 _ _ _ _ _ _ (csum_any false false P Q (tR y) (tI y) (by omega) (by omega) (by omega) (by omega))
                have S1 := hid s1
                have S2 := hid s2
                clear s1 s2 hP hQ hy hc hbk t1 t2 q1 q2
                go_wp2_with fail
                refine (turn_any _ _).mono ?_
                rintro e w' ⟨rfl, rfl⟩
                go_wp2_with (rw [hop])
                refine ⟨⟨x + 4, _, _, by omega, by omega, by omega, by go_num, rfl, by rw [S1.out], by rw [S2.out]⟩, by simp [intOf]; omega⟩
              · rw [show min x len0 = len0 by omega] at hX hY
                have q1 := pR_abs bs r len0
                have q2 := pI_abs bs r len0
                have C18 := hid (fun w => power_any (pR bs r len0) (pI bs r len0) w (by omega) (by omega))
                rw [← HV.out, ← hX, ← hY] at C18
                obtain ⟨P, hP⟩ : ∃ P, G r = P := ⟨_, rfl⟩
                rw [hP] at C18 hb5 hb6
                have HT2 := hid (hP ▸ HT.out)
                clear hP hX hY q1 q2
                go_wp2_with fail
                refine (C18.out _).mono ?_
                rintro e w' ⟨rfl, rfl⟩
                go_wp2_with fail
                refine ⟨⟨r + 1, _, by omega, by go_num, rfl, HT2.out.symm⟩, by simp [intOf]; omega⟩
          · obtain rfl : r = 4 := by omega
            have hE : S = 4 * T := by rw [HS.out, hT]; exact HFG.out
            have hb7' : 0 ≤ T := by omega
            have hb8' : T ≤ 8000000 := by omega
            have HE := hid hE
            clear hT hb hE
            go_wp2_with fail
            go_ret
            exact ⟨ret_bool (by simpa using HE.out), HB.out⟩
end Go.Proofs.Ythfiijmmebgmoaa
