/- The law on how many bits are set, walked; own text of the verifier. -/
import Derived.Test.YtakfndhknoleaaaB9
namespace Go.Proofs.Ytakfndhknoleaaa
open Go.RowKit
set_option maxHeartbeats 2000000 in
theorem count_walk (a0 : Option Addr) (len0 cap0 : Nat) (z0 : List Int) (a1 : Option Addr) (len1 cap1 : Nat) (z1 : List Int) (w : World)
    (w0 : IsRow .u8 w a0 len0 cap0 z0) (w1 : IsRow .i64 w a1 len1 cap1 z1) :
    Calls Try.prog 8 #[.slice a0 len0 cap0, .slice a1 len1 cap1] w fun e w' => e = .returned (.bool true) ∧ Below w.heap.size w w' := by
  obtain ⟨bs, hrb, hmax0, _⟩ := w0.rdc
  obtain ⟨ns, hrn, hmax1, hcap1, hwn⟩ := w1.rdN
  unfold maxLen at hmax0 hmax1
  clear w0 w1 hwn
  go_enter Try.func8, Try.ntmps8
  go_wp2_with fail
  refine (known_any _).mono ?_
  rintro e wk ⟨rfl, hbk⟩
  by_cases h20 : 20 < len0
  · go_wp2_with fail
    go_ret
    exact ⟨rfl, hbk⟩
  · have HB0 := hid hrb
    have HN0 := hid (hrn.later hbk)
    have HK := hid hbk
    have hok := hid ((ordL_isPerm (8 * len0) ns).ok (n := len0) rfl)
    have HM := hid (show (8 * len0 + 7) / 8 = len0 by omega)
    have HC := hid (cnt_perm (bs := bs) (ordL_perm (8 * len0) ns))
    clear hrb hrn hbk
    go_wp2_with fail
    refine (order_tab _ (8 * len0) _ _ _ _ _ (by omega) HN0.out (by omega) (by omega)).mono ?_
    rintro e w2 ⟨At, ct, rfl, ht, hx2⟩
    have HX2 := hid (Ext.trans HK.out hx2)
    have ht2 := hid ht
    have hb2 := hid (HB0.out.later HX2.out)
    clear ht hx2
    go_wp2_with fail
    refine (perm_rd _ _ _ _ _ _ _ _ len0 _ hb2.out ht2.out hok.out HM.out).mono ?_
    rintro e w3 ⟨Ax, cx, rfl, hx, hx3⟩
    have HX3 := hid (Ext.trans HX2.out hx3)
    have hb3 := hid (hb2.out.later hx3)
    have hx3h := hid hx
    clear hx hx3
    go_wp2_with fail
    go_loop [7, 8, 9] (fun n m i => ∃ (k : Nat), k ≤ 8 * len0 ∧ i = .int .i64 ((k : Int) + 1) ∧ n = .int .i64 (cntN bs k) ∧ m = .int .i64 (cntN (permL bs (ordL (8 * len0) ns)) k)) (fun _ _ i => (8 * (len0 : Int) + 1 - intOf i).toNat)
    case atStart => exact ⟨0, Nat.zero_le _, rfl, rfl, rfl⟩
    case round =>
      obtain ⟨k, hk, rfl, rfl, rfl⟩ := hrel
      by_cases hlt : k < 8 * len0
      · have s1 := cntN_succ bs k
        have s2 := cntN_succ (permL bs (ordL (8 * len0) ns)) k
        have l1 := cntN_le bs k
        have l2 := cntN_le (permL bs (ordL (8 * len0) ns)) k
        have c1 := bitN_le bs ((k : Int) + 1)
        have c2 := bitN_le (permL bs (ordL (8 * len0) ns)) ((k : Int) + 1)
        obtain ⟨X, hX⟩ : ∃ X, cntN bs k = X := ⟨_, rfl⟩
        obtain ⟨Y, hY⟩ : ∃ Y, cntN (permL bs (ordL (8 * len0) ns)) k = Y := ⟨_, rfl⟩
        obtain ⟨x, hx⟩ : ∃ x, bitN bs ((k : Int) + 1) = x := ⟨_, rfl⟩
        obtain ⟨y, hy⟩ : ∃ y, bitN (permL bs (ordL (8 * len0) ns)) ((k : Int) + 1) = y := ⟨_, rfl⟩
        rw [hX, hx] at s1
        rw [hY, hy] at s2
        rw [hX] at l1
        rw [hY] at l2
        rw [hx] at c1
        rw [hy] at c2
        rw [hX, hY]
        have S1 := hid s1
        have S2 := hid s2
        have HXX := hid hx
        have HYY := hid hy
        clear hX hY hx hy s1 s2
        go_wp2_with fail
        refine (bit_any _ _ _ _ _ _ hb3.out (by omega) (by omega)).mono ?_
        rintro e w' ⟨rfl, rfl⟩
        rw [HXX.out]
        go_wp2_with fail
        refine (bit_any _ _ _ _ _ _ hx3h.out (by omega) (by omega)).mono ?_
        rintro e w' ⟨rfl, rfl⟩
        rw [HYY.out]
        go_wp2_with fail
        go_round
        case rel => exact ⟨k + 1, by omega, by go_num, by rw [S1.out]; go_num, by rw [S2.out]; go_num⟩
        case measure => simp [intOf]; omega
      · obtain rfl : k = 8 * len0 := by omega
        rw [HC.out]
        obtain ⟨X, hX⟩ : ∃ X, cntN bs (8 * len0) = X := ⟨_, rfl⟩
        rw [hX]
        clear hX
        go_wp2_with fail
        go_ret
        exact ⟨rfl, HX3.out⟩
end Go.Proofs.Ytakfndhknoleaaa
