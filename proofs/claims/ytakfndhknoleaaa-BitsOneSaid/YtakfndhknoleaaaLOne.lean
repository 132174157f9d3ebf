/- The law on a table of one number, walked; own text of the verifier. -/
import Derived.Test.YtakfndhknoleaaaB9
namespace Go.Proofs.Ytakfndhknoleaaa
open Go.RowKit
theorem tb_rep (bs : List UInt8) (i : Int) (k q : Nat) : tb bs (List.replicate k i) q = if q < k then bitN bs i else 0 := by
  unfold tb
  rw [List.length_replicate]
  split
  · rename_i h
    rw [getD_eq _ _ _ (by simpa using h)]; simp
  · rfl
set_option maxHeartbeats 2000000 in
theorem one_walk (a0 : Option Addr) (len0 cap0 : Nat) (z0 : List Int) (a1 : Int) (a2 : Int) (w : World)
    (w0 : IsRow .u8 w a0 len0 cap0 z0) (_w1 : (Lit.int .i64 a1).wf = true) (_w2 : (Lit.int .i64 a2).wf = true) :
    Calls Try.prog 9 #[.slice a0 len0 cap0, .int .i64 a1, .int .i64 a2] w fun e w' => e = .returned (.bool true) ∧ Below w.heap.size w w' := by
  obtain ⟨bs, hrb, hmax0, _⟩ := w0.rdc
  unfold maxLen at hmax0
  clear w0
  go_enter Try.func9, Try.ntmps9
  go_wp2_with fail
  refine (known_any _).mono ?_
  rintro e wk ⟨rfl, hbk⟩
  by_cases h40 : 40 < len0
  · go_wp2_with fail
    go_ret
    exact ⟨rfl, hbk⟩
  · by_cases h0 : 0 < len0
    · have HB0 := hid hrb
      have HK := hid hbk
      have hl := hid hrb.len
      have hbw := hid (hrb.later hbk)
      obtain ⟨y, hy⟩ : ∃ y : Nat, a1 % (8 * (len0 : Int)) = y := ⟨(a1 % (8 * (len0 : Int))).toNat, by have := Int.emod_nonneg a1 (show (8 * (len0 : Int)) ≠ 0 by omega); omega⟩
      have hy8 : y < 8 * len0 := by have := Int.emod_lt_of_pos a1 (show 0 < (8 * (len0 : Int)) by omega); omega
      obtain ⟨k, hk⟩ : ∃ k : Nat, a2 % 30 = k := ⟨(a2 % 30).toNat, by omega⟩
      have hk30 : k < 30 := by omega
      have HY := hid hy
      have HKK := hid hk
      have hn0 : ((len0 : Int) == 0) = false := by simp; omega
      have hn1 : ¬ len0 = 0 := by omega
      clear hrb hbk hy hk
      go_wp2_with fail
      refine (within_any _ _ _ (by omega) (by omega)).mono ?_
      rintro e w' ⟨rfl, rfl⟩
      rw [HY.out]
      go_wp2_with fail
      refine (within_any _ _ _ (by omega) (by omega)).mono ?_
      rintro e w' ⟨rfl, rfl⟩
      rw [HKK.out]
      go_wp2_with fail
      go_loopw [9, 10] (fun v i wr => ∃ (j : Nat), j ≤ k ∧ i = .int .i64 j ∧ OwnN .i64 3 wr wk.heap.size v (List.replicate j (1 + (y : Int))) ∧ Ext wk wr) (fun _ i _ => k - (intOf i).toNat)
      case atStart => exact ⟨0, Nat.zero_le _, rfl, World.ownsRow_nil _ _ _ _, Ext.refl _⟩
      case round =>
        obtain ⟨j, hj, rfl, hown, hx⟩ := hrel
        by_cases hlt : j < k
        · have HO := OwnN.kept hown (Ext.alloc wr (.cells #[.int .i64 (1 + (y : Int))] 3))
          have HR := one_rd wr (1 + (y : Int))
          have HX := hid (Ext.trans hx (Ext.alloc wr (.cells #[.int .i64 (1 + (y : Int))] 3)))
          have hz := hx.size
          have HRep := hid (show List.replicate j (1 + (y : Int)) ++ [1 + (y : Int)] = List.replicate (j + 1) (1 + (y : Int)) from (List.replicate_succ' ..).symm)
          clear hown hx
          go_wp2_with (at_builtin; refine wpL_appendN _ rfl (.tmp 38) (.tmp 40) 23 rfl Try.underlying23 8 Try.info3 wk.heap.size _ (List.replicate j (1 + (y : Int))) rfl HO _ _ 1 1 [1 + (y : Int)] rfl HR (by simp; omega) (by unfold maxLen; simp; omega) (by simp; omega) ?_; intro v2 w4 hown2 hb2)
          rw [HRep.out] at hown2
          have HX2 := hid (Below.trans HX.out hb2)
          go_roundw
          case rel => exact ⟨j + 1, by omega, by go_num, hown2, HX2.out⟩
          case measure => simp [intOf]; omega
        · obtain rfl : j = k := by omega
          obtain ⟨At, ct, rfl, ht⟩ := tab_of hown (n := j) (by simp) (by omega) (fun t h => by have := List.eq_of_mem_replicate h; omega)
          have hok := hid (okT_in (n := len0) (fun t h => by have := List.eq_of_mem_replicate h; omega : ∀ t ∈ List.replicate j (1 + (y : Int)), 1 ≤ t ∧ t ≤ 8 * (len0 : Int)))
          have HX := hid (Ext.trans HK.out hx)
          have hb4 := hid (hbw.out.later hx)
          have ht4 := hid ht
          obtain ⟨M, hM⟩ : ∃ M, (j + 7) / 8 = M := ⟨_, rfl⟩
          have hM2 : ((j : Int) + 7) / 8 = M := by omega
          have HM := hid hM
          have hM3 : 8 * M ≤ j + 7 := by omega
          clear hown hx ht hM
          go_wp2_with fail
          refine (perm_rd _ _ _ _ _ _ _ _ M _ hb4.out ht4.out hok.out HM.out).mono ?_
          rintro e w5 ⟨Ax, cx, rfl, hx5, hxx⟩
          have HX5 := hid (Ext.trans HX.out hxx)
          have hb5 := hid (hb4.out.later hxx)
          have hx5h := hid hx5
          clear hx5 hxx
          go_wp2_with fail
          clear hM2
          go_loop [13] (fun i => ∃ (q : Nat), q ≤ 8 * M ∧ i = .int .i64 ((q : Int) + 1)) (fun i => (8 * (M : Int) + 1 - intOf i).toNat)
          case atStart => exact ⟨0, Nat.zero_le _, rfl⟩
          case round =>
            obtain ⟨q, hq, rfl⟩ := hrel
            by_cases hqt : q < 8 * M
            · have hbit := bit_permL bs (List.replicate j (1 + (y : Int))) q (by rw [List.length_replicate, HM.out]; omega)
              rw [tb_rep] at hbit
              by_cases hqj : q < j
              · rw [if_pos hqj] at hbit
                obtain ⟨X, hX⟩ : ∃ X, bitN bs (1 + (y : Int)) = X := ⟨_, rfl⟩
                rw [hX] at hbit
                have HX1 := hid hX
                have HBit := hid hbit
                clear hX hbit
                go_wp2_with fail
                refine (rbit_any _ _ _ _ _ _ hb5.out (by omega) (by omega) (by omega)).mono ?_
                rintro e w' ⟨rfl, rfl⟩
                rw [HX1.out]
                go_wp2_with fail
                refine (bit_any _ _ _ _ _ _ hx5h.out (by omega) (by omega)).mono ?_
                rintro e w' ⟨rfl, rfl⟩
                rw [HBit.out]
                go_wp2_with fail
                go_round
                case rel => exact ⟨q + 1, by omega, by go_num⟩
                case measure => simp [intOf]; omega
              · rw [if_neg hqj] at hbit
                have HBit := hid hbit
                clear hbit
                go_wp2_with fail
                refine (bit_any _ _ _ _ _ _ hx5h.out (by omega) (by omega)).mono ?_
                rintro e w' ⟨rfl, rfl⟩
                rw [HBit.out]
                go_wp2_with fail
                go_round
                case rel => exact ⟨q + 1, by omega, by go_num⟩
                case measure => simp [intOf]; omega
            · obtain rfl : q = 8 * M := by omega
              go_wp2_with fail
              go_ret
              exact ⟨rfl, HX5.out⟩
    · obtain rfl : len0 = 0 := by omega
      go_wp2_with fail
      go_ret
      exact ⟨rfl, hbk⟩
end Go.Proofs.Ytakfndhknoleaaa
