/- The law on what undoes a table, walked; own text of the verifier. -/
import Derived.Test.YtcmhaomnabdopaaDoorX6
namespace Go.Proofs.YtcmhaomnabdopaaDoor
open Go.RowKit
set_option maxRecDepth 100000 in
set_option maxHeartbeats 4000000 in
theorem back_walk (a0 : Int) (a1 : Option Addr) (len1 cap1 : Nat) (z1 : List Int) (w : World) (_w0 : (Lit.int .i64 a0).wf = true) (w1 : IsRow .i64 w a1 len1 cap1 z1) (ho : Odd w) :
    Calls Tryd.prog 4 #[.int .i64 a0, .slice a1 len1 cap1] w fun e w' => e = .returned (.bool true) ∧ Below w.heap.size w w' := by
  obtain ⟨ns, hrn, hmax, hcap, hwf⟩ := w1.rdN
  unfold maxLen at hmax
  clear w1 hwf _w0
  go_enter Tryd.func4, Tryd.ntmps4
  go_wp2_with fail
  refine (known_any _ ho).mono ?_
  rintro e wk ⟨rfl, hxk⟩
  have hrn1 := hrn.later hxk
  have HXK := hid hxk
  clear hxk hrn ho
  go_wp2_with fail
  refine (within_any _ _ _ (by omega) (by omega)).mono ?_
  rintro e w' ⟨rfl, rfl⟩
  obtain ⟨n, hn⟩ : ∃ n : Nat, a0 % 257 = n := ⟨(a0 % 257).toNat, by omega⟩
  have hn2 : n ≤ 256 := by omega
  rw [hn]
  clear hn
  go_wp2_with fail
  refine (table_rd _ n _ _ ns _ hrn1 hn2 (by omega)).mono ?_
  rintro e wt ⟨At, ct, rfl, hct, hrt, hxt⟩
  have hT := tabL_isT n ns hn2
  obtain ⟨t, ht⟩ : ∃ t, tabL n ns = t := ⟨_, rfl⟩
  rw [ht] at hrt hT
  have HXT := hid (Ext.trans HXK.out hxt)
  have HT := hid hT
  have HRT := hid hrt
  clear hrn1 hxt ht hT hrt
  go_wp2_with fail
  refine (back_tab _ _ _ _ _ HRT.out HT.out).mono ?_
  rintro e wu ⟨Au, cu, rfl, hru, hxu⟩
  have HXU := hid (Ext.trans HXT.out hxu)
  have HRT2 := hid (HRT.out.later hxu)
  have HRU := hid hru
  clear hru hxu
  go_wp2_with fail
  go_loop [8] (fun i => ∃ k : Nat, k ≤ n ∧ i = .int .i64 k) (fun i => n - (intOf i).toNat)
  case atStart => exact ⟨0, Nat.zero_le _, rfl⟩
  case round =>
    obtain ⟨k, hk, rfl⟩ := hrel
    by_cases hlt : k < n
    · obtain ⟨b1, o1, rfl, _, hc1⟩ := nb_cell HRT2.out (by omega)
      obtain ⟨b2, o2, rfl, _, hc2⟩ := nb_cell HRU.out (by omega)
      have h1 := hc1 k hlt
      have hp := HT.out.lt k hlt
      have h2 := hc2 _ hp
      rw [backL_at HT.out hlt] at h2
      have h3 := hc2 k hlt
      obtain ⟨hq, hq2⟩ := backL_lt HT.out hlt
      have h4 := hc1 _ hq
      rw [hq2] at h4
      obtain ⟨p, hpe⟩ : ∃ p, nb t k = p := ⟨_, rfl⟩
      obtain ⟨q, hqe⟩ : ∃ q, nb (backL t) k = q := ⟨_, rfl⟩
      rw [hpe] at h1 h2 hp
      rw [hqe] at h3 h4 hq
      clear hc1 hc2 hq2 hpe hqe
      go_wp2_with fail
      go_round
      case rel => exact ⟨k + 1, by omega, by go_num⟩
      case measure => simp [intOf]; omega
    · obtain rfl : k = n := by omega
      go_wp2_with fail
      refine (back_tab _ _ _ _ _ HRU.out (backL_isT HT.out)).mono ?_
      rintro e wv ⟨Av, cv, rfl, hrv, hxv⟩
      rw [backL_back HT.out] at hrv
      have HXV := hid (Ext.trans HXU.out hxv)
      have s1 := strq (c := cv) hrv
      have s2 := strq (c := ct) (HRT2.out.later hxv)
      clear hrv hxv
      go_wp2_with fail
      go_ret
      exact ⟨rfl, HXV.out⟩
end Go.Proofs.YtcmhaomnabdopaaDoor
