/- The law on tables and what undoes them, walked; own text of the verifier. -/
import Derived.Test.YtakfndhknoleaaaB9
namespace Go.Proofs.Ytakfndhknoleaaa
open Go.RowKit
set_option maxHeartbeats 1000000 in
theorem back_walk (a0 : Option Addr) (len0 cap0 : Nat) (z0 : List Int) (a1 : Option Addr) (len1 cap1 : Nat) (z1 : List Int) (w : World)
    (w0 : IsRow .u8 w a0 len0 cap0 z0) (w1 : IsRow .i64 w a1 len1 cap1 z1) :
    Calls Try.prog 5 #[.slice a0 len0 cap0, .slice a1 len1 cap1] w fun e w' => e = .returned (.bool true) ∧ Below w.heap.size w w' := by
  obtain ⟨bs, hrb, hmax0, _⟩ := w0.rdc
  obtain ⟨ns, hrn, hmax1, hcap1, hwn⟩ := w1.rdN
  unfold maxLen at hmax0 hmax1
  clear w0 w1 hwn
  go_enter Try.func5, Try.ntmps5
  go_wp2_with fail
  refine (known_any _).mono ?_
  rintro e wk ⟨rfl, hbk⟩
  by_cases h16 : 16 < len0
  · go_wp2_with fail
    go_ret
    exact ⟨rfl, hbk⟩
  · have HL := hid hrb.len
    have HB0 := hid hrb
    have HN0 := hid (hrn.later hbk)
    have HK := hid hbk
    have HT := ordL_isPerm (8 * len0) ns
    obtain ⟨us, hu1, hu2, hu3⟩ := inv_perm HT
    have hu4 := inv_undo HT hu2 hu3
    have hbk2 := permL_back (bs := bs) HL.out HT hu2 hu3
    have HT := hid HT
    have hu1 := hid hu1
    have hu2 := hid hu2
    have hu4 := hid hu4
    have HPB := hid hbk2
    have hok := hid (HT.out.ok (n := len0) rfl)
    have hoku := hid (hu2.out.ok (n := len0) rfl)
    have hM : (8 * len0 + 7) / 8 = len0 := by omega
    have HM := hid hM
    clear hrb hrn hbk hu3 hbk2 hM
    go_wp2_with fail
    refine (order_tab _ (8 * len0) _ _ _ _ _ (by omega) HN0.out (by omega) (by omega)).mono ?_
    rintro e w2 ⟨At, ct, rfl, ht, hx2⟩
    have HX2 := hid (Ext.trans HK.out hx2)
    have ht2 := hid ht
    clear ht hx2
    go_wp2_with fail
    refine (inv_tab _ _ _ _ us _ ht2.out hu1.out hu2.out).mono ?_
    rintro e w3 ⟨Au, cu, rfl, hu, hx3⟩
    have HX3 := hid (Ext.trans HX2.out hx3)
    have ht3 := hid (ht2.out.later hx3)
    have hU3 := hid hu
    have hb3 := hid (HB0.out.later HX3.out)
    clear hu hx3
    go_wp2_with fail
    refine (perm_rd _ _ _ _ _ _ _ _ len0 _ hb3.out ht3.out hok.out HM.out).mono ?_
    rintro e w4 ⟨Ax, cx, rfl, hx, hx4⟩
    have HX4 := hid (Ext.trans HX3.out hx4)
    have ht4 := hid (ht3.out.later hx4)
    have hU4 := hid (hU3.out.later hx4)
    have hxr4 := hid hx
    clear hx hx4
    go_wp2_with fail
    refine (perm_rd _ _ _ _ _ _ _ _ len0 _ hxr4.out hU4.out hoku.out HM.out).mono ?_
    rintro e w5 ⟨Ay, cy, rfl, hy, hx5⟩
    rw [HPB.out] at hy
    have HX5 := hid (Ext.trans HX4.out hx5)
    have ht5 := hid (ht4.out.later hx5)
    have hU5 := hid (hU4.out.later hx5)
    have hyr5 := hid hy
    clear hy hx5
    go_wp2_with fail
    refine (inv_tab _ _ _ _ _ _ hU5.out hu4.out HT.out).mono ?_
    rintro e w6 ⟨Av, cv, rfl, hv, hx6⟩
    have HX6 := hid (Ext.trans HX5.out hx6)
    have hs1 := strq (c := cy) (hyr5.out.later hx6)
    have hs2 := strq (c := cap0) (HB0.out.later HX6.out)
    have ht6 := hid (ht5.out.later hx6)
    have hv6 := hid hv
    clear hv hx6
    go_wp2_with fail
    refine (ints_any _ _ _ _ _ _ _ _ _ hv6.out.1 ht6.out.1 (by omega) (by omega)).mono ?_
    rintro e w7 ⟨rfl, hx7⟩
    have HX7 := hid (Ext.trans HX6.out hx7)
    rw [show eqL (ordL (8 * len0) ns) (ordL (8 * len0) ns) = true by simp [eqL]]
    clear hx7
    go_wp2_with fail
    go_ret
    exact ⟨rfl, HX7.out⟩
end Go.Proofs.Ytakfndhknoleaaa
