/- The law on products, what undoes a number, and keys, walked; own text of the verifier. -/
import Derived.Test.YtamolgbdpnpemaaLGroup
namespace Go.Proofs.Ytamolgbdpnpemaa
open Go.RowKit
def codeN (n : Nat) : Int := if n = 16 then 0 else 4
theorem keys_code (A : Option Addr) (n c : Nat) (bs : List UInt8) (w : World) (h : Rd w w.heap.size A n bs) :
    Calls Try.prog 10 #[.slice A n c] w fun e w' => ∃ v, e = .returned (.tuple #[v, .int .i64 (codeN n)]) ∧ Ext w w' := by
  unfold codeN
  by_cases hn : n = 16
  · subst hn
    refine (keys_any A c bs w h).mono ?_
    rintro e w' ⟨g, rfl, _, _, hx⟩
    exact ⟨_, by rw [if_pos rfl], hx⟩
  · refine (keys_bad A n c w hn).mono ?_
    rintro e w' ⟨rfl, hx⟩
    exact ⟨_, by rw [if_neg hn], hx⟩
theorem rkeys_code (A : Option Addr) (n c : Nat) (bs : List UInt8) (w : World) (h : Rd w w.heap.size A n bs) :
    Calls Try.prog 12 #[.slice A n c] w fun e w' => ∃ v, e = .returned (.tuple #[v, .int .i64 (codeN n)]) ∧ Ext w w' := by
  unfold codeN
  by_cases hn : n = 16
  · subst hn
    refine (rkeys_any A c bs w h).mono ?_
    rintro e w' ⟨A2, c2, rfl, _, _, hx⟩
    exact ⟨_, by rw [if_pos rfl], hx⟩
  · refine (rkeys_bad A n c w hn).mono ?_
    rintro e w' ⟨rfl, hx⟩
    exact ⟨_, by rw [if_neg hn], hx⟩
theorem ext_drewN {a w : World} (h : Ext a w) (n : Nat) : Ext a (w.drewN n) := below_drewN' h n
set_option maxRecDepth 100000 in
set_option maxHeartbeats 4000000 in
theorem mul_walk (a0 : Int) (a1 : Int) (a2 : Option Addr) (len2 cap2 : Nat) (z2 : List Int) (a3 : Option Addr) (len3 cap3 : Nat) (z3 : List Int) (w : World) (_w0 : (Lit.int .i64 a0).wf = true) (_w1 : (Lit.int .i64 a1).wf = true) (w2 : IsRow .u8 w a2 len2 cap2 z2) (w3 : IsRow .u8 w a3 len3 cap3 z3) :
    Calls Try.prog 3 #[.int .i64 a0, .int .i64 a1, .slice a2 len2 cap2, .slice a3 len3 cap3] w fun e w' => e = .returned (.bool true) ∧ Below w.heap.size w w' := by
  obtain ⟨ks, hr2, hmax2, _⟩ := w2.rdc
  obtain ⟨raw, hr3, hmax3, _⟩ := w3.rdc
  unfold maxLen at hmax2 hmax3
  have H2 := hid hr2
  have H3 := hid hr3
  clear w2 w3 hr2 hr3
  go_enter Try.func3, Try.ntmps3
  go_wp2_with fail
  refine (known_any _).mono ?_
  rintro e w1 ⟨rfl, hx1⟩
  have HX1 := hid hx1
  clear hx1
  by_cases h60 : 60 < len3
  · go_wp2_with fail
    go_ret
    exact ⟨rfl, HX1.out⟩
  · obtain ⟨x, hx, _, cx⟩ := within16 a0 w1
    obtain ⟨y, hy, _, cy⟩ := within16 a1 w1
    have CX := hid cx
    have CY := hid cy
    have C1 := hid (fun w => mul_any x y w hx hy)
    have C2 := hid (fun w => rmul_any x y w hx hy)
    have C3 := hid (fun w => inv_any x w hx)
    have C4 := hid (fun w => rinv_any x w hx)
    have C5 := hid (fun w => mul_any 0 y w (by omega) hy)
    have C6 := hid (fun w => rmul_any 0 y w (by omega) hy)
    obtain ⟨m1, h1⟩ : ∃ m, mulF x y = m := ⟨_, rfl⟩
    obtain ⟨m2, h2⟩ : ∃ m, invF x = m := ⟨_, rfl⟩
    obtain ⟨m3, h3⟩ : ∃ m, mulF 0 y = m := ⟨_, rfl⟩
    rw [h1] at C1 C2
    rw [h2] at C3 C4
    rw [h3] at C5 C6
    clear h1 h2 h3 cx cy hx hy
    go_wp2_with fail
    refine CX.out.mono ?_
    rintro e w' ⟨rfl, rfl⟩
    go_wp2_with fail
    refine CY.out.mono ?_
    rintro e w' ⟨rfl, rfl⟩
    go_wp2_with fail
    refine (bytes_rd _ 16 _ _ _ _ (H2.out.later HX1.out) (by omega) (by omega)).mono ?_
    rintro e w3 ⟨A3, c3, rfl, hc3, hr3, hx3⟩
    have HX3 := hid (Ext.trans HX1.out hx3)
    have HR3 := hid hr3
    clear hr3 hx3 HX1
    go_wp2_with fail
    refine (keys_any _ _ _ _ HR3.out).mono ?_
    rintro e w4 ⟨g, rfl, _, hb4, hx4⟩
    have HX4 := hid (Ext.trans HX3.out hx4)
    have HB4 := hid hb4
    clear hb4 hx4 HX3 HR3
    go_wp2_with fail
    refine (bytes_rd _ 16 _ _ _ _ (H2.out.later HX4.out) (by omega) (by omega)).mono ?_
    rintro e w5 ⟨A5, c5, rfl, hc5, hr5, hx5⟩
    have HX5 := hid (Ext.trans HX4.out hx5)
    have HB5 := hid (HB4.out.later hx5)
    have HR5 := hid hr5
    clear hr5 hx5 HX4 HB4
    go_wp2_with fail
    refine (rkeys_any _ _ _ _ HR5.out).mono ?_
    rintro e w6 ⟨A6, c6, rfl, hc6, hr6, hx6⟩
    have HX6 := hid (Ext.trans HX5.out hx6)
    have HB6 := hid (HB5.out.later hx6)
    have HR6 := hid hr6
    clear hr6 hx6 HX5 HB5 HR5
    go_wp2_with fail
    refine (keys_code _ len3 _ _ _ (H3.out.later HX6.out)).mono ?_
    rintro e w7 ⟨v7, rfl, hx7⟩
    have HX7 := hid (Ext.trans HX6.out hx7)
    have HB7 := hid (HB6.out.later hx7)
    have HR7 := hid (HR6.out.later hx7)
    clear hx7 HX6 HB6 HR6
    go_wp2_with fail
    refine (rkeys_code _ len3 _ _ _ (H3.out.later HX7.out)).mono ?_
    rintro e w8 ⟨v8, rfl, hx8⟩
    have HX8 := hid (Ext.trans HX7.out hx8)
    have HB8 := hid (HB7.out.later hx8)
    have HR8 := hid (HR7.out.later hx8)
    clear hx8 HX7 HB7 HR7
    go_wp2_with fail
    go_loopw [19] (fun i wr => ∃ k : Nat, k ≤ 52 ∧ i = .int .i64 k ∧ Ext w8 wr) (fun i _ => 52 - (intOf i).toNat)
    case atStart => exact ⟨0, by omega, rfl, Ext.refl _⟩
    case round =>
      obtain ⟨k, hk, rfl, hx⟩ := hrel
      by_cases hlt : k < 52
      · obtain ⟨b, o, rfl, _, hc⟩ := (HR8.out.later hx).at_ (by omega)
        have hc1 := (HB8.out.later hx).cell k (by rw [tabN_length]; exact hlt)
        have hc2 := hc k hlt
        have hki : (k : Int) < 52 := by omega
        obtain ⟨X, hX⟩ : ∃ X, (tabN (keyF (byL 16 ks)) 52).getD k 0 = X := ⟨_, rfl⟩
        rw [hX] at hc1 hc2
        have HX := hid hx
        clear hX hc hx
        go_wp2_with fail
        go_quiet (fail)
        go_wp2_with fail
        go_roundw
        case rel => exact ⟨k + 1, by omega, by go_num, ext_drewN HX.out nq⟩
        case measure => simp [intOf]; omega
      · obtain rfl : k = 52 := by omega
        have HX := hid (Ext.trans HX8.out hx)
        clear hx
        go_wp2_with fail
        refine (C1.out _).mono ?_
        rintro e w' ⟨rfl, rfl⟩
        go_wp2_with fail
        refine (C2.out _).mono ?_
        rintro e w' ⟨rfl, rfl⟩
        go_wp2_with fail
        refine (C3.out _).mono ?_
        rintro e w' ⟨rfl, rfl⟩
        go_wp2_with fail
        refine (C4.out _).mono ?_
        rintro e w' ⟨rfl, rfl⟩
        go_wp2_with fail
        refine (C5.out _).mono ?_
        rintro e w' ⟨rfl, rfl⟩
        go_wp2_with fail
        refine (C6.out _).mono ?_
        rintro e w' ⟨rfl, rfl⟩
        go_wp2_with fail
        go_ret
        exact ⟨rfl, HX.out⟩
end Go.Proofs.Ytamolgbdpnpemaa
