/- The law on Keys, walked; own text of the verifier. -/
import Derived.Test.YtbdncalllfpodaaDoorX23
namespace Go.Proofs.YtbdncalllfpodaaDoor
open Go.RowKit
def okN (n : Nat) : Prop := n = 16 ∨ n = 24 ∨ n = 32
instance (n : Nat) : Decidable (okN n) := by unfold okN; infer_instance
def kwN (n : Nat) (key : List UInt8) : List UInt32 := if okN n then keysL key else []
def swN (n : Nat) (key : List UInt8) : List UInt32 := if okN n then sL key else []
def codeN (n : Nat) : Int := if okN n then 0 else 4
theorem kwN_le (n : Nat) (key : List UInt8) : (kwN n key).length ≤ 1000 := by
  unfold kwN; split
  · rw [keysL_length]; omega
  · simp
theorem swN_le (n : Nat) (key : List UInt8) (h : key.length ≤ 60) : (swN n key).length ≤ 1000 := by
  unfold swN; split
  · rw [sL_length]; omega
  · simp
def K3 (X1 X2 : List UInt32) (C : Int) (w : World) (e : Ending) (w' : World) : Prop :=
  ∃ A1 c1 A2 c2, e = .returned (.tuple #[.slice A1 X1.length c1, .slice A2 X2.length c2, .int .i64 C]) ∧ RdN .u32 w' w'.heap.size A1 X1.length (nW X1) ∧ RdN .u32 w' w'.heap.size A2 X2.length (nW X2) ∧ Ext w w'
def K2 (n : Nat) (key : List UInt8) (w : World) (e : Ending) (w' : World) : Prop := K3 (kwN n key) (swN n key) (codeN n) w e w'
theorem k2_of {w : World} {n : Nat} {key : List UInt8} {e : Ending} {w' : World} (hn : okN n) (h : KRet w (keysL key) (sL key) e w') : K2 n key w e w' := by
  obtain ⟨v1, v2, rfl, h1, h2, hx⟩ := h
  obtain ⟨A1, c1, rfl, r1, _⟩ := OwnN.rdn h1 (nW_length _)
  obtain ⟨A2, c2, rfl, r2, _⟩ := OwnN.rdn h2 (nW_length _)
  unfold K2 K3 kwN swN codeN
  rw [if_pos hn, if_pos hn, if_pos hn]
  exact ⟨A1, c1, A2, c2, rfl, r1, r2, hx⟩
theorem k2_bad {w : World} {n : Nat} {key : List UInt8} {e : Ending} {w' : World} (hn : ¬ okN n) (h : e = .returned (.tuple #[.slice none 0 0, .slice none 0 0, .int .i64 4]) ∧ Ext w w') : K2 n key w e w' := by
  obtain ⟨rfl, hx⟩ := h
  unfold K2 K3 kwN swN codeN
  rw [if_neg hn, if_neg hn, if_neg hn]
  exact ⟨none, 0, none, 0, rfl, RdN.nil _ _ _, RdN.nil _ _ _, hx⟩
theorem keys_two (A : Option Addr) (n c : Nat) (key : List UInt8) (w : World) (hG : GT w) (h : Rd w w.heap.size A n key) (hc : n ≤ c) : Calls Tryd.prog 9 #[.slice A n c] w (K2 n key w) := by
  by_cases hn : okN n
  · exact (keys_any A n c key w hG h hn hc).mono fun e w' => k2_of hn
  · exact (keys_bad A n c w (fun e => hn (.inl e)) (fun e => hn (.inr (.inl e))) (fun e => hn (.inr (.inr e)))).mono fun e w' => k2_bad hn
theorem rkeys_two (A : Option Addr) (n c : Nat) (key : List UInt8) (w : World) (h : Rd w w.heap.size A n key) (hc : n ≤ c) : Calls Tryd.prog 11 #[.slice A n c] w (K2 n key w) := by
  by_cases hn : okN n
  · exact (rkeys_any A n c key w h hn hc).mono fun e w' => k2_of hn
  · exact (rkeys_bad A n c w (fun e => hn (.inl e)) (fun e => hn (.inr (.inl e))) (fun e => hn (.inr (.inr e)))).mono fun e w' => k2_bad hn
set_option maxRecDepth 100000 in
set_option maxHeartbeats 4000000 in
theorem keys_walk (a0 : Option Addr) (len0 cap0 : Nat) (z0 : List Int) (a1 : Int) (a2 : Option Addr) (len2 cap2 : Nat) (z2 : List Int) (w : World) (w0 : IsRow .u8 w a0 len0 cap0 z0) (_w1 : (Lit.int .i64 a1).wf = true) (w2 : IsRow .u8 w a2 len2 cap2 z2) (hG : GT w) :
    Calls Tryd.prog 3 #[.slice a0 len0 cap0, .int .i64 a1, .slice a2 len2 cap2] w fun e w' => e = .returned (.bool true) ∧ Below w.heap.size w w' := by
  obtain ⟨bs0, h0, hm0⟩ := w0.rd
  obtain ⟨bs2, h2, hm2, hc2⟩ := w2.rdc
  unfold maxLen at hm0 hm2
  clear w0 w2
  have H0 := hid h0
  have H2 := hid h2
  have HG := hid hG
  have hl2 := h2.len
  clear h0 h2 hG
  go_enter Tryd.func3, Tryd.ntmps3
  go_wp2_with fail
  refine (known_any _ HG.out).mono ?_
  rintro e w1 ⟨rfl, hx1⟩
  have HX1 := hid hx1
  clear hx1
  by_cases h60 : 60 < len2
  · have g60 : (60 : Int) < (len2 : Int) := by omega
    go_wp2_with fail
    go_ret
    exact ⟨rfl, HX1.out⟩
  · have g60 : ¬ (60 : Int) < (len2 : Int) := by omega
    have HL0 := hid hm0
    have HL2 := hid (show bs2.length ≤ 60 by omega)
    have HC2 := hid hc2
    clear hm0 hm2 hl2 h60 hc2
    go_wp2_with fail
    obtain ⟨K, hK⟩ : ∃ K, byL (kLen a1) bs0 = K := ⟨_, rfl⟩
    have hKL : K.length ≤ 60 := by rw [← hK, byL_len]; have := kLen_ok a1; omega
    have HKEY := hid (fun w h => key_any a0 len0 cap0 a1 bs0 w h HL0.out)
    obtain ⟨m, hm⟩ : ∃ m, kLen a1 = m := ⟨_, rfl⟩
    rw [hm] at hK
    rw [hm, hK] at HKEY
    have HP := hid (fun w A c hG h hc => keys_two A m c K w hG h hc)
    have HR := hid (fun w A c h hc => rkeys_two A m c K w h hc)
    have HP2 := hid (fun w A c hG h hc => keys_two A len2 c bs2 w hG h hc)
    have HR2 := hid (fun w A c h hc => rkeys_two A len2 c bs2 w h hc)
    have l1 := kwN_le m K
    have l2 := swN_le m K hKL
    have l3 := kwN_le len2 bs2
    have l4 := swN_le len2 bs2 HL2.out
    unfold K2 at HP HR HP2 HR2
    obtain ⟨X1, hX1⟩ : ∃ X, kwN m K = X := ⟨_, rfl⟩
    obtain ⟨X2, hX2⟩ : ∃ X, swN m K = X := ⟨_, rfl⟩
    obtain ⟨X3, hX3⟩ : ∃ X, kwN len2 bs2 = X := ⟨_, rfl⟩
    obtain ⟨X4, hX4⟩ : ∃ X, swN len2 bs2 = X := ⟨_, rfl⟩
    obtain ⟨C1, hC1⟩ : ∃ X, codeN m = X := ⟨_, rfl⟩
    obtain ⟨C2, hC2⟩ : ∃ X, codeN len2 = X := ⟨_, rfl⟩
    rw [hX1, hX2, hC1] at HP HR
    rw [hX3, hX4, hC2] at HP2 HR2
    rw [hX1] at l1
    rw [hX2] at l2
    rw [hX3] at l3
    rw [hX4] at l4
    obtain ⟨n1, hn1⟩ : ∃ n, X1.length = n := ⟨_, rfl⟩
    obtain ⟨n2, hn2⟩ : ∃ n, X2.length = n := ⟨_, rfl⟩
    obtain ⟨n3, hn3⟩ : ∃ n, X3.length = n := ⟨_, rfl⟩
    obtain ⟨n4, hn4⟩ : ∃ n, X4.length = n := ⟨_, rfl⟩
    unfold K3 at HP HR HP2 HR2
    rw [hn1, hn2] at HP HR
    rw [hn3, hn4] at HP2 HR2
    rw [hn1] at l1
    rw [hn2] at l2
    rw [hn3] at l3
    rw [hn4] at l4
    have HLL := hid (And.intro l1 (And.intro l2 (And.intro l3 l4)))
    clear hK hm hX1 hX2 hX3 hX4 hC1 hC2 hKL l1 l2 l3 l4 hn1 hn2 hn3 hn4
    refine (HKEY.out _ (H0.out.later HX1.out)).mono ?_
    rintro e w2 ⟨Ak, ck, rfl, hck, hrk, hx2⟩
    have HX2 := hid (Ext.trans HX1.out hx2)
    have HRK := hid hrk
    have HCK := hid hck
    skip
    clear hx2 hrk hck HX1
    go_wp2_with fail
    refine (HP.out _ Ak ck (HG.out.later HX2.out) HRK.out HCK.out).mono ?_
    rintro e w3 ⟨A1, c1, A2, c2, rfl, r1, r2, hx3⟩
    have HX3 := hid (Ext.trans HX2.out hx3)
    skip
    have RA1 := hid r1
    have RA2 := hid r2
    clear hx3 r1 r2 HX2
    go_wp2_with fail
    refine (HKEY.out _ (H0.out.later HX3.out)).mono ?_
    rintro e w4 ⟨Aj, cj, rfl, hck, hrk, hx4⟩
    have HX4 := hid (Ext.trans HX3.out hx4)
    have HRK := hid hrk
    have HCK := hid hck
    have RA1 := hid (RA1.out.later hx4)
    have RA2 := hid (RA2.out.later hx4)
    clear hx4 hrk hck HX3
    go_wp2_with fail
    refine (HR.out _ Aj cj HRK.out HCK.out).mono ?_
    rintro e w5 ⟨B1, d1, B2, d2, rfl, r1, r2, hx5⟩
    have HX5 := hid (Ext.trans HX4.out hx5)
    have RA1 := hid (RA1.out.later hx5)
    have RA2 := hid (RA2.out.later hx5)
    have RB1 := hid r1
    have RB2 := hid r2
    clear hx5 r1 r2 HX4
    go_wp2_with fail
    refine (HP2.out _ a2 cap2 (HG.out.later HX5.out) (H2.out.later HX5.out) HC2.out).mono ?_
    rintro e w6 ⟨C1, f1, C2, f2, rfl, r1, r2, hx6⟩
    have HX6 := hid (Ext.trans HX5.out hx6)
    have RA1 := hid (RA1.out.later hx6)
    have RA2 := hid (RA2.out.later hx6)
    have RB1 := hid (RB1.out.later hx6)
    have RB2 := hid (RB2.out.later hx6)
    have RC1 := hid r1
    have RC2 := hid r2
    clear hx6 r1 r2 HX5
    go_wp2_with fail
    refine (HR2.out _ a2 cap2 (H2.out.later HX6.out) HC2.out).mono ?_
    rintro e w7 ⟨D1, g1, D2, g2, rfl, r1, r2, hx7⟩
    have HX7 := hid (Ext.trans HX6.out hx7)
    have RA1 := hid (RA1.out.later hx7)
    have RA2 := hid (RA2.out.later hx7)
    have RB1 := hid (RB1.out.later hx7)
    have RB2 := hid (RB2.out.later hx7)
    have RC1 := hid (RC1.out.later hx7)
    have RC2 := hid (RC2.out.later hx7)
    have RD1 := hid r1
    have RD2 := hid r2
    clear hx7 r1 r2 HX6
    go_wp2_with fail
    refine (alike_any _ _ _ _ _ _ _ _ _ RA1.out RB1.out rfl HLL.out.1).mono ?_
    rintro e w8 ⟨rfl, hx8⟩
    have HX8 := hid (Ext.trans HX7.out hx8)
    have RA2 := hid (RA2.out.later hx8)
    have RB2 := hid (RB2.out.later hx8)
    have RC1 := hid (RC1.out.later hx8)
    have RD1 := hid (RD1.out.later hx8)
    have RC2 := hid (RC2.out.later hx8)
    have RD2 := hid (RD2.out.later hx8)
    clear hx8 HX7 RA1 RB1
    go_wp2_with fail
    refine (alike_any _ _ _ _ _ _ _ _ _ RA2.out RB2.out rfl HLL.out.2.1).mono ?_
    rintro e w9 ⟨rfl, hx9⟩
    have HX9 := hid (Ext.trans HX8.out hx9)
    have RC1 := hid (RC1.out.later hx9)
    have RD1 := hid (RD1.out.later hx9)
    have RC2 := hid (RC2.out.later hx9)
    have RD2 := hid (RD2.out.later hx9)
    clear hx9 HX8 RA2 RB2
    go_wp2_with fail
    refine (alike_any _ _ _ _ _ _ _ _ _ RC1.out RD1.out rfl HLL.out.2.2.1).mono ?_
    rintro e w10 ⟨rfl, hx10⟩
    have HX10 := hid (Ext.trans HX9.out hx10)
    have RC2 := hid (RC2.out.later hx10)
    have RD2 := hid (RD2.out.later hx10)
    clear hx10 HX9 RC1 RD1
    go_wp2_with fail
    refine (alike_any _ _ _ _ _ _ _ _ _ RC2.out RD2.out rfl HLL.out.2.2.2).mono ?_
    rintro e w11 ⟨rfl, hx11⟩
    have HX11 := hid (Ext.trans HX10.out hx11)
    clear hx11 HX10
    go_wp2_with fail
    go_ret
    exact ⟨rfl, HX11.out⟩
end Go.Proofs.YtbdncalllfpodaaDoor
