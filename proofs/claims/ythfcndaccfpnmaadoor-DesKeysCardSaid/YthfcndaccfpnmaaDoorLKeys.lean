/- The law on keys and on F, walked; own text of the verifier. -/
import Derived.Test.YthfcndaccfpnmaaDoorX17
import Derived.Test.YthfcndaccfpnmaaDoorX11
namespace Go.Proofs.YthfcndaccfpnmaaDoor
open Go.RowKit
def rowsN (n : Nat) : Nat := if n = 8 then 16 else 0
def codeN (n : Nat) : Int := if n = 8 then 0 else 4
def RowV (w : World) (n : Nat) (bs : List UInt8) (A : Option Addr) (c : Nat) : Prop :=
  (n = 8 → ∃ b, A = some ⟨b, 0, none⟩ ∧ KO w b (keyF bs)) ∧ (n ≠ 8 → A = none ∧ c = 0)
theorem RowV.later {w w' : World} {n : Nat} {bs : List UInt8} {A : Option Addr} {c : Nat} (h : RowV w n bs A c) (hx : Ext w w') : RowV w' n bs A c :=
  ⟨fun hn => by obtain ⟨b, h1, h2⟩ := h.1 hn; exact ⟨b, h1, h2.later hx⟩, h.2⟩
def KR2 (n : Nat) (bs : List UInt8) (w : World) (e : Ending) (w' : World) : Prop :=
  ∃ A c, e = .returned (.tuple #[.slice A (rowsN n) c, .int .i64 (codeN n)]) ∧ RowV w' n bs A c ∧ Ext w w'
theorem kr2_of {w : World} {n : Nat} {bs : List UInt8} {e : Ending} {w' : World} (hn : n = 8) (h : KeyRet w bs e w') : KR2 n bs w e w' := by
  obtain ⟨b, c, rfl, _, hk, hx⟩ := h
  subst hn
  exact ⟨some ⟨b, 0, none⟩, c, rfl, ⟨fun _ => ⟨b, rfl, hk⟩, fun h => absurd rfl h⟩, hx⟩
theorem kr2_bad {w : World} {n : Nat} {bs : List UInt8} {e : Ending} {w' : World} (hn : n ≠ 8) (h : e = .returned (.tuple #[.slice none 0 0, .int .i64 4]) ∧ Ext w w') : KR2 n bs w e w' := by
  obtain ⟨rfl, hx⟩ := h
  refine ⟨none, 0, ?_, ⟨fun h => absurd h hn, fun _ => ⟨rfl, rfl⟩⟩, hx⟩
  unfold rowsN codeN
  rw [if_neg hn, if_neg hn]
theorem keys_two (A : Option Addr) (n c : Nat) (bs : List UInt8) (w : World) (h : Rd w w.heap.size A n bs) : Calls Tryd.prog 11 #[.slice A n c] w (KR2 n bs w) := by
  by_cases hn : n = 8
  · subst hn
    exact (keys_any A c bs w h).mono fun e w' => kr2_of rfl
  · exact (keys_bad A n c w hn).mono fun e w' => kr2_bad hn
theorem rkeys_two (A : Option Addr) (n c : Nat) (bs : List UInt8) (w : World) (h : Rd w w.heap.size A n bs) : Calls Tryd.prog 13 #[.slice A n c] w (KR2 n bs w) := by
  by_cases hn : n = 8
  · subst hn
    exact (rkeys_any A c bs w h).mono fun e w' => kr2_of rfl
  · exact (rkeys_bad A n c w hn).mono fun e w' => kr2_bad hn
theorem rows_two (A1 A2 : Option Addr) (n c1 c2 : Nat) (bs : List UInt8) (w : World) (h1 : RowV w n bs A1 c1) (h2 : RowV w n bs A2 c2) :
    Calls Tryd.prog 14 #[.slice A1 (rowsN n) c1, .slice A2 (rowsN n) c2] w (RetTrue w) := by
  by_cases hn : n = 8
  · obtain ⟨b1, rfl, k1⟩ := h1.1 hn
    obtain ⟨b2, rfl, k2⟩ := h2.1 hn
    subst hn
    exact rows_same b1 b2 c1 c2 (keyF bs) w k1.kr k2.kr
  · obtain ⟨rfl, rfl⟩ := h1.2 hn
    obtain ⟨rfl, rfl⟩ := h2.2 hn
    unfold rowsN
    rw [if_neg hn]
    exact rows_nil w
def lenF (n m : Nat) : Nat := if n = 4 ∧ m = 6 then 4 else 0
def fR (n m : Nat) (r k : List UInt8) : List UInt8 := if n = 4 ∧ m = 6 then fL r k else []
def FR2 (n m : Nat) (r k : List UInt8) (w : World) (e : Ending) (w' : World) : Prop :=
  ∃ A c, e = .returned (.tuple #[.slice A (lenF n m) c, .bool (decide (n = 4 ∧ m = 6))]) ∧ Rd w' w'.heap.size A (lenF n m) (fR n m r k) ∧ Ext w w'
theorem fr2_of {w : World} {n m : Nat} {r k : List UInt8} {e : Ending} {w' : World} (hn : n = 4 ∧ m = 6) (h : FRet w r k e w') : FR2 n m r k w e w' := by
  obtain ⟨A, c, rfl, _, hr, hx⟩ := h
  refine ⟨A, c, ?_, ?_, hx⟩
  · unfold lenF; rw [if_pos hn]; simp [hn]
  · unfold lenF fR; rw [if_pos hn, if_pos hn]; exact hr
theorem fr2_bad {w : World} {n m : Nat} {r k : List UInt8} {e : Ending} {w' : World} (hn : ¬ (n = 4 ∧ m = 6)) (h : e = .returned (.tuple #[.slice none 0 0, .bool false]) ∧ Ext w w') : FR2 n m r k w e w' := by
  obtain ⟨rfl, hx⟩ := h
  refine ⟨none, 0, ?_, ?_, hx⟩
  · unfold lenF; rw [if_neg hn, decide_eq_false hn]
  · unfold lenF fR; rw [if_neg hn, if_neg hn]; exact Rd.nil _ _ _
theorem f_two (A A' : Option Addr) (n m c c' : Nat) (r k : List UInt8) (w : World) (hr : Rd w w.heap.size A n r) (hk : Rd w w.heap.size A' m k) (hB : Boxes w) :
    Calls Tryd.prog 15 #[.slice A n c, .slice A' m c'] w (FR2 n m r k w) := by
  by_cases hn : n = 4 ∧ m = 6
  · obtain ⟨rfl, rfl⟩ := hn
    exact (f_any A A' c c' r k w hr hk hB).mono fun e w' => fr2_of ⟨rfl, rfl⟩
  · exact (f_bad A A' n m c c' w hn).mono fun e w' => fr2_bad hn
theorem rf_two (A A' : Option Addr) (n m c c' : Nat) (r k : List UInt8) (w : World) (hr : Rd w w.heap.size A n r) (hk : Rd w w.heap.size A' m k) :
    Calls Tryd.prog 16 #[.slice A n c, .slice A' m c'] w (FR2 n m r k w) := by
  by_cases hn : n = 4 ∧ m = 6
  · obtain ⟨rfl, rfl⟩ := hn
    exact (rf_any A A' c c' r k w hr hk).mono fun e w' => fr2_of ⟨rfl, rfl⟩
  · exact (rf_bad A A' n m c c' w hn).mono fun e w' => fr2_bad hn
set_option maxRecDepth 100000 in
set_option maxHeartbeats 4000000 in
theorem keys_walk (a0 : Option Addr) (len0 cap0 : Nat) (z0 : List Int) (a1 : Option Addr) (len1 cap1 : Nat) (z1 : List Int) (a2 : Option Addr) (len2 cap2 : Nat) (z2 : List Int) (a3 : Option Addr) (len3 cap3 : Nat) (z3 : List Int) (w : World) (w0 : IsRow .u8 w a0 len0 cap0 z0) (w1 : IsRow .u8 w a1 len1 cap1 z1) (w2 : IsRow .u8 w a2 len2 cap2 z2) (w3 : IsRow .u8 w a3 len3 cap3 z3) (ho : Boxes w) :
    Calls Tryd.prog 3 #[.slice a0 len0 cap0, .slice a1 len1 cap1, .slice a2 len2 cap2, .slice a3 len3 cap3] w fun e w' => e = .returned (.bool true) ∧ Below w.heap.size w w' := by
  obtain ⟨ks, hr0, hmax0, _⟩ := w0.rdc
  obtain ⟨rs, hr1, hmax1, _⟩ := w1.rdc
  obtain ⟨ss, hr2, hmax2, _⟩ := w2.rdc
  obtain ⟨raw, hr3, hmax3, _⟩ := w3.rdc
  unfold maxLen at hmax0 hmax1 hmax2 hmax3
  clear w0 w1 w2 w3
  have HO := hid ho
  have H0 := hid hr0
  have H1 := hid hr1
  have H2 := hid hr2
  have H3 := hid hr3
  clear ho hr0 hr1 hr2 hr3
  go_enter Tryd.func3, Tryd.ntmps3
  go_wp2_with fail
  refine (known_any _ HO.out).mono ?_
  rintro e wk ⟨rfl, hxk⟩
  have HXK := hid hxk
  clear hxk
  by_cases h60 : 60 < len3
  · go_wp2_with fail
    go_ret
    exact ⟨rfl, HXK.out⟩
  · go_wp2_with fail
    refine (bytes_rd _ 8 _ _ _ _ (H0.out.later HXK.out) (by omega) (by omega)).mono ?_
    rintro e w3 ⟨A3, c3, rfl, hc3, hr3, hx3⟩
    have HX3 := hid (Ext.trans HXK.out hx3)
    have HR3 := hid hr3
    clear hr3 hx3 HXK
    go_wp2_with fail
    refine (keys_two _ 8 _ _ _ HR3.out).mono ?_
    rintro e w4 ⟨A4, c4, rfl, hv4, hx4⟩
    have HX4 := hid (Ext.trans HX3.out hx4)
    have HV4 := hid hv4
    clear hv4 hx4 HX3 HR3
    go_wp2_with fail
    refine (bytes_rd _ 8 _ _ _ _ (H0.out.later HX4.out) (by omega) (by omega)).mono ?_
    rintro e w5 ⟨A5, c5, rfl, hc5, hr5, hx5⟩
    have HX5 := hid (Ext.trans HX4.out hx5)
    have HV5 := hid (HV4.out.later hx5)
    have HR5 := hid hr5
    clear hr5 hx5 HX4 HV4
    go_wp2_with fail
    refine (rkeys_two _ 8 _ _ _ HR5.out).mono ?_
    rintro e w6 ⟨A6, c6, rfl, hv6, hx6⟩
    have HX6 := hid (Ext.trans HX5.out hx6)
    have HV6 := hid (HV5.out.later hx6)
    have HU6 := hid hv6
    clear hv6 hx6 HX5 HV5 HR5
    go_wp2_with fail
    refine (keys_two _ len3 _ _ _ (H3.out.later HX6.out)).mono ?_
    rintro e w7 ⟨A7, c7, rfl, hv7, hx7⟩
    have HX7 := hid (Ext.trans HX6.out hx7)
    have HV7 := hid (HV6.out.later hx7)
    have HU7 := hid (HU6.out.later hx7)
    have HS7 := hid hv7
    clear hv7 hx7 HX6 HV6 HU6
    go_wp2_with fail
    refine (rkeys_two _ len3 _ _ _ (H3.out.later HX7.out)).mono ?_
    rintro e w8 ⟨A8, c8, rfl, hv8, hx8⟩
    have HX8 := hid (Ext.trans HX7.out hx8)
    have HV8 := hid (HV7.out.later hx8)
    have HU8 := hid (HU7.out.later hx8)
    have HS8 := hid (HS7.out.later hx8)
    have HT8 := hid hv8
    clear hv8 hx8 HX7 HV7 HU7 HS7
    go_wp2_with fail
    refine (rows_two _ _ 8 _ _ _ _ HV8.out HU8.out).mono ?_
    rintro e w9 ⟨rfl, hx9⟩
    have HX9 := hid (Ext.trans HX8.out hx9)
    have HS9 := hid (HS8.out.later hx9)
    have HT9 := hid (HT8.out.later hx9)
    clear hx9 HX8 HV8 HU8 HS8 HT8
    go_wp2_with fail
    refine (rows_two _ _ len3 _ _ _ _ HS9.out HT9.out).mono ?_
    rintro e w10 ⟨rfl, hx10⟩
    have HX10 := hid (Ext.trans HX9.out hx10)
    clear hx10 HX9 HS9 HT9
    go_wp2_with fail
    refine (bytes_rd _ 4 _ _ _ _ (H1.out.later HX10.out) (by omega) (by omega)).mono ?_
    rintro e w11 ⟨A11, c11, rfl, hc11, hr11, hx11⟩
    have HX11 := hid (Ext.trans HX10.out hx11)
    have HR11 := hid hr11
    clear hr11 hx11 HX10
    go_wp2_with fail
    refine (bytes_rd _ 6 _ _ _ _ (H2.out.later HX11.out) (by omega) (by omega)).mono ?_
    rintro e w12 ⟨A12, c12, rfl, hc12, hr12, hx12⟩
    have HX12 := hid (Ext.trans HX11.out hx12)
    have HR12 := hid (HR11.out.later hx12)
    have HK12 := hid hr12
    clear hr12 hx12 HX11 HR11
    go_wp2_with fail
    refine (f_two _ _ 4 6 _ _ _ _ _ HR12.out HK12.out (HO.out.later HX12.out)).mono ?_
    rintro e w13 ⟨A13, c13, rfl, hr13, hx13⟩
    have HX13 := hid (Ext.trans HX12.out hx13)
    have HF13 := hid hr13
    clear hr13 hx13 HX12 HR12 HK12
    go_wp2_with fail
    refine (bytes_rd _ 4 _ _ _ _ (H1.out.later HX13.out) (by omega) (by omega)).mono ?_
    rintro e w14 ⟨A14, c14, rfl, hc14, hr14, hx14⟩
    have HX14 := hid (Ext.trans HX13.out hx14)
    have HF14 := hid (HF13.out.later hx14)
    have HR14 := hid hr14
    clear hr14 hx14 HX13 HF13
    go_wp2_with fail
    refine (bytes_rd _ 6 _ _ _ _ (H2.out.later HX14.out) (by omega) (by omega)).mono ?_
    rintro e w15 ⟨A15, c15, rfl, hc15, hr15, hx15⟩
    have HX15 := hid (Ext.trans HX14.out hx15)
    have HF15 := hid (HF14.out.later hx15)
    have HR15 := hid (HR14.out.later hx15)
    have HK15 := hid hr15
    clear hr15 hx15 HX14 HF14 HR14
    go_wp2_with fail
    refine (rf_two _ _ 4 6 _ _ _ _ _ HR15.out HK15.out).mono ?_
    rintro e w16 ⟨A16, c16, rfl, hr16, hx16⟩
    have HX16 := hid (Ext.trans HX15.out hx16)
    have HF16 := hid (HF15.out.later hx16)
    have HG16 := hid hr16
    clear hr16 hx16 HX15 HF15 HR15 HK15
    go_wp2_with fail
    refine (f_two _ _ len3 len2 _ _ _ _ _ (H3.out.later HX16.out) (H2.out.later HX16.out) (HO.out.later HX16.out)).mono ?_
    rintro e w17 ⟨A17, c17, rfl, hr17, hx17⟩
    have HX17 := hid (Ext.trans HX16.out hx17)
    have HF17 := hid (HF16.out.later hx17)
    have HG17 := hid (HG16.out.later hx17)
    have HP17 := hid hr17
    clear hr17 hx17 HX16 HF16 HG16
    go_wp2_with fail
    refine (rf_two _ _ len3 len2 _ _ _ _ _ (H3.out.later HX17.out) (H2.out.later HX17.out)).mono ?_
    rintro e w18 ⟨A18, c18, rfl, hr18, hx18⟩
    have HX18 := hid (Ext.trans HX17.out hx18)
    have hs1 := strq (c := c13) (HF17.out.later hx18)
    have hs2 := strq (c := c16) (HG17.out.later hx18)
    have hs3 := strq (c := c17) (HP17.out.later hx18)
    have hs4 := strq (c := c18) hr18
    clear hr18 hx18 HX17 HF17 HG17 HP17
    go_wp2_with fail
    go_ret
    exact ⟨rfl, HX18.out⟩
end Go.Proofs.YthfcndaccfpnmaaDoor
