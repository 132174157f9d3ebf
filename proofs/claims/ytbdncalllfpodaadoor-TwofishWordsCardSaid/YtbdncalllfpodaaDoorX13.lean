/- Walk over spread of the program: the keys by twos; own lemmas of the verifier, no statement is proved here. -/
import Derived.Test.YtbdncalllfpodaaDoorX12
namespace Go.Proofs.YtbdncalllfpodaaDoor
open Go.RowKit
theorem w_two (b : UInt32) : (2 * (b.toNat : Int)) % 4294967296 = ((2 * b : UInt32).toNat : Int) := by
  rw [UInt32.toNat_mul, show (2 : UInt32).toNat = 2 from rfl]; omega
theorem w_ones (k : Nat) (_h : k < 64) : ((k : Int) * 16843009) = ((UInt32.ofNat k * 0x01010101 : UInt32).toNat : Int) := by
  rw [UInt32.toNat_mul, UInt32.toNat_ofNat', show (0x01010101 : UInt32).toNat = 16843009 from rfl]; omega
theorem lit_rd2 (w : World) (a b : UInt32) : RdN .u32 (w.alloc (.cells #[.int .u32 (a.toNat : Nat), .int .u32 (b.toNat : Nat)] 37)) (w.alloc (.cells #[.int .u32 (a.toNat : Nat), .int .u32 (b.toNat : Nat)] 37)).heap.size (some ⟨w.heap.size, 0, none⟩) 2 (nW [a, b]) := by
  have h := OwnN.lit (kd := .u32) (e := 37) w (nW [a, b]) #[.int .u32 (a.toNat : Nat), .int .u32 (b.toNat : Nat)] 2 w.heap.size rfl rfl (by unfold maxLen; omega) (Nat.le_refl _)
  obtain ⟨A, c, e, hr, _⟩ := OwnN.rdn h rfl
  cases e
  exact hr
theorem nW_len (ks : List UInt32) : (nW ks).length = ks.length := nW_length ks
set_option maxRecDepth 100000 in
set_option maxHeartbeats 4000000 in
theorem spread_w (A1 A2 : Option Addr) (n c1 c2 : Nat) (ev od : List UInt32) (w : World) (hG : GT w) (h1 : RdN .u32 w w.heap.size A1 n (nW ev)) (h2 : RdN .u32 w w.heap.size A2 n (nW od)) (hn2 : 2 ≤ n) (hn4 : n ≤ 4) :
    Calls Tryd.prog 28 #[.slice A1 n c1, .slice A2 n c2] w (WRet w (kL ev od 20)) := by
  obtain ⟨i0, hi, hz0, hz1, hz2⟩ := info_parts Tryd.info37
  have HG := hid hG
  have H1 := hid h1
  have H2 := hid h2
  clear hG h1 h2
  go_enter Tryd.func28, Tryd.ntmps28
  go_wp2_with (refine wpList_make_own _ rfl (.const (.int .i64 0)) (.const (.int .i64 40)) 24 rfl w.heap.size 37 i0 (.int .u32 0) 1 Tryd.underlying24 hi hz0 hz1 .i64 .i64 40 40 rfl rfl rfl (by rw [hz2]; omega) (by unfold maxLen; omega) (Nat.le_refl _) ?_; intro w1 hown1 hg1)
  have HB1 := hid (show Ext w w1 from (Below.refl _ _).grown hg1 (Nat.le_refl _) (fun k e => by cases e))
  have HO1 := hid (show OwnW w1 w.heap.size (.slice (some ⟨w.heap.size, 0, none⟩) 0 40) (kL ev od 0) from hown1)
  clear hown1 hg1
  go_loopw [5, 6] (fun v i wr => ∃ k : Nat, k ≤ 20 ∧ i = .int .u32 (2 * k : Nat) ∧ OwnW wr w.heap.size v (kL ev od k) ∧ Ext w wr) (fun _ i _ => 40 - (intOf i).toNat)
  case atStart => exact ⟨0, by omega, rfl, HO1.out, HB1.out⟩
  case round =>
    obtain ⟨k, hk, rfl, hown, hx⟩ := hrel
    by_cases hlt : k < 20
    · have hd : ((2 * k : Nat) : Int) < 40 := by omega
      have e1 := w_ones (2 * k) (by omega)
      have e2 := w_ones (2 * k + 1) (by omega)
      have HA := hid (fun w hG hl => h_any (UInt32.ofNat (2 * k) * 0x01010101) ev A1 n c1 w hG hl hn2 hn4)
      have HBB := hid (fun w hG hl => h_any (UInt32.ofNat (2 * k + 1) * 0x01010101) od A2 n c2 w hG hl hn2 hn4)
      have hkA : HW (UInt32.ofNat (2 * k) * 0x01010101) ev = kA ev k := rfl
      have hkB : rolI (HW (UInt32.ofNat (2 * k + 1) * 0x01010101) od) 8 = kB od k := rfl
      have HKB := hid hkB
      obtain ⟨T, hT⟩ : ∃ T, HW (UInt32.ofNat (2 * k + 1) * 0x01010101) od = T := ⟨_, rfl⟩
      rw [hT] at HBB HKB
      rw [hkA] at HA
      obtain ⟨X1, hX1⟩ : ∃ X1, UInt32.ofNat (2 * k) * 0x01010101 = X1 := ⟨_, rfl⟩
      obtain ⟨X2, hX2⟩ : ∃ X2, UInt32.ofNat (2 * k + 1) * 0x01010101 = X2 := ⟨_, rfl⟩
      rw [hX1] at e1 HA
      rw [hX2] at e2 HBB
      have HST := hid (show kL ev od (k + 1) = kL ev od k ++ [kA ev k + kB od k, rolI (kA ev k + 2 * kB od k) 9] by rw [kL])
      obtain ⟨a, ha⟩ : ∃ a, kA ev k = a := ⟨_, rfl⟩
      obtain ⟨b, hb⟩ : ∃ b, kB od k = b := ⟨_, rfl⟩
      rw [ha] at HA HST
      rw [hb] at HKB HST
      have e3 := w_add a b
      have e4 := w_two b
      have e5 := w_add a (2 * b)
      obtain ⟨d, hd2⟩ : ∃ d, 2 * b = d := ⟨_, rfl⟩
      rw [hd2] at e4 e5 HST
      obtain ⟨r1, hr1⟩ : ∃ r1, a + b = r1 := ⟨_, rfl⟩
      obtain ⟨p, hp⟩ : ∃ p, a + d = p := ⟨_, rfl⟩
      rw [hr1] at e3 HST
      rw [hp] at e5 HST
      have ld := wlt d
      have la := wlt a
      have lb := wlt b
      have hkl := kL_length ev od k
      have HX := hid hx
      have HO := hid hown
      obtain ⟨q, hq⟩ : ∃ q, 2 * k = q := ⟨_, rfl⟩
      have hq38 : q ≤ 38 := by omega
      rw [hq] at e1 e2 hd hkl ⊢
      rw [show ((q + 1 : Nat) : Int) = (q : Int) + 1 by omega] at e2
      have HQ := hid hq
      clear hr1 hp hd2 hkA hkB hT hX1 hX2 ha hb hx hown hq
      go_wp2_with fail
      refine (HA.out _ (HG.out.later HX.out) (H1.out.later HX.out)).mono ?_
      rintro e w2 ⟨rfl, hx2⟩
      have HX2 := hid (Ext.trans HX.out hx2)
      have HO2 := hid (OwnN.kept HO.out hx2)
      clear hx2 e1
      go_wp2_with fail
      refine (HBB.out _ (HG.out.later HX2.out) (H2.out.later HX2.out)).mono ?_
      rintro e w3 ⟨rfl, hx3⟩
      have HX3 := hid (Ext.trans HX2.out hx3)
      have HO3 := hid (OwnN.kept HO2.out hx3)
      clear hx3 e2
      go_wp2_with fail
      refine (rol_w T 8 _).mono ?_
      rintro e w' ⟨rfl, rfl⟩
      rw [HKB.out]
      go_wp2_with fail
      refine (rol_w p 9 _).mono ?_
      rintro e w' ⟨rfl, rfl⟩
      obtain ⟨r2, hr2⟩ : ∃ r2, rolI p 9 = r2 := ⟨_, rfl⟩
      rw [hr2] at HST ⊢
      clear hr2
      have HLT := hid (lit_rd2 w3 r1 r2)
      have hsz3 := Below.size HX3.out
      go_wp2_with (refine wpL_appendN _ rfl (.tmp 24) (.tmp 33) 24 rfl Tryd.underlying24 4 Tryd.info37 w.heap.size _ _ rfl (OwnN.kept HO3.out (Ext.alloc _ _)) _ _ 2 2 _ rfl HLT.out (by rw [nW_length, hkl]; omega) (by rw [nW_length, hkl]; unfold maxLen; omega) (by simp; omega) ?_; intro v' w4 hown4 hb4)
      have HO5 := hid (show OwnW w4 w.heap.size v' (kL ev od (k + 1)) by
        rw [HST.out]
        unfold OwnW
        rw [nW_append]
        exact hown4)
      have HX5 := hid (show Ext w w4 from ((show Below w.heap.size w w3 from HX3.out).alloc (by omega) _).trans hb4)
      clear hown4 hb4
      go_wp2_with fail
      exact ⟨⟨k + 1, by omega, by have := HQ.out; go_num, HO5.out, HX5.out⟩, by have := HQ.out; simp [intOf]; omega⟩
    · obtain rfl : k = 20 := by omega
      have HX := hid hx
      have HO := hid hown
      clear hx hown
      go_wp2_with fail
      go_ret
      exact ⟨_, rfl, HO.out, HX.out⟩
end Go.Proofs.YtbdncalllfpodaaDoor
