/- The law on words, walked; own text of the verifier. -/
import Derived.Test.YtbdncalllfpodaaDoorV1
namespace Go.Proofs.YtbdncalllfpodaaDoor
open Go.RowKit
theorem wrapU (n : Int) : IntKind.u32.wrap n = n % 4294967296 := by simp [IntKind.wrap, IntKind.bits, IntKind.signed]
theorem wrap64 {n : Int} (h0 : 0 ≤ n) (h1 : n < 9223372036854775808) : IntKind.i64.wrap n = n := by
  simp [IntKind.wrap, IntKind.bits, IntKind.signed]; omega
theorem quo8 (p : Nat) : ((p / 8 : Nat) : Int) = (p : Int).tdiv 8 := by
  rw [Int.tdiv_eq_ediv_of_nonneg (by omega)]; omega
theorem b_xor (a b : UInt8) : bits .xor .u8 (a.toNat : Int) (b.toNat : Int) = ((a ^^^ b).toNat : Int) := by
  rw [UInt8.toNat_xor]
  exact u8x _ _ a.toNat_lt b.toNat_lt
theorem cf21 (vs : Array Value) (w : World) : (callFunc 21 vs).run Tryd.prog w = .ok (.enter 21 vs) w := by go_simp
theorem own_head {w : World} {base n : Nat} {v : Value} {bs : List UInt8} (h : Own w base v bs) (hn : bs.length = n) (hp : 0 < n) : ∃ g c, v = .slice (some ⟨g, 0, none⟩) n c ∧ n ≤ c ∧ base ≤ g := by
  subst hn
  rcases h.2 with ⟨_, h2⟩ | ⟨g, cap, cur, rfl, hb, hh, hnc, _⟩
  · omega
  · exact ⟨g, cap, rfl, hnc, hb⟩
def lw18 (g10 c10 i : Nat) (x1 x2 r1 r2 dd pp : UInt32) : List K := [.eq (.slice (some ⟨g10, 0, none⟩) 40 c10), .eq (.int .i64 (i : Nat)), .eq (.int .i64 (2 * (i : Int))), .eq (.pointer (some ⟨g10, 2 * i, none⟩)), .eq (.int .u32 ((r1).toNat : Nat)), .eq (.int .u32 (x1.toNat : Nat)), .eq (.int .u32 (x2.toNat : Nat)), .eq (.int .u32 ((r1).toNat : Nat)), .eq (.bool false), .eq (.bool false), .eq (.slice (some ⟨g10, 0, none⟩) 40 c10), .eq (.int .i64 (i : Nat)), .eq (.int .i64 (2 * (i : Int))), .eq (.int .i64 (2 * (i : Int) + 1)), .eq (.pointer (some ⟨g10, 2 * i + 1, none⟩)), .eq (.int .u32 ((r2).toNat : Nat)), .eq (.int .u32 (x1.toNat : Nat)), .eq (.int .u32 (x2.toNat : Nat)), .eq (.int .u32 ((dd).toNat : Nat)), .eq (.int .u32 ((pp).toNat : Nat)), .eq (.int .u32 ((r2).toNat : Nat)), .eq (.bool false), .eq (.bool false)]
def lw29Z_2 (b11 o11 c11 b22 o22 c22 i _p : Nat) (d : UInt8) (s1 s2 : UInt32) : List K := [.eq (.slice (some ⟨b11, o11, none⟩) 2 c11), .eq (.int .i64 (i : Nat)), .eq (.pointer (some ⟨b11, o11 + i, none⟩)), .eq (.int .u32 ((s1).toNat : Nat)), .eq (.slice (some ⟨b22, o22, none⟩) 2 c22), .eq (.int .i64 (i : Nat)), .eq (.pointer (some ⟨b22, o22 + i, none⟩)), .eq (.int .u32 ((s2).toNat : Nat)), .eq (.bool true), .eq (.int .u8 (d.toNat : Nat)), .eq (.bool true), .eq (.bool true), .any, .any, .any, .any, .any, .any, .any, .any, .eq (.bool true), .eq (.bool false)]
def lw29S_2 (b11 o11 c11 b22 o22 c22 i p : Nat) (d : UInt8) (s1 s2 : UInt32) : List K := [.eq (.slice (some ⟨b11, o11, none⟩) 2 c11), .eq (.int .i64 (i : Nat)), .eq (.pointer (some ⟨b11, o11 + i, none⟩)), .eq (.int .u32 ((s1).toNat : Nat)), .eq (.slice (some ⟨b22, o22, none⟩) 2 c22), .eq (.int .i64 (i : Nat)), .eq (.pointer (some ⟨b22, o22 + i, none⟩)), .eq (.int .u32 ((s2).toNat : Nat)), .eq (.bool true), .eq (.int .u8 (d.toNat : Nat)), .eq (.bool false), .eq (.bool false), .eq (.int .i64 (i : Nat)), .eq (.slice (some ⟨b11, o11, none⟩) 2 c11), .eq (.int .i64 (2)), .eq (.int .i64 (1)), .eq (.int .i64 (p : Nat)), .eq (.int .i64 ((p / 8 : Nat))), .eq (.int .i64 ((1 : Int) - ((p / 8 : Nat) : Int))), .eq (.bool true), .eq (.bool true), .eq (.bool false)]
def lw29N_2 (b11 o11 c11 b22 o22 c22 i p : Nat) (d : UInt8) (s1 s2 : UInt32) : List K := [.eq (.slice (some ⟨b11, o11, none⟩) 2 c11), .eq (.int .i64 (i : Nat)), .eq (.pointer (some ⟨b11, o11 + i, none⟩)), .eq (.int .u32 ((s1).toNat : Nat)), .eq (.slice (some ⟨b22, o22, none⟩) 2 c22), .eq (.int .i64 (i : Nat)), .eq (.pointer (some ⟨b22, o22 + i, none⟩)), .eq (.int .u32 ((s2).toNat : Nat)), .eq (.bool false), .eq (.int .u8 (d.toNat : Nat)), .eq (.bool false), .eq (.bool false), .eq (.int .i64 (i : Nat)), .eq (.slice (some ⟨b11, o11, none⟩) 2 c11), .eq (.int .i64 (2)), .eq (.int .i64 (1)), .eq (.int .i64 (p : Nat)), .eq (.int .i64 ((p / 8 : Nat))), .eq (.int .i64 ((1 : Int) - ((p / 8 : Nat) : Int))), .eq (.bool false), .eq (.bool false), .eq (.bool false)]
set_option maxRecDepth 100000 in
set_option maxHeartbeats 8000000 in
theorem words2_f (a0 : Option Addr) (len0 cap0 : Nat) (a1 : Int) (a2 : Int) (d : UInt8) (bs0 : List UInt8) (w : World) (h0 : Rd w w.heap.size a0 len0 bs0) (hm0 : len0 ≤ 9223372036854775807) (hkl : kLen a1 = 16) (hG : GT w) :
    Calls Tryd.prog 7 #[.slice a0 len0 cap0, .int .i64 a1, .int .i64 a2, .int .u8 (d.toNat : Nat)] w fun e w' => e = .returned (.bool true) ∧ Below w.heap.size w w' := by
  have H0 := hid h0
  have HG := hid hG
  have HKEY := hid (fun w h => key_any a0 len0 cap0 a1 bs0 w h hm0)
  have hkK : (byL (kLen a1) bs0).length = kLen a1 := byL_len _ _
  rw [hkl] at HKEY hkK
  obtain ⟨K, hK⟩ : ∃ K, byL 16 bs0 = K := ⟨_, rfl⟩
  rw [hK] at HKEY hkK
  have HKK := hid hkK
  have HKS := hid (fun w A c hG h hc => keys_any A 16 c K w hG h (by omega) hc)
  have hkp := kL_pair (evL K) (odL K) 20
  have h40 := keysL_length K
  have hss := sL_length K
  rw [hkK] at hss
  have hev : evL K = (List.range 2).map fun i => wdL K (8 * i) := by unfold evL; rw [hkK]
  have hod : odL K = (List.range 2).map fun i => wdL K (8 * i + 4) := by unfold odL; rw [hkK]
  have hkeys : keysL K = kL (evL K) (odL K) 20 := rfl
  rw [← hkeys] at hkp
  have HKP := hid hkp
  have HED := hid (And.intro hev hod)
  obtain ⟨ks, hks⟩ : ∃ ks, keysL K = ks := ⟨_, rfl⟩
  obtain ⟨ss, hse⟩ : ∃ ss, sL K = ss := ⟨_, rfl⟩
  have HSE := hid hse
  rw [hks] at HKS h40 HKP
  rw [hse] at HKS hss
  have HSS := hid hss
  have H40 := hid h40
  clear h0 hm0 hkl hG hkK hK hkp h40 hss hev hod hkeys hks hse
  go_enter Tryd.func7, Tryd.ntmps7
  go_wp2_with fail
  refine (known_any _ HG.out).mono ?_
  rintro e w1 ⟨rfl, hx1⟩
  have HX1 := hid hx1
  clear hx1
  go_wp2_with fail
  refine (HKEY.out _ (H0.out.later HX1.out)).mono ?_
  rintro e w2 ⟨Ak, ck, rfl, hck, hrk, hx2⟩
  obtain ⟨b, o, rfl, _, _⟩ := hrk.at_ (by omega)
  have HX2 := hid (Ext.trans HX1.out hx2)
  have HRK := hid hrk
  have HCK := hid hck
  clear hx2 hrk hck HX1
  go_wp2_with fail
  refine (HKS.out _ _ _ (HG.out.later HX2.out) HRK.out HCK.out).mono ?_
  rintro e w3 ⟨v1, v2, rfl, o1, o2, hx3⟩
  have HX3 := hid (Ext.trans HX2.out hx3)
  have HRK3 := hid (HRK.out.later hx3)
  obtain ⟨g10, c10, rfl, hc10, hg1, hg2⟩ := OwnN.head (n := 40) o1 (by rw [nW_length]; exact H40.out) (by omega)
  obtain ⟨A11, c11, rfl, r11, _⟩ := OwnN.rdn (n := 2) o2 (by rw [nW_length, HSS.out])
  have hkc : ∀ j, j < 40 → w3.cell? ⟨g10, j, none⟩ = some (.int .u32 ((ks.getD j 0).toNat : Nat)) := fun j hj => by
    rw [OwnN.celln o1 (by rw [nW_length]; exact H40.out) j hj, nW_get _ _ (by rw [H40.out]; exact hj)]
  have HKC := hid hkc
  have HR11 := hid r11
  clear hx3 o1 o2 r11 hg1 hg2 hkc HX2 HRK
  go_wp2_with fail
  go_loopw [13, 14, 15] (fun ve vo i wr => ∃ j : Nat, j ≤ 2 ∧ i = .int .i64 (8 * j : Nat) ∧ R3 w3.heap.size wr ve vo (.slice none 0 0) (nW ((List.range j).map fun i => wdL K (8 * i))) (nW ((List.range j).map fun i => wdL K (8 * i + 4))) [] ∧ Ext w3 wr) (fun _ _ i _ => 16 - (intOf i).toNat)
  case atStart => exact ⟨0, by omega, rfl, ⟨World.ownsRow_nil _ _ _ _, World.ownsRow_nil _ _ _ _, World.ownsRow_nil _ _ _ _, (fun q h => by cases h), (fun q h => by cases h), (fun q h => by cases h)⟩, Ext.refl _⟩
  case round =>
    obtain ⟨j, hj, rfl, hR, hx⟩ := hrel
    have HX := hid hx
    have HR := hid hR
    clear hx hR
    by_cases hlt : j < 2
    · have HE := hid (fun W (hW : Ext w3 W) c => by
        have := le_word (i := 2 * j) (c := c) (HRK3.out.later hW) (by omega)
        rw [show 4 * (2 * j) = 8 * j by omega] at this
        exact this)
      have HO := hid (fun W (hW : Ext w3 W) c => by
        have := le_word (i := 2 * j + 1) (c := c) (HRK3.out.later hW) (by omega)
        rw [show 4 * (2 * j + 1) = 8 * j + 4 by omega] at this
        exact this)
      have hse : nW ((List.range (j + 1)).map fun i => wdL K (8 * i)) = nW ((List.range j).map fun i => wdL K (8 * i)) ++ [((wdL K (8 * j)).toNat : Int)] := by rw [range_snoc, nW_append]; rfl
      have hso : nW ((List.range (j + 1)).map fun i => wdL K (8 * i + 4)) = nW ((List.range j).map fun i => wdL K (8 * i + 4)) ++ [((wdL K (8 * j + 4)).toNat : Int)] := by rw [range_snoc, nW_append]; rfl
      have lxe : (nW ((List.range j).map fun i => wdL K (8 * i))).length = j := by simp [nW]
      have lxo : (nW ((List.range j).map fun i => wdL K (8 * i + 4))).length = j := by simp [nW]
      obtain ⟨xe, hxe⟩ : ∃ xe, nW ((List.range j).map fun i => wdL K (8 * i)) = xe := ⟨_, rfl⟩
      obtain ⟨xo, hxo⟩ : ∃ xo, nW ((List.range j).map fun i => wdL K (8 * i + 4)) = xo := ⟨_, rfl⟩
      obtain ⟨y0, hy0⟩ : ∃ y, wdL K (8 * j) = y := ⟨_, rfl⟩
      obtain ⟨y1, hy1⟩ : ∃ y, wdL K (8 * j + 4) = y := ⟨_, rfl⟩
      rw [hxe] at HR hse lxe
      rw [hxo] at HR hso lxo
      rw [hy0] at HE hse
      rw [hy1] at HO hso
      have k0 := wlt y0
      have k1 := wlt y1
      obtain ⟨q, hq⟩ : ∃ q, 8 * j = q := ⟨_, rfl⟩
      rw [hq] at HE HO ⊢
      have hqn : q + 8 ≤ 16 := by omega
      have HQ := hid hq
      have HSE2 := hid (And.intro hse hso)
      have HLX := hid (show xe.length ≤ 1000 ∧ xo.length ≤ 1000 by omega)
      have hcn := HCK.out
      clear hse hso lxe lxo hxe hxo hy0 hy1 hq
      go_wp2_with fail
      refine (HE.out wr HX.out _).mono ?_
      rintro e w4 ⟨rfl, rfl⟩
      have HLTE := hid (lit_own1 wr y0)
      have HRA := hid (HR.out.ext (Ext.alloc wr (.cells #[.int .u32 (y0.toNat : Nat)] 37)))
      have HXA := hid (Ext.trans HX.out (Ext.alloc wr (.cells #[.int .u32 (y0.toNat : Nat)] 37)))
      go_wp2_with (refine wpList_app (y := ((y0.toNat : Nat) : Int)) (t := wr.heap.size) (c := 1) rfl (.tmp 57) (.tmp 65) rfl rfl HRA.out.e rfl (by have := HLX.out; omega) (by exact OwnN.celln HLTE.out rfl 0 (by simp)) HXA.out.size ?_; intro g1 c1 w5 hn1 hg1 hb1)
      have HR2 := hid (HRA.out.setE hn1 hg1 hb1)
      have HX5 := hid (show Ext w3 w5 from Below.grown HXA.out hg1 HXA.out.size (fun k e => (HRA.out.e.lt k e).1))
      clear hn1 hg1 hb1
      go_wp2_with fail
      refine (HO.out w5 HX5.out _).mono ?_
      rintro e w6 ⟨rfl, rfl⟩
      have HLTO := hid (lit_own1 w5 y1)
      have HRB := hid (HR2.out.ext (Ext.alloc w5 (.cells #[.int .u32 (y1.toNat : Nat)] 37)))
      have HXB := hid (Ext.trans HX5.out (Ext.alloc w5 (.cells #[.int .u32 (y1.toNat : Nat)] 37)))
      go_wp2_with (refine wpList_app (y := ((y1.toNat : Nat) : Int)) (t := w5.heap.size) (c := 1) rfl (.tmp 67) (.tmp 76) rfl rfl HRB.out.o rfl (by have := HLX.out; omega) (by exact OwnN.celln HLTO.out rfl 0 (by simp)) HXB.out.size ?_; intro g2 c2 w7 hn2 hg2 hb2)
      have HR4 := hid (HRB.out.setO hn2 hg2 hb2)
      have HX7 := hid (show Ext w3 w7 from Below.grown HXB.out hg2 HXB.out.size (fun k e => (HRB.out.o.lt k e).1))
      clear hn2 hg2 hb2
      go_wp2_with fail
      have hse := HSE2.out
      exact ⟨⟨j + 1, by omega, by have := HQ.out; go_num, by rw [hse.1, hse.2]; exact HR4.out, HX7.out⟩, by have := HQ.out; simp [intOf]; omega⟩
    · obtain rfl : j = 2 := by omega
      rw [← HED.out.1, ← HED.out.2] at HR
      have lev : (evL K).length = 2 := by rw [HED.out.1]; simp
      have lod : (odL K).length = 2 := by rw [HED.out.2]; simp
      obtain ⟨ev, hev⟩ : ∃ ev, evL K = ev := ⟨_, rfl⟩
      obtain ⟨od, hod⟩ : ∃ od, odL K = od := ⟨_, rfl⟩
      rw [hev] at HR HKP lev
      rw [hod] at HR HKP lod
      obtain ⟨A1, c1, rfl, h1, _⟩ := OwnN.rdn (n := 2) HR.out.e (by rw [nW_length]; exact lev)
      obtain ⟨A2, c2, rfl, h2, _⟩ := OwnN.rdn (n := 2) HR.out.o (by rw [nW_length]; exact lod)
      have H1 := hid h1
      have H2 := hid h2
      obtain ⟨w9, rfl⟩ : ∃ x, x = wr := ⟨_, rfl⟩
      have HX9 := hid HX.out
      have HG9 := hid (HG.out.later (Ext.trans HX3.out HX.out))
      clear HR h1 h2 hev hod lev lod HX hlt hj HED
      go_wp2_with fail
      generalize ((8 * 2 : Nat) : Int) = N0
      go_loopw [16] (fun u wr => ∃ i : Nat, i ≤ 20 ∧ u = .int .i64 i ∧ Ext w9 wr) (fun u _ => 20 - (intOf u).toNat)
      case atStart => exact ⟨0, by omega, rfl, Ext.refl _⟩
      case round =>
        obtain ⟨i, hi, rfl, hx⟩ := hrel
        by_cases hlt : i < 20
        · have e1 := w_ones (2 * i) (by omega)
          have e2 := w_ones (2 * i + 1) (by omega)
          have HA := hid (fun W hG hl => h_any (UInt32.ofNat (2 * i) * 0x01010101) ev A1 2 c1 W hG hl (by omega) (by omega))
          have HBB := hid (fun W hG hl => h_any (UInt32.ofNat (2 * i + 1) * 0x01010101) od A2 2 c2 W hG hl (by omega) (by omega))
          have hkA : HW (UInt32.ofNat (2 * i) * 0x01010101) ev = kA ev i := rfl
          have hkB : rolI (HW (UInt32.ofNat (2 * i + 1) * 0x01010101) od) 8 = kB od i := rfl
          have hkp := HKP.out i hlt
          have hk0 := HKC.out (2 * i) (by omega)
          have hk1 := HKC.out (2 * i + 1) (by omega)
          rw [hkp.1] at hk0
          rw [hkp.2] at hk1
          obtain ⟨T0, hT⟩ : ∃ T, HW (UInt32.ofNat (2 * i + 1) * 0x01010101) od = T := ⟨_, rfl⟩
          rw [hT] at HBB hkB
          rw [hkA] at HA
          obtain ⟨X1, hX1⟩ : ∃ X1, UInt32.ofNat (2 * i) * 0x01010101 = X1 := ⟨_, rfl⟩
          obtain ⟨X2, hX2⟩ : ∃ X2, UInt32.ofNat (2 * i + 1) * 0x01010101 = X2 := ⟨_, rfl⟩
          rw [hX1] at e1 HA
          rw [hX2] at e2 HBB
          obtain ⟨x1, hx1⟩ : ∃ a, kA ev i = a := ⟨_, rfl⟩
          obtain ⟨x2, hx2⟩ : ∃ a, kB od i = a := ⟨_, rfl⟩
          rw [hx1] at HA hk0 hk1
          rw [hx2] at hkB hk0 hk1
          have HRT := hid (fun W => rrol_w T0 8 W)
          rw [hkB] at HRT
          have f1 := w_add x1 x2
          have f2 := w_two x2
          have f3 := w_add x1 (2 * x2)
          obtain ⟨dd, hdd⟩ : ∃ a, 2 * x2 = a := ⟨_, rfl⟩
          rw [hdd] at f2 f3 hk1
          obtain ⟨r1, hr1⟩ : ∃ a, x1 + x2 = a := ⟨_, rfl⟩
          obtain ⟨pp, hpp⟩ : ∃ a, x1 + dd = a := ⟨_, rfl⟩
          rw [hr1] at f1 hk0
          rw [hpp] at f3 hk1
          have hrp := fun W => rrol_w pp 9 W
          obtain ⟨r2, hr2⟩ : ∃ a, rolI pp 9 = a := ⟨_, rfl⟩
          rw [hr2] at hrp hk1
          have HRP := hid hrp
          have HE := hid (And.intro f1 (And.intro f2 f3))
          have HC1 := hid hk0
          have HC2 := hid hk1
          have HI := hid hlt
          have HX := hid hx
          rw [show ((2 * i : Nat) : Int) = 2 * (i : Int) by omega] at e1
          rw [show ((2 * i + 1 : Nat) : Int) = 2 * (i : Int) + 1 by omega] at e2
          have hd : (i : Int) < 20 := by omega
          clear hkA hkB hkp hk0 hk1 hT hX1 hX2 hx1 hx2 f1 f2 f3 hdd hr1 hpp hrp hr2 hx
          go_wp2_with fail
          refine (HA.out _ (HG9.out.later HX.out) (H1.out.later HX.out)).mono ?_
          rintro e w12 ⟨rfl, hx12⟩
          have HX12 := hid (Ext.trans HX.out hx12)
          clear hx12 e1
          go_wp2_with fail
          refine (HBB.out _ (HG9.out.later HX12.out) (H2.out.later HX12.out)).mono ?_
          rintro e w13 ⟨rfl, hx13⟩
          have HX13 := hid (Ext.trans HX12.out hx13)
          clear hx13 e2
          go_wp2_with fail
          refine (HRT.out _).mono ?_
          rintro e w' ⟨rfl, rfl⟩
          have HXK := hid (Ext.trans HX9.out HX13.out)
          go_wp2_with fail
          refine region_upto 22 mixed rfl (by kernel_rfl) (by kernel_rfl) (by kernel_rfl) (kV (lw18 g10 c10 i x1 x2 r1 r2 dd pp)) (kV_keep _) (forall_ops ⟨?_, ?_, ?_, ?_, ?_, ?_, ?_, ?_, ?_, ?_, ?_, ?_, ?_, ?_, ?_, ?_, ?_, ?_, ?_, ?_, ?_, ?_, trivial⟩) ?_
          · intro a w hk
            have s10 : a.tmps.getD 10 undef = .slice (some ⟨g10, 0, none⟩) 40 c10 := hk.was 10 (by kernel_rfl) rfl
            exact step_move rfl rfl s10 rfl
          · intro a w hk
            have s16 : a.tmps.getD 16 undef = .int .i64 (i : Nat) := hk.was 16 (by kernel_rfl) rfl
            exact step_move rfl rfl s16 rfl
          · intro a w hk
            have s97 := hk.eq_ 1 97 (by kernel_rfl) rfl
            refine step_val (v := .int .i64 (2 * (i : Int))) (w' := w) rfl ?_ (Ext.refl w) rfl
            have hi20 : (i : Int) < 20 := by have := HI.out; omega
            go_simp
            exact wrap64 (by omega) (by omega)
          · intro a w hk
            have s96 := hk.eq_ 0 96 (by kernel_rfl) rfl
            have s98 := hk.eq_ 2 98 (by kernel_rfl) rfl
            refine step_val (v := .pointer (some ⟨g10, 2 * i, none⟩)) (w' := w) rfl ?_ (Ext.refl w) rfl
            have hi20 : (i : Int) < 20 := by have := HI.out; omega
            have hi40 : 2 * (i : Int) < 40 := by omega
            go_simp
            (try rw [if_pos (by omega)])
            (try rw [show (2 * (i : Int)).toNat = 2 * i by omega])
          · intro a w hk
            have s99 := hk.eq_ 3 99 (by kernel_rfl) rfl
            refine step_val (v := .int .u32 ((r1).toNat : Nat)) (w' := w) rfl ?_ (Ext.refl w) rfl
            have hc := cell_at (Ext.trans HXK.out hk.ext) HC1.out
            go_simp
          · intro a w hk
            have s17 : a.tmps.getD 17 undef = .int .u32 (x1.toNat : Nat) := hk.was 17 (by kernel_rfl) rfl
            exact step_move rfl rfl s17 rfl
          · intro a w hk
            have s18 : a.tmps.getD 18 undef = .int .u32 (x2.toNat : Nat) := hk.was 18 (by kernel_rfl) rfl
            exact step_move rfl rfl s18 rfl
          · intro a w hk
            have s101 := hk.eq_ 5 101 (by kernel_rfl) rfl
            have s102 := hk.eq_ 6 102 (by kernel_rfl) rfl
            refine step_val (v := .int .u32 ((r1).toNat : Nat)) (w' := w) rfl ?_ (Ext.refl w) rfl
            obtain ⟨e1, e2, e3⟩ := HE.out
            go_simp
            exact (wrapU _).trans e1
          · intro a w hk
            have s100 := hk.eq_ 4 100 (by kernel_rfl) rfl
            have s103 := hk.eq_ 7 103 (by kernel_rfl) rfl
            refine step_val (v := .bool false) (w' := w) rfl ?_ (Ext.refl w) rfl
            go_simp
          · intro a w hk
            have s104 := hk.eq_ 8 104 (by kernel_rfl) rfl
            exact step_move rfl rfl s104 rfl
          · intro a w hk
            refine hk.run 9 105 false false rfl (by kernel_rfl) rfl fun hw => ?_
            have s10 : a.tmps.getD 10 undef = .slice (some ⟨g10, 0, none⟩) 40 c10 := hk.was 10 (by kernel_rfl) rfl
            exact step_move hw rfl s10 rfl
          · intro a w hk
            refine hk.run 9 105 false false rfl (by kernel_rfl) rfl fun hw => ?_
            have s16 : a.tmps.getD 16 undef = .int .i64 (i : Nat) := hk.was 16 (by kernel_rfl) rfl
            exact step_move hw rfl s16 rfl
          · intro a w hk
            refine hk.run 9 105 false false rfl (by kernel_rfl) rfl fun hw => ?_
            have s107 := hk.eq_ 11 107 (by kernel_rfl) rfl
            refine step_val (v := .int .i64 (2 * (i : Int))) (w' := w) hw ?_ (Ext.refl w) rfl
            have hi20 : (i : Int) < 20 := by have := HI.out; omega
            go_simp
            exact wrap64 (by omega) (by omega)
          · intro a w hk
            refine hk.run 9 105 false false rfl (by kernel_rfl) rfl fun hw => ?_
            have s108 := hk.eq_ 12 108 (by kernel_rfl) rfl
            refine step_val (v := .int .i64 (2 * (i : Int) + 1)) (w' := w) hw ?_ (Ext.refl w) rfl
            have hi20 : (i : Int) < 20 := by have := HI.out; omega
            go_simp
            exact wrap64 (by omega) (by omega)
          · intro a w hk
            refine hk.run 9 105 false false rfl (by kernel_rfl) rfl fun hw => ?_
            have s106 := hk.eq_ 10 106 (by kernel_rfl) rfl
            have s109 := hk.eq_ 13 109 (by kernel_rfl) rfl
            refine step_val (v := .pointer (some ⟨g10, 2 * i + 1, none⟩)) (w' := w) hw ?_ (Ext.refl w) rfl
            have hi20 : (i : Int) < 20 := by have := HI.out; omega
            have hi40 : 2 * (i : Int) + 1 < 40 := by omega
            go_simp
            (try rw [if_pos (by omega)])
            (try rw [show (2 * (i : Int) + 1).toNat = 2 * i + 1 by omega])
          · intro a w hk
            refine hk.run 9 105 false false rfl (by kernel_rfl) rfl fun hw => ?_
            have s110 := hk.eq_ 14 110 (by kernel_rfl) rfl
            refine step_val (v := .int .u32 ((r2).toNat : Nat)) (w' := w) hw ?_ (Ext.refl w) rfl
            have hc := cell_at (Ext.trans HXK.out hk.ext) HC2.out
            go_simp
          · intro a w hk
            refine hk.run 9 105 false false rfl (by kernel_rfl) rfl fun hw => ?_
            have s17 : a.tmps.getD 17 undef = .int .u32 (x1.toNat : Nat) := hk.was 17 (by kernel_rfl) rfl
            exact step_move hw rfl s17 rfl
          · intro a w hk
            refine hk.run 9 105 false false rfl (by kernel_rfl) rfl fun hw => ?_
            have s18 : a.tmps.getD 18 undef = .int .u32 (x2.toNat : Nat) := hk.was 18 (by kernel_rfl) rfl
            exact step_move hw rfl s18 rfl
          · intro a w hk
            refine hk.run 9 105 false false rfl (by kernel_rfl) rfl fun hw => ?_
            have s113 := hk.eq_ 17 113 (by kernel_rfl) rfl
            refine step_val (v := .int .u32 ((dd).toNat : Nat)) (w' := w) hw ?_ (Ext.refl w) rfl
            obtain ⟨e1, e2, e3⟩ := HE.out
            go_simp
            exact (wrapU _).trans e2
          · intro a w hk
            refine hk.run 9 105 false false rfl (by kernel_rfl) rfl fun hw => ?_
            have s112 := hk.eq_ 16 112 (by kernel_rfl) rfl
            have s114 := hk.eq_ 18 114 (by kernel_rfl) rfl
            refine step_val (v := .int .u32 ((pp).toNat : Nat)) (w' := w) hw ?_ (Ext.refl w) rfl
            obtain ⟨e1, e2, e3⟩ := HE.out
            go_simp
            exact (wrapU _).trans e3
          · intro a w hk
            refine hk.run 9 105 false false rfl (by kernel_rfl) rfl fun hw => ?_
            have s115 := hk.eq_ 19 115 (by kernel_rfl) rfl
            exact step_call hw rfl (by simp only [List.map_toArray, List.map_cons, List.map_nil, Act.eval, s115] <;> rfl) cf21 (HRP.out w) (fun e w1 h => retE e w1 h)
          · intro a w hk
            refine hk.run 9 105 false false rfl (by kernel_rfl) rfl fun hw => ?_
            have s111 := hk.eq_ 15 111 (by kernel_rfl) rfl
            have s116 := hk.eq_ 20 116 (by kernel_rfl) rfl
            refine step_val (v := .bool false) (w' := w) hw ?_ (Ext.refl w) rfl
            go_simp
          · intro a w14 hf
            have s96 := hf.eq_ 0 96 (by kernel_rfl) rfl
            have s97 := hf.eq_ 1 97 (by kernel_rfl) rfl
            have s98 := hf.eq_ 2 98 (by kernel_rfl) rfl
            have s99 := hf.eq_ 3 99 (by kernel_rfl) rfl
            have s100 := hf.eq_ 4 100 (by kernel_rfl) rfl
            have s101 := hf.eq_ 5 101 (by kernel_rfl) rfl
            have s102 := hf.eq_ 6 102 (by kernel_rfl) rfl
            have s103 := hf.eq_ 7 103 (by kernel_rfl) rfl
            have s104 := hf.eq_ 8 104 (by kernel_rfl) rfl
            have s105 := hf.eq_ 9 105 (by kernel_rfl) rfl
            have s106 := hf.eq_ 10 106 (by kernel_rfl) rfl
            have s107 := hf.eq_ 11 107 (by kernel_rfl) rfl
            have s108 := hf.eq_ 12 108 (by kernel_rfl) rfl
            have s109 := hf.eq_ 13 109 (by kernel_rfl) rfl
            have s110 := hf.eq_ 14 110 (by kernel_rfl) rfl
            have s111 := hf.eq_ 15 111 (by kernel_rfl) rfl
            have s112 := hf.eq_ 16 112 (by kernel_rfl) rfl
            have s113 := hf.eq_ 17 113 (by kernel_rfl) rfl
            have s114 := hf.eq_ 18 114 (by kernel_rfl) rfl
            have s115 := hf.eq_ 19 115 (by kernel_rfl) rfl
            have s116 := hf.eq_ 20 116 (by kernel_rfl) rfl
            have s117 := hf.eq_ 21 117 (by kernel_rfl) rfl
            have hx := hf.ext
            have e := hf.frame
            clear hf
            simp only [List.take_succ_cons, List.take_zero, regFrame, Act.put, List.setIfInBounds_toArray, List.set_cons_zero, List.set_cons_succ, s96, s97, s98, s99, s100, s101, s102, s103, s104, s105, s106, s107, s108, s109, s110, s111, s112, s113, s114, s115, s116, s117] at e
            clear s96 s97 s98 s99 s100 s101 s102 s103 s104 s105 s106 s107 s108 s109 s110 s111 s112 s113 s114 s115 s116 s117
            subst e
            simp only [List.drop_succ_cons, List.drop_zero]
            have HX14 := hid (Ext.trans HX13.out hx)
            clear hx
            go_wp2_with fail
            go_roundw
            case rel => exact ⟨i + 1, by omega, by go_num, HX14.out⟩
            case measure => simp [intOf]; omega
        · obtain rfl : i = 20 := by omega
          generalize hN20 : ((20 : Nat) : Int) = N20
          have gN20 : ¬ N20 < 20 := by omega
          clear hN20
          obtain ⟨w15, rfl⟩ : ∃ x, x = wr := ⟨_, rfl⟩
          have HX15 := hid (Ext.trans HX9.out hx)
          have HXX := hid (Ext.trans HX3.out HX15.out)
          have HRK5 := hid (HRK3.out.later HX15.out)
          have HR15 := hid (HR11.out.later HX15.out)
          have HLIT := hid (Own.lit w15 [] #[] 0 w15.heap.size rfl rfl (by omega) (Nat.le_refl _))
          have HRKA := hid (HRK5.out.later (Ext.alloc w15 (.cells #[] 5)))
          obtain ⟨p, hp⟩ : ∃ p : Nat, a2 % 16 = p := ⟨(a2 % 16).toNat, by omega⟩
          have hpn : p < 16 := by omega
          have HW8 := hid (fun W => within_any a2 16 W (by omega) (by omega))
          rw [hp] at HW8
          clear hx hlt hi HKC HX9 H1 H2 HG9 HKP hp
          go_wp2_with (first
            | (refine wpL_append _ rfl (.tmp 119) (.tmp 120) 22 rfl Tryd.underlying22 Tryd.info5 w15.heap.size _ _ rfl HLIT.out _ _ 16 ck K rfl HRKA.out (by simp) (by simp) ?_; intro v' w16 hown16 hb16; obtain ⟨g19, c19, rfl, hc19, hg19⟩ := own_head (n := 16) (bs := K) hown16 HKK.out (by omega)))
          have HXL := hid (show Ext w15 w16 from ((Below.refl w15.heap.size w15).alloc (Nat.le_refl _) _).trans hb16)
          have HO16 := hid (show Own w16 w15.heap.size (.slice (some ⟨g19, 0, none⟩) 16 c19) K from hown16)
          clear hown16 hb16
          refine (HW8.out _).mono ?_
          rintro e w' ⟨rfl, rfl⟩
          clear gN20
          have HBX := hid (show bits .xor .u8 (byteAt K p) (d.toNat : Int) = (((K.getD p 0) ^^^ d).toNat : Int) from b_xor (K.getD p 0) d)
          have h16' : Own w16 w15.heap.size (.slice (some ⟨g19, 0, none⟩) K.length c19) K := by rw [HKK.out]; exact HO16.out
          have HXB := hid (HXX.out.trans HXL.out)
          have hcp : w16.cell? ⟨g19, p, none⟩ = some (.int .u8 (byteAt K p)) := h16'.cell p (by rw [HKK.out]; omega)
          have hfp := h16'.free p
          have hO2 : Own (w16.setCell ⟨g19, p, none⟩ (.int .u8 (((K.getD p 0) ^^^ d).toNat : Nat))) w15.heap.size (.slice (some ⟨g19, 0, none⟩) 16 c19) (flipB K p d) := by
            have h16 := HO16.out
            have := Own.set_ (bs := K) (by rw [HKK.out]; exact h16) p ((K.getD p 0) ^^^ d)
            rw [HKK.out] at this
            exact this
          have HO2 := hid hO2
          have hX2 : Ext w15 (w16.setCell ⟨g19, p, none⟩ (.int .u8 (((K.getD p 0) ^^^ d).toNat : Nat))) := HXL.out.setCell (p := ⟨g19, p, none⟩) hg19 _
          have HX2 := hid hX2
          have hp16 : (p : Int) < 16 := by omega
          obtain ⟨z, hz⟩ : ∃ z : UInt8, (K.getD p 0) ^^^ d = z := ⟨_, rfl⟩
          rw [hz] at HBX HO2 HX2
          obtain ⟨zb, hzb⟩ : ∃ zb : Int, byteAt K p = zb := ⟨_, rfl⟩
          rw [hzb] at hcp HBX
          have hbx := HBX.out
          clear h16' hO2 hX2 hz hzb HO16
          go_wp2_with fail
          obtain ⟨A9, c9, e9, hr9, _⟩ := HO2.out.rdn (n := 16) (by rw [flipB_length]; exact HKK.out)
          cases e9
          refine (keys_any _ 16 c19 (flipB K p d) _ (HG.out.later (Ext.trans HXX.out HX2.out)) hr9 (by omega) hc19).mono ?_
          rintro e w18 ⟨v21, v22, rfl, o1, o2, hx18⟩
          obtain ⟨A22, c22, rfl, r22, _⟩ := OwnN.rdn (n := 2) o2 (by rw [nW_length, sL_length, flipB_length, HKK.out])
          obtain ⟨A21, c21, rfl, _, _⟩ := OwnN.rdn (n := 40) o1 (by rw [nW_length, keysL_length])
          have HR18 := hr9
          obtain ⟨b22, o22, rfl, _, hc22⟩ := r22.at_ (by omega)
          have r11 := HR15.out.later (Ext.trans HX2.out hx18)
          obtain ⟨b11, o11, rfl, _, hc11⟩ := r11.at_ (by omega)
          have hlf : (sL (flipB K p d)).length = 2 := by rw [sL_length, flipB_length, HKK.out]
          have hs1 : ∀ k, k < 2 → w18.cell? ⟨b11, o11 + k, none⟩ = some (.int .u32 ((ss.getD k 0).toNat : Nat)) := fun k hk => by
            rw [hc11 k hk, nW_get _ _ (by rw [HSS.out]; exact hk)]
          have hs2 : ∀ k, k < 2 → w18.cell? ⟨b22, o22 + k, none⟩ = some (.int .u32 (((sL (flipB K p d)).getD k 0).toNat : Nat)) := fun k hk => by
            rw [hc22 k hk, nW_get _ _ (by rw [hlf]; exact hk)]
          have hwf : ∀ k, k < 2 → (ss.getD k 0 = (sL (flipB K p d)).getD k 0 ↔ (d = 0 ∨ k ≠ 2 - 1 - p / 8)) := fun k hk => by
            have := words_flip K 2 p k d HKK.out (by omega) hk
            rw [HSE.out] at this
            exact this
          obtain ⟨ss2, hss2⟩ : ∃ q, sL (flipB K p d) = q := ⟨_, rfl⟩
          rw [hss2] at hs2 hwf
          have HS1A := hid hs1
          have HS2A := hid hs2
          have HWF := hid hwf
          have HX18 := hid (Ext.trans HXX.out (Ext.trans HX2.out hx18))
          have HPM := hid (show p / 8 ≤ 1 by omega)
          clear o1 o2 r22 r11 hc22 hc11 hlf hs1 hs2 hwf hss2 hr9 HR18 hx18 hcp hfp hbx HBX HO2 HX2 HXL HR15
          go_wp2_with fail
          go_loopw [24] (fun u wr => ∃ i : Nat, i ≤ 2 ∧ u = .int .i64 i ∧ Ext w18 wr) (fun u _ => 2 - (intOf u).toNat)
          case atStart => exact ⟨0, by omega, rfl, Ext.refl _⟩
          case round =>
            obtain ⟨i, hi, rfl, hx⟩ := hrel
            by_cases hlt : i < 2
            · have hs1 := cell_at hx (HS1A.out i hlt)
              have hs2 := cell_at hx (HS2A.out i hlt)
              have hwf := HWF.out i hlt
              obtain ⟨s1, hs1e⟩ : ∃ q, ss.getD i 0 = q := ⟨_, rfl⟩
              obtain ⟨s2, hs2e⟩ : ∃ q, ss2.getD i 0 = q := ⟨_, rfl⟩
              rw [hs1e] at hs1 hwf
              rw [hs2e] at hs2 hwf
              have HS1 := hid hs1
              have HS2 := hid hs2
              have HI := hid hlt
              have HXS := hid hx
              clear hs1 hs2 hs1e hs2e hx
              by_cases hd : d = 0
              · have HEE := hid (show ((s1.toNat : Int) == (s2.toNat : Int)) = true by rw [hwf.2 (.inl hd)]; simp)
                have HDD := hid (show ((d.toNat : Int) == 0) = true by rw [hd]; rfl)
                clear hwf hd
                go_wp2_with fail
                refine region_inv mixed rfl (by kernel_rfl) (kV (lw29Z_2 b11 o11 c11 b22 o22 c22 i p d s1 s2)) (kV_keep _) (forall_ops ⟨?_, ?_, ?_, ?_, ?_, ?_, ?_, ?_, ?_, ?_, ?_, ?_, ?_, ?_, ?_, ?_, ?_, ?_, ?_, ?_, ?_, ?_, trivial⟩) ?_
                · intro a w hk
                  have s11 : a.tmps.getD 11 undef = .slice (some ⟨b11, o11, none⟩) 2 c11 := hk.was 11 (by kernel_rfl) rfl
                  exact step_move rfl rfl s11 rfl
                · intro a w hk
                  have s24 : a.tmps.getD 24 undef = .int .i64 (i : Nat) := hk.was 24 (by kernel_rfl) rfl
                  exact step_move rfl rfl s24 rfl
                · intro a w hk
                  have s150 := hk.eq_ 0 150 (by kernel_rfl) rfl
                  have s151 := hk.eq_ 1 151 (by kernel_rfl) rfl
                  refine step_val (v := .pointer (some ⟨b11, o11 + i, none⟩)) (w' := w) rfl ?_ (Ext.refl w) rfl
                  have hiM : (i : Int) < 2 := by have := HI.out; omega
                  go_simp
                · intro a w hk
                  have s152 := hk.eq_ 2 152 (by kernel_rfl) rfl
                  refine step_val (v := .int .u32 ((s1).toNat : Nat)) (w' := w) rfl ?_ (Ext.refl w) rfl
                  have hc := cell_at hk.ext HS1.out
                  go_simp
                · intro a w hk
                  have s22 : a.tmps.getD 22 undef = .slice (some ⟨b22, o22, none⟩) 2 c22 := hk.was 22 (by kernel_rfl) rfl
                  exact step_move rfl rfl s22 rfl
                · intro a w hk
                  have s24 : a.tmps.getD 24 undef = .int .i64 (i : Nat) := hk.was 24 (by kernel_rfl) rfl
                  exact step_move rfl rfl s24 rfl
                · intro a w hk
                  have s154 := hk.eq_ 4 154 (by kernel_rfl) rfl
                  have s155 := hk.eq_ 5 155 (by kernel_rfl) rfl
                  refine step_val (v := .pointer (some ⟨b22, o22 + i, none⟩)) (w' := w) rfl ?_ (Ext.refl w) rfl
                  have hiM : (i : Int) < 2 := by have := HI.out; omega
                  go_simp
                · intro a w hk
                  have s156 := hk.eq_ 6 156 (by kernel_rfl) rfl
                  refine step_val (v := .int .u32 ((s2).toNat : Nat)) (w' := w) rfl ?_ (Ext.refl w) rfl
                  have hc := cell_at hk.ext HS2.out
                  go_simp
                · intro a w hk
                  have s153 := hk.eq_ 3 153 (by kernel_rfl) rfl
                  have s157 := hk.eq_ 7 157 (by kernel_rfl) rfl
                  refine step_val (v := .bool true) (w' := w) rfl ?_ (Ext.refl w) rfl
                  have hz := HEE.out
                  go_simp
                · intro a w hk
                  have s3 : a.tmps.getD 3 undef = .int .u8 (d.toNat : Nat) := hk.was 3 (by kernel_rfl) rfl
                  exact step_move rfl rfl s3 rfl
                · intro a w hk
                  have s159 := hk.eq_ 9 159 (by kernel_rfl) rfl
                  refine step_val (v := .bool true) (w' := w) rfl ?_ (Ext.refl w) rfl
                  have hz := HDD.out
                  go_simp
                · intro a w hk
                  have s160 := hk.eq_ 10 160 (by kernel_rfl) rfl
                  exact step_move rfl rfl s160 rfl
                · intro a w hk
                  refine hk.run 11 161 true false rfl (by kernel_rfl) rfl fun hw => ?_
                  exact step_skip hw trivial
                · intro a w hk
                  refine hk.run 11 161 true false rfl (by kernel_rfl) rfl fun hw => ?_
                  exact step_skip hw trivial
                · intro a w hk
                  refine hk.run 11 161 true false rfl (by kernel_rfl) rfl fun hw => ?_
                  exact step_skip hw trivial
                · intro a w hk
                  refine hk.run 11 161 true false rfl (by kernel_rfl) rfl fun hw => ?_
                  exact step_skip hw trivial
                · intro a w hk
                  refine hk.run 11 161 true false rfl (by kernel_rfl) rfl fun hw => ?_
                  exact step_skip hw trivial
                · intro a w hk
                  refine hk.run 11 161 true false rfl (by kernel_rfl) rfl fun hw => ?_
                  exact step_skip hw trivial
                · intro a w hk
                  refine hk.run 11 161 true false rfl (by kernel_rfl) rfl fun hw => ?_
                  exact step_skip hw trivial
                · intro a w hk
                  refine hk.run 11 161 true false rfl (by kernel_rfl) rfl fun hw => ?_
                  exact step_skip hw trivial
                · intro a w hk
                  have s161 := hk.eq_ 11 161 (by kernel_rfl) rfl
                  exact step_pick (b := true) rfl rfl s161 rfl rfl
                · intro a w hk
                  have s158 := hk.eq_ 8 158 (by kernel_rfl) rfl
                  have s170 := hk.eq_ 20 170 (by kernel_rfl) rfl
                  refine step_val (v := .bool false) (w' := w) rfl ?_ (Ext.refl w) rfl
                  go_simp
                · intro a w20 hf
                  have s150 := hf.eq_ 0 150 (by kernel_rfl) rfl
                  have s151 := hf.eq_ 1 151 (by kernel_rfl) rfl
                  have s152 := hf.eq_ 2 152 (by kernel_rfl) rfl
                  have s153 := hf.eq_ 3 153 (by kernel_rfl) rfl
                  have s154 := hf.eq_ 4 154 (by kernel_rfl) rfl
                  have s155 := hf.eq_ 5 155 (by kernel_rfl) rfl
                  have s156 := hf.eq_ 6 156 (by kernel_rfl) rfl
                  have s157 := hf.eq_ 7 157 (by kernel_rfl) rfl
                  have s158 := hf.eq_ 8 158 (by kernel_rfl) rfl
                  have s159 := hf.eq_ 9 159 (by kernel_rfl) rfl
                  have s160 := hf.eq_ 10 160 (by kernel_rfl) rfl
                  have s161 := hf.eq_ 11 161 (by kernel_rfl) rfl
                  have s170 := hf.eq_ 20 170 (by kernel_rfl) rfl
                  have s171 := hf.eq_ 21 171 (by kernel_rfl) rfl
                  have hx := hf.ext
                  have e := hf.frame
                  clear hf
                  simp only [regFrame, Act.put, List.setIfInBounds_toArray, List.set_cons_zero, List.set_cons_succ, s150, s151, s152, s153, s154, s155, s156, s157, s158, s159, s160, s161, s170, s171] at e
                  generalize a.tmps.getD 162 undef = u162 at e
                  generalize a.tmps.getD 163 undef = u163 at e
                  generalize a.tmps.getD 164 undef = u164 at e
                  generalize a.tmps.getD 165 undef = u165 at e
                  generalize a.tmps.getD 166 undef = u166 at e
                  generalize a.tmps.getD 167 undef = u167 at e
                  generalize a.tmps.getD 168 undef = u168 at e
                  generalize a.tmps.getD 169 undef = u169 at e
                  clear s150 s151 s152 s153 s154 s155 s156 s157 s158 s159 s160 s161 s170 s171
                  subst e
                  have HX9 := hid (Ext.trans HXS.out hx)
                  clear hx
                  go_wp2_with fail
                  go_roundw
                  case rel => exact ⟨i + 1, by omega, by go_num, HX9.out⟩
                  case measure => simp [intOf]; omega
              · have HDD := hid (show ((d.toNat : Int) == 0) = false by
                  have : ¬ d.toNat = 0 := fun e => hd (UInt8.toNat_inj.1 (by rw [e]; rfl))
                  simp; omega)
                by_cases hi2 : i = 2 - 1 - p / 8
                · have HEE := hid (show ((s1.toNat : Int) == (s2.toNat : Int)) = false by
                    have h1 : ¬ s1 = s2 := fun e => (hwf.1 e).elim hd (fun h => h hi2)
                    have h2 : ¬ s1.toNat = s2.toNat := fun e => h1 (UInt32.toNat_inj.1 e)
                    simp; omega)
                  have HFF := hid (show ((i : Int) != ((1 : Int) - ((p / 8 : Nat) : Int))) = false by have := HPM.out; simp; omega)
                  clear hwf hd hi2
                  go_wp2_with fail
                  refine region_inv mixed rfl (by kernel_rfl) (kV (lw29N_2 b11 o11 c11 b22 o22 c22 i p d s1 s2)) (kV_keep _) (forall_ops ⟨?_, ?_, ?_, ?_, ?_, ?_, ?_, ?_, ?_, ?_, ?_, ?_, ?_, ?_, ?_, ?_, ?_, ?_, ?_, ?_, ?_, ?_, trivial⟩) ?_
                  · intro a w hk
                    have s11 : a.tmps.getD 11 undef = .slice (some ⟨b11, o11, none⟩) 2 c11 := hk.was 11 (by kernel_rfl) rfl
                    exact step_move rfl rfl s11 rfl
                  · intro a w hk
                    have s24 : a.tmps.getD 24 undef = .int .i64 (i : Nat) := hk.was 24 (by kernel_rfl) rfl
                    exact step_move rfl rfl s24 rfl
                  · intro a w hk
                    have s150 := hk.eq_ 0 150 (by kernel_rfl) rfl
                    have s151 := hk.eq_ 1 151 (by kernel_rfl) rfl
                    refine step_val (v := .pointer (some ⟨b11, o11 + i, none⟩)) (w' := w) rfl ?_ (Ext.refl w) rfl
                    have hiM : (i : Int) < 2 := by have := HI.out; omega
                    go_simp
                  · intro a w hk
                    have s152 := hk.eq_ 2 152 (by kernel_rfl) rfl
                    refine step_val (v := .int .u32 ((s1).toNat : Nat)) (w' := w) rfl ?_ (Ext.refl w) rfl
                    have hc := cell_at hk.ext HS1.out
                    go_simp
                  · intro a w hk
                    have s22 : a.tmps.getD 22 undef = .slice (some ⟨b22, o22, none⟩) 2 c22 := hk.was 22 (by kernel_rfl) rfl
                    exact step_move rfl rfl s22 rfl
                  · intro a w hk
                    have s24 : a.tmps.getD 24 undef = .int .i64 (i : Nat) := hk.was 24 (by kernel_rfl) rfl
                    exact step_move rfl rfl s24 rfl
                  · intro a w hk
                    have s154 := hk.eq_ 4 154 (by kernel_rfl) rfl
                    have s155 := hk.eq_ 5 155 (by kernel_rfl) rfl
                    refine step_val (v := .pointer (some ⟨b22, o22 + i, none⟩)) (w' := w) rfl ?_ (Ext.refl w) rfl
                    have hiM : (i : Int) < 2 := by have := HI.out; omega
                    go_simp
                  · intro a w hk
                    have s156 := hk.eq_ 6 156 (by kernel_rfl) rfl
                    refine step_val (v := .int .u32 ((s2).toNat : Nat)) (w' := w) rfl ?_ (Ext.refl w) rfl
                    have hc := cell_at hk.ext HS2.out
                    go_simp
                  · intro a w hk
                    have s153 := hk.eq_ 3 153 (by kernel_rfl) rfl
                    have s157 := hk.eq_ 7 157 (by kernel_rfl) rfl
                    refine step_val (v := .bool false) (w' := w) rfl ?_ (Ext.refl w) rfl
                    have hz := HEE.out
                    go_simp
                  · intro a w hk
                    have s3 : a.tmps.getD 3 undef = .int .u8 (d.toNat : Nat) := hk.was 3 (by kernel_rfl) rfl
                    exact step_move rfl rfl s3 rfl
                  · intro a w hk
                    have s159 := hk.eq_ 9 159 (by kernel_rfl) rfl
                    refine step_val (v := .bool false) (w' := w) rfl ?_ (Ext.refl w) rfl
                    have hz := HDD.out
                    go_simp
                  · intro a w hk
                    have s160 := hk.eq_ 10 160 (by kernel_rfl) rfl
                    exact step_move rfl rfl s160 rfl
                  · intro a w hk
                    refine hk.run 11 161 false false rfl (by kernel_rfl) rfl fun hw => ?_
                    have s24 : a.tmps.getD 24 undef = .int .i64 (i : Nat) := hk.was 24 (by kernel_rfl) rfl
                    exact step_move hw rfl s24 rfl
                  · intro a w hk
                    refine hk.run 11 161 false false rfl (by kernel_rfl) rfl fun hw => ?_
                    have s11 : a.tmps.getD 11 undef = .slice (some ⟨b11, o11, none⟩) 2 c11 := hk.was 11 (by kernel_rfl) rfl
                    exact step_move hw rfl s11 rfl
                  · intro a w hk
                    refine hk.run 11 161 false false rfl (by kernel_rfl) rfl fun hw => ?_
                    have s163 := hk.eq_ 13 163 (by kernel_rfl) rfl
                    refine step_val (v := .int .i64 (2)) (w' := w) hw ?_ (Ext.refl w) rfl
                    go_simp
                  · intro a w hk
                    refine hk.run 11 161 false false rfl (by kernel_rfl) rfl fun hw => ?_
                    have s164 := hk.eq_ 14 164 (by kernel_rfl) rfl
                    refine step_val (v := .int .i64 (1)) (w' := w) hw ?_ (Ext.refl w) rfl
                    go_simp
                    (first | done | rfl | exact wrap64 (by omega) (by omega))
                  · intro a w hk
                    refine hk.run 11 161 false false rfl (by kernel_rfl) rfl fun hw => ?_
                    have s20 : a.tmps.getD 20 undef = .int .i64 (p : Nat) := hk.was 20 (by kernel_rfl) rfl
                    exact step_move hw rfl s20 rfl
                  · intro a w hk
                    refine hk.run 11 161 false false rfl (by kernel_rfl) rfl fun hw => ?_
                    have s166 := hk.eq_ 16 166 (by kernel_rfl) rfl
                    refine step_val (v := .int .i64 ((p / 8 : Nat))) (w' := w) hw ?_ (Ext.refl w) rfl
                    go_simp
                    (first | done | exact (quo8 p).symm | (rw [wrap64 (by omega) (by omega)]) | omega)
                  · intro a w hk
                    refine hk.run 11 161 false false rfl (by kernel_rfl) rfl fun hw => ?_
                    have s165 := hk.eq_ 15 165 (by kernel_rfl) rfl
                    have s167 := hk.eq_ 17 167 (by kernel_rfl) rfl
                    refine step_val (v := .int .i64 ((1 : Int) - ((p / 8 : Nat) : Int))) (w' := w) hw ?_ (Ext.refl w) rfl
                    have hpm : p / 8 ≤ 1 := HPM.out
                    go_simp
                    (first | done | exact wrap64 (by omega) (by omega))
                  · intro a w hk
                    refine hk.run 11 161 false false rfl (by kernel_rfl) rfl fun hw => ?_
                    have s162 := hk.eq_ 12 162 (by kernel_rfl) rfl
                    have s168 := hk.eq_ 18 168 (by kernel_rfl) rfl
                    refine step_val (v := .bool false) (w' := w) hw ?_ (Ext.refl w) rfl
                    have hz := HFF.out
                    go_simp
                    simp at hz
                    omega
                  · intro a w hk
                    have s161 := hk.eq_ 11 161 (by kernel_rfl) rfl
                    have s169 := hk.eq_ 19 169 (by kernel_rfl) rfl
                    exact step_pick (b := false) rfl rfl s161 s169 rfl
                  · intro a w hk
                    have s158 := hk.eq_ 8 158 (by kernel_rfl) rfl
                    have s170 := hk.eq_ 20 170 (by kernel_rfl) rfl
                    refine step_val (v := .bool false) (w' := w) rfl ?_ (Ext.refl w) rfl
                    go_simp
                  · intro a w20 hf
                    have s150 := hf.eq_ 0 150 (by kernel_rfl) rfl
                    have s151 := hf.eq_ 1 151 (by kernel_rfl) rfl
                    have s152 := hf.eq_ 2 152 (by kernel_rfl) rfl
                    have s153 := hf.eq_ 3 153 (by kernel_rfl) rfl
                    have s154 := hf.eq_ 4 154 (by kernel_rfl) rfl
                    have s155 := hf.eq_ 5 155 (by kernel_rfl) rfl
                    have s156 := hf.eq_ 6 156 (by kernel_rfl) rfl
                    have s157 := hf.eq_ 7 157 (by kernel_rfl) rfl
                    have s158 := hf.eq_ 8 158 (by kernel_rfl) rfl
                    have s159 := hf.eq_ 9 159 (by kernel_rfl) rfl
                    have s160 := hf.eq_ 10 160 (by kernel_rfl) rfl
                    have s161 := hf.eq_ 11 161 (by kernel_rfl) rfl
                    have s162 := hf.eq_ 12 162 (by kernel_rfl) rfl
                    have s163 := hf.eq_ 13 163 (by kernel_rfl) rfl
                    have s164 := hf.eq_ 14 164 (by kernel_rfl) rfl
                    have s165 := hf.eq_ 15 165 (by kernel_rfl) rfl
                    have s166 := hf.eq_ 16 166 (by kernel_rfl) rfl
                    have s167 := hf.eq_ 17 167 (by kernel_rfl) rfl
                    have s168 := hf.eq_ 18 168 (by kernel_rfl) rfl
                    have s169 := hf.eq_ 19 169 (by kernel_rfl) rfl
                    have s170 := hf.eq_ 20 170 (by kernel_rfl) rfl
                    have s171 := hf.eq_ 21 171 (by kernel_rfl) rfl
                    have hx := hf.ext
                    have e := hf.frame
                    clear hf
                    simp only [regFrame, Act.put, List.setIfInBounds_toArray, List.set_cons_zero, List.set_cons_succ, s150, s151, s152, s153, s154, s155, s156, s157, s158, s159, s160, s161, s162, s163, s164, s165, s166, s167, s168, s169, s170, s171] at e
                    clear s150 s151 s152 s153 s154 s155 s156 s157 s158 s159 s160 s161 s162 s163 s164 s165 s166 s167 s168 s169 s170 s171
                    subst e
                    have HX9 := hid (Ext.trans HXS.out hx)
                    clear hx
                    go_wp2_with fail
                    go_roundw
                    case rel => exact ⟨i + 1, by omega, by go_num, HX9.out⟩
                    case measure => simp [intOf]; omega
                · have HEE := hid (show ((s1.toNat : Int) == (s2.toNat : Int)) = true by rw [hwf.2 (.inr hi2)]; simp)
                  have HFF := hid (show ((i : Int) != ((1 : Int) - ((p / 8 : Nat) : Int))) = true by have := HPM.out; simp; omega)
                  clear hwf hd hi2
                  go_wp2_with fail
                  refine region_inv mixed rfl (by kernel_rfl) (kV (lw29S_2 b11 o11 c11 b22 o22 c22 i p d s1 s2)) (kV_keep _) (forall_ops ⟨?_, ?_, ?_, ?_, ?_, ?_, ?_, ?_, ?_, ?_, ?_, ?_, ?_, ?_, ?_, ?_, ?_, ?_, ?_, ?_, ?_, ?_, trivial⟩) ?_
                  · intro a w hk
                    have s11 : a.tmps.getD 11 undef = .slice (some ⟨b11, o11, none⟩) 2 c11 := hk.was 11 (by kernel_rfl) rfl
                    exact step_move rfl rfl s11 rfl
                  · intro a w hk
                    have s24 : a.tmps.getD 24 undef = .int .i64 (i : Nat) := hk.was 24 (by kernel_rfl) rfl
                    exact step_move rfl rfl s24 rfl
                  · intro a w hk
                    have s150 := hk.eq_ 0 150 (by kernel_rfl) rfl
                    have s151 := hk.eq_ 1 151 (by kernel_rfl) rfl
                    refine step_val (v := .pointer (some ⟨b11, o11 + i, none⟩)) (w' := w) rfl ?_ (Ext.refl w) rfl
                    have hiM : (i : Int) < 2 := by have := HI.out; omega
                    go_simp
                  · intro a w hk
                    have s152 := hk.eq_ 2 152 (by kernel_rfl) rfl
                    refine step_val (v := .int .u32 ((s1).toNat : Nat)) (w' := w) rfl ?_ (Ext.refl w) rfl
                    have hc := cell_at hk.ext HS1.out
                    go_simp
                  · intro a w hk
                    have s22 : a.tmps.getD 22 undef = .slice (some ⟨b22, o22, none⟩) 2 c22 := hk.was 22 (by kernel_rfl) rfl
                    exact step_move rfl rfl s22 rfl
                  · intro a w hk
                    have s24 : a.tmps.getD 24 undef = .int .i64 (i : Nat) := hk.was 24 (by kernel_rfl) rfl
                    exact step_move rfl rfl s24 rfl
                  · intro a w hk
                    have s154 := hk.eq_ 4 154 (by kernel_rfl) rfl
                    have s155 := hk.eq_ 5 155 (by kernel_rfl) rfl
                    refine step_val (v := .pointer (some ⟨b22, o22 + i, none⟩)) (w' := w) rfl ?_ (Ext.refl w) rfl
                    have hiM : (i : Int) < 2 := by have := HI.out; omega
                    go_simp
                  · intro a w hk
                    have s156 := hk.eq_ 6 156 (by kernel_rfl) rfl
                    refine step_val (v := .int .u32 ((s2).toNat : Nat)) (w' := w) rfl ?_ (Ext.refl w) rfl
                    have hc := cell_at hk.ext HS2.out
                    go_simp
                  · intro a w hk
                    have s153 := hk.eq_ 3 153 (by kernel_rfl) rfl
                    have s157 := hk.eq_ 7 157 (by kernel_rfl) rfl
                    refine step_val (v := .bool true) (w' := w) rfl ?_ (Ext.refl w) rfl
                    have hz := HEE.out
                    go_simp
                  · intro a w hk
                    have s3 : a.tmps.getD 3 undef = .int .u8 (d.toNat : Nat) := hk.was 3 (by kernel_rfl) rfl
                    exact step_move rfl rfl s3 rfl
                  · intro a w hk
                    have s159 := hk.eq_ 9 159 (by kernel_rfl) rfl
                    refine step_val (v := .bool false) (w' := w) rfl ?_ (Ext.refl w) rfl
                    have hz := HDD.out
                    go_simp
                  · intro a w hk
                    have s160 := hk.eq_ 10 160 (by kernel_rfl) rfl
                    exact step_move rfl rfl s160 rfl
                  · intro a w hk
                    refine hk.run 11 161 false false rfl (by kernel_rfl) rfl fun hw => ?_
                    have s24 : a.tmps.getD 24 undef = .int .i64 (i : Nat) := hk.was 24 (by kernel_rfl) rfl
                    exact step_move hw rfl s24 rfl
                  · intro a w hk
                    refine hk.run 11 161 false false rfl (by kernel_rfl) rfl fun hw => ?_
                    have s11 : a.tmps.getD 11 undef = .slice (some ⟨b11, o11, none⟩) 2 c11 := hk.was 11 (by kernel_rfl) rfl
                    exact step_move hw rfl s11 rfl
                  · intro a w hk
                    refine hk.run 11 161 false false rfl (by kernel_rfl) rfl fun hw => ?_
                    have s163 := hk.eq_ 13 163 (by kernel_rfl) rfl
                    refine step_val (v := .int .i64 (2)) (w' := w) hw ?_ (Ext.refl w) rfl
                    go_simp
                  · intro a w hk
                    refine hk.run 11 161 false false rfl (by kernel_rfl) rfl fun hw => ?_
                    have s164 := hk.eq_ 14 164 (by kernel_rfl) rfl
                    refine step_val (v := .int .i64 (1)) (w' := w) hw ?_ (Ext.refl w) rfl
                    go_simp
                    (first | done | rfl | exact wrap64 (by omega) (by omega))
                  · intro a w hk
                    refine hk.run 11 161 false false rfl (by kernel_rfl) rfl fun hw => ?_
                    have s20 : a.tmps.getD 20 undef = .int .i64 (p : Nat) := hk.was 20 (by kernel_rfl) rfl
                    exact step_move hw rfl s20 rfl
                  · intro a w hk
                    refine hk.run 11 161 false false rfl (by kernel_rfl) rfl fun hw => ?_
                    have s166 := hk.eq_ 16 166 (by kernel_rfl) rfl
                    refine step_val (v := .int .i64 ((p / 8 : Nat))) (w' := w) hw ?_ (Ext.refl w) rfl
                    go_simp
                    (first | done | exact (quo8 p).symm | (rw [wrap64 (by omega) (by omega)]) | omega)
                  · intro a w hk
                    refine hk.run 11 161 false false rfl (by kernel_rfl) rfl fun hw => ?_
                    have s165 := hk.eq_ 15 165 (by kernel_rfl) rfl
                    have s167 := hk.eq_ 17 167 (by kernel_rfl) rfl
                    refine step_val (v := .int .i64 ((1 : Int) - ((p / 8 : Nat) : Int))) (w' := w) hw ?_ (Ext.refl w) rfl
                    have hpm : p / 8 ≤ 1 := HPM.out
                    go_simp
                    (first | done | exact wrap64 (by omega) (by omega))
                  · intro a w hk
                    refine hk.run 11 161 false false rfl (by kernel_rfl) rfl fun hw => ?_
                    have s162 := hk.eq_ 12 162 (by kernel_rfl) rfl
                    have s168 := hk.eq_ 18 168 (by kernel_rfl) rfl
                    refine step_val (v := .bool true) (w' := w) hw ?_ (Ext.refl w) rfl
                    have hz := HFF.out
                    go_simp
                    simp at hz
                    omega
                  · intro a w hk
                    have s161 := hk.eq_ 11 161 (by kernel_rfl) rfl
                    have s169 := hk.eq_ 19 169 (by kernel_rfl) rfl
                    exact step_pick (b := false) rfl rfl s161 s169 rfl
                  · intro a w hk
                    have s158 := hk.eq_ 8 158 (by kernel_rfl) rfl
                    have s170 := hk.eq_ 20 170 (by kernel_rfl) rfl
                    refine step_val (v := .bool false) (w' := w) rfl ?_ (Ext.refl w) rfl
                    go_simp
                  · intro a w20 hf
                    have s150 := hf.eq_ 0 150 (by kernel_rfl) rfl
                    have s151 := hf.eq_ 1 151 (by kernel_rfl) rfl
                    have s152 := hf.eq_ 2 152 (by kernel_rfl) rfl
                    have s153 := hf.eq_ 3 153 (by kernel_rfl) rfl
                    have s154 := hf.eq_ 4 154 (by kernel_rfl) rfl
                    have s155 := hf.eq_ 5 155 (by kernel_rfl) rfl
                    have s156 := hf.eq_ 6 156 (by kernel_rfl) rfl
                    have s157 := hf.eq_ 7 157 (by kernel_rfl) rfl
                    have s158 := hf.eq_ 8 158 (by kernel_rfl) rfl
                    have s159 := hf.eq_ 9 159 (by kernel_rfl) rfl
                    have s160 := hf.eq_ 10 160 (by kernel_rfl) rfl
                    have s161 := hf.eq_ 11 161 (by kernel_rfl) rfl
                    have s162 := hf.eq_ 12 162 (by kernel_rfl) rfl
                    have s163 := hf.eq_ 13 163 (by kernel_rfl) rfl
                    have s164 := hf.eq_ 14 164 (by kernel_rfl) rfl
                    have s165 := hf.eq_ 15 165 (by kernel_rfl) rfl
                    have s166 := hf.eq_ 16 166 (by kernel_rfl) rfl
                    have s167 := hf.eq_ 17 167 (by kernel_rfl) rfl
                    have s168 := hf.eq_ 18 168 (by kernel_rfl) rfl
                    have s169 := hf.eq_ 19 169 (by kernel_rfl) rfl
                    have s170 := hf.eq_ 20 170 (by kernel_rfl) rfl
                    have s171 := hf.eq_ 21 171 (by kernel_rfl) rfl
                    have hx := hf.ext
                    have e := hf.frame
                    clear hf
                    simp only [regFrame, Act.put, List.setIfInBounds_toArray, List.set_cons_zero, List.set_cons_succ, s150, s151, s152, s153, s154, s155, s156, s157, s158, s159, s160, s161, s162, s163, s164, s165, s166, s167, s168, s169, s170, s171] at e
                    clear s150 s151 s152 s153 s154 s155 s156 s157 s158 s159 s160 s161 s162 s163 s164 s165 s166 s167 s168 s169 s170 s171
                    subst e
                    have HX9 := hid (Ext.trans HXS.out hx)
                    clear hx
                    go_wp2_with fail
                    go_roundw
                    case rel => exact ⟨i + 1, by omega, by go_num, HX9.out⟩
                    case measure => simp [intOf]; omega
            · obtain rfl : i = 2 := by omega
              have HXE := hid (Ext.trans HX18.out hx)
              clear hx
              go_wp2_with fail
              go_ret
              exact ⟨rfl, HXE.out⟩
def lw29Z_3 (b11 o11 c11 b22 o22 c22 i _p : Nat) (d : UInt8) (s1 s2 : UInt32) : List K := [.eq (.slice (some ⟨b11, o11, none⟩) 3 c11), .eq (.int .i64 (i : Nat)), .eq (.pointer (some ⟨b11, o11 + i, none⟩)), .eq (.int .u32 ((s1).toNat : Nat)), .eq (.slice (some ⟨b22, o22, none⟩) 3 c22), .eq (.int .i64 (i : Nat)), .eq (.pointer (some ⟨b22, o22 + i, none⟩)), .eq (.int .u32 ((s2).toNat : Nat)), .eq (.bool true), .eq (.int .u8 (d.toNat : Nat)), .eq (.bool true), .eq (.bool true), .any, .any, .any, .any, .any, .any, .any, .any, .eq (.bool true), .eq (.bool false)]
def lw29S_3 (b11 o11 c11 b22 o22 c22 i p : Nat) (d : UInt8) (s1 s2 : UInt32) : List K := [.eq (.slice (some ⟨b11, o11, none⟩) 3 c11), .eq (.int .i64 (i : Nat)), .eq (.pointer (some ⟨b11, o11 + i, none⟩)), .eq (.int .u32 ((s1).toNat : Nat)), .eq (.slice (some ⟨b22, o22, none⟩) 3 c22), .eq (.int .i64 (i : Nat)), .eq (.pointer (some ⟨b22, o22 + i, none⟩)), .eq (.int .u32 ((s2).toNat : Nat)), .eq (.bool true), .eq (.int .u8 (d.toNat : Nat)), .eq (.bool false), .eq (.bool false), .eq (.int .i64 (i : Nat)), .eq (.slice (some ⟨b11, o11, none⟩) 3 c11), .eq (.int .i64 (3)), .eq (.int .i64 (2)), .eq (.int .i64 (p : Nat)), .eq (.int .i64 ((p / 8 : Nat))), .eq (.int .i64 ((2 : Int) - ((p / 8 : Nat) : Int))), .eq (.bool true), .eq (.bool true), .eq (.bool false)]
def lw29N_3 (b11 o11 c11 b22 o22 c22 i p : Nat) (d : UInt8) (s1 s2 : UInt32) : List K := [.eq (.slice (some ⟨b11, o11, none⟩) 3 c11), .eq (.int .i64 (i : Nat)), .eq (.pointer (some ⟨b11, o11 + i, none⟩)), .eq (.int .u32 ((s1).toNat : Nat)), .eq (.slice (some ⟨b22, o22, none⟩) 3 c22), .eq (.int .i64 (i : Nat)), .eq (.pointer (some ⟨b22, o22 + i, none⟩)), .eq (.int .u32 ((s2).toNat : Nat)), .eq (.bool false), .eq (.int .u8 (d.toNat : Nat)), .eq (.bool false), .eq (.bool false), .eq (.int .i64 (i : Nat)), .eq (.slice (some ⟨b11, o11, none⟩) 3 c11), .eq (.int .i64 (3)), .eq (.int .i64 (2)), .eq (.int .i64 (p : Nat)), .eq (.int .i64 ((p / 8 : Nat))), .eq (.int .i64 ((2 : Int) - ((p / 8 : Nat) : Int))), .eq (.bool false), .eq (.bool false), .eq (.bool false)]
set_option maxRecDepth 100000 in
set_option maxHeartbeats 8000000 in
theorem words3_f (a0 : Option Addr) (len0 cap0 : Nat) (a1 : Int) (a2 : Int) (d : UInt8) (bs0 : List UInt8) (w : World) (h0 : Rd w w.heap.size a0 len0 bs0) (hm0 : len0 ≤ 9223372036854775807) (hkl : kLen a1 = 24) (hG : GT w) :
    Calls Tryd.prog 7 #[.slice a0 len0 cap0, .int .i64 a1, .int .i64 a2, .int .u8 (d.toNat : Nat)] w fun e w' => e = .returned (.bool true) ∧ Below w.heap.size w w' := by
  have H0 := hid h0
  have HG := hid hG
  have HKEY := hid (fun w h => key_any a0 len0 cap0 a1 bs0 w h hm0)
  have hkK : (byL (kLen a1) bs0).length = kLen a1 := byL_len _ _
  rw [hkl] at HKEY hkK
  obtain ⟨K, hK⟩ : ∃ K, byL 24 bs0 = K := ⟨_, rfl⟩
  rw [hK] at HKEY hkK
  have HKK := hid hkK
  have HKS := hid (fun w A c hG h hc => keys_any A 24 c K w hG h (by omega) hc)
  have hkp := kL_pair (evL K) (odL K) 20
  have h40 := keysL_length K
  have hss := sL_length K
  rw [hkK] at hss
  have hev : evL K = (List.range 3).map fun i => wdL K (8 * i) := by unfold evL; rw [hkK]
  have hod : odL K = (List.range 3).map fun i => wdL K (8 * i + 4) := by unfold odL; rw [hkK]
  have hkeys : keysL K = kL (evL K) (odL K) 20 := rfl
  rw [← hkeys] at hkp
  have HKP := hid hkp
  have HED := hid (And.intro hev hod)
  obtain ⟨ks, hks⟩ : ∃ ks, keysL K = ks := ⟨_, rfl⟩
  obtain ⟨ss, hse⟩ : ∃ ss, sL K = ss := ⟨_, rfl⟩
  have HSE := hid hse
  rw [hks] at HKS h40 HKP
  rw [hse] at HKS hss
  have HSS := hid hss
  have H40 := hid h40
  clear h0 hm0 hkl hG hkK hK hkp h40 hss hev hod hkeys hks hse
  go_enter Tryd.func7, Tryd.ntmps7
  go_wp2_with fail
  refine (known_any _ HG.out).mono ?_
  rintro e w1 ⟨rfl, hx1⟩
  have HX1 := hid hx1
  clear hx1
  go_wp2_with fail
  refine (HKEY.out _ (H0.out.later HX1.out)).mono ?_
  rintro e w2 ⟨Ak, ck, rfl, hck, hrk, hx2⟩
  obtain ⟨b, o, rfl, _, _⟩ := hrk.at_ (by omega)
  have HX2 := hid (Ext.trans HX1.out hx2)
  have HRK := hid hrk
  have HCK := hid hck
  clear hx2 hrk hck HX1
  go_wp2_with fail
  refine (HKS.out _ _ _ (HG.out.later HX2.out) HRK.out HCK.out).mono ?_
  rintro e w3 ⟨v1, v2, rfl, o1, o2, hx3⟩
  have HX3 := hid (Ext.trans HX2.out hx3)
  have HRK3 := hid (HRK.out.later hx3)
  obtain ⟨g10, c10, rfl, hc10, hg1, hg2⟩ := OwnN.head (n := 40) o1 (by rw [nW_length]; exact H40.out) (by omega)
  obtain ⟨A11, c11, rfl, r11, _⟩ := OwnN.rdn (n := 3) o2 (by rw [nW_length, HSS.out])
  have hkc : ∀ j, j < 40 → w3.cell? ⟨g10, j, none⟩ = some (.int .u32 ((ks.getD j 0).toNat : Nat)) := fun j hj => by
    rw [OwnN.celln o1 (by rw [nW_length]; exact H40.out) j hj, nW_get _ _ (by rw [H40.out]; exact hj)]
  have HKC := hid hkc
  have HR11 := hid r11
  clear hx3 o1 o2 r11 hg1 hg2 hkc HX2 HRK
  go_wp2_with fail
  go_loopw [13, 14, 15] (fun ve vo i wr => ∃ j : Nat, j ≤ 3 ∧ i = .int .i64 (8 * j : Nat) ∧ R3 w3.heap.size wr ve vo (.slice none 0 0) (nW ((List.range j).map fun i => wdL K (8 * i))) (nW ((List.range j).map fun i => wdL K (8 * i + 4))) [] ∧ Ext w3 wr) (fun _ _ i _ => 24 - (intOf i).toNat)
  case atStart => exact ⟨0, by omega, rfl, ⟨World.ownsRow_nil _ _ _ _, World.ownsRow_nil _ _ _ _, World.ownsRow_nil _ _ _ _, (fun q h => by cases h), (fun q h => by cases h), (fun q h => by cases h)⟩, Ext.refl _⟩
  case round =>
    obtain ⟨j, hj, rfl, hR, hx⟩ := hrel
    have HX := hid hx
    have HR := hid hR
    clear hx hR
    by_cases hlt : j < 3
    · have HE := hid (fun W (hW : Ext w3 W) c => by
        have := le_word (i := 2 * j) (c := c) (HRK3.out.later hW) (by omega)
        rw [show 4 * (2 * j) = 8 * j by omega] at this
        exact this)
      have HO := hid (fun W (hW : Ext w3 W) c => by
        have := le_word (i := 2 * j + 1) (c := c) (HRK3.out.later hW) (by omega)
        rw [show 4 * (2 * j + 1) = 8 * j + 4 by omega] at this
        exact this)
      have hse : nW ((List.range (j + 1)).map fun i => wdL K (8 * i)) = nW ((List.range j).map fun i => wdL K (8 * i)) ++ [((wdL K (8 * j)).toNat : Int)] := by rw [range_snoc, nW_append]; rfl
      have hso : nW ((List.range (j + 1)).map fun i => wdL K (8 * i + 4)) = nW ((List.range j).map fun i => wdL K (8 * i + 4)) ++ [((wdL K (8 * j + 4)).toNat : Int)] := by rw [range_snoc, nW_append]; rfl
      have lxe : (nW ((List.range j).map fun i => wdL K (8 * i))).length = j := by simp [nW]
      have lxo : (nW ((List.range j).map fun i => wdL K (8 * i + 4))).length = j := by simp [nW]
      obtain ⟨xe, hxe⟩ : ∃ xe, nW ((List.range j).map fun i => wdL K (8 * i)) = xe := ⟨_, rfl⟩
      obtain ⟨xo, hxo⟩ : ∃ xo, nW ((List.range j).map fun i => wdL K (8 * i + 4)) = xo := ⟨_, rfl⟩
      obtain ⟨y0, hy0⟩ : ∃ y, wdL K (8 * j) = y := ⟨_, rfl⟩
      obtain ⟨y1, hy1⟩ : ∃ y, wdL K (8 * j + 4) = y := ⟨_, rfl⟩
      rw [hxe] at HR hse lxe
      rw [hxo] at HR hso lxo
      rw [hy0] at HE hse
      rw [hy1] at HO hso
      have k0 := wlt y0
      have k1 := wlt y1
      obtain ⟨q, hq⟩ : ∃ q, 8 * j = q := ⟨_, rfl⟩
      rw [hq] at HE HO ⊢
      have hqn : q + 8 ≤ 24 := by omega
      have HQ := hid hq
      have HSE2 := hid (And.intro hse hso)
      have HLX := hid (show xe.length ≤ 1000 ∧ xo.length ≤ 1000 by omega)
      have hcn := HCK.out
      clear hse hso lxe lxo hxe hxo hy0 hy1 hq
      go_wp2_with fail
      refine (HE.out wr HX.out _).mono ?_
      rintro e w4 ⟨rfl, rfl⟩
      have HLTE := hid (lit_own1 wr y0)
      have HRA := hid (HR.out.ext (Ext.alloc wr (.cells #[.int .u32 (y0.toNat : Nat)] 37)))
      have HXA := hid (Ext.trans HX.out (Ext.alloc wr (.cells #[.int .u32 (y0.toNat : Nat)] 37)))
      go_wp2_with (refine wpList_app (y := ((y0.toNat : Nat) : Int)) (t := wr.heap.size) (c := 1) rfl (.tmp 57) (.tmp 65) rfl rfl HRA.out.e rfl (by have := HLX.out; omega) (by exact OwnN.celln HLTE.out rfl 0 (by simp)) HXA.out.size ?_; intro g1 c1 w5 hn1 hg1 hb1)
      have HR2 := hid (HRA.out.setE hn1 hg1 hb1)
      have HX5 := hid (show Ext w3 w5 from Below.grown HXA.out hg1 HXA.out.size (fun k e => (HRA.out.e.lt k e).1))
      clear hn1 hg1 hb1
      go_wp2_with fail
      refine (HO.out w5 HX5.out _).mono ?_
      rintro e w6 ⟨rfl, rfl⟩
      have HLTO := hid (lit_own1 w5 y1)
      have HRB := hid (HR2.out.ext (Ext.alloc w5 (.cells #[.int .u32 (y1.toNat : Nat)] 37)))
      have HXB := hid (Ext.trans HX5.out (Ext.alloc w5 (.cells #[.int .u32 (y1.toNat : Nat)] 37)))
      go_wp2_with (refine wpList_app (y := ((y1.toNat : Nat) : Int)) (t := w5.heap.size) (c := 1) rfl (.tmp 67) (.tmp 76) rfl rfl HRB.out.o rfl (by have := HLX.out; omega) (by exact OwnN.celln HLTO.out rfl 0 (by simp)) HXB.out.size ?_; intro g2 c2 w7 hn2 hg2 hb2)
      have HR4 := hid (HRB.out.setO hn2 hg2 hb2)
      have HX7 := hid (show Ext w3 w7 from Below.grown HXB.out hg2 HXB.out.size (fun k e => (HRB.out.o.lt k e).1))
      clear hn2 hg2 hb2
      go_wp2_with fail
      have hse := HSE2.out
      exact ⟨⟨j + 1, by omega, by have := HQ.out; go_num, by rw [hse.1, hse.2]; exact HR4.out, HX7.out⟩, by have := HQ.out; simp [intOf]; omega⟩
    · obtain rfl : j = 3 := by omega
      rw [← HED.out.1, ← HED.out.2] at HR
      have lev : (evL K).length = 3 := by rw [HED.out.1]; simp
      have lod : (odL K).length = 3 := by rw [HED.out.2]; simp
      obtain ⟨ev, hev⟩ : ∃ ev, evL K = ev := ⟨_, rfl⟩
      obtain ⟨od, hod⟩ : ∃ od, odL K = od := ⟨_, rfl⟩
      rw [hev] at HR HKP lev
      rw [hod] at HR HKP lod
      obtain ⟨A1, c1, rfl, h1, _⟩ := OwnN.rdn (n := 3) HR.out.e (by rw [nW_length]; exact lev)
      obtain ⟨A2, c2, rfl, h2, _⟩ := OwnN.rdn (n := 3) HR.out.o (by rw [nW_length]; exact lod)
      have H1 := hid h1
      have H2 := hid h2
      obtain ⟨w9, rfl⟩ : ∃ x, x = wr := ⟨_, rfl⟩
      have HX9 := hid HX.out
      have HG9 := hid (HG.out.later (Ext.trans HX3.out HX.out))
      clear HR h1 h2 hev hod lev lod HX hlt hj HED
      go_wp2_with fail
      generalize ((8 * 3 : Nat) : Int) = N0
      go_loopw [16] (fun u wr => ∃ i : Nat, i ≤ 20 ∧ u = .int .i64 i ∧ Ext w9 wr) (fun u _ => 20 - (intOf u).toNat)
      case atStart => exact ⟨0, by omega, rfl, Ext.refl _⟩
      case round =>
        obtain ⟨i, hi, rfl, hx⟩ := hrel
        by_cases hlt : i < 20
        · have e1 := w_ones (2 * i) (by omega)
          have e2 := w_ones (2 * i + 1) (by omega)
          have HA := hid (fun W hG hl => h_any (UInt32.ofNat (2 * i) * 0x01010101) ev A1 3 c1 W hG hl (by omega) (by omega))
          have HBB := hid (fun W hG hl => h_any (UInt32.ofNat (2 * i + 1) * 0x01010101) od A2 3 c2 W hG hl (by omega) (by omega))
          have hkA : HW (UInt32.ofNat (2 * i) * 0x01010101) ev = kA ev i := rfl
          have hkB : rolI (HW (UInt32.ofNat (2 * i + 1) * 0x01010101) od) 8 = kB od i := rfl
          have hkp := HKP.out i hlt
          have hk0 := HKC.out (2 * i) (by omega)
          have hk1 := HKC.out (2 * i + 1) (by omega)
          rw [hkp.1] at hk0
          rw [hkp.2] at hk1
          obtain ⟨T0, hT⟩ : ∃ T, HW (UInt32.ofNat (2 * i + 1) * 0x01010101) od = T := ⟨_, rfl⟩
          rw [hT] at HBB hkB
          rw [hkA] at HA
          obtain ⟨X1, hX1⟩ : ∃ X1, UInt32.ofNat (2 * i) * 0x01010101 = X1 := ⟨_, rfl⟩
          obtain ⟨X2, hX2⟩ : ∃ X2, UInt32.ofNat (2 * i + 1) * 0x01010101 = X2 := ⟨_, rfl⟩
          rw [hX1] at e1 HA
          rw [hX2] at e2 HBB
          obtain ⟨x1, hx1⟩ : ∃ a, kA ev i = a := ⟨_, rfl⟩
          obtain ⟨x2, hx2⟩ : ∃ a, kB od i = a := ⟨_, rfl⟩
          rw [hx1] at HA hk0 hk1
          rw [hx2] at hkB hk0 hk1
          have HRT := hid (fun W => rrol_w T0 8 W)
          rw [hkB] at HRT
          have f1 := w_add x1 x2
          have f2 := w_two x2
          have f3 := w_add x1 (2 * x2)
          obtain ⟨dd, hdd⟩ : ∃ a, 2 * x2 = a := ⟨_, rfl⟩
          rw [hdd] at f2 f3 hk1
          obtain ⟨r1, hr1⟩ : ∃ a, x1 + x2 = a := ⟨_, rfl⟩
          obtain ⟨pp, hpp⟩ : ∃ a, x1 + dd = a := ⟨_, rfl⟩
          rw [hr1] at f1 hk0
          rw [hpp] at f3 hk1
          have hrp := fun W => rrol_w pp 9 W
          obtain ⟨r2, hr2⟩ : ∃ a, rolI pp 9 = a := ⟨_, rfl⟩
          rw [hr2] at hrp hk1
          have HRP := hid hrp
          have HE := hid (And.intro f1 (And.intro f2 f3))
          have HC1 := hid hk0
          have HC2 := hid hk1
          have HI := hid hlt
          have HX := hid hx
          rw [show ((2 * i : Nat) : Int) = 2 * (i : Int) by omega] at e1
          rw [show ((2 * i + 1 : Nat) : Int) = 2 * (i : Int) + 1 by omega] at e2
          have hd : (i : Int) < 20 := by omega
          clear hkA hkB hkp hk0 hk1 hT hX1 hX2 hx1 hx2 f1 f2 f3 hdd hr1 hpp hrp hr2 hx
          go_wp2_with fail
          refine (HA.out _ (HG9.out.later HX.out) (H1.out.later HX.out)).mono ?_
          rintro e w12 ⟨rfl, hx12⟩
          have HX12 := hid (Ext.trans HX.out hx12)
          clear hx12 e1
          go_wp2_with fail
          refine (HBB.out _ (HG9.out.later HX12.out) (H2.out.later HX12.out)).mono ?_
          rintro e w13 ⟨rfl, hx13⟩
          have HX13 := hid (Ext.trans HX12.out hx13)
          clear hx13 e2
          go_wp2_with fail
          refine (HRT.out _).mono ?_
          rintro e w' ⟨rfl, rfl⟩
          have HXK := hid (Ext.trans HX9.out HX13.out)
          go_wp2_with fail
          refine region_upto 22 mixed rfl (by kernel_rfl) (by kernel_rfl) (by kernel_rfl) (kV (lw18 g10 c10 i x1 x2 r1 r2 dd pp)) (kV_keep _) (forall_ops ⟨?_, ?_, ?_, ?_, ?_, ?_, ?_, ?_, ?_, ?_, ?_, ?_, ?_, ?_, ?_, ?_, ?_, ?_, ?_, ?_, ?_, ?_, trivial⟩) ?_
          · intro a w hk
            have s10 : a.tmps.getD 10 undef = .slice (some ⟨g10, 0, none⟩) 40 c10 := hk.was 10 (by kernel_rfl) rfl
            exact step_move rfl rfl s10 rfl
          · intro a w hk
            have s16 : a.tmps.getD 16 undef = .int .i64 (i : Nat) := hk.was 16 (by kernel_rfl) rfl
            exact step_move rfl rfl s16 rfl
          · intro a w hk
            have s97 := hk.eq_ 1 97 (by kernel_rfl) rfl
            refine step_val (v := .int .i64 (2 * (i : Int))) (w' := w) rfl ?_ (Ext.refl w) rfl
            have hi20 : (i : Int) < 20 := by have := HI.out; omega
            go_simp
            exact wrap64 (by omega) (by omega)
          · intro a w hk
            have s96 := hk.eq_ 0 96 (by kernel_rfl) rfl
            have s98 := hk.eq_ 2 98 (by kernel_rfl) rfl
            refine step_val (v := .pointer (some ⟨g10, 2 * i, none⟩)) (w' := w) rfl ?_ (Ext.refl w) rfl
            have hi20 : (i : Int) < 20 := by have := HI.out; omega
            have hi40 : 2 * (i : Int) < 40 := by omega
            go_simp
            (try rw [if_pos (by omega)])
            (try rw [show (2 * (i : Int)).toNat = 2 * i by omega])
          · intro a w hk
            have s99 := hk.eq_ 3 99 (by kernel_rfl) rfl
            refine step_val (v := .int .u32 ((r1).toNat : Nat)) (w' := w) rfl ?_ (Ext.refl w) rfl
            have hc := cell_at (Ext.trans HXK.out hk.ext) HC1.out
            go_simp
          · intro a w hk
            have s17 : a.tmps.getD 17 undef = .int .u32 (x1.toNat : Nat) := hk.was 17 (by kernel_rfl) rfl
            exact step_move rfl rfl s17 rfl
          · intro a w hk
            have s18 : a.tmps.getD 18 undef = .int .u32 (x2.toNat : Nat) := hk.was 18 (by kernel_rfl) rfl
            exact step_move rfl rfl s18 rfl
          · intro a w hk
            have s101 := hk.eq_ 5 101 (by kernel_rfl) rfl
            have s102 := hk.eq_ 6 102 (by kernel_rfl) rfl
            refine step_val (v := .int .u32 ((r1).toNat : Nat)) (w' := w) rfl ?_ (Ext.refl w) rfl
            obtain ⟨e1, e2, e3⟩ := HE.out
            go_simp
            exact (wrapU _).trans e1
          · intro a w hk
            have s100 := hk.eq_ 4 100 (by kernel_rfl) rfl
            have s103 := hk.eq_ 7 103 (by kernel_rfl) rfl
            refine step_val (v := .bool false) (w' := w) rfl ?_ (Ext.refl w) rfl
            go_simp
          · intro a w hk
            have s104 := hk.eq_ 8 104 (by kernel_rfl) rfl
            exact step_move rfl rfl s104 rfl
          · intro a w hk
            refine hk.run 9 105 false false rfl (by kernel_rfl) rfl fun hw => ?_
            have s10 : a.tmps.getD 10 undef = .slice (some ⟨g10, 0, none⟩) 40 c10 := hk.was 10 (by kernel_rfl) rfl
            exact step_move hw rfl s10 rfl
          · intro a w hk
            refine hk.run 9 105 false false rfl (by kernel_rfl) rfl fun hw => ?_
            have s16 : a.tmps.getD 16 undef = .int .i64 (i : Nat) := hk.was 16 (by kernel_rfl) rfl
            exact step_move hw rfl s16 rfl
          · intro a w hk
            refine hk.run 9 105 false false rfl (by kernel_rfl) rfl fun hw => ?_
            have s107 := hk.eq_ 11 107 (by kernel_rfl) rfl
            refine step_val (v := .int .i64 (2 * (i : Int))) (w' := w) hw ?_ (Ext.refl w) rfl
            have hi20 : (i : Int) < 20 := by have := HI.out; omega
            go_simp
            exact wrap64 (by omega) (by omega)
          · intro a w hk
            refine hk.run 9 105 false false rfl (by kernel_rfl) rfl fun hw => ?_
            have s108 := hk.eq_ 12 108 (by kernel_rfl) rfl
            refine step_val (v := .int .i64 (2 * (i : Int) + 1)) (w' := w) hw ?_ (Ext.refl w) rfl
            have hi20 : (i : Int) < 20 := by have := HI.out; omega
            go_simp
            exact wrap64 (by omega) (by omega)
          · intro a w hk
            refine hk.run 9 105 false false rfl (by kernel_rfl) rfl fun hw => ?_
            have s106 := hk.eq_ 10 106 (by kernel_rfl) rfl
            have s109 := hk.eq_ 13 109 (by kernel_rfl) rfl
            refine step_val (v := .pointer (some ⟨g10, 2 * i + 1, none⟩)) (w' := w) hw ?_ (Ext.refl w) rfl
            have hi20 : (i : Int) < 20 := by have := HI.out; omega
            have hi40 : 2 * (i : Int) + 1 < 40 := by omega
            go_simp
            (try rw [if_pos (by omega)])
            (try rw [show (2 * (i : Int) + 1).toNat = 2 * i + 1 by omega])
          · intro a w hk
            refine hk.run 9 105 false false rfl (by kernel_rfl) rfl fun hw => ?_
            have s110 := hk.eq_ 14 110 (by kernel_rfl) rfl
            refine step_val (v := .int .u32 ((r2).toNat : Nat)) (w' := w) hw ?_ (Ext.refl w) rfl
            have hc := cell_at (Ext.trans HXK.out hk.ext) HC2.out
            go_simp
          · intro a w hk
            refine hk.run 9 105 false false rfl (by kernel_rfl) rfl fun hw => ?_
            have s17 : a.tmps.getD 17 undef = .int .u32 (x1.toNat : Nat) := hk.was 17 (by kernel_rfl) rfl
            exact step_move hw rfl s17 rfl
          · intro a w hk
            refine hk.run 9 105 false false rfl (by kernel_rfl) rfl fun hw => ?_
            have s18 : a.tmps.getD 18 undef = .int .u32 (x2.toNat : Nat) := hk.was 18 (by kernel_rfl) rfl
            exact step_move hw rfl s18 rfl
          · intro a w hk
            refine hk.run 9 105 false false rfl (by kernel_rfl) rfl fun hw => ?_
            have s113 := hk.eq_ 17 113 (by kernel_rfl) rfl
            refine step_val (v := .int .u32 ((dd).toNat : Nat)) (w' := w) hw ?_ (Ext.refl w) rfl
            obtain ⟨e1, e2, e3⟩ := HE.out
            go_simp
            exact (wrapU _).trans e2
          · intro a w hk
            refine hk.run 9 105 false false rfl (by kernel_rfl) rfl fun hw => ?_
            have s112 := hk.eq_ 16 112 (by kernel_rfl) rfl
            have s114 := hk.eq_ 18 114 (by kernel_rfl) rfl
            refine step_val (v := .int .u32 ((pp).toNat : Nat)) (w' := w) hw ?_ (Ext.refl w) rfl
            obtain ⟨e1, e2, e3⟩ := HE.out
            go_simp
            exact (wrapU _).trans e3
          · intro a w hk
            refine hk.run 9 105 false false rfl (by kernel_rfl) rfl fun hw => ?_
            have s115 := hk.eq_ 19 115 (by kernel_rfl) rfl
            exact step_call hw rfl (by simp only [List.map_toArray, List.map_cons, List.map_nil, Act.eval, s115] <;> rfl) cf21 (HRP.out w) (fun e w1 h => retE e w1 h)
          · intro a w hk
            refine hk.run 9 105 false false rfl (by kernel_rfl) rfl fun hw => ?_
            have s111 := hk.eq_ 15 111 (by kernel_rfl) rfl
            have s116 := hk.eq_ 20 116 (by kernel_rfl) rfl
            refine step_val (v := .bool false) (w' := w) hw ?_ (Ext.refl w) rfl
            go_simp
          · intro a w14 hf
            have s96 := hf.eq_ 0 96 (by kernel_rfl) rfl
            have s97 := hf.eq_ 1 97 (by kernel_rfl) rfl
            have s98 := hf.eq_ 2 98 (by kernel_rfl) rfl
            have s99 := hf.eq_ 3 99 (by kernel_rfl) rfl
            have s100 := hf.eq_ 4 100 (by kernel_rfl) rfl
            have s101 := hf.eq_ 5 101 (by kernel_rfl) rfl
            have s102 := hf.eq_ 6 102 (by kernel_rfl) rfl
            have s103 := hf.eq_ 7 103 (by kernel_rfl) rfl
            have s104 := hf.eq_ 8 104 (by kernel_rfl) rfl
            have s105 := hf.eq_ 9 105 (by kernel_rfl) rfl
            have s106 := hf.eq_ 10 106 (by kernel_rfl) rfl
            have s107 := hf.eq_ 11 107 (by kernel_rfl) rfl
            have s108 := hf.eq_ 12 108 (by kernel_rfl) rfl
            have s109 := hf.eq_ 13 109 (by kernel_rfl) rfl
            have s110 := hf.eq_ 14 110 (by kernel_rfl) rfl
            have s111 := hf.eq_ 15 111 (by kernel_rfl) rfl
            have s112 := hf.eq_ 16 112 (by kernel_rfl) rfl
            have s113 := hf.eq_ 17 113 (by kernel_rfl) rfl
            have s114 := hf.eq_ 18 114 (by kernel_rfl) rfl
            have s115 := hf.eq_ 19 115 (by kernel_rfl) rfl
            have s116 := hf.eq_ 20 116 (by kernel_rfl) rfl
            have s117 := hf.eq_ 21 117 (by kernel_rfl) rfl
            have hx := hf.ext
            have e := hf.frame
            clear hf
            simp only [List.take_succ_cons, List.take_zero, regFrame, Act.put, List.setIfInBounds_toArray, List.set_cons_zero, List.set_cons_succ, s96, s97, s98, s99, s100, s101, s102, s103, s104, s105, s106, s107, s108, s109, s110, s111, s112, s113, s114, s115, s116, s117] at e
            clear s96 s97 s98 s99 s100 s101 s102 s103 s104 s105 s106 s107 s108 s109 s110 s111 s112 s113 s114 s115 s116 s117
            subst e
            simp only [List.drop_succ_cons, List.drop_zero]
            have HX14 := hid (Ext.trans HX13.out hx)
            clear hx
            go_wp2_with fail
            go_roundw
            case rel => exact ⟨i + 1, by omega, by go_num, HX14.out⟩
            case measure => simp [intOf]; omega
        · obtain rfl : i = 20 := by omega
          generalize hN20 : ((20 : Nat) : Int) = N20
          have gN20 : ¬ N20 < 20 := by omega
          clear hN20
          obtain ⟨w15, rfl⟩ : ∃ x, x = wr := ⟨_, rfl⟩
          have HX15 := hid (Ext.trans HX9.out hx)
          have HXX := hid (Ext.trans HX3.out HX15.out)
          have HRK5 := hid (HRK3.out.later HX15.out)
          have HR15 := hid (HR11.out.later HX15.out)
          have HLIT := hid (Own.lit w15 [] #[] 0 w15.heap.size rfl rfl (by omega) (Nat.le_refl _))
          have HRKA := hid (HRK5.out.later (Ext.alloc w15 (.cells #[] 5)))
          obtain ⟨p, hp⟩ : ∃ p : Nat, a2 % 24 = p := ⟨(a2 % 24).toNat, by omega⟩
          have hpn : p < 24 := by omega
          have HW8 := hid (fun W => within_any a2 24 W (by omega) (by omega))
          rw [hp] at HW8
          clear hx hlt hi HKC HX9 H1 H2 HG9 HKP hp
          go_wp2_with (first
            | (refine wpL_append _ rfl (.tmp 119) (.tmp 120) 22 rfl Tryd.underlying22 Tryd.info5 w15.heap.size _ _ rfl HLIT.out _ _ 24 ck K rfl HRKA.out (by simp) (by simp) ?_; intro v' w16 hown16 hb16; obtain ⟨g19, c19, rfl, hc19, hg19⟩ := own_head (n := 24) (bs := K) hown16 HKK.out (by omega)))
          have HXL := hid (show Ext w15 w16 from ((Below.refl w15.heap.size w15).alloc (Nat.le_refl _) _).trans hb16)
          have HO16 := hid (show Own w16 w15.heap.size (.slice (some ⟨g19, 0, none⟩) 24 c19) K from hown16)
          clear hown16 hb16
          refine (HW8.out _).mono ?_
          rintro e w' ⟨rfl, rfl⟩
          clear gN20
          have HBX := hid (show bits .xor .u8 (byteAt K p) (d.toNat : Int) = (((K.getD p 0) ^^^ d).toNat : Int) from b_xor (K.getD p 0) d)
          have h16' : Own w16 w15.heap.size (.slice (some ⟨g19, 0, none⟩) K.length c19) K := by rw [HKK.out]; exact HO16.out
          have HXB := hid (HXX.out.trans HXL.out)
          have hcp : w16.cell? ⟨g19, p, none⟩ = some (.int .u8 (byteAt K p)) := h16'.cell p (by rw [HKK.out]; omega)
          have hfp := h16'.free p
          have hO2 : Own (w16.setCell ⟨g19, p, none⟩ (.int .u8 (((K.getD p 0) ^^^ d).toNat : Nat))) w15.heap.size (.slice (some ⟨g19, 0, none⟩) 24 c19) (flipB K p d) := by
            have h16 := HO16.out
            have := Own.set_ (bs := K) (by rw [HKK.out]; exact h16) p ((K.getD p 0) ^^^ d)
            rw [HKK.out] at this
            exact this
          have HO2 := hid hO2
          have hX2 : Ext w15 (w16.setCell ⟨g19, p, none⟩ (.int .u8 (((K.getD p 0) ^^^ d).toNat : Nat))) := HXL.out.setCell (p := ⟨g19, p, none⟩) hg19 _
          have HX2 := hid hX2
          have hp16 : (p : Int) < 24 := by omega
          obtain ⟨z, hz⟩ : ∃ z : UInt8, (K.getD p 0) ^^^ d = z := ⟨_, rfl⟩
          rw [hz] at HBX HO2 HX2
          obtain ⟨zb, hzb⟩ : ∃ zb : Int, byteAt K p = zb := ⟨_, rfl⟩
          rw [hzb] at hcp HBX
          have hbx := HBX.out
          clear h16' hO2 hX2 hz hzb HO16
          go_wp2_with fail
          obtain ⟨A9, c9, e9, hr9, _⟩ := HO2.out.rdn (n := 24) (by rw [flipB_length]; exact HKK.out)
          cases e9
          refine (keys_any _ 24 c19 (flipB K p d) _ (HG.out.later (Ext.trans HXX.out HX2.out)) hr9 (by omega) hc19).mono ?_
          rintro e w18 ⟨v21, v22, rfl, o1, o2, hx18⟩
          obtain ⟨A22, c22, rfl, r22, _⟩ := OwnN.rdn (n := 3) o2 (by rw [nW_length, sL_length, flipB_length, HKK.out])
          obtain ⟨A21, c21, rfl, _, _⟩ := OwnN.rdn (n := 40) o1 (by rw [nW_length, keysL_length])
          have HR18 := hr9
          obtain ⟨b22, o22, rfl, _, hc22⟩ := r22.at_ (by omega)
          have r11 := HR15.out.later (Ext.trans HX2.out hx18)
          obtain ⟨b11, o11, rfl, _, hc11⟩ := r11.at_ (by omega)
          have hlf : (sL (flipB K p d)).length = 3 := by rw [sL_length, flipB_length, HKK.out]
          have hs1 : ∀ k, k < 3 → w18.cell? ⟨b11, o11 + k, none⟩ = some (.int .u32 ((ss.getD k 0).toNat : Nat)) := fun k hk => by
            rw [hc11 k hk, nW_get _ _ (by rw [HSS.out]; exact hk)]
          have hs2 : ∀ k, k < 3 → w18.cell? ⟨b22, o22 + k, none⟩ = some (.int .u32 (((sL (flipB K p d)).getD k 0).toNat : Nat)) := fun k hk => by
            rw [hc22 k hk, nW_get _ _ (by rw [hlf]; exact hk)]
          have hwf : ∀ k, k < 3 → (ss.getD k 0 = (sL (flipB K p d)).getD k 0 ↔ (d = 0 ∨ k ≠ 3 - 1 - p / 8)) := fun k hk => by
            have := words_flip K 3 p k d HKK.out (by omega) hk
            rw [HSE.out] at this
            exact this
          obtain ⟨ss2, hss2⟩ : ∃ q, sL (flipB K p d) = q := ⟨_, rfl⟩
          rw [hss2] at hs2 hwf
          have HS1A := hid hs1
          have HS2A := hid hs2
          have HWF := hid hwf
          have HX18 := hid (Ext.trans HXX.out (Ext.trans HX2.out hx18))
          have HPM := hid (show p / 8 ≤ 2 by omega)
          clear o1 o2 r22 r11 hc22 hc11 hlf hs1 hs2 hwf hss2 hr9 HR18 hx18 hcp hfp hbx HBX HO2 HX2 HXL HR15
          go_wp2_with fail
          go_loopw [24] (fun u wr => ∃ i : Nat, i ≤ 3 ∧ u = .int .i64 i ∧ Ext w18 wr) (fun u _ => 3 - (intOf u).toNat)
          case atStart => exact ⟨0, by omega, rfl, Ext.refl _⟩
          case round =>
            obtain ⟨i, hi, rfl, hx⟩ := hrel
            by_cases hlt : i < 3
            · have hs1 := cell_at hx (HS1A.out i hlt)
              have hs2 := cell_at hx (HS2A.out i hlt)
              have hwf := HWF.out i hlt
              obtain ⟨s1, hs1e⟩ : ∃ q, ss.getD i 0 = q := ⟨_, rfl⟩
              obtain ⟨s2, hs2e⟩ : ∃ q, ss2.getD i 0 = q := ⟨_, rfl⟩
              rw [hs1e] at hs1 hwf
              rw [hs2e] at hs2 hwf
              have HS1 := hid hs1
              have HS2 := hid hs2
              have HI := hid hlt
              have HXS := hid hx
              clear hs1 hs2 hs1e hs2e hx
              by_cases hd : d = 0
              · have HEE := hid (show ((s1.toNat : Int) == (s2.toNat : Int)) = true by rw [hwf.2 (.inl hd)]; simp)
                have HDD := hid (show ((d.toNat : Int) == 0) = true by rw [hd]; rfl)
                clear hwf hd
                go_wp2_with fail
                refine region_inv mixed rfl (by kernel_rfl) (kV (lw29Z_3 b11 o11 c11 b22 o22 c22 i p d s1 s2)) (kV_keep _) (forall_ops ⟨?_, ?_, ?_, ?_, ?_, ?_, ?_, ?_, ?_, ?_, ?_, ?_, ?_, ?_, ?_, ?_, ?_, ?_, ?_, ?_, ?_, ?_, trivial⟩) ?_
                · intro a w hk
                  have s11 : a.tmps.getD 11 undef = .slice (some ⟨b11, o11, none⟩) 3 c11 := hk.was 11 (by kernel_rfl) rfl
                  exact step_move rfl rfl s11 rfl
                · intro a w hk
                  have s24 : a.tmps.getD 24 undef = .int .i64 (i : Nat) := hk.was 24 (by kernel_rfl) rfl
                  exact step_move rfl rfl s24 rfl
                · intro a w hk
                  have s150 := hk.eq_ 0 150 (by kernel_rfl) rfl
                  have s151 := hk.eq_ 1 151 (by kernel_rfl) rfl
                  refine step_val (v := .pointer (some ⟨b11, o11 + i, none⟩)) (w' := w) rfl ?_ (Ext.refl w) rfl
                  have hiM : (i : Int) < 3 := by have := HI.out; omega
                  go_simp
                · intro a w hk
                  have s152 := hk.eq_ 2 152 (by kernel_rfl) rfl
                  refine step_val (v := .int .u32 ((s1).toNat : Nat)) (w' := w) rfl ?_ (Ext.refl w) rfl
                  have hc := cell_at hk.ext HS1.out
                  go_simp
                · intro a w hk
                  have s22 : a.tmps.getD 22 undef = .slice (some ⟨b22, o22, none⟩) 3 c22 := hk.was 22 (by kernel_rfl) rfl
                  exact step_move rfl rfl s22 rfl
                · intro a w hk
                  have s24 : a.tmps.getD 24 undef = .int .i64 (i : Nat) := hk.was 24 (by kernel_rfl) rfl
                  exact step_move rfl rfl s24 rfl
                · intro a w hk
                  have s154 := hk.eq_ 4 154 (by kernel_rfl) rfl
                  have s155 := hk.eq_ 5 155 (by kernel_rfl) rfl
                  refine step_val (v := .pointer (some ⟨b22, o22 + i, none⟩)) (w' := w) rfl ?_ (Ext.refl w) rfl
                  have hiM : (i : Int) < 3 := by have := HI.out; omega
                  go_simp
                · intro a w hk
                  have s156 := hk.eq_ 6 156 (by kernel_rfl) rfl
                  refine step_val (v := .int .u32 ((s2).toNat : Nat)) (w' := w) rfl ?_ (Ext.refl w) rfl
                  have hc := cell_at hk.ext HS2.out
                  go_simp
                · intro a w hk
                  have s153 := hk.eq_ 3 153 (by kernel_rfl) rfl
                  have s157 := hk.eq_ 7 157 (by kernel_rfl) rfl
                  refine step_val (v := .bool true) (w' := w) rfl ?_ (Ext.refl w) rfl
                  have hz := HEE.out
                  go_simp
                · intro a w hk
                  have s3 : a.tmps.getD 3 undef = .int .u8 (d.toNat : Nat) := hk.was 3 (by kernel_rfl) rfl
                  exact step_move rfl rfl s3 rfl
                · intro a w hk
                  have s159 := hk.eq_ 9 159 (by kernel_rfl) rfl
                  refine step_val (v := .bool true) (w' := w) rfl ?_ (Ext.refl w) rfl
                  have hz := HDD.out
                  go_simp
                · intro a w hk
                  have s160 := hk.eq_ 10 160 (by kernel_rfl) rfl
                  exact step_move rfl rfl s160 rfl
                · intro a w hk
                  refine hk.run 11 161 true false rfl (by kernel_rfl) rfl fun hw => ?_
                  exact step_skip hw trivial
                · intro a w hk
                  refine hk.run 11 161 true false rfl (by kernel_rfl) rfl fun hw => ?_
                  exact step_skip hw trivial
                · intro a w hk
                  refine hk.run 11 161 true false rfl (by kernel_rfl) rfl fun hw => ?_
                  exact step_skip hw trivial
                · intro a w hk
                  refine hk.run 11 161 true false rfl (by kernel_rfl) rfl fun hw => ?_
                  exact step_skip hw trivial
                · intro a w hk
                  refine hk.run 11 161 true false rfl (by kernel_rfl) rfl fun hw => ?_
                  exact step_skip hw trivial
                · intro a w hk
                  refine hk.run 11 161 true false rfl (by kernel_rfl) rfl fun hw => ?_
                  exact step_skip hw trivial
                · intro a w hk
                  refine hk.run 11 161 true false rfl (by kernel_rfl) rfl fun hw => ?_
                  exact step_skip hw trivial
                · intro a w hk
                  refine hk.run 11 161 true false rfl (by kernel_rfl) rfl fun hw => ?_
                  exact step_skip hw trivial
                · intro a w hk
                  have s161 := hk.eq_ 11 161 (by kernel_rfl) rfl
                  exact step_pick (b := true) rfl rfl s161 rfl rfl
                · intro a w hk
                  have s158 := hk.eq_ 8 158 (by kernel_rfl) rfl
                  have s170 := hk.eq_ 20 170 (by kernel_rfl) rfl
                  refine step_val (v := .bool false) (w' := w) rfl ?_ (Ext.refl w) rfl
                  go_simp
                · intro a w20 hf
                  have s150 := hf.eq_ 0 150 (by kernel_rfl) rfl
                  have s151 := hf.eq_ 1 151 (by kernel_rfl) rfl
                  have s152 := hf.eq_ 2 152 (by kernel_rfl) rfl
                  have s153 := hf.eq_ 3 153 (by kernel_rfl) rfl
                  have s154 := hf.eq_ 4 154 (by kernel_rfl) rfl
                  have s155 := hf.eq_ 5 155 (by kernel_rfl) rfl
                  have s156 := hf.eq_ 6 156 (by kernel_rfl) rfl
                  have s157 := hf.eq_ 7 157 (by kernel_rfl) rfl
                  have s158 := hf.eq_ 8 158 (by kernel_rfl) rfl
                  have s159 := hf.eq_ 9 159 (by kernel_rfl) rfl
                  have s160 := hf.eq_ 10 160 (by kernel_rfl) rfl
                  have s161 := hf.eq_ 11 161 (by kernel_rfl) rfl
                  have s170 := hf.eq_ 20 170 (by kernel_rfl) rfl
                  have s171 := hf.eq_ 21 171 (by kernel_rfl) rfl
                  have hx := hf.ext
                  have e := hf.frame
                  clear hf
                  simp only [regFrame, Act.put, List.setIfInBounds_toArray, List.set_cons_zero, List.set_cons_succ, s150, s151, s152, s153, s154, s155, s156, s157, s158, s159, s160, s161, s170, s171] at e
                  generalize a.tmps.getD 162 undef = u162 at e
                  generalize a.tmps.getD 163 undef = u163 at e
                  generalize a.tmps.getD 164 undef = u164 at e
                  generalize a.tmps.getD 165 undef = u165 at e
                  generalize a.tmps.getD 166 undef = u166 at e
                  generalize a.tmps.getD 167 undef = u167 at e
                  generalize a.tmps.getD 168 undef = u168 at e
                  generalize a.tmps.getD 169 undef = u169 at e
                  clear s150 s151 s152 s153 s154 s155 s156 s157 s158 s159 s160 s161 s170 s171
                  subst e
                  have HX9 := hid (Ext.trans HXS.out hx)
                  clear hx
                  go_wp2_with fail
                  go_roundw
                  case rel => exact ⟨i + 1, by omega, by go_num, HX9.out⟩
                  case measure => simp [intOf]; omega
              · have HDD := hid (show ((d.toNat : Int) == 0) = false by
                  have : ¬ d.toNat = 0 := fun e => hd (UInt8.toNat_inj.1 (by rw [e]; rfl))
                  simp; omega)
                by_cases hi2 : i = 3 - 1 - p / 8
                · have HEE := hid (show ((s1.toNat : Int) == (s2.toNat : Int)) = false by
                    have h1 : ¬ s1 = s2 := fun e => (hwf.1 e).elim hd (fun h => h hi2)
                    have h2 : ¬ s1.toNat = s2.toNat := fun e => h1 (UInt32.toNat_inj.1 e)
                    simp; omega)
                  have HFF := hid (show ((i : Int) != ((2 : Int) - ((p / 8 : Nat) : Int))) = false by have := HPM.out; simp; omega)
                  clear hwf hd hi2
                  go_wp2_with fail
                  refine region_inv mixed rfl (by kernel_rfl) (kV (lw29N_3 b11 o11 c11 b22 o22 c22 i p d s1 s2)) (kV_keep _) (forall_ops ⟨?_, ?_, ?_, ?_, ?_, ?_, ?_, ?_, ?_, ?_, ?_, ?_, ?_, ?_, ?_, ?_, ?_, ?_, ?_, ?_, ?_, ?_, trivial⟩) ?_
                  · intro a w hk
                    have s11 : a.tmps.getD 11 undef = .slice (some ⟨b11, o11, none⟩) 3 c11 := hk.was 11 (by kernel_rfl) rfl
                    exact step_move rfl rfl s11 rfl
                  · intro a w hk
                    have s24 : a.tmps.getD 24 undef = .int .i64 (i : Nat) := hk.was 24 (by kernel_rfl) rfl
                    exact step_move rfl rfl s24 rfl
                  · intro a w hk
                    have s150 := hk.eq_ 0 150 (by kernel_rfl) rfl
                    have s151 := hk.eq_ 1 151 (by kernel_rfl) rfl
                    refine step_val (v := .pointer (some ⟨b11, o11 + i, none⟩)) (w' := w) rfl ?_ (Ext.refl w) rfl
                    have hiM : (i : Int) < 3 := by have := HI.out; omega
                    go_simp
                  · intro a w hk
                    have s152 := hk.eq_ 2 152 (by kernel_rfl) rfl
                    refine step_val (v := .int .u32 ((s1).toNat : Nat)) (w' := w) rfl ?_ (Ext.refl w) rfl
                    have hc := cell_at hk.ext HS1.out
                    go_simp
                  · intro a w hk
                    have s22 : a.tmps.getD 22 undef = .slice (some ⟨b22, o22, none⟩) 3 c22 := hk.was 22 (by kernel_rfl) rfl
                    exact step_move rfl rfl s22 rfl
                  · intro a w hk
                    have s24 : a.tmps.getD 24 undef = .int .i64 (i : Nat) := hk.was 24 (by kernel_rfl) rfl
                    exact step_move rfl rfl s24 rfl
                  · intro a w hk
                    have s154 := hk.eq_ 4 154 (by kernel_rfl) rfl
                    have s155 := hk.eq_ 5 155 (by kernel_rfl) rfl
                    refine step_val (v := .pointer (some ⟨b22, o22 + i, none⟩)) (w' := w) rfl ?_ (Ext.refl w) rfl
                    have hiM : (i : Int) < 3 := by have := HI.out; omega
                    go_simp
                  · intro a w hk
                    have s156 := hk.eq_ 6 156 (by kernel_rfl) rfl
                    refine step_val (v := .int .u32 ((s2).toNat : Nat)) (w' := w) rfl ?_ (Ext.refl w) rfl
                    have hc := cell_at hk.ext HS2.out
                    go_simp
                  · intro a w hk
                    have s153 := hk.eq_ 3 153 (by kernel_rfl) rfl
                    have s157 := hk.eq_ 7 157 (by kernel_rfl) rfl
                    refine step_val (v := .bool false) (w' := w) rfl ?_ (Ext.refl w) rfl
                    have hz := HEE.out
                    go_simp
                  · intro a w hk
                    have s3 : a.tmps.getD 3 undef = .int .u8 (d.toNat : Nat) := hk.was 3 (by kernel_rfl) rfl
                    exact step_move rfl rfl s3 rfl
                  · intro a w hk
                    have s159 := hk.eq_ 9 159 (by kernel_rfl) rfl
                    refine step_val (v := .bool false) (w' := w) rfl ?_ (Ext.refl w) rfl
                    have hz := HDD.out
                    go_simp
                  · intro a w hk
                    have s160 := hk.eq_ 10 160 (by kernel_rfl) rfl
                    exact step_move rfl rfl s160 rfl
                  · intro a w hk
                    refine hk.run 11 161 false false rfl (by kernel_rfl) rfl fun hw => ?_
                    have s24 : a.tmps.getD 24 undef = .int .i64 (i : Nat) := hk.was 24 (by kernel_rfl) rfl
                    exact step_move hw rfl s24 rfl
                  · intro a w hk
                    refine hk.run 11 161 false false rfl (by kernel_rfl) rfl fun hw => ?_
                    have s11 : a.tmps.getD 11 undef = .slice (some ⟨b11, o11, none⟩) 3 c11 := hk.was 11 (by kernel_rfl) rfl
                    exact step_move hw rfl s11 rfl
                  · intro a w hk
                    refine hk.run 11 161 false false rfl (by kernel_rfl) rfl fun hw => ?_
                    have s163 := hk.eq_ 13 163 (by kernel_rfl) rfl
                    refine step_val (v := .int .i64 (3)) (w' := w) hw ?_ (Ext.refl w) rfl
                    go_simp
                  · intro a w hk
                    refine hk.run 11 161 false false rfl (by kernel_rfl) rfl fun hw => ?_
                    have s164 := hk.eq_ 14 164 (by kernel_rfl) rfl
                    refine step_val (v := .int .i64 (2)) (w' := w) hw ?_ (Ext.refl w) rfl
                    go_simp
                    (first | done | rfl | exact wrap64 (by omega) (by omega))
                  · intro a w hk
                    refine hk.run 11 161 false false rfl (by kernel_rfl) rfl fun hw => ?_
                    have s20 : a.tmps.getD 20 undef = .int .i64 (p : Nat) := hk.was 20 (by kernel_rfl) rfl
                    exact step_move hw rfl s20 rfl
                  · intro a w hk
                    refine hk.run 11 161 false false rfl (by kernel_rfl) rfl fun hw => ?_
                    have s166 := hk.eq_ 16 166 (by kernel_rfl) rfl
                    refine step_val (v := .int .i64 ((p / 8 : Nat))) (w' := w) hw ?_ (Ext.refl w) rfl
                    go_simp
                    (first | done | exact (quo8 p).symm | (rw [wrap64 (by omega) (by omega)]) | omega)
                  · intro a w hk
                    refine hk.run 11 161 false false rfl (by kernel_rfl) rfl fun hw => ?_
                    have s165 := hk.eq_ 15 165 (by kernel_rfl) rfl
                    have s167 := hk.eq_ 17 167 (by kernel_rfl) rfl
                    refine step_val (v := .int .i64 ((2 : Int) - ((p / 8 : Nat) : Int))) (w' := w) hw ?_ (Ext.refl w) rfl
                    have hpm : p / 8 ≤ 2 := HPM.out
                    go_simp
                    (first | done | exact wrap64 (by omega) (by omega))
                  · intro a w hk
                    refine hk.run 11 161 false false rfl (by kernel_rfl) rfl fun hw => ?_
                    have s162 := hk.eq_ 12 162 (by kernel_rfl) rfl
                    have s168 := hk.eq_ 18 168 (by kernel_rfl) rfl
                    refine step_val (v := .bool false) (w' := w) hw ?_ (Ext.refl w) rfl
                    have hz := HFF.out
                    go_simp
                    simp at hz
                    omega
                  · intro a w hk
                    have s161 := hk.eq_ 11 161 (by kernel_rfl) rfl
                    have s169 := hk.eq_ 19 169 (by kernel_rfl) rfl
                    exact step_pick (b := false) rfl rfl s161 s169 rfl
                  · intro a w hk
                    have s158 := hk.eq_ 8 158 (by kernel_rfl) rfl
                    have s170 := hk.eq_ 20 170 (by kernel_rfl) rfl
                    refine step_val (v := .bool false) (w' := w) rfl ?_ (Ext.refl w) rfl
                    go_simp
                  · intro a w20 hf
                    have s150 := hf.eq_ 0 150 (by kernel_rfl) rfl
                    have s151 := hf.eq_ 1 151 (by kernel_rfl) rfl
                    have s152 := hf.eq_ 2 152 (by kernel_rfl) rfl
                    have s153 := hf.eq_ 3 153 (by kernel_rfl) rfl
                    have s154 := hf.eq_ 4 154 (by kernel_rfl) rfl
                    have s155 := hf.eq_ 5 155 (by kernel_rfl) rfl
                    have s156 := hf.eq_ 6 156 (by kernel_rfl) rfl
                    have s157 := hf.eq_ 7 157 (by kernel_rfl) rfl
                    have s158 := hf.eq_ 8 158 (by kernel_rfl) rfl
                    have s159 := hf.eq_ 9 159 (by kernel_rfl) rfl
                    have s160 := hf.eq_ 10 160 (by kernel_rfl) rfl
                    have s161 := hf.eq_ 11 161 (by kernel_rfl) rfl
                    have s162 := hf.eq_ 12 162 (by kernel_rfl) rfl
                    have s163 := hf.eq_ 13 163 (by kernel_rfl) rfl
                    have s164 := hf.eq_ 14 164 (by kernel_rfl) rfl
                    have s165 := hf.eq_ 15 165 (by kernel_rfl) rfl
                    have s166 := hf.eq_ 16 166 (by kernel_rfl) rfl
                    have s167 := hf.eq_ 17 167 (by kernel_rfl) rfl
                    have s168 := hf.eq_ 18 168 (by kernel_rfl) rfl
                    have s169 := hf.eq_ 19 169 (by kernel_rfl) rfl
                    have s170 := hf.eq_ 20 170 (by kernel_rfl) rfl
                    have s171 := hf.eq_ 21 171 (by kernel_rfl) rfl
                    have hx := hf.ext
                    have e := hf.frame
                    clear hf
                    simp only [regFrame, Act.put, List.setIfInBounds_toArray, List.set_cons_zero, List.set_cons_succ, s150, s151, s152, s153, s154, s155, s156, s157, s158, s159, s160, s161, s162, s163, s164, s165, s166, s167, s168, s169, s170, s171] at e
                    clear s150 s151 s152 s153 s154 s155 s156 s157 s158 s159 s160 s161 s162 s163 s164 s165 s166 s167 s168 s169 s170 s171
                    subst e
                    have HX9 := hid (Ext.trans HXS.out hx)
                    clear hx
                    go_wp2_with fail
                    go_roundw
                    case rel => exact ⟨i + 1, by omega, by go_num, HX9.out⟩
                    case measure => simp [intOf]; omega
                · have HEE := hid (show ((s1.toNat : Int) == (s2.toNat : Int)) = true by rw [hwf.2 (.inr hi2)]; simp)
                  have HFF := hid (show ((i : Int) != ((2 : Int) - ((p / 8 : Nat) : Int))) = true by have := HPM.out; simp; omega)
                  clear hwf hd hi2
                  go_wp2_with fail
                  refine region_inv mixed rfl (by kernel_rfl) (kV (lw29S_3 b11 o11 c11 b22 o22 c22 i p d s1 s2)) (kV_keep _) (forall_ops ⟨?_, ?_, ?_, ?_, ?_, ?_, ?_, ?_, ?_, ?_, ?_, ?_, ?_, ?_, ?_, ?_, ?_, ?_, ?_, ?_, ?_, ?_, trivial⟩) ?_
                  · intro a w hk
                    have s11 : a.tmps.getD 11 undef = .slice (some ⟨b11, o11, none⟩) 3 c11 := hk.was 11 (by kernel_rfl) rfl
                    exact step_move rfl rfl s11 rfl
                  · intro a w hk
                    have s24 : a.tmps.getD 24 undef = .int .i64 (i : Nat) := hk.was 24 (by kernel_rfl) rfl
                    exact step_move rfl rfl s24 rfl
                  · intro a w hk
                    have s150 := hk.eq_ 0 150 (by kernel_rfl) rfl
                    have s151 := hk.eq_ 1 151 (by kernel_rfl) rfl
                    refine step_val (v := .pointer (some ⟨b11, o11 + i, none⟩)) (w' := w) rfl ?_ (Ext.refl w) rfl
                    have hiM : (i : Int) < 3 := by have := HI.out; omega
                    go_simp
                  · intro a w hk
                    have s152 := hk.eq_ 2 152 (by kernel_rfl) rfl
                    refine step_val (v := .int .u32 ((s1).toNat : Nat)) (w' := w) rfl ?_ (Ext.refl w) rfl
                    have hc := cell_at hk.ext HS1.out
                    go_simp
                  · intro a w hk
                    have s22 : a.tmps.getD 22 undef = .slice (some ⟨b22, o22, none⟩) 3 c22 := hk.was 22 (by kernel_rfl) rfl
                    exact step_move rfl rfl s22 rfl
                  · intro a w hk
                    have s24 : a.tmps.getD 24 undef = .int .i64 (i : Nat) := hk.was 24 (by kernel_rfl) rfl
                    exact step_move rfl rfl s24 rfl
                  · intro a w hk
                    have s154 := hk.eq_ 4 154 (by kernel_rfl) rfl
                    have s155 := hk.eq_ 5 155 (by kernel_rfl) rfl
                    refine step_val (v := .pointer (some ⟨b22, o22 + i, none⟩)) (w' := w) rfl ?_ (Ext.refl w) rfl
                    have hiM : (i : Int) < 3 := by have := HI.out; omega
                    go_simp
                  · intro a w hk
                    have s156 := hk.eq_ 6 156 (by kernel_rfl) rfl
                    refine step_val (v := .int .u32 ((s2).toNat : Nat)) (w' := w) rfl ?_ (Ext.refl w) rfl
                    have hc := cell_at hk.ext HS2.out
                    go_simp
                  · intro a w hk
                    have s153 := hk.eq_ 3 153 (by kernel_rfl) rfl
                    have s157 := hk.eq_ 7 157 (by kernel_rfl) rfl
                    refine step_val (v := .bool true) (w' := w) rfl ?_ (Ext.refl w) rfl
                    have hz := HEE.out
                    go_simp
                  · intro a w hk
                    have s3 : a.tmps.getD 3 undef = .int .u8 (d.toNat : Nat) := hk.was 3 (by kernel_rfl) rfl
                    exact step_move rfl rfl s3 rfl
                  · intro a w hk
                    have s159 := hk.eq_ 9 159 (by kernel_rfl) rfl
                    refine step_val (v := .bool false) (w' := w) rfl ?_ (Ext.refl w) rfl
                    have hz := HDD.out
                    go_simp
                  · intro a w hk
                    have s160 := hk.eq_ 10 160 (by kernel_rfl) rfl
                    exact step_move rfl rfl s160 rfl
                  · intro a w hk
                    refine hk.run 11 161 false false rfl (by kernel_rfl) rfl fun hw => ?_
                    have s24 : a.tmps.getD 24 undef = .int .i64 (i : Nat) := hk.was 24 (by kernel_rfl) rfl
                    exact step_move hw rfl s24 rfl
                  · intro a w hk
                    refine hk.run 11 161 false false rfl (by kernel_rfl) rfl fun hw => ?_
                    have s11 : a.tmps.getD 11 undef = .slice (some ⟨b11, o11, none⟩) 3 c11 := hk.was 11 (by kernel_rfl) rfl
                    exact step_move hw rfl s11 rfl
                  · intro a w hk
                    refine hk.run 11 161 false false rfl (by kernel_rfl) rfl fun hw => ?_
                    have s163 := hk.eq_ 13 163 (by kernel_rfl) rfl
                    refine step_val (v := .int .i64 (3)) (w' := w) hw ?_ (Ext.refl w) rfl
                    go_simp
                  · intro a w hk
                    refine hk.run 11 161 false false rfl (by kernel_rfl) rfl fun hw => ?_
                    have s164 := hk.eq_ 14 164 (by kernel_rfl) rfl
                    refine step_val (v := .int .i64 (2)) (w' := w) hw ?_ (Ext.refl w) rfl
                    go_simp
                    (first | done | rfl | exact wrap64 (by omega) (by omega))
                  · intro a w hk
                    refine hk.run 11 161 false false rfl (by kernel_rfl) rfl fun hw => ?_
                    have s20 : a.tmps.getD 20 undef = .int .i64 (p : Nat) := hk.was 20 (by kernel_rfl) rfl
                    exact step_move hw rfl s20 rfl
                  · intro a w hk
                    refine hk.run 11 161 false false rfl (by kernel_rfl) rfl fun hw => ?_
                    have s166 := hk.eq_ 16 166 (by kernel_rfl) rfl
                    refine step_val (v := .int .i64 ((p / 8 : Nat))) (w' := w) hw ?_ (Ext.refl w) rfl
                    go_simp
                    (first | done | exact (quo8 p).symm | (rw [wrap64 (by omega) (by omega)]) | omega)
                  · intro a w hk
                    refine hk.run 11 161 false false rfl (by kernel_rfl) rfl fun hw => ?_
                    have s165 := hk.eq_ 15 165 (by kernel_rfl) rfl
                    have s167 := hk.eq_ 17 167 (by kernel_rfl) rfl
                    refine step_val (v := .int .i64 ((2 : Int) - ((p / 8 : Nat) : Int))) (w' := w) hw ?_ (Ext.refl w) rfl
                    have hpm : p / 8 ≤ 2 := HPM.out
                    go_simp
                    (first | done | exact wrap64 (by omega) (by omega))
                  · intro a w hk
                    refine hk.run 11 161 false false rfl (by kernel_rfl) rfl fun hw => ?_
                    have s162 := hk.eq_ 12 162 (by kernel_rfl) rfl
                    have s168 := hk.eq_ 18 168 (by kernel_rfl) rfl
                    refine step_val (v := .bool true) (w' := w) hw ?_ (Ext.refl w) rfl
                    have hz := HFF.out
                    go_simp
                    simp at hz
                    omega
                  · intro a w hk
                    have s161 := hk.eq_ 11 161 (by kernel_rfl) rfl
                    have s169 := hk.eq_ 19 169 (by kernel_rfl) rfl
                    exact step_pick (b := false) rfl rfl s161 s169 rfl
                  · intro a w hk
                    have s158 := hk.eq_ 8 158 (by kernel_rfl) rfl
                    have s170 := hk.eq_ 20 170 (by kernel_rfl) rfl
                    refine step_val (v := .bool false) (w' := w) rfl ?_ (Ext.refl w) rfl
                    go_simp
                  · intro a w20 hf
                    have s150 := hf.eq_ 0 150 (by kernel_rfl) rfl
                    have s151 := hf.eq_ 1 151 (by kernel_rfl) rfl
                    have s152 := hf.eq_ 2 152 (by kernel_rfl) rfl
                    have s153 := hf.eq_ 3 153 (by kernel_rfl) rfl
                    have s154 := hf.eq_ 4 154 (by kernel_rfl) rfl
                    have s155 := hf.eq_ 5 155 (by kernel_rfl) rfl
                    have s156 := hf.eq_ 6 156 (by kernel_rfl) rfl
                    have s157 := hf.eq_ 7 157 (by kernel_rfl) rfl
                    have s158 := hf.eq_ 8 158 (by kernel_rfl) rfl
                    have s159 := hf.eq_ 9 159 (by kernel_rfl) rfl
                    have s160 := hf.eq_ 10 160 (by kernel_rfl) rfl
                    have s161 := hf.eq_ 11 161 (by kernel_rfl) rfl
                    have s162 := hf.eq_ 12 162 (by kernel_rfl) rfl
                    have s163 := hf.eq_ 13 163 (by kernel_rfl) rfl
                    have s164 := hf.eq_ 14 164 (by kernel_rfl) rfl
                    have s165 := hf.eq_ 15 165 (by kernel_rfl) rfl
                    have s166 := hf.eq_ 16 166 (by kernel_rfl) rfl
                    have s167 := hf.eq_ 17 167 (by kernel_rfl) rfl
                    have s168 := hf.eq_ 18 168 (by kernel_rfl) rfl
                    have s169 := hf.eq_ 19 169 (by kernel_rfl) rfl
                    have s170 := hf.eq_ 20 170 (by kernel_rfl) rfl
                    have s171 := hf.eq_ 21 171 (by kernel_rfl) rfl
                    have hx := hf.ext
                    have e := hf.frame
                    clear hf
                    simp only [regFrame, Act.put, List.setIfInBounds_toArray, List.set_cons_zero, List.set_cons_succ, s150, s151, s152, s153, s154, s155, s156, s157, s158, s159, s160, s161, s162, s163, s164, s165, s166, s167, s168, s169, s170, s171] at e
                    clear s150 s151 s152 s153 s154 s155 s156 s157 s158 s159 s160 s161 s162 s163 s164 s165 s166 s167 s168 s169 s170 s171
                    subst e
                    have HX9 := hid (Ext.trans HXS.out hx)
                    clear hx
                    go_wp2_with fail
                    go_roundw
                    case rel => exact ⟨i + 1, by omega, by go_num, HX9.out⟩
                    case measure => simp [intOf]; omega
            · obtain rfl : i = 3 := by omega
              have HXE := hid (Ext.trans HX18.out hx)
              clear hx
              go_wp2_with fail
              go_ret
              exact ⟨rfl, HXE.out⟩
def lw29Z_4 (b11 o11 c11 b22 o22 c22 i _p : Nat) (d : UInt8) (s1 s2 : UInt32) : List K := [.eq (.slice (some ⟨b11, o11, none⟩) 4 c11), .eq (.int .i64 (i : Nat)), .eq (.pointer (some ⟨b11, o11 + i, none⟩)), .eq (.int .u32 ((s1).toNat : Nat)), .eq (.slice (some ⟨b22, o22, none⟩) 4 c22), .eq (.int .i64 (i : Nat)), .eq (.pointer (some ⟨b22, o22 + i, none⟩)), .eq (.int .u32 ((s2).toNat : Nat)), .eq (.bool true), .eq (.int .u8 (d.toNat : Nat)), .eq (.bool true), .eq (.bool true), .any, .any, .any, .any, .any, .any, .any, .any, .eq (.bool true), .eq (.bool false)]
def lw29S_4 (b11 o11 c11 b22 o22 c22 i p : Nat) (d : UInt8) (s1 s2 : UInt32) : List K := [.eq (.slice (some ⟨b11, o11, none⟩) 4 c11), .eq (.int .i64 (i : Nat)), .eq (.pointer (some ⟨b11, o11 + i, none⟩)), .eq (.int .u32 ((s1).toNat : Nat)), .eq (.slice (some ⟨b22, o22, none⟩) 4 c22), .eq (.int .i64 (i : Nat)), .eq (.pointer (some ⟨b22, o22 + i, none⟩)), .eq (.int .u32 ((s2).toNat : Nat)), .eq (.bool true), .eq (.int .u8 (d.toNat : Nat)), .eq (.bool false), .eq (.bool false), .eq (.int .i64 (i : Nat)), .eq (.slice (some ⟨b11, o11, none⟩) 4 c11), .eq (.int .i64 (4)), .eq (.int .i64 (3)), .eq (.int .i64 (p : Nat)), .eq (.int .i64 ((p / 8 : Nat))), .eq (.int .i64 ((3 : Int) - ((p / 8 : Nat) : Int))), .eq (.bool true), .eq (.bool true), .eq (.bool false)]
def lw29N_4 (b11 o11 c11 b22 o22 c22 i p : Nat) (d : UInt8) (s1 s2 : UInt32) : List K := [.eq (.slice (some ⟨b11, o11, none⟩) 4 c11), .eq (.int .i64 (i : Nat)), .eq (.pointer (some ⟨b11, o11 + i, none⟩)), .eq (.int .u32 ((s1).toNat : Nat)), .eq (.slice (some ⟨b22, o22, none⟩) 4 c22), .eq (.int .i64 (i : Nat)), .eq (.pointer (some ⟨b22, o22 + i, none⟩)), .eq (.int .u32 ((s2).toNat : Nat)), .eq (.bool false), .eq (.int .u8 (d.toNat : Nat)), .eq (.bool false), .eq (.bool false), .eq (.int .i64 (i : Nat)), .eq (.slice (some ⟨b11, o11, none⟩) 4 c11), .eq (.int .i64 (4)), .eq (.int .i64 (3)), .eq (.int .i64 (p : Nat)), .eq (.int .i64 ((p / 8 : Nat))), .eq (.int .i64 ((3 : Int) - ((p / 8 : Nat) : Int))), .eq (.bool false), .eq (.bool false), .eq (.bool false)]
set_option maxRecDepth 100000 in
set_option maxHeartbeats 8000000 in
theorem words4_f (a0 : Option Addr) (len0 cap0 : Nat) (a1 : Int) (a2 : Int) (d : UInt8) (bs0 : List UInt8) (w : World) (h0 : Rd w w.heap.size a0 len0 bs0) (hm0 : len0 ≤ 9223372036854775807) (hkl : kLen a1 = 32) (hG : GT w) :
    Calls Tryd.prog 7 #[.slice a0 len0 cap0, .int .i64 a1, .int .i64 a2, .int .u8 (d.toNat : Nat)] w fun e w' => e = .returned (.bool true) ∧ Below w.heap.size w w' := by
  have H0 := hid h0
  have HG := hid hG
  have HKEY := hid (fun w h => key_any a0 len0 cap0 a1 bs0 w h hm0)
  have hkK : (byL (kLen a1) bs0).length = kLen a1 := byL_len _ _
  rw [hkl] at HKEY hkK
  obtain ⟨K, hK⟩ : ∃ K, byL 32 bs0 = K := ⟨_, rfl⟩
  rw [hK] at HKEY hkK
  have HKK := hid hkK
  have HKS := hid (fun w A c hG h hc => keys_any A 32 c K w hG h (by omega) hc)
  have hkp := kL_pair (evL K) (odL K) 20
  have h40 := keysL_length K
  have hss := sL_length K
  rw [hkK] at hss
  have hev : evL K = (List.range 4).map fun i => wdL K (8 * i) := by unfold evL; rw [hkK]
  have hod : odL K = (List.range 4).map fun i => wdL K (8 * i + 4) := by unfold odL; rw [hkK]
  have hkeys : keysL K = kL (evL K) (odL K) 20 := rfl
  rw [← hkeys] at hkp
  have HKP := hid hkp
  have HED := hid (And.intro hev hod)
  obtain ⟨ks, hks⟩ : ∃ ks, keysL K = ks := ⟨_, rfl⟩
  obtain ⟨ss, hse⟩ : ∃ ss, sL K = ss := ⟨_, rfl⟩
  have HSE := hid hse
  rw [hks] at HKS h40 HKP
  rw [hse] at HKS hss
  have HSS := hid hss
  have H40 := hid h40
  clear h0 hm0 hkl hG hkK hK hkp h40 hss hev hod hkeys hks hse
  go_enter Tryd.func7, Tryd.ntmps7
  go_wp2_with fail
  refine (known_any _ HG.out).mono ?_
  rintro e w1 ⟨rfl, hx1⟩
  have HX1 := hid hx1
  clear hx1
  go_wp2_with fail
  refine (HKEY.out _ (H0.out.later HX1.out)).mono ?_
  rintro e w2 ⟨Ak, ck, rfl, hck, hrk, hx2⟩
  obtain ⟨b, o, rfl, _, _⟩ := hrk.at_ (by omega)
  have HX2 := hid (Ext.trans HX1.out hx2)
  have HRK := hid hrk
  have HCK := hid hck
  clear hx2 hrk hck HX1
  go_wp2_with fail
  refine (HKS.out _ _ _ (HG.out.later HX2.out) HRK.out HCK.out).mono ?_
  rintro e w3 ⟨v1, v2, rfl, o1, o2, hx3⟩
  have HX3 := hid (Ext.trans HX2.out hx3)
  have HRK3 := hid (HRK.out.later hx3)
  obtain ⟨g10, c10, rfl, hc10, hg1, hg2⟩ := OwnN.head (n := 40) o1 (by rw [nW_length]; exact H40.out) (by omega)
  obtain ⟨A11, c11, rfl, r11, _⟩ := OwnN.rdn (n := 4) o2 (by rw [nW_length, HSS.out])
  have hkc : ∀ j, j < 40 → w3.cell? ⟨g10, j, none⟩ = some (.int .u32 ((ks.getD j 0).toNat : Nat)) := fun j hj => by
    rw [OwnN.celln o1 (by rw [nW_length]; exact H40.out) j hj, nW_get _ _ (by rw [H40.out]; exact hj)]
  have HKC := hid hkc
  have HR11 := hid r11
  clear hx3 o1 o2 r11 hg1 hg2 hkc HX2 HRK
  go_wp2_with fail
  go_loopw [13, 14, 15] (fun ve vo i wr => ∃ j : Nat, j ≤ 4 ∧ i = .int .i64 (8 * j : Nat) ∧ R3 w3.heap.size wr ve vo (.slice none 0 0) (nW ((List.range j).map fun i => wdL K (8 * i))) (nW ((List.range j).map fun i => wdL K (8 * i + 4))) [] ∧ Ext w3 wr) (fun _ _ i _ => 32 - (intOf i).toNat)
  case atStart => exact ⟨0, by omega, rfl, ⟨World.ownsRow_nil _ _ _ _, World.ownsRow_nil _ _ _ _, World.ownsRow_nil _ _ _ _, (fun q h => by cases h), (fun q h => by cases h), (fun q h => by cases h)⟩, Ext.refl _⟩
  case round =>
    obtain ⟨j, hj, rfl, hR, hx⟩ := hrel
    have HX := hid hx
    have HR := hid hR
    clear hx hR
    by_cases hlt : j < 4
    · have HE := hid (fun W (hW : Ext w3 W) c => by
        have := le_word (i := 2 * j) (c := c) (HRK3.out.later hW) (by omega)
        rw [show 4 * (2 * j) = 8 * j by omega] at this
        exact this)
      have HO := hid (fun W (hW : Ext w3 W) c => by
        have := le_word (i := 2 * j + 1) (c := c) (HRK3.out.later hW) (by omega)
        rw [show 4 * (2 * j + 1) = 8 * j + 4 by omega] at this
        exact this)
      have hse : nW ((List.range (j + 1)).map fun i => wdL K (8 * i)) = nW ((List.range j).map fun i => wdL K (8 * i)) ++ [((wdL K (8 * j)).toNat : Int)] := by rw [range_snoc, nW_append]; rfl
      have hso : nW ((List.range (j + 1)).map fun i => wdL K (8 * i + 4)) = nW ((List.range j).map fun i => wdL K (8 * i + 4)) ++ [((wdL K (8 * j + 4)).toNat : Int)] := by rw [range_snoc, nW_append]; rfl
      have lxe : (nW ((List.range j).map fun i => wdL K (8 * i))).length = j := by simp [nW]
      have lxo : (nW ((List.range j).map fun i => wdL K (8 * i + 4))).length = j := by simp [nW]
      obtain ⟨xe, hxe⟩ : ∃ xe, nW ((List.range j).map fun i => wdL K (8 * i)) = xe := ⟨_, rfl⟩
      obtain ⟨xo, hxo⟩ : ∃ xo, nW ((List.range j).map fun i => wdL K (8 * i + 4)) = xo := ⟨_, rfl⟩
      obtain ⟨y0, hy0⟩ : ∃ y, wdL K (8 * j) = y := ⟨_, rfl⟩
      obtain ⟨y1, hy1⟩ : ∃ y, wdL K (8 * j + 4) = y := ⟨_, rfl⟩
      rw [hxe] at HR hse lxe
      rw [hxo] at HR hso lxo
      rw [hy0] at HE hse
      rw [hy1] at HO hso
      have k0 := wlt y0
      have k1 := wlt y1
      obtain ⟨q, hq⟩ : ∃ q, 8 * j = q := ⟨_, rfl⟩
      rw [hq] at HE HO ⊢
      have hqn : q + 8 ≤ 32 := by omega
      have HQ := hid hq
      have HSE2 := hid (And.intro hse hso)
      have HLX := hid (show xe.length ≤ 1000 ∧ xo.length ≤ 1000 by omega)
      have hcn := HCK.out
      clear hse hso lxe lxo hxe hxo hy0 hy1 hq
      go_wp2_with fail
      refine (HE.out wr HX.out _).mono ?_
      rintro e w4 ⟨rfl, rfl⟩
      have HLTE := hid (lit_own1 wr y0)
      have HRA := hid (HR.out.ext (Ext.alloc wr (.cells #[.int .u32 (y0.toNat : Nat)] 37)))
      have HXA := hid (Ext.trans HX.out (Ext.alloc wr (.cells #[.int .u32 (y0.toNat : Nat)] 37)))
      go_wp2_with (refine wpList_app (y := ((y0.toNat : Nat) : Int)) (t := wr.heap.size) (c := 1) rfl (.tmp 57) (.tmp 65) rfl rfl HRA.out.e rfl (by have := HLX.out; omega) (by exact OwnN.celln HLTE.out rfl 0 (by simp)) HXA.out.size ?_; intro g1 c1 w5 hn1 hg1 hb1)
      have HR2 := hid (HRA.out.setE hn1 hg1 hb1)
      have HX5 := hid (show Ext w3 w5 from Below.grown HXA.out hg1 HXA.out.size (fun k e => (HRA.out.e.lt k e).1))
      clear hn1 hg1 hb1
      go_wp2_with fail
      refine (HO.out w5 HX5.out _).mono ?_
      rintro e w6 ⟨rfl, rfl⟩
      have HLTO := hid (lit_own1 w5 y1)
      have HRB := hid (HR2.out.ext (Ext.alloc w5 (.cells #[.int .u32 (y1.toNat : Nat)] 37)))
      have HXB := hid (Ext.trans HX5.out (Ext.alloc w5 (.cells #[.int .u32 (y1.toNat : Nat)] 37)))
      go_wp2_with (refine wpList_app (y := ((y1.toNat : Nat) : Int)) (t := w5.heap.size) (c := 1) rfl (.tmp 67) (.tmp 76) rfl rfl HRB.out.o rfl (by have := HLX.out; omega) (by exact OwnN.celln HLTO.out rfl 0 (by simp)) HXB.out.size ?_; intro g2 c2 w7 hn2 hg2 hb2)
      have HR4 := hid (HRB.out.setO hn2 hg2 hb2)
      have HX7 := hid (show Ext w3 w7 from Below.grown HXB.out hg2 HXB.out.size (fun k e => (HRB.out.o.lt k e).1))
      clear hn2 hg2 hb2
      go_wp2_with fail
      have hse := HSE2.out
      exact ⟨⟨j + 1, by omega, by have := HQ.out; go_num, by rw [hse.1, hse.2]; exact HR4.out, HX7.out⟩, by have := HQ.out; simp [intOf]; omega⟩
    · obtain rfl : j = 4 := by omega
      rw [← HED.out.1, ← HED.out.2] at HR
      have lev : (evL K).length = 4 := by rw [HED.out.1]; simp
      have lod : (odL K).length = 4 := by rw [HED.out.2]; simp
      obtain ⟨ev, hev⟩ : ∃ ev, evL K = ev := ⟨_, rfl⟩
      obtain ⟨od, hod⟩ : ∃ od, odL K = od := ⟨_, rfl⟩
      rw [hev] at HR HKP lev
      rw [hod] at HR HKP lod
      obtain ⟨A1, c1, rfl, h1, _⟩ := OwnN.rdn (n := 4) HR.out.e (by rw [nW_length]; exact lev)
      obtain ⟨A2, c2, rfl, h2, _⟩ := OwnN.rdn (n := 4) HR.out.o (by rw [nW_length]; exact lod)
      have H1 := hid h1
      have H2 := hid h2
      obtain ⟨w9, rfl⟩ : ∃ x, x = wr := ⟨_, rfl⟩
      have HX9 := hid HX.out
      have HG9 := hid (HG.out.later (Ext.trans HX3.out HX.out))
      clear HR h1 h2 hev hod lev lod HX hlt hj HED
      go_wp2_with fail
      generalize ((8 * 4 : Nat) : Int) = N0
      go_loopw [16] (fun u wr => ∃ i : Nat, i ≤ 20 ∧ u = .int .i64 i ∧ Ext w9 wr) (fun u _ => 20 - (intOf u).toNat)
      case atStart => exact ⟨0, by omega, rfl, Ext.refl _⟩
      case round =>
        obtain ⟨i, hi, rfl, hx⟩ := hrel
        by_cases hlt : i < 20
        · have e1 := w_ones (2 * i) (by omega)
          have e2 := w_ones (2 * i + 1) (by omega)
          have HA := hid (fun W hG hl => h_any (UInt32.ofNat (2 * i) * 0x01010101) ev A1 4 c1 W hG hl (by omega) (by omega))
          have HBB := hid (fun W hG hl => h_any (UInt32.ofNat (2 * i + 1) * 0x01010101) od A2 4 c2 W hG hl (by omega) (by omega))
          have hkA : HW (UInt32.ofNat (2 * i) * 0x01010101) ev = kA ev i := rfl
          have hkB : rolI (HW (UInt32.ofNat (2 * i + 1) * 0x01010101) od) 8 = kB od i := rfl
          have hkp := HKP.out i hlt
          have hk0 := HKC.out (2 * i) (by omega)
          have hk1 := HKC.out (2 * i + 1) (by omega)
          rw [hkp.1] at hk0
          rw [hkp.2] at hk1
          obtain ⟨T0, hT⟩ : ∃ T, HW (UInt32.ofNat (2 * i + 1) * 0x01010101) od = T := ⟨_, rfl⟩
          rw [hT] at HBB hkB
          rw [hkA] at HA
          obtain ⟨X1, hX1⟩ : ∃ X1, UInt32.ofNat (2 * i) * 0x01010101 = X1 := ⟨_, rfl⟩
          obtain ⟨X2, hX2⟩ : ∃ X2, UInt32.ofNat (2 * i + 1) * 0x01010101 = X2 := ⟨_, rfl⟩
          rw [hX1] at e1 HA
          rw [hX2] at e2 HBB
          obtain ⟨x1, hx1⟩ : ∃ a, kA ev i = a := ⟨_, rfl⟩
          obtain ⟨x2, hx2⟩ : ∃ a, kB od i = a := ⟨_, rfl⟩
          rw [hx1] at HA hk0 hk1
          rw [hx2] at hkB hk0 hk1
          have HRT := hid (fun W => rrol_w T0 8 W)
          rw [hkB] at HRT
          have f1 := w_add x1 x2
          have f2 := w_two x2
          have f3 := w_add x1 (2 * x2)
          obtain ⟨dd, hdd⟩ : ∃ a, 2 * x2 = a := ⟨_, rfl⟩
          rw [hdd] at f2 f3 hk1
          obtain ⟨r1, hr1⟩ : ∃ a, x1 + x2 = a := ⟨_, rfl⟩
          obtain ⟨pp, hpp⟩ : ∃ a, x1 + dd = a := ⟨_, rfl⟩
          rw [hr1] at f1 hk0
          rw [hpp] at f3 hk1
          have hrp := fun W => rrol_w pp 9 W
          obtain ⟨r2, hr2⟩ : ∃ a, rolI pp 9 = a := ⟨_, rfl⟩
          rw [hr2] at hrp hk1
          have HRP := hid hrp
          have HE := hid (And.intro f1 (And.intro f2 f3))
          have HC1 := hid hk0
          have HC2 := hid hk1
          have HI := hid hlt
          have HX := hid hx
          rw [show ((2 * i : Nat) : Int) = 2 * (i : Int) by omega] at e1
          rw [show ((2 * i + 1 : Nat) : Int) = 2 * (i : Int) + 1 by omega] at e2
          have hd : (i : Int) < 20 := by omega
          clear hkA hkB hkp hk0 hk1 hT hX1 hX2 hx1 hx2 f1 f2 f3 hdd hr1 hpp hrp hr2 hx
          go_wp2_with fail
          refine (HA.out _ (HG9.out.later HX.out) (H1.out.later HX.out)).mono ?_
          rintro e w12 ⟨rfl, hx12⟩
          have HX12 := hid (Ext.trans HX.out hx12)
          clear hx12 e1
          go_wp2_with fail
          refine (HBB.out _ (HG9.out.later HX12.out) (H2.out.later HX12.out)).mono ?_
          rintro e w13 ⟨rfl, hx13⟩
          have HX13 := hid (Ext.trans HX12.out hx13)
          clear hx13 e2
          go_wp2_with fail
          refine (HRT.out _).mono ?_
          rintro e w' ⟨rfl, rfl⟩
          have HXK := hid (Ext.trans HX9.out HX13.out)
          go_wp2_with fail
          refine region_upto 22 mixed rfl (by kernel_rfl) (by kernel_rfl) (by kernel_rfl) (kV (lw18 g10 c10 i x1 x2 r1 r2 dd pp)) (kV_keep _) (forall_ops ⟨?_, ?_, ?_, ?_, ?_, ?_, ?_, ?_, ?_, ?_, ?_, ?_, ?_, ?_, ?_, ?_, ?_, ?_, ?_, ?_, ?_, ?_, trivial⟩) ?_
          · intro a w hk
            have s10 : a.tmps.getD 10 undef = .slice (some ⟨g10, 0, none⟩) 40 c10 := hk.was 10 (by kernel_rfl) rfl
            exact step_move rfl rfl s10 rfl
          · intro a w hk
            have s16 : a.tmps.getD 16 undef = .int .i64 (i : Nat) := hk.was 16 (by kernel_rfl) rfl
            exact step_move rfl rfl s16 rfl
          · intro a w hk
            have s97 := hk.eq_ 1 97 (by kernel_rfl) rfl
            refine step_val (v := .int .i64 (2 * (i : Int))) (w' := w) rfl ?_ (Ext.refl w) rfl
            have hi20 : (i : Int) < 20 := by have := HI.out; omega
            go_simp
            exact wrap64 (by omega) (by omega)
          · intro a w hk
            have s96 := hk.eq_ 0 96 (by kernel_rfl) rfl
            have s98 := hk.eq_ 2 98 (by kernel_rfl) rfl
            refine step_val (v := .pointer (some ⟨g10, 2 * i, none⟩)) (w' := w) rfl ?_ (Ext.refl w) rfl
            have hi20 : (i : Int) < 20 := by have := HI.out; omega
            have hi40 : 2 * (i : Int) < 40 := by omega
            go_simp
            (try rw [if_pos (by omega)])
            (try rw [show (2 * (i : Int)).toNat = 2 * i by omega])
          · intro a w hk
            have s99 := hk.eq_ 3 99 (by kernel_rfl) rfl
            refine step_val (v := .int .u32 ((r1).toNat : Nat)) (w' := w) rfl ?_ (Ext.refl w) rfl
            have hc := cell_at (Ext.trans HXK.out hk.ext) HC1.out
            go_simp
          · intro a w hk
            have s17 : a.tmps.getD 17 undef = .int .u32 (x1.toNat : Nat) := hk.was 17 (by kernel_rfl) rfl
            exact step_move rfl rfl s17 rfl
          · intro a w hk
            have s18 : a.tmps.getD 18 undef = .int .u32 (x2.toNat : Nat) := hk.was 18 (by kernel_rfl) rfl
            exact step_move rfl rfl s18 rfl
          · intro a w hk
            have s101 := hk.eq_ 5 101 (by kernel_rfl) rfl
            have s102 := hk.eq_ 6 102 (by kernel_rfl) rfl
            refine step_val (v := .int .u32 ((r1).toNat : Nat)) (w' := w) rfl ?_ (Ext.refl w) rfl
            obtain ⟨e1, e2, e3⟩ := HE.out
            go_simp
            exact (wrapU _).trans e1
          · intro a w hk
            have s100 := hk.eq_ 4 100 (by kernel_rfl) rfl
            have s103 := hk.eq_ 7 103 (by kernel_rfl) rfl
            refine step_val (v := .bool false) (w' := w) rfl ?_ (Ext.refl w) rfl
            go_simp
          · intro a w hk
            have s104 := hk.eq_ 8 104 (by kernel_rfl) rfl
            exact step_move rfl rfl s104 rfl
          · intro a w hk
            refine hk.run 9 105 false false rfl (by kernel_rfl) rfl fun hw => ?_
            have s10 : a.tmps.getD 10 undef = .slice (some ⟨g10, 0, none⟩) 40 c10 := hk.was 10 (by kernel_rfl) rfl
            exact step_move hw rfl s10 rfl
          · intro a w hk
            refine hk.run 9 105 false false rfl (by kernel_rfl) rfl fun hw => ?_
            have s16 : a.tmps.getD 16 undef = .int .i64 (i : Nat) := hk.was 16 (by kernel_rfl) rfl
            exact step_move hw rfl s16 rfl
          · intro a w hk
            refine hk.run 9 105 false false rfl (by kernel_rfl) rfl fun hw => ?_
            have s107 := hk.eq_ 11 107 (by kernel_rfl) rfl
            refine step_val (v := .int .i64 (2 * (i : Int))) (w' := w) hw ?_ (Ext.refl w) rfl
            have hi20 : (i : Int) < 20 := by have := HI.out; omega
            go_simp
            exact wrap64 (by omega) (by omega)
          · intro a w hk
            refine hk.run 9 105 false false rfl (by kernel_rfl) rfl fun hw => ?_
            have s108 := hk.eq_ 12 108 (by kernel_rfl) rfl
            refine step_val (v := .int .i64 (2 * (i : Int) + 1)) (w' := w) hw ?_ (Ext.refl w) rfl
            have hi20 : (i : Int) < 20 := by have := HI.out; omega
            go_simp
            exact wrap64 (by omega) (by omega)
          · intro a w hk
            refine hk.run 9 105 false false rfl (by kernel_rfl) rfl fun hw => ?_
            have s106 := hk.eq_ 10 106 (by kernel_rfl) rfl
            have s109 := hk.eq_ 13 109 (by kernel_rfl) rfl
            refine step_val (v := .pointer (some ⟨g10, 2 * i + 1, none⟩)) (w' := w) hw ?_ (Ext.refl w) rfl
            have hi20 : (i : Int) < 20 := by have := HI.out; omega
            have hi40 : 2 * (i : Int) + 1 < 40 := by omega
            go_simp
            (try rw [if_pos (by omega)])
            (try rw [show (2 * (i : Int) + 1).toNat = 2 * i + 1 by omega])
          · intro a w hk
            refine hk.run 9 105 false false rfl (by kernel_rfl) rfl fun hw => ?_
            have s110 := hk.eq_ 14 110 (by kernel_rfl) rfl
            refine step_val (v := .int .u32 ((r2).toNat : Nat)) (w' := w) hw ?_ (Ext.refl w) rfl
            have hc := cell_at (Ext.trans HXK.out hk.ext) HC2.out
            go_simp
          · intro a w hk
            refine hk.run 9 105 false false rfl (by kernel_rfl) rfl fun hw => ?_
            have s17 : a.tmps.getD 17 undef = .int .u32 (x1.toNat : Nat) := hk.was 17 (by kernel_rfl) rfl
            exact step_move hw rfl s17 rfl
          · intro a w hk
            refine hk.run 9 105 false false rfl (by kernel_rfl) rfl fun hw => ?_
            have s18 : a.tmps.getD 18 undef = .int .u32 (x2.toNat : Nat) := hk.was 18 (by kernel_rfl) rfl
            exact step_move hw rfl s18 rfl
          · intro a w hk
            refine hk.run 9 105 false false rfl (by kernel_rfl) rfl fun hw => ?_
            have s113 := hk.eq_ 17 113 (by kernel_rfl) rfl
            refine step_val (v := .int .u32 ((dd).toNat : Nat)) (w' := w) hw ?_ (Ext.refl w) rfl
            obtain ⟨e1, e2, e3⟩ := HE.out
            go_simp
            exact (wrapU _).trans e2
          · intro a w hk
            refine hk.run 9 105 false false rfl (by kernel_rfl) rfl fun hw => ?_
            have s112 := hk.eq_ 16 112 (by kernel_rfl) rfl
            have s114 := hk.eq_ 18 114 (by kernel_rfl) rfl
            refine step_val (v := .int .u32 ((pp).toNat : Nat)) (w' := w) hw ?_ (Ext.refl w) rfl
            obtain ⟨e1, e2, e3⟩ := HE.out
            go_simp
            exact (wrapU _).trans e3
          · intro a w hk
            refine hk.run 9 105 false false rfl (by kernel_rfl) rfl fun hw => ?_
            have s115 := hk.eq_ 19 115 (by kernel_rfl) rfl
            exact step_call hw rfl (by simp only [List.map_toArray, List.map_cons, List.map_nil, Act.eval, s115] <;> rfl) cf21 (HRP.out w) (fun e w1 h => retE e w1 h)
          · intro a w hk
            refine hk.run 9 105 false false rfl (by kernel_rfl) rfl fun hw => ?_
            have s111 := hk.eq_ 15 111 (by kernel_rfl) rfl
            have s116 := hk.eq_ 20 116 (by kernel_rfl) rfl
            refine step_val (v := .bool false) (w' := w) hw ?_ (Ext.refl w) rfl
            go_simp
          · intro a w14 hf
            have s96 := hf.eq_ 0 96 (by kernel_rfl) rfl
            have s97 := hf.eq_ 1 97 (by kernel_rfl) rfl
            have s98 := hf.eq_ 2 98 (by kernel_rfl) rfl
            have s99 := hf.eq_ 3 99 (by kernel_rfl) rfl
            have s100 := hf.eq_ 4 100 (by kernel_rfl) rfl
            have s101 := hf.eq_ 5 101 (by kernel_rfl) rfl
            have s102 := hf.eq_ 6 102 (by kernel_rfl) rfl
            have s103 := hf.eq_ 7 103 (by kernel_rfl) rfl
            have s104 := hf.eq_ 8 104 (by kernel_rfl) rfl
            have s105 := hf.eq_ 9 105 (by kernel_rfl) rfl
            have s106 := hf.eq_ 10 106 (by kernel_rfl) rfl
            have s107 := hf.eq_ 11 107 (by kernel_rfl) rfl
            have s108 := hf.eq_ 12 108 (by kernel_rfl) rfl
            have s109 := hf.eq_ 13 109 (by kernel_rfl) rfl
            have s110 := hf.eq_ 14 110 (by kernel_rfl) rfl
            have s111 := hf.eq_ 15 111 (by kernel_rfl) rfl
            have s112 := hf.eq_ 16 112 (by kernel_rfl) rfl
            have s113 := hf.eq_ 17 113 (by kernel_rfl) rfl
            have s114 := hf.eq_ 18 114 (by kernel_rfl) rfl
            have s115 := hf.eq_ 19 115 (by kernel_rfl) rfl
            have s116 := hf.eq_ 20 116 (by kernel_rfl) rfl
            have s117 := hf.eq_ 21 117 (by kernel_rfl) rfl
            have hx := hf.ext
            have e := hf.frame
            clear hf
            simp only [List.take_succ_cons, List.take_zero, regFrame, Act.put, List.setIfInBounds_toArray, List.set_cons_zero, List.set_cons_succ, s96, s97, s98, s99, s100, s101, s102, s103, s104, s105, s106, s107, s108, s109, s110, s111, s112, s113, s114, s115, s116, s117] at e
            clear s96 s97 s98 s99 s100 s101 s102 s103 s104 s105 s106 s107 s108 s109 s110 s111 s112 s113 s114 s115 s116 s117
            subst e
            simp only [List.drop_succ_cons, List.drop_zero]
            have HX14 := hid (Ext.trans HX13.out hx)
            clear hx
            go_wp2_with fail
            go_roundw
            case rel => exact ⟨i + 1, by omega, by go_num, HX14.out⟩
            case measure => simp [intOf]; omega
        · obtain rfl : i = 20 := by omega
          generalize hN20 : ((20 : Nat) : Int) = N20
          have gN20 : ¬ N20 < 20 := by omega
          clear hN20
          obtain ⟨w15, rfl⟩ : ∃ x, x = wr := ⟨_, rfl⟩
          have HX15 := hid (Ext.trans HX9.out hx)
          have HXX := hid (Ext.trans HX3.out HX15.out)
          have HRK5 := hid (HRK3.out.later HX15.out)
          have HR15 := hid (HR11.out.later HX15.out)
          have HLIT := hid (Own.lit w15 [] #[] 0 w15.heap.size rfl rfl (by omega) (Nat.le_refl _))
          have HRKA := hid (HRK5.out.later (Ext.alloc w15 (.cells #[] 5)))
          obtain ⟨p, hp⟩ : ∃ p : Nat, a2 % 32 = p := ⟨(a2 % 32).toNat, by omega⟩
          have hpn : p < 32 := by omega
          have HW8 := hid (fun W => within_any a2 32 W (by omega) (by omega))
          rw [hp] at HW8
          clear hx hlt hi HKC HX9 H1 H2 HG9 HKP hp
          go_wp2_with (first
            | (refine wpL_append _ rfl (.tmp 119) (.tmp 120) 22 rfl Tryd.underlying22 Tryd.info5 w15.heap.size _ _ rfl HLIT.out _ _ 32 ck K rfl HRKA.out (by simp) (by simp) ?_; intro v' w16 hown16 hb16; obtain ⟨g19, c19, rfl, hc19, hg19⟩ := own_head (n := 32) (bs := K) hown16 HKK.out (by omega)))
          have HXL := hid (show Ext w15 w16 from ((Below.refl w15.heap.size w15).alloc (Nat.le_refl _) _).trans hb16)
          have HO16 := hid (show Own w16 w15.heap.size (.slice (some ⟨g19, 0, none⟩) 32 c19) K from hown16)
          clear hown16 hb16
          refine (HW8.out _).mono ?_
          rintro e w' ⟨rfl, rfl⟩
          clear gN20
          have HBX := hid (show bits .xor .u8 (byteAt K p) (d.toNat : Int) = (((K.getD p 0) ^^^ d).toNat : Int) from b_xor (K.getD p 0) d)
          have h16' : Own w16 w15.heap.size (.slice (some ⟨g19, 0, none⟩) K.length c19) K := by rw [HKK.out]; exact HO16.out
          have HXB := hid (HXX.out.trans HXL.out)
          have hcp : w16.cell? ⟨g19, p, none⟩ = some (.int .u8 (byteAt K p)) := h16'.cell p (by rw [HKK.out]; omega)
          have hfp := h16'.free p
          have hO2 : Own (w16.setCell ⟨g19, p, none⟩ (.int .u8 (((K.getD p 0) ^^^ d).toNat : Nat))) w15.heap.size (.slice (some ⟨g19, 0, none⟩) 32 c19) (flipB K p d) := by
            have h16 := HO16.out
            have := Own.set_ (bs := K) (by rw [HKK.out]; exact h16) p ((K.getD p 0) ^^^ d)
            rw [HKK.out] at this
            exact this
          have HO2 := hid hO2
          have hX2 : Ext w15 (w16.setCell ⟨g19, p, none⟩ (.int .u8 (((K.getD p 0) ^^^ d).toNat : Nat))) := HXL.out.setCell (p := ⟨g19, p, none⟩) hg19 _
          have HX2 := hid hX2
          have hp16 : (p : Int) < 32 := by omega
          obtain ⟨z, hz⟩ : ∃ z : UInt8, (K.getD p 0) ^^^ d = z := ⟨_, rfl⟩
          rw [hz] at HBX HO2 HX2
          obtain ⟨zb, hzb⟩ : ∃ zb : Int, byteAt K p = zb := ⟨_, rfl⟩
          rw [hzb] at hcp HBX
          have hbx := HBX.out
          clear h16' hO2 hX2 hz hzb HO16
          go_wp2_with fail
          obtain ⟨A9, c9, e9, hr9, _⟩ := HO2.out.rdn (n := 32) (by rw [flipB_length]; exact HKK.out)
          cases e9
          refine (keys_any _ 32 c19 (flipB K p d) _ (HG.out.later (Ext.trans HXX.out HX2.out)) hr9 (by omega) hc19).mono ?_
          rintro e w18 ⟨v21, v22, rfl, o1, o2, hx18⟩
          obtain ⟨A22, c22, rfl, r22, _⟩ := OwnN.rdn (n := 4) o2 (by rw [nW_length, sL_length, flipB_length, HKK.out])
          obtain ⟨A21, c21, rfl, _, _⟩ := OwnN.rdn (n := 40) o1 (by rw [nW_length, keysL_length])
          have HR18 := hr9
          obtain ⟨b22, o22, rfl, _, hc22⟩ := r22.at_ (by omega)
          have r11 := HR15.out.later (Ext.trans HX2.out hx18)
          obtain ⟨b11, o11, rfl, _, hc11⟩ := r11.at_ (by omega)
          have hlf : (sL (flipB K p d)).length = 4 := by rw [sL_length, flipB_length, HKK.out]
          have hs1 : ∀ k, k < 4 → w18.cell? ⟨b11, o11 + k, none⟩ = some (.int .u32 ((ss.getD k 0).toNat : Nat)) := fun k hk => by
            rw [hc11 k hk, nW_get _ _ (by rw [HSS.out]; exact hk)]
          have hs2 : ∀ k, k < 4 → w18.cell? ⟨b22, o22 + k, none⟩ = some (.int .u32 (((sL (flipB K p d)).getD k 0).toNat : Nat)) := fun k hk => by
            rw [hc22 k hk, nW_get _ _ (by rw [hlf]; exact hk)]
          have hwf : ∀ k, k < 4 → (ss.getD k 0 = (sL (flipB K p d)).getD k 0 ↔ (d = 0 ∨ k ≠ 4 - 1 - p / 8)) := fun k hk => by
            have := words_flip K 4 p k d HKK.out (by omega) hk
            rw [HSE.out] at this
            exact this
          obtain ⟨ss2, hss2⟩ : ∃ q, sL (flipB K p d) = q := ⟨_, rfl⟩
          rw [hss2] at hs2 hwf
          have HS1A := hid hs1
          have HS2A := hid hs2
          have HWF := hid hwf
          have HX18 := hid (Ext.trans HXX.out (Ext.trans HX2.out hx18))
          have HPM := hid (show p / 8 ≤ 3 by omega)
          clear o1 o2 r22 r11 hc22 hc11 hlf hs1 hs2 hwf hss2 hr9 HR18 hx18 hcp hfp hbx HBX HO2 HX2 HXL HR15
          go_wp2_with fail
          go_loopw [24] (fun u wr => ∃ i : Nat, i ≤ 4 ∧ u = .int .i64 i ∧ Ext w18 wr) (fun u _ => 4 - (intOf u).toNat)
          case atStart => exact ⟨0, by omega, rfl, Ext.refl _⟩
          case round =>
            obtain ⟨i, hi, rfl, hx⟩ := hrel
            by_cases hlt : i < 4
            · have hs1 := cell_at hx (HS1A.out i hlt)
              have hs2 := cell_at hx (HS2A.out i hlt)
              have hwf := HWF.out i hlt
              obtain ⟨s1, hs1e⟩ : ∃ q, ss.getD i 0 = q := ⟨_, rfl⟩
              obtain ⟨s2, hs2e⟩ : ∃ q, ss2.getD i 0 = q := ⟨_, rfl⟩
              rw [hs1e] at hs1 hwf
              rw [hs2e] at hs2 hwf
              have HS1 := hid hs1
              have HS2 := hid hs2
              have HI := hid hlt
              have HXS := hid hx
              clear hs1 hs2 hs1e hs2e hx
              by_cases hd : d = 0
              · have HEE := hid (show ((s1.toNat : Int) == (s2.toNat : Int)) = true by rw [hwf.2 (.inl hd)]; simp)
                have HDD := hid (show ((d.toNat : Int) == 0) = true by rw [hd]; rfl)
                clear hwf hd
                go_wp2_with fail
                refine region_inv mixed rfl (by kernel_rfl) (kV (lw29Z_4 b11 o11 c11 b22 o22 c22 i p d s1 s2)) (kV_keep _) (forall_ops ⟨?_, ?_, ?_, ?_, ?_, ?_, ?_, ?_, ?_, ?_, ?_, ?_, ?_, ?_, ?_, ?_, ?_, ?_, ?_, ?_, ?_, ?_, trivial⟩) ?_
                · intro a w hk
                  have s11 : a.tmps.getD 11 undef = .slice (some ⟨b11, o11, none⟩) 4 c11 := hk.was 11 (by kernel_rfl) rfl
                  exact step_move rfl rfl s11 rfl
                · intro a w hk
                  have s24 : a.tmps.getD 24 undef = .int .i64 (i : Nat) := hk.was 24 (by kernel_rfl) rfl
                  exact step_move rfl rfl s24 rfl
                · intro a w hk
                  have s150 := hk.eq_ 0 150 (by kernel_rfl) rfl
                  have s151 := hk.eq_ 1 151 (by kernel_rfl) rfl
                  refine step_val (v := .pointer (some ⟨b11, o11 + i, none⟩)) (w' := w) rfl ?_ (Ext.refl w) rfl
                  have hiM : (i : Int) < 4 := by have := HI.out; omega
                  go_simp
                · intro a w hk
                  have s152 := hk.eq_ 2 152 (by kernel_rfl) rfl
                  refine step_val (v := .int .u32 ((s1).toNat : Nat)) (w' := w) rfl ?_ (Ext.refl w) rfl
                  have hc := cell_at hk.ext HS1.out
                  go_simp
                · intro a w hk
                  have s22 : a.tmps.getD 22 undef = .slice (some ⟨b22, o22, none⟩) 4 c22 := hk.was 22 (by kernel_rfl) rfl
                  exact step_move rfl rfl s22 rfl
                · intro a w hk
                  have s24 : a.tmps.getD 24 undef = .int .i64 (i : Nat) := hk.was 24 (by kernel_rfl) rfl
                  exact step_move rfl rfl s24 rfl
                · intro a w hk
                  have s154 := hk.eq_ 4 154 (by kernel_rfl) rfl
                  have s155 := hk.eq_ 5 155 (by kernel_rfl) rfl
                  refine step_val (v := .pointer (some ⟨b22, o22 + i, none⟩)) (w' := w) rfl ?_ (Ext.refl w) rfl
                  have hiM : (i : Int) < 4 := by have := HI.out; omega
                  go_simp
                · intro a w hk
                  have s156 := hk.eq_ 6 156 (by kernel_rfl) rfl
                  refine step_val (v := .int .u32 ((s2).toNat : Nat)) (w' := w) rfl ?_ (Ext.refl w) rfl
                  have hc := cell_at hk.ext HS2.out
                  go_simp
                · intro a w hk
                  have s153 := hk.eq_ 3 153 (by kernel_rfl) rfl
                  have s157 := hk.eq_ 7 157 (by kernel_rfl) rfl
                  refine step_val (v := .bool true) (w' := w) rfl ?_ (Ext.refl w) rfl
                  have hz := HEE.out
                  go_simp
                · intro a w hk
                  have s3 : a.tmps.getD 3 undef = .int .u8 (d.toNat : Nat) := hk.was 3 (by kernel_rfl) rfl
                  exact step_move rfl rfl s3 rfl
                · intro a w hk
                  have s159 := hk.eq_ 9 159 (by kernel_rfl) rfl
                  refine step_val (v := .bool true) (w' := w) rfl ?_ (Ext.refl w) rfl
                  have hz := HDD.out
                  go_simp
                · intro a w hk
                  have s160 := hk.eq_ 10 160 (by kernel_rfl) rfl
                  exact step_move rfl rfl s160 rfl
                · intro a w hk
                  refine hk.run 11 161 true false rfl (by kernel_rfl) rfl fun hw => ?_
                  exact step_skip hw trivial
                · intro a w hk
                  refine hk.run 11 161 true false rfl (by kernel_rfl) rfl fun hw => ?_
                  exact step_skip hw trivial
                · intro a w hk
                  refine hk.run 11 161 true false rfl (by kernel_rfl) rfl fun hw => ?_
                  exact step_skip hw trivial
                · intro a w hk
                  refine hk.run 11 161 true false rfl (by kernel_rfl) rfl fun hw => ?_
                  exact step_skip hw trivial
                · intro a w hk
                  refine hk.run 11 161 true false rfl (by kernel_rfl) rfl fun hw => ?_
                  exact step_skip hw trivial
                · intro a w hk
                  refine hk.run 11 161 true false rfl (by kernel_rfl) rfl fun hw => ?_
                  exact step_skip hw trivial
                · intro a w hk
                  refine hk.run 11 161 true false rfl (by kernel_rfl) rfl fun hw => ?_
                  exact step_skip hw trivial
                · intro a w hk
                  refine hk.run 11 161 true false rfl (by kernel_rfl) rfl fun hw => ?_
                  exact step_skip hw trivial
                · intro a w hk
                  have s161 := hk.eq_ 11 161 (by kernel_rfl) rfl
                  exact step_pick (b := true) rfl rfl s161 rfl rfl
                · intro a w hk
                  have s158 := hk.eq_ 8 158 (by kernel_rfl) rfl
                  have s170 := hk.eq_ 20 170 (by kernel_rfl) rfl
                  refine step_val (v := .bool false) (w' := w) rfl ?_ (Ext.refl w) rfl
                  go_simp
                · intro a w20 hf
                  have s150 := hf.eq_ 0 150 (by kernel_rfl) rfl
                  have s151 := hf.eq_ 1 151 (by kernel_rfl) rfl
                  have s152 := hf.eq_ 2 152 (by kernel_rfl) rfl
                  have s153 := hf.eq_ 3 153 (by kernel_rfl) rfl
                  have s154 := hf.eq_ 4 154 (by kernel_rfl) rfl
                  have s155 := hf.eq_ 5 155 (by kernel_rfl) rfl
                  have s156 := hf.eq_ 6 156 (by kernel_rfl) rfl
                  have s157 := hf.eq_ 7 157 (by kernel_rfl) rfl
                  have s158 := hf.eq_ 8 158 (by kernel_rfl) rfl
                  have s159 := hf.eq_ 9 159 (by kernel_rfl) rfl
                  have s160 := hf.eq_ 10 160 (by kernel_rfl) rfl
                  have s161 := hf.eq_ 11 161 (by kernel_rfl) rfl
                  have s170 := hf.eq_ 20 170 (by kernel_rfl) rfl
                  have s171 := hf.eq_ 21 171 (by kernel_rfl) rfl
                  have hx := hf.ext
                  have e := hf.frame
                  clear hf
                  simp only [regFrame, Act.put, List.setIfInBounds_toArray, List.set_cons_zero, List.set_cons_succ, s150, s151, s152, s153, s154, s155, s156, s157, s158, s159, s160, s161, s170, s171] at e
                  generalize a.tmps.getD 162 undef = u162 at e
                  generalize a.tmps.getD 163 undef = u163 at e
                  generalize a.tmps.getD 164 undef = u164 at e
                  generalize a.tmps.getD 165 undef = u165 at e
                  generalize a.tmps.getD 166 undef = u166 at e
                  generalize a.tmps.getD 167 undef = u167 at e
                  generalize a.tmps.getD 168 undef = u168 at e
                  generalize a.tmps.getD 169 undef = u169 at e
                  clear s150 s151 s152 s153 s154 s155 s156 s157 s158 s159 s160 s161 s170 s171
                  subst e
                  have HX9 := hid (Ext.trans HXS.out hx)
                  clear hx
                  go_wp2_with fail
                  go_roundw
                  case rel => exact ⟨i + 1, by omega, by go_num, HX9.out⟩
                  case measure => simp [intOf]; omega
              · have HDD := hid (show ((d.toNat : Int) == 0) = false by
                  have : ¬ d.toNat = 0 := fun e => hd (UInt8.toNat_inj.1 (by rw [e]; rfl))
                  simp; omega)
                by_cases hi2 : i = 4 - 1 - p / 8
                · have HEE := hid (show ((s1.toNat : Int) == (s2.toNat : Int)) = false by
                    have h1 : ¬ s1 = s2 := fun e => (hwf.1 e).elim hd (fun h => h hi2)
                    have h2 : ¬ s1.toNat = s2.toNat := fun e => h1 (UInt32.toNat_inj.1 e)
                    simp; omega)
                  have HFF := hid (show ((i : Int) != ((3 : Int) - ((p / 8 : Nat) : Int))) = false by have := HPM.out; simp; omega)
                  clear hwf hd hi2
                  go_wp2_with fail
                  refine region_inv mixed rfl (by kernel_rfl) (kV (lw29N_4 b11 o11 c11 b22 o22 c22 i p d s1 s2)) (kV_keep _) (forall_ops ⟨?_, ?_, ?_, ?_, ?_, ?_, ?_, ?_, ?_, ?_, ?_, ?_, ?_, ?_, ?_, ?_, ?_, ?_, ?_, ?_, ?_, ?_, trivial⟩) ?_
                  · intro a w hk
                    have s11 : a.tmps.getD 11 undef = .slice (some ⟨b11, o11, none⟩) 4 c11 := hk.was 11 (by kernel_rfl) rfl
                    exact step_move rfl rfl s11 rfl
                  · intro a w hk
                    have s24 : a.tmps.getD 24 undef = .int .i64 (i : Nat) := hk.was 24 (by kernel_rfl) rfl
                    exact step_move rfl rfl s24 rfl
                  · intro a w hk
                    have s150 := hk.eq_ 0 150 (by kernel_rfl) rfl
                    have s151 := hk.eq_ 1 151 (by kernel_rfl) rfl
                    refine step_val (v := .pointer (some ⟨b11, o11 + i, none⟩)) (w' := w) rfl ?_ (Ext.refl w) rfl
                    have hiM : (i : Int) < 4 := by have := HI.out; omega
                    go_simp
                  · intro a w hk
                    have s152 := hk.eq_ 2 152 (by kernel_rfl) rfl
                    refine step_val (v := .int .u32 ((s1).toNat : Nat)) (w' := w) rfl ?_ (Ext.refl w) rfl
                    have hc := cell_at hk.ext HS1.out
                    go_simp
                  · intro a w hk
                    have s22 : a.tmps.getD 22 undef = .slice (some ⟨b22, o22, none⟩) 4 c22 := hk.was 22 (by kernel_rfl) rfl
                    exact step_move rfl rfl s22 rfl
                  · intro a w hk
                    have s24 : a.tmps.getD 24 undef = .int .i64 (i : Nat) := hk.was 24 (by kernel_rfl) rfl
                    exact step_move rfl rfl s24 rfl
                  · intro a w hk
                    have s154 := hk.eq_ 4 154 (by kernel_rfl) rfl
                    have s155 := hk.eq_ 5 155 (by kernel_rfl) rfl
                    refine step_val (v := .pointer (some ⟨b22, o22 + i, none⟩)) (w' := w) rfl ?_ (Ext.refl w) rfl
                    have hiM : (i : Int) < 4 := by have := HI.out; omega
                    go_simp
                  · intro a w hk
                    have s156 := hk.eq_ 6 156 (by kernel_rfl) rfl
                    refine step_val (v := .int .u32 ((s2).toNat : Nat)) (w' := w) rfl ?_ (Ext.refl w) rfl
                    have hc := cell_at hk.ext HS2.out
                    go_simp
                  · intro a w hk
                    have s153 := hk.eq_ 3 153 (by kernel_rfl) rfl
                    have s157 := hk.eq_ 7 157 (by kernel_rfl) rfl
                    refine step_val (v := .bool false) (w' := w) rfl ?_ (Ext.refl w) rfl
                    have hz := HEE.out
                    go_simp
                  · intro a w hk
                    have s3 : a.tmps.getD 3 undef = .int .u8 (d.toNat : Nat) := hk.was 3 (by kernel_rfl) rfl
                    exact step_move rfl rfl s3 rfl
                  · intro a w hk
                    have s159 := hk.eq_ 9 159 (by kernel_rfl) rfl
                    refine step_val (v := .bool false) (w' := w) rfl ?_ (Ext.refl w) rfl
                    have hz := HDD.out
                    go_simp
                  · intro a w hk
                    have s160 := hk.eq_ 10 160 (by kernel_rfl) rfl
                    exact step_move rfl rfl s160 rfl
                  · intro a w hk
                    refine hk.run 11 161 false false rfl (by kernel_rfl) rfl fun hw => ?_
                    have s24 : a.tmps.getD 24 undef = .int .i64 (i : Nat) := hk.was 24 (by kernel_rfl) rfl
                    exact step_move hw rfl s24 rfl
                  · intro a w hk
                    refine hk.run 11 161 false false rfl (by kernel_rfl) rfl fun hw => ?_
                    have s11 : a.tmps.getD 11 undef = .slice (some ⟨b11, o11, none⟩) 4 c11 := hk.was 11 (by kernel_rfl) rfl
                    exact step_move hw rfl s11 rfl
                  · intro a w hk
                    refine hk.run 11 161 false false rfl (by kernel_rfl) rfl fun hw => ?_
                    have s163 := hk.eq_ 13 163 (by kernel_rfl) rfl
                    refine step_val (v := .int .i64 (4)) (w' := w) hw ?_ (Ext.refl w) rfl
                    go_simp
                  · intro a w hk
                    refine hk.run 11 161 false false rfl (by kernel_rfl) rfl fun hw => ?_
                    have s164 := hk.eq_ 14 164 (by kernel_rfl) rfl
                    refine step_val (v := .int .i64 (3)) (w' := w) hw ?_ (Ext.refl w) rfl
                    go_simp
                    (first | done | rfl | exact wrap64 (by omega) (by omega))
                  · intro a w hk
                    refine hk.run 11 161 false false rfl (by kernel_rfl) rfl fun hw => ?_
                    have s20 : a.tmps.getD 20 undef = .int .i64 (p : Nat) := hk.was 20 (by kernel_rfl) rfl
                    exact step_move hw rfl s20 rfl
                  · intro a w hk
                    refine hk.run 11 161 false false rfl (by kernel_rfl) rfl fun hw => ?_
                    have s166 := hk.eq_ 16 166 (by kernel_rfl) rfl
                    refine step_val (v := .int .i64 ((p / 8 : Nat))) (w' := w) hw ?_ (Ext.refl w) rfl
                    go_simp
                    (first | done | exact (quo8 p).symm | (rw [wrap64 (by omega) (by omega)]) | omega)
                  · intro a w hk
                    refine hk.run 11 161 false false rfl (by kernel_rfl) rfl fun hw => ?_
                    have s165 := hk.eq_ 15 165 (by kernel_rfl) rfl
                    have s167 := hk.eq_ 17 167 (by kernel_rfl) rfl
                    refine step_val (v := .int .i64 ((3 : Int) - ((p / 8 : Nat) : Int))) (w' := w) hw ?_ (Ext.refl w) rfl
                    have hpm : p / 8 ≤ 3 := HPM.out
                    go_simp
                    (first | done | exact wrap64 (by omega) (by omega))
                  · intro a w hk
                    refine hk.run 11 161 false false rfl (by kernel_rfl) rfl fun hw => ?_
                    have s162 := hk.eq_ 12 162 (by kernel_rfl) rfl
                    have s168 := hk.eq_ 18 168 (by kernel_rfl) rfl
                    refine step_val (v := .bool false) (w' := w) hw ?_ (Ext.refl w) rfl
                    have hz := HFF.out
                    go_simp
                    simp at hz
                    omega
                  · intro a w hk
                    have s161 := hk.eq_ 11 161 (by kernel_rfl) rfl
                    have s169 := hk.eq_ 19 169 (by kernel_rfl) rfl
                    exact step_pick (b := false) rfl rfl s161 s169 rfl
                  · intro a w hk
                    have s158 := hk.eq_ 8 158 (by kernel_rfl) rfl
                    have s170 := hk.eq_ 20 170 (by kernel_rfl) rfl
                    refine step_val (v := .bool false) (w' := w) rfl ?_ (Ext.refl w) rfl
                    go_simp
                  · intro a w20 hf
                    have s150 := hf.eq_ 0 150 (by kernel_rfl) rfl
                    have s151 := hf.eq_ 1 151 (by kernel_rfl) rfl
                    have s152 := hf.eq_ 2 152 (by kernel_rfl) rfl
                    have s153 := hf.eq_ 3 153 (by kernel_rfl) rfl
                    have s154 := hf.eq_ 4 154 (by kernel_rfl) rfl
                    have s155 := hf.eq_ 5 155 (by kernel_rfl) rfl
                    have s156 := hf.eq_ 6 156 (by kernel_rfl) rfl
                    have s157 := hf.eq_ 7 157 (by kernel_rfl) rfl
                    have s158 := hf.eq_ 8 158 (by kernel_rfl) rfl
                    have s159 := hf.eq_ 9 159 (by kernel_rfl) rfl
                    have s160 := hf.eq_ 10 160 (by kernel_rfl) rfl
                    have s161 := hf.eq_ 11 161 (by kernel_rfl) rfl
                    have s162 := hf.eq_ 12 162 (by kernel_rfl) rfl
                    have s163 := hf.eq_ 13 163 (by kernel_rfl) rfl
                    have s164 := hf.eq_ 14 164 (by kernel_rfl) rfl
                    have s165 := hf.eq_ 15 165 (by kernel_rfl) rfl
                    have s166 := hf.eq_ 16 166 (by kernel_rfl) rfl
                    have s167 := hf.eq_ 17 167 (by kernel_rfl) rfl
                    have s168 := hf.eq_ 18 168 (by kernel_rfl) rfl
                    have s169 := hf.eq_ 19 169 (by kernel_rfl) rfl
                    have s170 := hf.eq_ 20 170 (by kernel_rfl) rfl
                    have s171 := hf.eq_ 21 171 (by kernel_rfl) rfl
                    have hx := hf.ext
                    have e := hf.frame
                    clear hf
                    simp only [regFrame, Act.put, List.setIfInBounds_toArray, List.set_cons_zero, List.set_cons_succ, s150, s151, s152, s153, s154, s155, s156, s157, s158, s159, s160, s161, s162, s163, s164, s165, s166, s167, s168, s169, s170, s171] at e
                    clear s150 s151 s152 s153 s154 s155 s156 s157 s158 s159 s160 s161 s162 s163 s164 s165 s166 s167 s168 s169 s170 s171
                    subst e
                    have HX9 := hid (Ext.trans HXS.out hx)
                    clear hx
                    go_wp2_with fail
                    go_roundw
                    case rel => exact ⟨i + 1, by omega, by go_num, HX9.out⟩
                    case measure => simp [intOf]; omega
                · have HEE := hid (show ((s1.toNat : Int) == (s2.toNat : Int)) = true by rw [hwf.2 (.inr hi2)]; simp)
                  have HFF := hid (show ((i : Int) != ((3 : Int) - ((p / 8 : Nat) : Int))) = true by have := HPM.out; simp; omega)
                  clear hwf hd hi2
                  go_wp2_with fail
                  refine region_inv mixed rfl (by kernel_rfl) (kV (lw29S_4 b11 o11 c11 b22 o22 c22 i p d s1 s2)) (kV_keep _) (forall_ops ⟨?_, ?_, ?_, ?_, ?_, ?_, ?_, ?_, ?_, ?_, ?_, ?_, ?_, ?_, ?_, ?_, ?_, ?_, ?_, ?_, ?_, ?_, trivial⟩) ?_
                  · intro a w hk
                    have s11 : a.tmps.getD 11 undef = .slice (some ⟨b11, o11, none⟩) 4 c11 := hk.was 11 (by kernel_rfl) rfl
                    exact step_move rfl rfl s11 rfl
                  · intro a w hk
                    have s24 : a.tmps.getD 24 undef = .int .i64 (i : Nat) := hk.was 24 (by kernel_rfl) rfl
                    exact step_move rfl rfl s24 rfl
                  · intro a w hk
                    have s150 := hk.eq_ 0 150 (by kernel_rfl) rfl
                    have s151 := hk.eq_ 1 151 (by kernel_rfl) rfl
                    refine step_val (v := .pointer (some ⟨b11, o11 + i, none⟩)) (w' := w) rfl ?_ (Ext.refl w) rfl
                    have hiM : (i : Int) < 4 := by have := HI.out; omega
                    go_simp
                  · intro a w hk
                    have s152 := hk.eq_ 2 152 (by kernel_rfl) rfl
                    refine step_val (v := .int .u32 ((s1).toNat : Nat)) (w' := w) rfl ?_ (Ext.refl w) rfl
                    have hc := cell_at hk.ext HS1.out
                    go_simp
                  · intro a w hk
                    have s22 : a.tmps.getD 22 undef = .slice (some ⟨b22, o22, none⟩) 4 c22 := hk.was 22 (by kernel_rfl) rfl
                    exact step_move rfl rfl s22 rfl
                  · intro a w hk
                    have s24 : a.tmps.getD 24 undef = .int .i64 (i : Nat) := hk.was 24 (by kernel_rfl) rfl
                    exact step_move rfl rfl s24 rfl
                  · intro a w hk
                    have s154 := hk.eq_ 4 154 (by kernel_rfl) rfl
                    have s155 := hk.eq_ 5 155 (by kernel_rfl) rfl
                    refine step_val (v := .pointer (some ⟨b22, o22 + i, none⟩)) (w' := w) rfl ?_ (Ext.refl w) rfl
                    have hiM : (i : Int) < 4 := by have := HI.out; omega
                    go_simp
                  · intro a w hk
                    have s156 := hk.eq_ 6 156 (by kernel_rfl) rfl
                    refine step_val (v := .int .u32 ((s2).toNat : Nat)) (w' := w) rfl ?_ (Ext.refl w) rfl
                    have hc := cell_at hk.ext HS2.out
                    go_simp
                  · intro a w hk
                    have s153 := hk.eq_ 3 153 (by kernel_rfl) rfl
                    have s157 := hk.eq_ 7 157 (by kernel_rfl) rfl
                    refine step_val (v := .bool true) (w' := w) rfl ?_ (Ext.refl w) rfl
                    have hz := HEE.out
                    go_simp
                  · intro a w hk
                    have s3 : a.tmps.getD 3 undef = .int .u8 (d.toNat : Nat) := hk.was 3 (by kernel_rfl) rfl
                    exact step_move rfl rfl s3 rfl
                  · intro a w hk
                    have s159 := hk.eq_ 9 159 (by kernel_rfl) rfl
                    refine step_val (v := .bool false) (w' := w) rfl ?_ (Ext.refl w) rfl
                    have hz := HDD.out
                    go_simp
                  · intro a w hk
                    have s160 := hk.eq_ 10 160 (by kernel_rfl) rfl
                    exact step_move rfl rfl s160 rfl
                  · intro a w hk
                    refine hk.run 11 161 false false rfl (by kernel_rfl) rfl fun hw => ?_
                    have s24 : a.tmps.getD 24 undef = .int .i64 (i : Nat) := hk.was 24 (by kernel_rfl) rfl
                    exact step_move hw rfl s24 rfl
                  · intro a w hk
                    refine hk.run 11 161 false false rfl (by kernel_rfl) rfl fun hw => ?_
                    have s11 : a.tmps.getD 11 undef = .slice (some ⟨b11, o11, none⟩) 4 c11 := hk.was 11 (by kernel_rfl) rfl
                    exact step_move hw rfl s11 rfl
                  · intro a w hk
                    refine hk.run 11 161 false false rfl (by kernel_rfl) rfl fun hw => ?_
                    have s163 := hk.eq_ 13 163 (by kernel_rfl) rfl
                    refine step_val (v := .int .i64 (4)) (w' := w) hw ?_ (Ext.refl w) rfl
                    go_simp
                  · intro a w hk
                    refine hk.run 11 161 false false rfl (by kernel_rfl) rfl fun hw => ?_
                    have s164 := hk.eq_ 14 164 (by kernel_rfl) rfl
                    refine step_val (v := .int .i64 (3)) (w' := w) hw ?_ (Ext.refl w) rfl
                    go_simp
                    (first | done | rfl | exact wrap64 (by omega) (by omega))
                  · intro a w hk
                    refine hk.run 11 161 false false rfl (by kernel_rfl) rfl fun hw => ?_
                    have s20 : a.tmps.getD 20 undef = .int .i64 (p : Nat) := hk.was 20 (by kernel_rfl) rfl
                    exact step_move hw rfl s20 rfl
                  · intro a w hk
                    refine hk.run 11 161 false false rfl (by kernel_rfl) rfl fun hw => ?_
                    have s166 := hk.eq_ 16 166 (by kernel_rfl) rfl
                    refine step_val (v := .int .i64 ((p / 8 : Nat))) (w' := w) hw ?_ (Ext.refl w) rfl
                    go_simp
                    (first | done | exact (quo8 p).symm | (rw [wrap64 (by omega) (by omega)]) | omega)
                  · intro a w hk
                    refine hk.run 11 161 false false rfl (by kernel_rfl) rfl fun hw => ?_
                    have s165 := hk.eq_ 15 165 (by kernel_rfl) rfl
                    have s167 := hk.eq_ 17 167 (by kernel_rfl) rfl
                    refine step_val (v := .int .i64 ((3 : Int) - ((p / 8 : Nat) : Int))) (w' := w) hw ?_ (Ext.refl w) rfl
                    have hpm : p / 8 ≤ 3 := HPM.out
                    go_simp
                    (first | done | exact wrap64 (by omega) (by omega))
                  · intro a w hk
                    refine hk.run 11 161 false false rfl (by kernel_rfl) rfl fun hw => ?_
                    have s162 := hk.eq_ 12 162 (by kernel_rfl) rfl
                    have s168 := hk.eq_ 18 168 (by kernel_rfl) rfl
                    refine step_val (v := .bool true) (w' := w) hw ?_ (Ext.refl w) rfl
                    have hz := HFF.out
                    go_simp
                    simp at hz
                    omega
                  · intro a w hk
                    have s161 := hk.eq_ 11 161 (by kernel_rfl) rfl
                    have s169 := hk.eq_ 19 169 (by kernel_rfl) rfl
                    exact step_pick (b := false) rfl rfl s161 s169 rfl
                  · intro a w hk
                    have s158 := hk.eq_ 8 158 (by kernel_rfl) rfl
                    have s170 := hk.eq_ 20 170 (by kernel_rfl) rfl
                    refine step_val (v := .bool false) (w' := w) rfl ?_ (Ext.refl w) rfl
                    go_simp
                  · intro a w20 hf
                    have s150 := hf.eq_ 0 150 (by kernel_rfl) rfl
                    have s151 := hf.eq_ 1 151 (by kernel_rfl) rfl
                    have s152 := hf.eq_ 2 152 (by kernel_rfl) rfl
                    have s153 := hf.eq_ 3 153 (by kernel_rfl) rfl
                    have s154 := hf.eq_ 4 154 (by kernel_rfl) rfl
                    have s155 := hf.eq_ 5 155 (by kernel_rfl) rfl
                    have s156 := hf.eq_ 6 156 (by kernel_rfl) rfl
                    have s157 := hf.eq_ 7 157 (by kernel_rfl) rfl
                    have s158 := hf.eq_ 8 158 (by kernel_rfl) rfl
                    have s159 := hf.eq_ 9 159 (by kernel_rfl) rfl
                    have s160 := hf.eq_ 10 160 (by kernel_rfl) rfl
                    have s161 := hf.eq_ 11 161 (by kernel_rfl) rfl
                    have s162 := hf.eq_ 12 162 (by kernel_rfl) rfl
                    have s163 := hf.eq_ 13 163 (by kernel_rfl) rfl
                    have s164 := hf.eq_ 14 164 (by kernel_rfl) rfl
                    have s165 := hf.eq_ 15 165 (by kernel_rfl) rfl
                    have s166 := hf.eq_ 16 166 (by kernel_rfl) rfl
                    have s167 := hf.eq_ 17 167 (by kernel_rfl) rfl
                    have s168 := hf.eq_ 18 168 (by kernel_rfl) rfl
                    have s169 := hf.eq_ 19 169 (by kernel_rfl) rfl
                    have s170 := hf.eq_ 20 170 (by kernel_rfl) rfl
                    have s171 := hf.eq_ 21 171 (by kernel_rfl) rfl
                    have hx := hf.ext
                    have e := hf.frame
                    clear hf
                    simp only [regFrame, Act.put, List.setIfInBounds_toArray, List.set_cons_zero, List.set_cons_succ, s150, s151, s152, s153, s154, s155, s156, s157, s158, s159, s160, s161, s162, s163, s164, s165, s166, s167, s168, s169, s170, s171] at e
                    clear s150 s151 s152 s153 s154 s155 s156 s157 s158 s159 s160 s161 s162 s163 s164 s165 s166 s167 s168 s169 s170 s171
                    subst e
                    have HX9 := hid (Ext.trans HXS.out hx)
                    clear hx
                    go_wp2_with fail
                    go_roundw
                    case rel => exact ⟨i + 1, by omega, by go_num, HX9.out⟩
                    case measure => simp [intOf]; omega
            · obtain rfl : i = 4 := by omega
              have HXE := hid (Ext.trans HX18.out hx)
              clear hx
              go_wp2_with fail
              go_ret
              exact ⟨rfl, HXE.out⟩
theorem words_walk (a0 : Option Addr) (len0 cap0 : Nat) (z0 : List Int) (a1 : Int) (a2 : Int) (a3 : Int) (w : World) (w0 : IsRow .u8 w a0 len0 cap0 z0) (_w1 : (Lit.int .i64 a1).wf = true) (_w2 : (Lit.int .i64 a2).wf = true) (w3 : (Lit.int .u8 a3).wf = true) (hG : GT w) :
    Calls Tryd.prog 7 #[.slice a0 len0 cap0, .int .i64 a1, .int .i64 a2, .int .u8 a3] w fun e w' => e = .returned (.bool true) ∧ Below w.heap.size w w' := by
  obtain ⟨bs0, h0, hm0⟩ := w0.rd
  unfold maxLen at hm0
  obtain ⟨b0, b1⟩ := bounds_u8 w3
  obtain ⟨d, rfl⟩ : ∃ d : UInt8, a3 = ((d.toNat : Nat) : Int) := ⟨UInt8.ofNat a3.toNat, by rw [UInt8.toNat_ofNat']; omega⟩
  rcases kLen_ok a1 with h | h | h
  · exact words2_f a0 len0 cap0 a1 a2 d bs0 w h0 hm0 h hG
  · exact words3_f a0 len0 cap0 a1 a2 d bs0 w h0 hm0 h hG
  · exact words4_f a0 len0 cap0 a1 a2 d bs0 w h0 hm0 h hG
end Go.Proofs.YtbdncalllfpodaaDoor
