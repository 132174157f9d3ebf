/- The law on the rounds, walked; own text of the verifier. -/
import Derived.Test.YtamolgbdpnpemaaLKeyRow
namespace Go.Proofs.Ytamolgbdpnpemaa
open Go.RowKit
def r17 (G g r k0 k1 k2 k3 : Nat) (y : F4) : List K := [.eq (.pointer (some ⟨G, 0, none⟩)), .eq (.int .i64 (y.a : Nat)), .eq (.slice (some ⟨g, 6 * r, none⟩) 6 (52 - 6 * r)), .eq (.pointer (some ⟨g, 6 * r, none⟩)), .eq (.int .i64 (k0 : Nat)), .eq (.int .i64 (mulF y.a k0 : Nat)), .eq (.pointer (some ⟨G, 1, none⟩)), .eq (.int .i64 (y.b : Nat)), .eq (.slice (some ⟨g, 6 * r, none⟩) 6 (52 - 6 * r)), .eq (.pointer (some ⟨g, 6 * r + 1, none⟩)), .eq (.int .i64 (k1 : Nat)), .eq (.int .i64 (y.b + k1 : Nat)), .eq (.int .i64 ((y.b + k1) % 65536 : Nat)), .eq (.pointer (some ⟨G, 2, none⟩)), .eq (.int .i64 (y.c : Nat)), .eq (.slice (some ⟨g, 6 * r, none⟩) 6 (52 - 6 * r)), .eq (.pointer (some ⟨g, 6 * r + 2, none⟩)), .eq (.int .i64 (k2 : Nat)), .eq (.int .i64 (y.c + k2 : Nat)), .eq (.int .i64 ((y.c + k2) % 65536 : Nat)), .eq (.pointer (some ⟨G, 3, none⟩)), .eq (.int .i64 (y.d : Nat)), .eq (.slice (some ⟨g, 6 * r, none⟩) 6 (52 - 6 * r)), .eq (.pointer (some ⟨g, 6 * r + 3, none⟩)), .eq (.int .i64 (k3 : Nat)), .eq (.int .i64 (mulF y.d k3 : Nat)), .eq (.int .i64 (mulF y.a k0 : Nat)), .eq (.int .i64 ((y.b + k1) % 65536 : Nat)), .eq (.int .i64 ((y.c + k2) % 65536 : Nat)), .eq (.int .i64 (mulF y.d k3 : Nat))]
def r23 (G g k0 k1 k2 k3 : Nat) (y : F4) : List K := [.eq (.pointer (some ⟨G, 0, none⟩)), .eq (.int .i64 (y.a : Nat)), .eq (.slice (some ⟨g, 48, none⟩) 4 (4)), .eq (.pointer (some ⟨g, 48, none⟩)), .eq (.int .i64 (k0 : Nat)), .eq (.int .i64 (mulF y.a k0 : Nat)), .eq (.pointer (some ⟨G, 2, none⟩)), .eq (.int .i64 (y.c : Nat)), .eq (.slice (some ⟨g, 48, none⟩) 4 (4)), .eq (.pointer (some ⟨g, 49, none⟩)), .eq (.int .i64 (k1 : Nat)), .eq (.int .i64 (y.c + k1 : Nat)), .eq (.int .i64 ((y.c + k1) % 65536 : Nat)), .eq (.pointer (some ⟨G, 1, none⟩)), .eq (.int .i64 (y.b : Nat)), .eq (.slice (some ⟨g, 48, none⟩) 4 (4)), .eq (.pointer (some ⟨g, 50, none⟩)), .eq (.int .i64 (k2 : Nat)), .eq (.int .i64 (y.b + k2 : Nat)), .eq (.int .i64 ((y.b + k2) % 65536 : Nat)), .eq (.pointer (some ⟨G, 3, none⟩)), .eq (.int .i64 (y.d : Nat)), .eq (.slice (some ⟨g, 48, none⟩) 4 (4)), .eq (.pointer (some ⟨g, 51, none⟩)), .eq (.int .i64 (k3 : Nat)), .eq (.int .i64 (mulF y.d k3 : Nat)), .any, .any]
theorem slice_lh25 (g n c l h : Nat) (w : World) (hl : l ≤ h) (hh : h ≤ n) (hn : n ≤ c) (hc : l < c) :
    (Instr.sliceAt 25 (.slice (some ⟨g, 0, none⟩) n c) (some (.int .i64 (l : Int))) (some (.int .i64 (h : Int))) none).run Try.prog w = .ok (.slice (some ⟨g, l, none⟩) (h - l) (c - l)) w := by
  have ht : Try.prog.underlying 25 = some (.slice (Try.prog.elem 25)) := by kernel_rfl
  have hs : (sizeOf (Try.prog.elem 25)).run Try.prog w = .ok 1 w := by kernel_rfl
  rw [run_sliceAt_slice w 25 _ _ _ _ ht, run_slice_lh w 25 (some ⟨g, 0, none⟩) n c ht .i64 .i64 l h (by omega) (by omega) (by omega), hs]
  simp only [Result.andThen, sliced, Int.toNat_natCast]
  rw [if_neg (by omega)]
  simp [add_off]
theorem F4.size41 (x : F4) : (Try.prog.info? 41).map (·.size) = some x.cells.size := by
  have h : (Try.prog.info? 41).map (·.size) = some 4 := by kernel_rfl
  rw [h]; rfl
theorem nth_list (x : F4) (i : Nat) (h : i < 4) : x.list.getD i 0 = (x.nth i : Nat) := by
  match i, h with
  | 0, _ => rfl
  | 1, _ => rfl
  | 2, _ => rfl
  | 3, _ => rfl
theorem out_nth {x : F4} (hx : x.ok) (i : Nat) (h : i < 4) : ((x.nth i : Nat) : Int) = (nb (outL x) (2 * i) : Int) * 256 + nb (outL x) (2 * i + 1) := by
  match i, h with
  | 0, _ => have h : nb (outL x) (2 * 0) * 256 + nb (outL x) (2 * 0 + 1) = x.nth 0 := num_two0 hx.a; omega
  | 1, _ => have h : nb (outL x) (2 * 1) * 256 + nb (outL x) (2 * 1 + 1) = x.nth 1 := num_two0 hx.b; omega
  | 2, _ => have h : nb (outL x) (2 * 2) * 256 + nb (outL x) (2 * 2 + 1) = x.nth 2 := num_two0 hx.c; omega
  | 3, _ => have h : nb (outL x) (2 * 3) * 256 + nb (outL x) (2 * 3 + 1) = x.nth 3 := num_two0 hx.d; omega
set_option maxRecDepth 100000 in
set_option maxHeartbeats 8000000 in
theorem rounds_walk (a0 : Option Addr) (len0 cap0 : Nat) (z0 : List Int) (a1 : Option Addr) (len1 cap1 : Nat) (z1 : List Int) (w : World) (w0 : IsRow .u8 w a0 len0 cap0 z0) (w1 : IsRow .u8 w a1 len1 cap1 z1) :
    Calls Try.prog 6 #[.slice a0 len0 cap0, .slice a1 len1 cap1] w fun e w' => e = .returned (.bool true) ∧ Below w.heap.size w w' := by
  obtain ⟨ks, hr0, hmax0, _⟩ := w0.rdc
  obtain ⟨bs, hr1, hmax1, _⟩ := w1.rdc
  unfold maxLen at hmax0 hmax1
  have H0 := hid hr0
  have H1 := hid hr1
  clear w0 w1 hr0 hr1
  go_enter Try.func6, Try.ntmps6
  go_wp2_with fail
  refine (known_any _).mono ?_
  rintro e w1 ⟨rfl, hx1⟩
  have HX1 := hid hx1
  clear hx1
  go_wp2_with fail
  refine (bytes_rd _ 16 _ _ _ _ (H0.out.later HX1.out) (by omega) (by omega)).mono ?_
  rintro e w2 ⟨A2, c2, rfl, hc2, hr2, hx2⟩
  have HX2 := hid (Ext.trans HX1.out hx2)
  have HR2 := hid hr2
  clear hr2 hx2 HX1
  go_wp2_with fail
  refine (new_any _ _ _ _ HR2.out).mono ?_
  rintro e w3 ⟨p, rfl, hd3, hx3⟩
  have HX3 := hid (Ext.trans HX2.out hx3)
  have HD3 := hid hd3
  clear hd3 hx3 HX2 HR2
  go_wp2_with fail
  refine (bytes_rd _ 16 _ _ _ _ (H0.out.later HX3.out) (by omega) (by omega)).mono ?_
  rintro e w4 ⟨A4, c4, rfl, hc4, hr4, hx4⟩
  have HX4 := hid (Ext.trans HX3.out hx4)
  have HD4 := hid (HD3.out.later hx4)
  have HR4 := hid hr4
  clear hr4 hx4 HX3 HD3
  go_wp2_with fail
  refine (keys_any _ _ _ _ HR4.out).mono ?_
  rintro e w5 ⟨g, rfl, _, hb5, hx5⟩
  have HX5 := hid (Ext.trans HX4.out hx5)
  have HD5 := hid (HD4.out.later hx5)
  have HB5 := hid hb5
  clear hb5 hx5 HX4 HD4 HR4
  have HL := hid (keyF_lt (byL 16 ks))
  obtain ⟨kk, hkk⟩ : ∃ kk, keyF (byL 16 ks) = kk := ⟨_, rfl⟩
  rw [hkk] at HD5 HB5 HL
  clear hkk
  go_wp2_with fail
  refine (bytes_rd _ 8 _ _ _ _ (H1.out.later HX5.out) (by omega) (by omega)).mono ?_
  rintro e w7 ⟨A7, c7, rfl, hc7, hr7, hx7⟩
  have HX7 := hid (Ext.trans HX5.out hx7)
  have HD7 := hid (HD5.out.later hx7)
  have HB7 := hid (HB5.out.later hx7)
  have HR7 := hid hr7
  clear hr7 hx7 HX5 HD5 HB5
  obtain ⟨bb, hbb⟩ : ∃ bb, byL 8 bs = bb := ⟨_, rfl⟩
  rw [hbb] at HR7
  clear hbb
  obtain ⟨bk, ok, rfl, _, _⟩ := HR7.out.at_ (by omega)
  have hg0 := Blk.alloc w7 41 (fillN (numF bb) 4 0)
  have hx0 := Ext.alloc w7 (.cells (cN .i64 (fillN (numF bb) 4 0)).toArray 41)
  go_wp2_with fail
  obtain ⟨W0, hW0⟩ : ∃ W0, w7.alloc (.cells #[.int .i64 0, .int .i64 0, .int .i64 0, .int .i64 0] 41) = W0 := ⟨_, rfl⟩
  rw [show w7.alloc (.cells (cN .i64 (fillN (numF bb) 4 0)).toArray 41) = W0 from hW0] at hg0 hx0
  rw [hW0]
  obtain ⟨G, hG⟩ : ∃ G, w7.heap.size = G := ⟨_, rfl⟩
  rw [hG] at hg0 ⊢
  have HG := hid hG
  have HG0 := hid hg0
  have HE0 := hid hx0
  clear hW0 hG hg0 hx0
  go_loopw [11] (fun i wr => ∃ k : Nat, k ≤ 4 ∧ i = .int .i64 k ∧ Blk wr G 41 (fillN (numF bb) 4 k) ∧ Ext w7 wr) (fun i _ => 4 - (intOf i).toNat)
  case atStart => exact ⟨0, by omega, rfl, HG0.out, HE0.out⟩
  case round =>
    clear HG0 HE0
    obtain ⟨k, hk, rfl, hb, hx⟩ := hrel
    by_cases hlt : k < 4
    · obtain ⟨b, o, e1, _, hc⟩ := (HR7.out.later hx).at_ (by omega)
      cases e1
      have hc2 := hc (2 * k) (by omega)
      have hc3 := hc (2 * k + 1) (by omega)
      rw [byteAt_nb] at hc2 hc3
      have r1 := nb_lt bb (2 * k)
      have r2 := nb_lt bb (2 * k + 1)
      have HV := hid (show ((numF bb k : Nat) : Int) = (nb bb (2 * k) : Int) * 256 + nb bb (2 * k + 1) by unfold numF; omega)
      obtain ⟨x, hx1⟩ : ∃ x, nb bb (2 * k) = x := ⟨_, rfl⟩
      obtain ⟨y, hy1⟩ : ∃ y, nb bb (2 * k + 1) = y := ⟨_, rfl⟩
      rw [hx1] at hc2 HV r1
      rw [hy1] at hc3 HV r2
      have hcell := hb.cell k (by rw [fillN_length]; exact hlt)
      have hfree := hb.frozen k
      have hset := hb.set_ k ((x : Int) * 256 + y)
      rw [fillN_set _ _ _ _ HV.out.symm] at hset
      have HH := hid hset
      have HE := hid (Below.setCell hx (p := ⟨G, k, none⟩) (by have := HG.out; simp; omega) (.int .i64 ((x : Int) * 256 + y)))
      have q0 : (k : Int) < 4 := by omega
      have q1 : 2 * (k : Int) < 8 := by omega
      have q2 : 2 * (k : Int) + 1 < 8 := by omega
      clear hset hb hx hc hx1 hy1 HV
      go_wp2_with fail
      go_region
      go_wp2_with fail
      go_roundw
      case rel => exact ⟨k + 1, by omega, by go_num, HH.out, HE.out.drew⟩
      case measure => simp [intOf]; omega
    · obtain rfl : k = 4 := by omega
      rw [fillN_full] at hb
      have HGB := hid (show Blk wr G 41 (inF bb).list from hb)
      have HE := hid hx
      clear hb hx hk hlt
      go_wp2_with fail
      rw [show ((4 : Nat) : Int) = 4 from rfl]
      go_loopw [12] (fun i wr => ∃ r : Nat, r ≤ 8 ∧ i = .int .i64 r ∧ Blk wr G 41 (rndF kk (inF bb) r).list ∧ Ext w7 wr) (fun i _ => 8 - (intOf i).toNat)
      case atStart => exact ⟨0, by omega, rfl, HGB.out, HE.out⟩
      case round =>
        clear HGB HE
        obtain ⟨r, hr, rfl, hb, hx⟩ := hrel
        have HYO := hid (rndF_ok (k := kk) (inF_ok bb) r)
        by_cases hlt : r < 8
        · have HST := hid (show rndF kk (inF bb) (r + 1) = mixF (byF (rndF kk (inF bb) r) fun i => kk (6 * r + i)) (kk (6 * r + 4)) (kk (6 * r + 5)) from rfl)
          obtain ⟨y, hy⟩ : ∃ y, rndF kk (inF bb) r = y := ⟨_, rfl⟩
          rw [hy] at hb HYO HST
          clear hy
          have HSL := hid (fun w => slice_lh25 g 52 52 (6 * r) (6 * r + 6) w (by omega) (by omega) (by omega) (by omega))
          have hkc : ∀ j, j < 6 → wr.cell? ⟨g, 6 * r + j, none⟩ = some (.int .i64 (kk (6 * r + j) : Nat)) := fun j hj => by
            rw [(HB7.out.later hx).cell (6 * r + j) (by rw [tabN_length]; omega), tabN_get _ _ _ (by omega)]
          have HCa := hid (show wr.cell? ⟨G, 0, none⟩ = some (.int .i64 (y.a : Nat)) from hb.cell 0 (by simp [F4.list]))
          have HCb := hid (show wr.cell? ⟨G, 1, none⟩ = some (.int .i64 (y.b : Nat)) from hb.cell 1 (by simp [F4.list]))
          have HCc := hid (show wr.cell? ⟨G, 2, none⟩ = some (.int .i64 (y.c : Nat)) from hb.cell 2 (by simp [F4.list]))
          have HCd := hid (show wr.cell? ⟨G, 3, none⟩ = some (.int .i64 (y.d : Nat)) from hb.cell 3 (by simp [F4.list]))
          have HK0 := hid (show wr.cell? ⟨g, 6 * r, none⟩ = some (.int .i64 (kk (6 * r) : Nat)) from hkc 0 (by omega))
          have HK1 := hid (hkc 1 (by omega))
          have HK2 := hid (hkc 2 (by omega))
          have HK3 := hid (hkc 3 (by omega))
          have HK4 := hid (hkc 4 (by omega))
          have HK5 := hid (hkc 5 (by omega))
          have HL0 := hid (HL.out (6 * r))
          have HL1 := hid (HL.out (6 * r + 1))
          have HL2 := hid (HL.out (6 * r + 2))
          have HL3 := hid (HL.out (6 * r + 3))
          have HL4 := hid (HL.out (6 * r + 4))
          have HL5 := hid (HL.out (6 * r + 5))
          rw [show byF y (fun i => kk (6 * r + i)) = ⟨mulF y.a (kk (6 * r)), (y.b + kk (6 * r + 1)) % 65536, (y.c + kk (6 * r + 2)) % 65536, mulF y.d (kk (6 * r + 3))⟩ from rfl] at HST
          obtain ⟨k0, hk0⟩ : ∃ k, kk (6 * r) = k := ⟨_, rfl⟩
          obtain ⟨k1, hk1⟩ : ∃ k, kk (6 * r + 1) = k := ⟨_, rfl⟩
          obtain ⟨k2, hk2⟩ : ∃ k, kk (6 * r + 2) = k := ⟨_, rfl⟩
          obtain ⟨k3, hk3⟩ : ∃ k, kk (6 * r + 3) = k := ⟨_, rfl⟩
          obtain ⟨k4, hk4⟩ : ∃ k, kk (6 * r + 4) = k := ⟨_, rfl⟩
          obtain ⟨k5, hk5⟩ : ∃ k, kk (6 * r + 5) = k := ⟨_, rfl⟩
          rw [hk0] at HK0 HL0 HST
          rw [hk1] at HK1 HL1 HST
          rw [hk2] at HK2 HL2 HST
          rw [hk3] at HK3 HL3 HST
          rw [hk4] at HK4 HL4 HST
          rw [hk5] at HK5 HL5 HST
          have HBX := hid hb
          have HXX := hid hx
          have r6 : (6 * (r : Int)) = ((6 * r : Nat) : Int) := by omega
          have HSLI := hid (show ∀ w, (Instr.sliceAt 25 (.slice (some ⟨g, 0, none⟩) 52 52) (some (.int .i64 (6 * (r : Int)))) (some (.int .i64 (6 * (r : Int) + 6))) none).run Try.prog w = .ok (.slice (some ⟨g, 6 * r, none⟩) 6 (52 - 6 * r)) w from fun w => by
            have h := HSL.out w
            rw [show 6 * r + 6 - 6 * r = 6 by omega, show ((6 * r + 6 : Nat) : Int) = 6 * (r : Int) + 6 by omega, ← r6] at h
            exact h)
          clear hk0 hk1 hk2 hk3 hk4 hk5 hkc hb hx HSL r6
          clear HSLI
          go_wp2_with fail
          rw [show 6 * r + 6 - 6 * r = 6 by omega]
          refine region_inv mixed rfl (by kernel_rfl) (kV (r17 G g r k0 k1 k2 k3 y)) (kV_keep _) (forall_ops ⟨?_, ?_, ?_, ?_, ?_, ?_, ?_, ?_, ?_, ?_, ?_, ?_, ?_, ?_, ?_, ?_, ?_, ?_, ?_, ?_, ?_, ?_, ?_, ?_, ?_, ?_, ?_, ?_, ?_, ?_, trivial⟩) ?_
          · intro a w hk
            have s10 : a.tmps.getD 10 undef = .pointer (some ⟨G, 0, none⟩) := hk.was 10 (by kernel_rfl) rfl
            refine step_val (v := .pointer (some ⟨G, 0, none⟩)) (w' := w) rfl ?_ (Ext.refl w) rfl
            go_simp
          · intro a w hk
            have s87 := hk.eq_ 0 87 (by kernel_rfl) rfl
            refine step_val (v := .int .i64 (y.a : Nat)) (w' := w) rfl ?_ (Ext.refl w) rfl
            have hc := cell_later hk.ext HCa.out
            go_simp
          · intro a w hk
            have s13 : a.tmps.getD 13 undef = .slice (some ⟨g, 6 * r, none⟩) 6 (52 - 6 * r) := hk.was 13 (by kernel_rfl) rfl
            exact step_move rfl rfl s13 rfl
          · intro a w hk
            have s89 := hk.eq_ 2 89 (by kernel_rfl) rfl
            refine step_val (v := .pointer (some ⟨g, 6 * r, none⟩)) (w' := w) rfl ?_ (Ext.refl w) rfl
            go_simp
          · intro a w hk
            have s90 := hk.eq_ 3 90 (by kernel_rfl) rfl
            refine step_val (v := .int .i64 (k0 : Nat)) (w' := w) rfl ?_ (Ext.refl w) rfl
            have hc := cell_later hk.ext HK0.out
            go_simp
          · intro a w hk
            have s88 := hk.eq_ 1 88 (by kernel_rfl) rfl
            have s91 := hk.eq_ 4 91 (by kernel_rfl) rfl
            exact step_call rfl rfl (by simp only [List.map_toArray, List.map_cons, List.map_nil, Act.eval, s88, s91] <;> rfl) cf13 (mul_any y.a k0 w HYO.out.a HL0.out) (fun e w1 h => retE e w1 h)
          · intro a w hk
            have s10 : a.tmps.getD 10 undef = .pointer (some ⟨G, 0, none⟩) := hk.was 10 (by kernel_rfl) rfl
            refine step_val (v := .pointer (some ⟨G, 1, none⟩)) (w' := w) rfl ?_ (Ext.refl w) rfl
            go_simp
          · intro a w hk
            have s93 := hk.eq_ 6 93 (by kernel_rfl) rfl
            refine step_val (v := .int .i64 (y.b : Nat)) (w' := w) rfl ?_ (Ext.refl w) rfl
            have hc := cell_later hk.ext HCb.out
            go_simp
          · intro a w hk
            have s13 : a.tmps.getD 13 undef = .slice (some ⟨g, 6 * r, none⟩) 6 (52 - 6 * r) := hk.was 13 (by kernel_rfl) rfl
            exact step_move rfl rfl s13 rfl
          · intro a w hk
            have s95 := hk.eq_ 8 95 (by kernel_rfl) rfl
            refine step_val (v := .pointer (some ⟨g, 6 * r + 1, none⟩)) (w' := w) rfl ?_ (Ext.refl w) rfl
            go_simp
          · intro a w hk
            have s96 := hk.eq_ 9 96 (by kernel_rfl) rfl
            refine step_val (v := .int .i64 (k1 : Nat)) (w' := w) rfl ?_ (Ext.refl w) rfl
            have hc := cell_later hk.ext HK1.out
            go_simp
          · intro a w hk
            have s94 := hk.eq_ 7 94 (by kernel_rfl) rfl
            have s97 := hk.eq_ 10 97 (by kernel_rfl) rfl
            refine step_val (v := .int .i64 (y.b + k1 : Nat)) (w' := w) rfl ?_ (Ext.refl w) rfl
            have hb1 := HYO.out.b
            have hb2 := HL1.out
            go_simp
            exact wrap_i64 (by omega) (by omega)
          · intro a w hk
            have s98 := hk.eq_ 11 98 (by kernel_rfl) rfl
            refine step_val (v := .int .i64 ((y.b + k1) % 65536 : Nat)) (w' := w) rfl ?_ (Ext.refl w) rfl
            have hb1 := HYO.out.b
            have hb2 := HL1.out
            go_simp
            exact Int.tmod_eq_emod_of_nonneg (by omega)
          · intro a w hk
            have s10 : a.tmps.getD 10 undef = .pointer (some ⟨G, 0, none⟩) := hk.was 10 (by kernel_rfl) rfl
            refine step_val (v := .pointer (some ⟨G, 2, none⟩)) (w' := w) rfl ?_ (Ext.refl w) rfl
            go_simp
          · intro a w hk
            have s100 := hk.eq_ 13 100 (by kernel_rfl) rfl
            refine step_val (v := .int .i64 (y.c : Nat)) (w' := w) rfl ?_ (Ext.refl w) rfl
            have hc := cell_later hk.ext HCc.out
            go_simp
          · intro a w hk
            have s13 : a.tmps.getD 13 undef = .slice (some ⟨g, 6 * r, none⟩) 6 (52 - 6 * r) := hk.was 13 (by kernel_rfl) rfl
            exact step_move rfl rfl s13 rfl
          · intro a w hk
            have s102 := hk.eq_ 15 102 (by kernel_rfl) rfl
            refine step_val (v := .pointer (some ⟨g, 6 * r + 2, none⟩)) (w' := w) rfl ?_ (Ext.refl w) rfl
            go_simp
          · intro a w hk
            have s103 := hk.eq_ 16 103 (by kernel_rfl) rfl
            refine step_val (v := .int .i64 (k2 : Nat)) (w' := w) rfl ?_ (Ext.refl w) rfl
            have hc := cell_later hk.ext HK2.out
            go_simp
          · intro a w hk
            have s101 := hk.eq_ 14 101 (by kernel_rfl) rfl
            have s104 := hk.eq_ 17 104 (by kernel_rfl) rfl
            refine step_val (v := .int .i64 (y.c + k2 : Nat)) (w' := w) rfl ?_ (Ext.refl w) rfl
            have hb1 := HYO.out.c
            have hb2 := HL2.out
            go_simp
            exact wrap_i64 (by omega) (by omega)
          · intro a w hk
            have s105 := hk.eq_ 18 105 (by kernel_rfl) rfl
            refine step_val (v := .int .i64 ((y.c + k2) % 65536 : Nat)) (w' := w) rfl ?_ (Ext.refl w) rfl
            have hb1 := HYO.out.c
            have hb2 := HL2.out
            go_simp
            exact Int.tmod_eq_emod_of_nonneg (by omega)
          · intro a w hk
            have s10 : a.tmps.getD 10 undef = .pointer (some ⟨G, 0, none⟩) := hk.was 10 (by kernel_rfl) rfl
            refine step_val (v := .pointer (some ⟨G, 3, none⟩)) (w' := w) rfl ?_ (Ext.refl w) rfl
            go_simp
          · intro a w hk
            have s107 := hk.eq_ 20 107 (by kernel_rfl) rfl
            refine step_val (v := .int .i64 (y.d : Nat)) (w' := w) rfl ?_ (Ext.refl w) rfl
            have hc := cell_later hk.ext HCd.out
            go_simp
          · intro a w hk
            have s13 : a.tmps.getD 13 undef = .slice (some ⟨g, 6 * r, none⟩) 6 (52 - 6 * r) := hk.was 13 (by kernel_rfl) rfl
            exact step_move rfl rfl s13 rfl
          · intro a w hk
            have s109 := hk.eq_ 22 109 (by kernel_rfl) rfl
            refine step_val (v := .pointer (some ⟨g, 6 * r + 3, none⟩)) (w' := w) rfl ?_ (Ext.refl w) rfl
            go_simp
          · intro a w hk
            have s110 := hk.eq_ 23 110 (by kernel_rfl) rfl
            refine step_val (v := .int .i64 (k3 : Nat)) (w' := w) rfl ?_ (Ext.refl w) rfl
            have hc := cell_later hk.ext HK3.out
            go_simp
          · intro a w hk
            have s108 := hk.eq_ 21 108 (by kernel_rfl) rfl
            have s111 := hk.eq_ 24 111 (by kernel_rfl) rfl
            exact step_call rfl rfl (by simp only [List.map_toArray, List.map_cons, List.map_nil, Act.eval, s108, s111] <;> rfl) cf13 (mul_any y.d k3 w HYO.out.d HL3.out) (fun e w1 h => retE e w1 h)
          · intro a w hk
            have s92 := hk.eq_ 5 92 (by kernel_rfl) rfl
            exact step_assign rfl rfl s92 rfl
          · intro a w hk
            have s99 := hk.eq_ 12 99 (by kernel_rfl) rfl
            exact step_assign rfl rfl s99 rfl
          · intro a w hk
            have s106 := hk.eq_ 19 106 (by kernel_rfl) rfl
            exact step_assign rfl rfl s106 rfl
          · intro a w hk
            have s112 := hk.eq_ 25 112 (by kernel_rfl) rfl
            exact step_assign rfl rfl s112 rfl
          · intro a w1 hf
            have s87 := hf.eq_ 0 87 (by kernel_rfl) rfl
            have s88 := hf.eq_ 1 88 (by kernel_rfl) rfl
            have s89 := hf.eq_ 2 89 (by kernel_rfl) rfl
            have s90 := hf.eq_ 3 90 (by kernel_rfl) rfl
            have s91 := hf.eq_ 4 91 (by kernel_rfl) rfl
            have s92 := hf.eq_ 5 92 (by kernel_rfl) rfl
            have s93 := hf.eq_ 6 93 (by kernel_rfl) rfl
            have s94 := hf.eq_ 7 94 (by kernel_rfl) rfl
            have s95 := hf.eq_ 8 95 (by kernel_rfl) rfl
            have s96 := hf.eq_ 9 96 (by kernel_rfl) rfl
            have s97 := hf.eq_ 10 97 (by kernel_rfl) rfl
            have s98 := hf.eq_ 11 98 (by kernel_rfl) rfl
            have s99 := hf.eq_ 12 99 (by kernel_rfl) rfl
            have s100 := hf.eq_ 13 100 (by kernel_rfl) rfl
            have s101 := hf.eq_ 14 101 (by kernel_rfl) rfl
            have s102 := hf.eq_ 15 102 (by kernel_rfl) rfl
            have s103 := hf.eq_ 16 103 (by kernel_rfl) rfl
            have s104 := hf.eq_ 17 104 (by kernel_rfl) rfl
            have s105 := hf.eq_ 18 105 (by kernel_rfl) rfl
            have s106 := hf.eq_ 19 106 (by kernel_rfl) rfl
            have s107 := hf.eq_ 20 107 (by kernel_rfl) rfl
            have s108 := hf.eq_ 21 108 (by kernel_rfl) rfl
            have s109 := hf.eq_ 22 109 (by kernel_rfl) rfl
            have s110 := hf.eq_ 23 110 (by kernel_rfl) rfl
            have s111 := hf.eq_ 24 111 (by kernel_rfl) rfl
            have s112 := hf.eq_ 25 112 (by kernel_rfl) rfl
            have s14 := hf.eq_ 26 14 (by kernel_rfl) rfl
            have s15 := hf.eq_ 27 15 (by kernel_rfl) rfl
            have s16 := hf.eq_ 28 16 (by kernel_rfl) rfl
            have s17 := hf.eq_ 29 17 (by kernel_rfl) rfl
            have hx := hf.ext
            have e := hf.frame
            clear hf
            simp only [regFrame, Act.put, List.setIfInBounds_toArray, List.set_cons_zero, List.set_cons_succ, s87, s88, s89, s90, s91, s92, s93, s94, s95, s96, s97, s98, s99, s100, s101, s102, s103, s104, s105, s106, s107, s108, s109, s110, s111, s112, s14, s15, s16, s17] at e
            clear s87 s88 s89 s90 s91 s92 s93 s94 s95 s96 s97 s98 s99 s100 s101 s102 s103 s104 s105 s106 s107 s108 s109 s110 s111 s112 s14 s15 s16 s17
            subst e
            have hk4 := cell_later hx HK4.out
            have hk5 := cell_later hx HK5.out
            have HBX1 := hid (HBX.out.later hx)
            have HXX1 := hid (HXX.out.trans hx)
            have hA0 := mulF_lt y.a k0
            have hC0 : (y.b + k1) % 65536 < 65536 := Nat.mod_lt _ (by omega)
            have hD0 : (y.c + k2) % 65536 < 65536 := Nat.mod_lt _ (by omega)
            have hE0 := mulF_lt y.d k3
            obtain ⟨A, hA⟩ : ∃ A, mulF y.a k0 = A := ⟨_, rfl⟩
            obtain ⟨C, hC⟩ : ∃ A, (y.b + k1) % 65536 = A := ⟨_, rfl⟩
            obtain ⟨D, hD⟩ : ∃ A, (y.c + k2) % 65536 = A := ⟨_, rfl⟩
            obtain ⟨E, hE⟩ : ∃ A, mulF y.d k3 = A := ⟨_, rfl⟩
            rw [hA, hC, hD, hE] at HST
            rw [hA] at hA0 ⊢
            rw [hC] at hC0 ⊢
            rw [hD] at hD0 ⊢
            rw [hE] at hE0 ⊢
            clear hA hC hD hE hx
            have l1 := xor_lt16 hA0 hD0
            have l2 := xor_lt16 hC0 hE0
            have l3 := mF_lt ⟨A, C, D, E⟩ k4
            have l4 := mG_lt ⟨A, C, D, E⟩ k4 k5
            have l5 := mH_lt ⟨A, C, D, E⟩ k4 k5
            have e1 := xor16 hA0 hD0
            have e2 := xor16 hC0 hE0
            have e3 := xor16 hA0 l4
            have e4 := xor16 hD0 l4
            have e5 := xor16 hC0 l5
            have e6 := xor16 hE0 l5
            have hF : mulF (A ^^^ D) k4 = mF ⟨A, C, D, E⟩ k4 := rfl
            have hGg : mulF (((C ^^^ E) + mF ⟨A, C, D, E⟩ k4) % 65536) k5 = mG ⟨A, C, D, E⟩ k4 k5 := rfl
            have hH : (mF ⟨A, C, D, E⟩ k4 + mG ⟨A, C, D, E⟩ k4 k5) % 65536 = mH ⟨A, C, D, E⟩ k4 k5 := rfl
            rw [show mixF ⟨A, C, D, E⟩ k4 k5 = ⟨A ^^^ mG ⟨A, C, D, E⟩ k4 k5, D ^^^ mG ⟨A, C, D, E⟩ k4 k5, C ^^^ mH ⟨A, C, D, E⟩ k4 k5, E ^^^ mH ⟨A, C, D, E⟩ k4 k5⟩ from rfl] at HST
            obtain ⟨f, hf⟩ : ∃ f, mF ⟨A, C, D, E⟩ k4 = f := ⟨_, rfl⟩
            obtain ⟨v, hv⟩ : ∃ f, mG ⟨A, C, D, E⟩ k4 k5 = f := ⟨_, rfl⟩
            obtain ⟨u, hu⟩ : ∃ f, mH ⟨A, C, D, E⟩ k4 k5 = f := ⟨_, rfl⟩
            rw [hf] at l3 hF hGg hH
            rw [hv] at l4 e3 e4 hGg hH HST
            rw [hu] at l5 e5 e6 hH HST
            obtain ⟨y1, hy1⟩ : ∃ q, A ^^^ D = q := ⟨_, rfl⟩
            obtain ⟨y2, hy2⟩ : ∃ q, C ^^^ E = q := ⟨_, rfl⟩
            obtain ⟨y3, hy3⟩ : ∃ q, A ^^^ v = q := ⟨_, rfl⟩
            obtain ⟨y4, hy4⟩ : ∃ q, D ^^^ v = q := ⟨_, rfl⟩
            obtain ⟨y5, hy5⟩ : ∃ q, C ^^^ u = q := ⟨_, rfl⟩
            obtain ⟨y6, hy6⟩ : ∃ q, E ^^^ u = q := ⟨_, rfl⟩
            rw [hy1] at l1 e1 hF
            rw [hy2] at l2 e2 hGg
            rw [hy3] at e3 HST
            rw [hy4] at e4 HST
            rw [hy5] at e5 HST
            rw [hy6] at e6 HST
            obtain ⟨z, hz⟩ : ∃ q, (y2 + f) % 65536 = q := ⟨_, rfl⟩
            rw [hz] at hGg
            have hzl : z < 65536 := by omega
            have hzi : ((y2 : Int) + (f : Int)) % 65536 = (z : Int) := by omega
            have hui : ((f : Int) + (v : Int)) % 65536 = (u : Int) := by omega
            have D1 := hid (fun w => show Calls Try.prog 13 #[.int .i64 (y1 : Nat), .int .i64 (k4 : Nat)] w fun e w' => e = .returned (.int .i64 (f : Nat)) ∧ w = w' by rw [← hF]; exact mul_any y1 k4 w l1 HL4.out)
            have D2 := hid (fun w => show Calls Try.prog 13 #[.int .i64 (z : Nat), .int .i64 (k5 : Nat)] w fun e w' => e = .returned (.int .i64 (v : Nat)) ∧ w = w' by rw [← hGg]; exact mul_any z k5 w hzl HL5.out)
            have HP := hid (HBX1.out.put (F4.mk y3 y4 y5 y6).list)
            have HXP := hid (Below.setRow_ HXX1.out (g := G) (by have := HG.out; omega) (F4.mk y3 y4 y5 y6).cells)
            clear hf hv hu hy1 hy2 hy3 hy4 hy5 hy6 hz hF hGg hH hA0 hC0 hD0 hE0 l1 hzl
            go_wp2_with fail
            refine (D1.out _).mono ?_
            rintro e w' ⟨rfl, rfl⟩
            go_wp2_with fail
            refine (D2.out _).mono ?_
            rintro e w' ⟨rfl, rfl⟩
            go_wp2_with (refine wpList_store_row rfl 41 (.tmp 10) (.tmp 146) rfl G (F4.mk y3 y4 y5 y6).cells rfl rfl 41 _ HBX1.out (F4.size41 _) rfl (F4.all _) ?_)
            go_roundw
            case rel => exact ⟨r + 1, by omega, by go_num, by rw [HST.out]; exact HP.out, HXP.out⟩
            case measure => simp [intOf]; omega
        · obtain rfl : r = 8 := by omega
          have HPP := hid (show passF kk (inF bb) = ⟨mulF (rndF kk (inF bb) 8).a (kk 48), ((rndF kk (inF bb) 8).c + kk 49) % 65536, ((rndF kk (inF bb) 8).b + kk 50) % 65536, mulF (rndF kk (inF bb) 8).d (kk 51)⟩ from rfl)
          have HPO := hid (passF_ok kk (inF bb))
          obtain ⟨y, hy⟩ : ∃ y, rndF kk (inF bb) 8 = y := ⟨_, rfl⟩
          rw [hy] at hb HYO HPP
          clear hy
          have hkc : ∀ j, j < 4 → wr.cell? ⟨g, 48 + j, none⟩ = some (.int .i64 (kk (48 + j) : Nat)) := fun j hj => by
            rw [(HB7.out.later hx).cell (48 + j) (by rw [tabN_length]; omega), tabN_get _ _ _ (by omega)]
          have HCa := hid (show wr.cell? ⟨G, 0, none⟩ = some (.int .i64 (y.a : Nat)) from hb.cell 0 (by simp [F4.list]))
          have HCb := hid (show wr.cell? ⟨G, 1, none⟩ = some (.int .i64 (y.b : Nat)) from hb.cell 1 (by simp [F4.list]))
          have HCc := hid (show wr.cell? ⟨G, 2, none⟩ = some (.int .i64 (y.c : Nat)) from hb.cell 2 (by simp [F4.list]))
          have HCd := hid (show wr.cell? ⟨G, 3, none⟩ = some (.int .i64 (y.d : Nat)) from hb.cell 3 (by simp [F4.list]))
          have HK0 := hid (show wr.cell? ⟨g, 48, none⟩ = some (.int .i64 (kk 48 : Nat)) from hkc 0 (by omega))
          have HK1 := hid (show wr.cell? ⟨g, 49, none⟩ = some (.int .i64 (kk 49 : Nat)) from hkc 1 (by omega))
          have HK2 := hid (show wr.cell? ⟨g, 50, none⟩ = some (.int .i64 (kk 50 : Nat)) from hkc 2 (by omega))
          have HK3 := hid (show wr.cell? ⟨g, 51, none⟩ = some (.int .i64 (kk 51 : Nat)) from hkc 3 (by omega))
          have HL0 := hid (HL.out 48)
          have HL1 := hid (HL.out 49)
          have HL2 := hid (HL.out 50)
          have HL3 := hid (HL.out 51)
          obtain ⟨k0, hk0⟩ : ∃ k, kk 48 = k := ⟨_, rfl⟩
          obtain ⟨k1, hk1⟩ : ∃ k, kk 49 = k := ⟨_, rfl⟩
          obtain ⟨k2, hk2⟩ : ∃ k, kk 50 = k := ⟨_, rfl⟩
          obtain ⟨k3, hk3⟩ : ∃ k, kk 51 = k := ⟨_, rfl⟩
          rw [hk0] at HK0 HL0 HPP
          rw [hk1] at HK1 HL1 HPP
          rw [hk2] at HK2 HL2 HPP
          rw [hk3] at HK3 HL3 HPP
          have HBX := hid hb
          have HXX := hid hx
          clear hk0 hk1 hk2 hk3 hkc hb hx hr hlt
          go_wp2_with fail
          rw [show ((8 : Nat) : Int) = 8 from rfl]
          refine region_upto 26 mixed rfl (by kernel_rfl) (by kernel_rfl) (by kernel_rfl) (kV (r23 G g k0 k1 k2 k3 y)) (kV_keep _) (forall_ops ⟨?_, ?_, ?_, ?_, ?_, ?_, ?_, ?_, ?_, ?_, ?_, ?_, ?_, ?_, ?_, ?_, ?_, ?_, ?_, ?_, ?_, ?_, ?_, ?_, ?_, ?_, trivial⟩) ?_
          · intro a w hk
            have s10 : a.tmps.getD 10 undef = .pointer (some ⟨G, 0, none⟩) := hk.was 10 (by kernel_rfl) rfl
            refine step_val (v := .pointer (some ⟨G, 0, none⟩)) (w' := w) rfl ?_ (Ext.refl w) rfl
            go_simp
          · intro a w hk
            have s149 := hk.eq_ 0 149 (by kernel_rfl) rfl
            refine step_val (v := .int .i64 (y.a : Nat)) (w' := w) rfl ?_ (Ext.refl w) rfl
            have hc := cell_later hk.ext HCa.out
            go_simp
          · intro a w hk
            have s20 : a.tmps.getD 20 undef = .slice (some ⟨g, 48, none⟩) 4 (4) := hk.was 20 (by kernel_rfl) rfl
            exact step_move rfl rfl s20 rfl
          · intro a w hk
            have s151 := hk.eq_ 2 151 (by kernel_rfl) rfl
            refine step_val (v := .pointer (some ⟨g, 48, none⟩)) (w' := w) rfl ?_ (Ext.refl w) rfl
            go_simp
          · intro a w hk
            have s152 := hk.eq_ 3 152 (by kernel_rfl) rfl
            refine step_val (v := .int .i64 (k0 : Nat)) (w' := w) rfl ?_ (Ext.refl w) rfl
            have hc := cell_later hk.ext HK0.out
            go_simp
          · intro a w hk
            have s150 := hk.eq_ 1 150 (by kernel_rfl) rfl
            have s153 := hk.eq_ 4 153 (by kernel_rfl) rfl
            exact step_call rfl rfl (by simp only [List.map_toArray, List.map_cons, List.map_nil, Act.eval, s150, s153] <;> rfl) cf13 (mul_any y.a k0 w HYO.out.a HL0.out) (fun e w1 h => retE e w1 h)
          · intro a w hk
            have s10 : a.tmps.getD 10 undef = .pointer (some ⟨G, 0, none⟩) := hk.was 10 (by kernel_rfl) rfl
            refine step_val (v := .pointer (some ⟨G, 2, none⟩)) (w' := w) rfl ?_ (Ext.refl w) rfl
            go_simp
          · intro a w hk
            have s155 := hk.eq_ 6 155 (by kernel_rfl) rfl
            refine step_val (v := .int .i64 (y.c : Nat)) (w' := w) rfl ?_ (Ext.refl w) rfl
            have hc := cell_later hk.ext HCc.out
            go_simp
          · intro a w hk
            have s20 : a.tmps.getD 20 undef = .slice (some ⟨g, 48, none⟩) 4 (4) := hk.was 20 (by kernel_rfl) rfl
            exact step_move rfl rfl s20 rfl
          · intro a w hk
            have s157 := hk.eq_ 8 157 (by kernel_rfl) rfl
            refine step_val (v := .pointer (some ⟨g, 49, none⟩)) (w' := w) rfl ?_ (Ext.refl w) rfl
            go_simp
          · intro a w hk
            have s158 := hk.eq_ 9 158 (by kernel_rfl) rfl
            refine step_val (v := .int .i64 (k1 : Nat)) (w' := w) rfl ?_ (Ext.refl w) rfl
            have hc := cell_later hk.ext HK1.out
            go_simp
          · intro a w hk
            have s156 := hk.eq_ 7 156 (by kernel_rfl) rfl
            have s159 := hk.eq_ 10 159 (by kernel_rfl) rfl
            refine step_val (v := .int .i64 (y.c + k1 : Nat)) (w' := w) rfl ?_ (Ext.refl w) rfl
            have hb1 := HYO.out.c
            have hb2 := HL1.out
            go_simp
            exact wrap_i64 (by omega) (by omega)
          · intro a w hk
            have s160 := hk.eq_ 11 160 (by kernel_rfl) rfl
            refine step_val (v := .int .i64 ((y.c + k1) % 65536 : Nat)) (w' := w) rfl ?_ (Ext.refl w) rfl
            have hb1 := HYO.out.c
            have hb2 := HL1.out
            go_simp
            exact Int.tmod_eq_emod_of_nonneg (by omega)
          · intro a w hk
            have s10 : a.tmps.getD 10 undef = .pointer (some ⟨G, 0, none⟩) := hk.was 10 (by kernel_rfl) rfl
            refine step_val (v := .pointer (some ⟨G, 1, none⟩)) (w' := w) rfl ?_ (Ext.refl w) rfl
            go_simp
          · intro a w hk
            have s162 := hk.eq_ 13 162 (by kernel_rfl) rfl
            refine step_val (v := .int .i64 (y.b : Nat)) (w' := w) rfl ?_ (Ext.refl w) rfl
            have hc := cell_later hk.ext HCb.out
            go_simp
          · intro a w hk
            have s20 : a.tmps.getD 20 undef = .slice (some ⟨g, 48, none⟩) 4 (4) := hk.was 20 (by kernel_rfl) rfl
            exact step_move rfl rfl s20 rfl
          · intro a w hk
            have s164 := hk.eq_ 15 164 (by kernel_rfl) rfl
            refine step_val (v := .pointer (some ⟨g, 50, none⟩)) (w' := w) rfl ?_ (Ext.refl w) rfl
            go_simp
          · intro a w hk
            have s165 := hk.eq_ 16 165 (by kernel_rfl) rfl
            refine step_val (v := .int .i64 (k2 : Nat)) (w' := w) rfl ?_ (Ext.refl w) rfl
            have hc := cell_later hk.ext HK2.out
            go_simp
          · intro a w hk
            have s163 := hk.eq_ 14 163 (by kernel_rfl) rfl
            have s166 := hk.eq_ 17 166 (by kernel_rfl) rfl
            refine step_val (v := .int .i64 (y.b + k2 : Nat)) (w' := w) rfl ?_ (Ext.refl w) rfl
            have hb1 := HYO.out.b
            have hb2 := HL2.out
            go_simp
            exact wrap_i64 (by omega) (by omega)
          · intro a w hk
            have s167 := hk.eq_ 18 167 (by kernel_rfl) rfl
            refine step_val (v := .int .i64 ((y.b + k2) % 65536 : Nat)) (w' := w) rfl ?_ (Ext.refl w) rfl
            have hb1 := HYO.out.b
            have hb2 := HL2.out
            go_simp
            exact Int.tmod_eq_emod_of_nonneg (by omega)
          · intro a w hk
            have s10 : a.tmps.getD 10 undef = .pointer (some ⟨G, 0, none⟩) := hk.was 10 (by kernel_rfl) rfl
            refine step_val (v := .pointer (some ⟨G, 3, none⟩)) (w' := w) rfl ?_ (Ext.refl w) rfl
            go_simp
          · intro a w hk
            have s169 := hk.eq_ 20 169 (by kernel_rfl) rfl
            refine step_val (v := .int .i64 (y.d : Nat)) (w' := w) rfl ?_ (Ext.refl w) rfl
            have hc := cell_later hk.ext HCd.out
            go_simp
          · intro a w hk
            have s20 : a.tmps.getD 20 undef = .slice (some ⟨g, 48, none⟩) 4 (4) := hk.was 20 (by kernel_rfl) rfl
            exact step_move rfl rfl s20 rfl
          · intro a w hk
            have s171 := hk.eq_ 22 171 (by kernel_rfl) rfl
            refine step_val (v := .pointer (some ⟨g, 51, none⟩)) (w' := w) rfl ?_ (Ext.refl w) rfl
            go_simp
          · intro a w hk
            have s172 := hk.eq_ 23 172 (by kernel_rfl) rfl
            refine step_val (v := .int .i64 (k3 : Nat)) (w' := w) rfl ?_ (Ext.refl w) rfl
            have hc := cell_later hk.ext HK3.out
            go_simp
          · intro a w hk
            have s170 := hk.eq_ 21 170 (by kernel_rfl) rfl
            have s173 := hk.eq_ 24 173 (by kernel_rfl) rfl
            exact step_call rfl rfl (by simp only [List.map_toArray, List.map_cons, List.map_nil, Act.eval, s170, s173] <;> rfl) cf13 (mul_any y.d k3 w HYO.out.d HL3.out) (fun e w1 h => retE e w1 h)
          · intro a w1 hf
            have s149 := hf.eq_ 0 149 (by kernel_rfl) rfl
            have s150 := hf.eq_ 1 150 (by kernel_rfl) rfl
            have s151 := hf.eq_ 2 151 (by kernel_rfl) rfl
            have s152 := hf.eq_ 3 152 (by kernel_rfl) rfl
            have s153 := hf.eq_ 4 153 (by kernel_rfl) rfl
            have s154 := hf.eq_ 5 154 (by kernel_rfl) rfl
            have s155 := hf.eq_ 6 155 (by kernel_rfl) rfl
            have s156 := hf.eq_ 7 156 (by kernel_rfl) rfl
            have s157 := hf.eq_ 8 157 (by kernel_rfl) rfl
            have s158 := hf.eq_ 9 158 (by kernel_rfl) rfl
            have s159 := hf.eq_ 10 159 (by kernel_rfl) rfl
            have s160 := hf.eq_ 11 160 (by kernel_rfl) rfl
            have s161 := hf.eq_ 12 161 (by kernel_rfl) rfl
            have s162 := hf.eq_ 13 162 (by kernel_rfl) rfl
            have s163 := hf.eq_ 14 163 (by kernel_rfl) rfl
            have s164 := hf.eq_ 15 164 (by kernel_rfl) rfl
            have s165 := hf.eq_ 16 165 (by kernel_rfl) rfl
            have s166 := hf.eq_ 17 166 (by kernel_rfl) rfl
            have s167 := hf.eq_ 18 167 (by kernel_rfl) rfl
            have s168 := hf.eq_ 19 168 (by kernel_rfl) rfl
            have s169 := hf.eq_ 20 169 (by kernel_rfl) rfl
            have s170 := hf.eq_ 21 170 (by kernel_rfl) rfl
            have s171 := hf.eq_ 22 171 (by kernel_rfl) rfl
            have s172 := hf.eq_ 23 172 (by kernel_rfl) rfl
            have s173 := hf.eq_ 24 173 (by kernel_rfl) rfl
            have s174 := hf.eq_ 25 174 (by kernel_rfl) rfl
            have hx := hf.ext
            have e := hf.frame
            clear hf
            simp only [List.take_succ_cons, List.take_zero, regFrame, Act.put, List.setIfInBounds_toArray, List.set_cons_zero, List.set_cons_succ, s149, s150, s151, s152, s153, s154, s155, s156, s157, s158, s159, s160, s161, s162, s163, s164, s165, s166, s167, s168, s169, s170, s171, s172, s173, s174] at e
            clear s149 s150 s151 s152 s153 s154 s155 s156 s157 s158 s159 s160 s161 s162 s163 s164 s165 s166 s167 s168 s169 s170 s171 s172 s173 s174
            subst e
            simp only [List.drop_succ_cons, List.drop_zero]
            have HBX1 := hid (HBX.out.later hx)
            have HXX1 := hid (HXX.out.trans hx)
            obtain ⟨v0, hv0⟩ : ∃ A, mulF y.a k0 = A := ⟨_, rfl⟩
            obtain ⟨v1, hv1⟩ : ∃ A, (y.c + k1) % 65536 = A := ⟨_, rfl⟩
            obtain ⟨v2, hv2⟩ : ∃ A, (y.b + k2) % 65536 = A := ⟨_, rfl⟩
            obtain ⟨v3, hv3⟩ : ∃ A, mulF y.d k3 = A := ⟨_, rfl⟩
            rw [hv0, hv1, hv2, hv3] at HPP
            rw [hv0, hv1, hv2, hv3]
            clear hv0 hv1 hv2 hv3 hx
            have HP := hid (HBX1.out.put (F4.mk v0 v1 v2 v3).list)
            have HXP := hid (show Ext w7 (w1.setRow G (F4.mk v0 v1 v2 v3).cells) from Below.setRow_ HXX1.out (g := G) (by have := HG.out; omega) (F4.mk v0 v1 v2 v3).cells)
            go_wp2_with (refine wpList_store_row rfl 41 (.tmp 10) (.tmp 175) rfl G (F4.mk v0 v1 v2 v3).cells rfl rfl 41 _ HBX1.out (F4.size41 _) rfl (F4.all _) ?_)
            refine (block_any (some ⟨bk, ok, none⟩) p c7 bb kk false _ (HD7.out.later HXP.out) HL.out (HR7.out.later HXP.out)).mono ?_
            rintro e w9 ⟨A9, c9, rfl, hc9, hr9, hx9⟩
            rw [show blockL kk false bb = outL (passF kk (inF bb)) from rfl, HPP.out] at hr9
            rw [HPP.out] at HPO
            have HB9 := hid (Blk.later (show Blk (w1.setRow G (F4.mk v0 v1 v2 v3).cells) G 41 (F4.mk v0 v1 v2 v3).list from HP.out) hx9)
            have HX9 := hid (HX7.out.trans (HXP.out.trans hx9))
            have HR9 := hid hr9
            clear hr9 hx9
            go_wp2_with fail
            go_loopw [23] (fun i wr => ∃ k : Nat, k ≤ 4 ∧ i = .int .i64 k ∧ Ext w9 wr) (fun i _ => 4 - (intOf i).toNat)
            case atStart => exact ⟨0, by omega, rfl, Ext.refl _⟩
            case round =>
              obtain ⟨k, hk, rfl, hx⟩ := hrel
              by_cases hlt : k < 4
              · obtain ⟨b, o, rfl, _, hc⟩ := (HR9.out.later hx).at_ (by omega)
                have hc1 := (HB9.out.later hx).cell k (by simp [F4.list]; omega)
                have hc2 := hc (2 * k) (by omega)
                have hc3 := hc (2 * k + 1) (by omega)
                have hv := out_nth HPO.out k hlt
                rw [nth_list _ _ hlt, hv] at hc1
                rw [byteAt_nb] at hc2 hc3
                have r1 := nb_lt (outL (F4.mk v0 v1 v2 v3)) (2 * k)
                have r2 := nb_lt (outL (F4.mk v0 v1 v2 v3)) (2 * k + 1)
                obtain ⟨x, hx1⟩ : ∃ x, nb (outL (F4.mk v0 v1 v2 v3)) (2 * k) = x := ⟨_, rfl⟩
                obtain ⟨y9, hy1⟩ : ∃ x, nb (outL (F4.mk v0 v1 v2 v3)) (2 * k + 1) = x := ⟨_, rfl⟩
                rw [hx1] at hc1 hc2 r1
                rw [hy1] at hc1 hc3 r2
                have hki : (k : Int) < 4 := by omega
                have q1 : 2 * (k : Int) < 8 := by omega
                have q2 : 2 * (k : Int) + 1 < 8 := by omega
                have HX := hid hx
                clear hc hx hv hx1 hy1
                go_wp2_with fail
                go_quiet (fail)
                go_wp2_with fail
                go_roundw
                case rel => exact ⟨k + 1, by omega, by go_num, ext_drewN HX.out nq⟩
                case measure => simp [intOf]; omega
              · obtain rfl : k = 4 := by omega
                have HX := hid (HX9.out.trans hx)
                clear hx
                go_wp2_with fail
                go_ret
                exact ⟨rfl, HX.out⟩
end Go.Proofs.Ytamolgbdpnpemaa
