/- Walks over boxes, layer, Mix and Layer of the reference; own lemmas of the verifier, no statement is proved here. -/
import Derived.Test.YtpfkcplldhdipaaDoorX19
namespace Go.Proofs.YtpfkcplldhdipaaDoor
open Go.RowKit
/-- The reference's tables in memory. -/
def RBx (w : World) (p : Nat) : Prop := ∀ k, k < 4 → ∃ A c, w.cell? ⟨p, k, none⟩ = some (.slice A 256 c) ∧ Rd w w.heap.size A 256 (tabT k)
theorem RBx.later {w w' : World} {p : Nat} (h : RBx w p) (hx : Ext w w') : RBx w' p := fun k hk => by
  obtain ⟨A, c, h1, h2⟩ := h k hk
  exact ⟨A, c, (Below.cell hx (p := ⟨p, k, none⟩) (World.block_lt_of_cell? w _ h1)).trans h1, h2.later hx⟩
set_option maxRecDepth 100000 in
theorem rmk_s1 (w : World) : Calls Tryd.prog 38 #[.int .i64 254, .int .i64 283, .agg #[.int .u8 241, .int .u8 227, .int .u8 199, .int .u8 143, .int .u8 31, .int .u8 62, .int .u8 124, .int .u8 248], .int .u8 99] w (RetB w S1) := by
  have h := rmake_any 254 283 99 rows1 w rfl (by omega) rest283 (by omega)
  rw [mk1] at h
  exact h
set_option maxRecDepth 100000 in
theorem rmk_s2 (w : World) : Calls Tryd.prog 38 #[.int .i64 247, .int .i64 283, .agg #[.int .u8 122, .int .u8 188, .int .u8 235, .int .u8 185, .int .u8 52, .int .u8 129, .int .u8 186, .int .u8 203], .int .u8 226] w (RetB w S2) := by
  have h := rmake_any 247 283 226 rows2 w rfl (by omega) rest283 (by omega)
  rw [mk2] at h
  exact h
theorem rbk_s1 (A : Option Addr) (c : Nat) (w : World) (h : Rd w w.heap.size A 256 S1) : Calls Tryd.prog 39 #[.slice A 256 c] w fun e w' => ∃ A' c', e = .returned (.tuple #[.slice A' 256 c', .bool true]) ∧ Rd w' w'.heap.size A' 256 X1 ∧ Ext w w' := by
  refine (rback_any A 256 c S1 w h (by omega)).mono ?_
  rintro e w' ⟨A', c', rfl, hr, hx⟩
  rw [out1, show X1.length = 256 from tabT_length 2] at hr ⊢
  rw [isB_of isT_S1]
  exact ⟨A', c', rfl, hr, hx⟩
theorem rbk_s2 (A : Option Addr) (c : Nat) (w : World) (h : Rd w w.heap.size A 256 S2) : Calls Tryd.prog 39 #[.slice A 256 c] w fun e w' => ∃ A' c', e = .returned (.tuple #[.slice A' 256 c', .bool true]) ∧ Rd w' w'.heap.size A' 256 X2 ∧ Ext w w' := by
  refine (rback_any A 256 c S2 w h (by omega)).mono ?_
  rintro e w' ⟨A', c', rfl, hr, hx⟩
  rw [out2, show X2.length = 256 from tabT_length 3] at hr ⊢
  rw [isB_of isT_S2]
  exact ⟨A', c', rfl, hr, hx⟩
set_option maxRecDepth 100000 in
set_option maxHeartbeats 4000000 in
theorem rboxes_any (w : World) : Calls Tryd.prog 25 #[] w fun e w' => ∃ p, e = .returned (.pointer (some ⟨p, 0, none⟩)) ∧ RBx w' p ∧ Ext w w' := by
  go_enter Tryd.func25, Tryd.ntmps25
  go_wp2_with fail
  refine (rmk_s1 _).mono ?_
  rintro e w2 ⟨v1, rfl, ho1, hx2⟩
  have HX2 := hid (show Ext w w2 from hx2)
  obtain ⟨A1, c1, rfl, hr1, _⟩ := ho1.rdn (n := 256) (tabT_length 0)
  have HR1 := hid hr1
  clear ho1 hx2 hr1
  go_wp2_with fail
  refine (rmk_s2 _).mono ?_
  rintro e w3 ⟨v2, rfl, ho2, hx3⟩
  have HX3 := hid (Ext.trans HX2.out hx3)
  obtain ⟨A2, c2, rfl, hr2, _⟩ := ho2.rdn (n := 256) (tabT_length 1)
  have HR1 := hid (HR1.out.later hx3)
  have HR2 := hid hr2
  clear ho2 hx3 hr2
  go_wp2_with fail
  refine (rbk_s1 _ _ _ HR1.out).mono ?_
  rintro e w4 ⟨A3, c3, rfl, hr3, hx4⟩
  have HX4 := hid (Ext.trans HX3.out hx4)
  have HR1 := hid (HR1.out.later hx4)
  have HR2 := hid (HR2.out.later hx4)
  have HR3 := hid hr3
  clear hx4 hr3
  go_wp2_with fail
  refine (rbk_s2 _ _ _ HR2.out).mono ?_
  rintro e w5 ⟨A4, c4, rfl, hr4, hx5⟩
  have HX5 := hid (Ext.trans HX4.out hx5)
  have x6 := Ext.alloc w5 (.cells #[.slice A1 256 c1, .slice A2 256 c2, .slice A3 256 c3, .slice A4 256 c4] 79)
  have h6 := heap_alloc_new w5 (.cells #[.slice A1 256 c1, .slice A2 256 c2, .slice A3 256 c3, .slice A4 256 c4] 79)
  have hb : RBx (w5.alloc (.cells #[.slice A1 256 c1, .slice A2 256 c2, .slice A3 256 c3, .slice A4 256 c4] 79)) w5.heap.size := fun k hk => by
    match k, hk with
    | 0, _ => exact ⟨A1, c1, by rw [cell_of_row _ _ _ _ _ _ h6]; rfl, (HR1.out.later hx5).later x6⟩
    | 1, _ => exact ⟨A2, c2, by rw [cell_of_row _ _ _ _ _ _ h6]; rfl, (HR2.out.later hx5).later x6⟩
    | 2, _ => exact ⟨A3, c3, by rw [cell_of_row _ _ _ _ _ _ h6]; rfl, (HR3.out.later hx5).later x6⟩
    | 3, _ => exact ⟨A4, c4, by rw [cell_of_row _ _ _ _ _ _ h6]; rfl, hr4.later x6⟩
  have HB := hid hb
  have HX6 := hid (Ext.trans HX5.out x6)
  clear hx5 hr4 x6 h6 hb HX2 HX3 HX4 HX5 HR1 HR2 HR3
  go_wp2_with fail
  go_ret
  exact ⟨_, rfl, HB.out, HX6.out⟩
def rlKs1 (p G i q V Y : Nat) (bs : List UInt8) : List Go.Proofs.YtpfkcplldhdipaaDoor.K := [.eq (.slice (some ⟨G, 0, none⟩) 16 16), .eq (.int .i64 i), .eq (.pointer (some ⟨p, 0, none⟩)), .eq (.int .i64 i), .eq (.int .i64 1), .eq (.int .i64 0), .eq (.int .i64 0), .eq (.int .i64 i), .eq (.int .i64 q), .eq (.pointer (some ⟨p, 0, none⟩)), .eq (.pointer (some ⟨p, 0, none⟩)), .eq (.pointer (some ⟨p, q, none⟩)), .byt 256 (tabT q), .byt 16 (bs), .eq (.int .i64 i), .ptr (.int .u8 (V : Nat)), .eq (.int .u8 V), .ptr (.int .u8 (Y : Nat)), .eq (.int .u8 Y), .eq (.pointer (some ⟨G, i, none⟩)), .any]
set_option maxRecDepth 100000 in
set_option maxHeartbeats 4000000 in
theorem rlayer_1 (p : Nat) (A : Option Addr) (c : Nat) (bs : List UInt8) (w : World) (hb : RBx w p) (h : Rd w w.heap.size A 16 bs) : Calls Tryd.prog 30 #[.pointer (some ⟨p, 0, none⟩), .int .i64 1, .slice A 16 c] w (RetB w (layL 1 bs)) := by
  have HR0 := hid h
  have HB0 := hid hb
  clear h hb
  go_enter Tryd.func30, Tryd.ntmps30
  go_wp2_with (at_make; refine wpL_make rfl (.tmp 10) (.tmp 10) 22 rfl Tryd.underlying22 Tryd.info5 .i64 _ 16 rfl rfl rfl (by omega) w.heap.size (Nat.le_refl _) ?_; intro w1 hown1 hb1 _)
  obtain ⟨G, hG⟩ : ∃ G, w.heap.size = G := ⟨_, rfl⟩
  have HG := hid hG
  have HO1 := hid (show Own w1 G (.slice (some ⟨G, 0, none⟩) 16 16) (fillTo (layF 1 bs) 16 0) by rw [fillTo_zero, ← hG]; exact hown1)
  have HB1 := hid (show Ext w w1 from hb1)
  rw [hG]
  clear hown1 hb1 hG
  go_loopw [8] (fun v wr => ∃ i : Nat, i ≤ 16 ∧ v = .int .i64 i ∧ Own wr G (.slice (some ⟨G, 0, none⟩) 16 16) (fillTo (layF 1 bs) 16 i) ∧ Ext w wr) (fun v _ => 16 - (intOf v).toNat)
  case atStart => exact ⟨0, by omega, rfl, HO1.out, HB1.out⟩
  case round =>
    clear HO1 HB1
    obtain ⟨i, hi, rfl, hO, hx⟩ := hrel
    by_cases hlt : i < 16
    · obtain ⟨q, hq⟩ : ∃ q, (0 + i) % 4 = q := ⟨_, rfl⟩
      have HQ := hid (show (i : Int).tmod 4 = (q : Int) ∧ q < 4 from ⟨by rw [Int.tmod_eq_emod_of_nonneg (by omega)]; omega, by omega⟩)
      obtain ⟨V, hV⟩ : ∃ V, nb bs i = V := ⟨_, rfl⟩
      obtain ⟨Y, hY⟩ : ∃ Y, nb (tabT q) V = Y := ⟨_, rfl⟩
      have hVl := nb_lt bs i
      have HV := hid (And.intro hV (And.intro hY (show V < 256 by omega)))
      have HY := hid (show ((layF 1 bs i).toNat : Int) = (Y : Int) by
        unfold layF
        rw [show (2 * (1 - 1) + i) % 4 = q from hq, hV, ← hY]; rfl)
      have HI := hid hlt
      have HB := hid (HB0.out.later hx)
      have HR := hid (HR0.out.later hx)
      have HO := hid hO
      have HX := hid hx
      clear hO hx hq hV hY hVl
      go_wp2_with fail
      refine region_tail 20 _ mixed rfl (by kernel_rfl) (by kernel_rfl) rfl rfl rfl (kV (rlKs1 p G i q V Y bs)) (kV_keep _) (forall_ops ⟨?_, ?_, ?_, ?_, ?_, ?_, ?_, ?_, ?_, ?_, ?_, ?_, ?_, ?_, ?_, ?_, ?_, ?_, ?_, ?_, fun h => absurd rfl h, trivial⟩) ?_
      · intro _ a w hk
        have s7 : a.tmps.getD 7 undef = .slice (some ⟨G, 0, none⟩) 16 16 := hk.was 7 (by kernel_rfl) rfl
        exact step_move rfl rfl s7 rfl
      · intro _ a w hk
        have s8 : a.tmps.getD 8 undef = .int .i64 i := hk.was 8 (by kernel_rfl) rfl
        exact step_move rfl rfl s8 rfl
      · intro _ a w hk
        have s0 : a.tmps.getD 0 undef = .pointer (some ⟨p, 0, none⟩) := hk.was 0 (by kernel_rfl) rfl
        exact step_move rfl rfl s0 rfl
      · intro _ a w hk
        have s8 : a.tmps.getD 8 undef = .int .i64 i := hk.was 8 (by kernel_rfl) rfl
        exact step_move rfl rfl s8 rfl
      · intro _ a w hk
        have s1 : a.tmps.getD 1 undef = .int .i64 1 := hk.was 1 (by kernel_rfl) rfl
        exact step_move rfl rfl s1 rfl
      · intro _ a w hk
        have s22 := hk.eq_ 4 22 (by kernel_rfl) rfl
        refine step_val (v := .int .i64 0) (w' := w) rfl ?_ (Ext.refl w) rfl
        go_simp
        try exact IntWalk.i64_in _ (by omega)
      · intro _ a w hk
        have s23 := hk.eq_ 5 23 (by kernel_rfl) rfl
        refine step_val (v := .int .i64 0) (w' := w) rfl ?_ (Ext.refl w) rfl
        go_simp
        try exact IntWalk.i64_in _ (by omega)
      · intro _ a w hk
        have s21 := hk.eq_ 3 21 (by kernel_rfl) rfl
        have s24 := hk.eq_ 6 24 (by kernel_rfl) rfl
        refine step_val (v := .int .i64 i) (w' := w) rfl ?_ (Ext.refl w) rfl
        have hi := HI.out
        go_simp
        exact IntWalk.i64_in _ (by omega)
      · intro _ a w hk
        have s25 := hk.eq_ 7 25 (by kernel_rfl) rfl
        refine step_val (v := .int .i64 q) (w' := w) rfl ?_ (Ext.refl w) rfl
        have e := HQ.out.1
        go_simp
      · intro _ a w hk
        have s20 := hk.eq_ 2 20 (by kernel_rfl) rfl
        refine step_val (v := .pointer (some ⟨p, 0, none⟩)) (w' := w) rfl ?_ (Ext.refl w) rfl
        go_simp
      · intro _ a w hk
        have s27 := hk.eq_ 9 27 (by kernel_rfl) rfl
        refine step_val (v := .pointer (some ⟨p, 0, none⟩)) (w' := w) rfl ?_ (Ext.refl w) rfl
        go_simp
      · intro _ a w hk
        have s28 := hk.eq_ 10 28 (by kernel_rfl) rfl
        have s26 := hk.eq_ 8 26 (by kernel_rfl) rfl
        refine step_val (v := .pointer (some ⟨p, q, none⟩)) (w' := w) rfl ?_ (Ext.refl w) rfl
        have hi3 : (q : Int) < 4 := by have := HQ.out.2; omega
        go_simp
      · intro _ a w hk
        have s29 := hk.eq_ 11 29 (by kernel_rfl) rfl
        obtain ⟨A12, c12, hc12, hr12⟩ := (HB.out.later hk.ext) q HQ.out.2
        refine step_val (v := .slice A12 256 c12) (w' := w) rfl ?_ (Ext.refl w) ⟨_, _, rfl, hr12⟩
        go_simp
      · intro _ a w hk
        have s2 : a.tmps.getD 2 undef = .slice A 16 c := hk.was 2 (by kernel_rfl) rfl
        have r2 := (HR.out).later hk.ext
        exact step_move rfl rfl s2 ⟨_, _, rfl, r2⟩
      · intro _ a w hk
        have s8 : a.tmps.getD 8 undef = .int .i64 i := hk.was 8 (by kernel_rfl) rfl
        exact step_move rfl rfl s8 rfl
      · intro _ a w hk
        obtain ⟨A31, c31, s31, r31⟩ := hk.byt_ 13 31 (by kernel_rfl) rfl
        have s32 := hk.eq_ 14 32 (by kernel_rfl) rfl
        obtain ⟨b, o, rfl, hb, hc⟩ := r31.at_ (by omega)
        have hc1 := hc i HI.out
        rw [byteAt_nb, HV.out.1] at hc1
        have hi3 : (i : Int) < 16 := by have := HI.out; omega
        refine step_val (v := .pointer (some ⟨b, o + i, none⟩)) (w' := w) rfl ?_ (Ext.refl w) ⟨_, rfl, hb, hc1⟩
        go_simp
      · intro _ a w hk
        obtain ⟨p33, s33, h33, g33⟩ := hk.val 15 33 (by kernel_rfl) rfl
        obtain ⟨pb, po, pn⟩ := p33
        refine step_val (v := .int .u8 V) (w' := w) rfl ?_ (Ext.refl w) rfl
        go_simp
      · intro _ a w hk
        obtain ⟨A30, c30, s30, r30⟩ := hk.byt_ 12 30 (by kernel_rfl) rfl
        have s34 := hk.eq_ 16 34 (by kernel_rfl) rfl
        obtain ⟨b, o, rfl, hb, hc⟩ := r30.at_ (by omega)
        have hc1 := hc V HV.out.2.2
        rw [byteAt_nb, HV.out.2.1] at hc1
        have hi3 : (V : Int) < 256 := by have := HV.out.2.2; omega
        refine step_val (v := .pointer (some ⟨b, o + V, none⟩)) (w' := w) rfl ?_ (Ext.refl w) ⟨_, rfl, hb, hc1⟩
        go_simp
      · intro _ a w hk
        obtain ⟨p35, s35, h35, g35⟩ := hk.val 17 35 (by kernel_rfl) rfl
        obtain ⟨pb, po, pn⟩ := p35
        refine step_val (v := .int .u8 Y) (w' := w) rfl ?_ (Ext.refl w) rfl
        go_simp
      · intro _ a w hk
        have s18 := hk.eq_ 0 18 (by kernel_rfl) rfl
        have s19 := hk.eq_ 1 19 (by kernel_rfl) rfl
        refine step_val (v := .pointer (some ⟨G, i, none⟩)) (w' := w) rfl ?_ (Ext.refl w) rfl
        have hi3 : (i : Int) < 16 := by have := HI.out; omega
        go_simp
      · intro a w1 hf
        have s18 := hf.eq_ 0 18 (by kernel_rfl) rfl
        have s19 := hf.eq_ 1 19 (by kernel_rfl) rfl
        have s20 := hf.eq_ 2 20 (by kernel_rfl) rfl
        have s21 := hf.eq_ 3 21 (by kernel_rfl) rfl
        have s22 := hf.eq_ 4 22 (by kernel_rfl) rfl
        have s23 := hf.eq_ 5 23 (by kernel_rfl) rfl
        have s24 := hf.eq_ 6 24 (by kernel_rfl) rfl
        have s25 := hf.eq_ 7 25 (by kernel_rfl) rfl
        have s26 := hf.eq_ 8 26 (by kernel_rfl) rfl
        have s27 := hf.eq_ 9 27 (by kernel_rfl) rfl
        have s28 := hf.eq_ 10 28 (by kernel_rfl) rfl
        have s29 := hf.eq_ 11 29 (by kernel_rfl) rfl
        obtain ⟨A30, c30, s30, r30⟩ := hf.val 12 30 (by kernel_rfl) rfl
        obtain ⟨A31, c31, s31, r31⟩ := hf.val 13 31 (by kernel_rfl) rfl
        have s32 := hf.eq_ 14 32 (by kernel_rfl) rfl
        have s34 := hf.eq_ 16 34 (by kernel_rfl) rfl
        have s36 := hf.eq_ 18 36 (by kernel_rfl) rfl
        have s37 := hf.eq_ 19 37 (by kernel_rfl) rfl
        have hx := hf.ext
        have e := hf.frame
        clear hf
        simp only [regFrame, Act.put, List.setIfInBounds_toArray, List.set_cons_zero, List.set_cons_succ, s18, s19, s20, s21, s22, s23, s24, s25, s26, s27, s28, s29, s30, s31, s32, s34, s36, s37] at e
        generalize a.tmps.getD 33 undef = u33 at e
        generalize a.tmps.getD 35 undef = u35 at e
        clear s18 s19 s20 s21 s22 s23 s24 s25 s26 s27 s28 s29 s30 s31 s32 s34 s36 s37
        subst e
        have ho := HO.out.kept hx
        have hcell := Own.celln ho (fillTo_length _ _ _) i HI.out
        have hfree := Own.freen ho i
        have hset := Own.setn ho i (layF 1 bs i)
        rw [fillTo_set _ _ _ _ rfl, HY.out] at hset
        have hx2 := Below.setCell (Ext.trans HX.out hx) (p := ⟨G, i, none⟩) (by have := HG.out; simp; omega) (.int .u8 ((Y : Nat) : Int))
        refine wp_store_u8 (.tmp 37) (.tmp 36) rfl rfl G i Y _ rfl rfl hcell hfree ?_
        have HN := hid (And.intro hset hx2)
        clear hx ho hcell hfree hset hx2
        go_wp2_with fail
        go_roundw
        case rel => exact ⟨i + 1, by have := HI.out; omega, by go_num, HN.out⟩
        case measure => have := HI.out; simp [intOf]; omega
    · obtain rfl : i = 16 := by omega
      rw [fillTo_full] at hO
      have HQ := hid (And.intro hO hx)
      clear hO hx
      go_wp2_with fail
      go_ret
      exact ⟨.slice (some ⟨G, 0, none⟩) 16 16, rfl, by rw [HG.out]; exact HQ.out.1, HQ.out.2⟩
def rlKs2 (p G i q V Y : Nat) (bs : List UInt8) : List Go.Proofs.YtpfkcplldhdipaaDoor.K := [.eq (.slice (some ⟨G, 0, none⟩) 16 16), .eq (.int .i64 i), .eq (.pointer (some ⟨p, 0, none⟩)), .eq (.int .i64 i), .eq (.int .i64 2), .eq (.int .i64 1), .eq (.int .i64 2), .eq (.int .i64 (i + 2 : Nat)), .eq (.int .i64 q), .eq (.pointer (some ⟨p, 0, none⟩)), .eq (.pointer (some ⟨p, 0, none⟩)), .eq (.pointer (some ⟨p, q, none⟩)), .byt 256 (tabT q), .byt 16 (bs), .eq (.int .i64 i), .ptr (.int .u8 (V : Nat)), .eq (.int .u8 V), .ptr (.int .u8 (Y : Nat)), .eq (.int .u8 Y), .eq (.pointer (some ⟨G, i, none⟩)), .any]
set_option maxRecDepth 100000 in
set_option maxHeartbeats 4000000 in
theorem rlayer_2 (p : Nat) (A : Option Addr) (c : Nat) (bs : List UInt8) (w : World) (hb : RBx w p) (h : Rd w w.heap.size A 16 bs) : Calls Tryd.prog 30 #[.pointer (some ⟨p, 0, none⟩), .int .i64 2, .slice A 16 c] w (RetB w (layL 2 bs)) := by
  have HR0 := hid h
  have HB0 := hid hb
  clear h hb
  go_enter Tryd.func30, Tryd.ntmps30
  go_wp2_with (at_make; refine wpL_make rfl (.tmp 10) (.tmp 10) 22 rfl Tryd.underlying22 Tryd.info5 .i64 _ 16 rfl rfl rfl (by omega) w.heap.size (Nat.le_refl _) ?_; intro w1 hown1 hb1 _)
  obtain ⟨G, hG⟩ : ∃ G, w.heap.size = G := ⟨_, rfl⟩
  have HG := hid hG
  have HO1 := hid (show Own w1 G (.slice (some ⟨G, 0, none⟩) 16 16) (fillTo (layF 2 bs) 16 0) by rw [fillTo_zero, ← hG]; exact hown1)
  have HB1 := hid (show Ext w w1 from hb1)
  rw [hG]
  clear hown1 hb1 hG
  go_loopw [8] (fun v wr => ∃ i : Nat, i ≤ 16 ∧ v = .int .i64 i ∧ Own wr G (.slice (some ⟨G, 0, none⟩) 16 16) (fillTo (layF 2 bs) 16 i) ∧ Ext w wr) (fun v _ => 16 - (intOf v).toNat)
  case atStart => exact ⟨0, by omega, rfl, HO1.out, HB1.out⟩
  case round =>
    clear HO1 HB1
    obtain ⟨i, hi, rfl, hO, hx⟩ := hrel
    by_cases hlt : i < 16
    · obtain ⟨q, hq⟩ : ∃ q, (2 + i) % 4 = q := ⟨_, rfl⟩
      have HQ := hid (show ((i + 2 : Nat) : Int).tmod 4 = (q : Int) ∧ q < 4 from ⟨by rw [Int.tmod_eq_emod_of_nonneg (by omega)]; omega, by omega⟩)
      obtain ⟨V, hV⟩ : ∃ V, nb bs i = V := ⟨_, rfl⟩
      obtain ⟨Y, hY⟩ : ∃ Y, nb (tabT q) V = Y := ⟨_, rfl⟩
      have hVl := nb_lt bs i
      have HV := hid (And.intro hV (And.intro hY (show V < 256 by omega)))
      have HY := hid (show ((layF 2 bs i).toNat : Int) = (Y : Int) by
        unfold layF
        rw [show (2 * (2 - 1) + i) % 4 = q from hq, hV, ← hY]; rfl)
      have HI := hid hlt
      have HB := hid (HB0.out.later hx)
      have HR := hid (HR0.out.later hx)
      have HO := hid hO
      have HX := hid hx
      clear hO hx hq hV hY hVl
      go_wp2_with fail
      refine region_tail 20 _ mixed rfl (by kernel_rfl) (by kernel_rfl) rfl rfl rfl (kV (rlKs2 p G i q V Y bs)) (kV_keep _) (forall_ops ⟨?_, ?_, ?_, ?_, ?_, ?_, ?_, ?_, ?_, ?_, ?_, ?_, ?_, ?_, ?_, ?_, ?_, ?_, ?_, ?_, fun h => absurd rfl h, trivial⟩) ?_
      · intro _ a w hk
        have s7 : a.tmps.getD 7 undef = .slice (some ⟨G, 0, none⟩) 16 16 := hk.was 7 (by kernel_rfl) rfl
        exact step_move rfl rfl s7 rfl
      · intro _ a w hk
        have s8 : a.tmps.getD 8 undef = .int .i64 i := hk.was 8 (by kernel_rfl) rfl
        exact step_move rfl rfl s8 rfl
      · intro _ a w hk
        have s0 : a.tmps.getD 0 undef = .pointer (some ⟨p, 0, none⟩) := hk.was 0 (by kernel_rfl) rfl
        exact step_move rfl rfl s0 rfl
      · intro _ a w hk
        have s8 : a.tmps.getD 8 undef = .int .i64 i := hk.was 8 (by kernel_rfl) rfl
        exact step_move rfl rfl s8 rfl
      · intro _ a w hk
        have s1 : a.tmps.getD 1 undef = .int .i64 2 := hk.was 1 (by kernel_rfl) rfl
        exact step_move rfl rfl s1 rfl
      · intro _ a w hk
        have s22 := hk.eq_ 4 22 (by kernel_rfl) rfl
        refine step_val (v := .int .i64 1) (w' := w) rfl ?_ (Ext.refl w) rfl
        go_simp
        try exact IntWalk.i64_in _ (by omega)
      · intro _ a w hk
        have s23 := hk.eq_ 5 23 (by kernel_rfl) rfl
        refine step_val (v := .int .i64 2) (w' := w) rfl ?_ (Ext.refl w) rfl
        go_simp
        try exact IntWalk.i64_in _ (by omega)
      · intro _ a w hk
        have s21 := hk.eq_ 3 21 (by kernel_rfl) rfl
        have s24 := hk.eq_ 6 24 (by kernel_rfl) rfl
        refine step_val (v := .int .i64 (i + 2 : Nat)) (w' := w) rfl ?_ (Ext.refl w) rfl
        have hi := HI.out
        have hi3 : (i : Int) < 16 := by omega
        go_simp
        exact IntWalk.i64_in _ (by omega)
      · intro _ a w hk
        have s25 := hk.eq_ 7 25 (by kernel_rfl) rfl
        refine step_val (v := .int .i64 q) (w' := w) rfl ?_ (Ext.refl w) rfl
        have e := HQ.out.1
        obtain ⟨j, hj⟩ : ∃ j, i + 2 = j := ⟨_, rfl⟩
        rw [hj] at s25 e
        go_simp
      · intro _ a w hk
        have s20 := hk.eq_ 2 20 (by kernel_rfl) rfl
        refine step_val (v := .pointer (some ⟨p, 0, none⟩)) (w' := w) rfl ?_ (Ext.refl w) rfl
        go_simp
      · intro _ a w hk
        have s27 := hk.eq_ 9 27 (by kernel_rfl) rfl
        refine step_val (v := .pointer (some ⟨p, 0, none⟩)) (w' := w) rfl ?_ (Ext.refl w) rfl
        go_simp
      · intro _ a w hk
        have s28 := hk.eq_ 10 28 (by kernel_rfl) rfl
        have s26 := hk.eq_ 8 26 (by kernel_rfl) rfl
        refine step_val (v := .pointer (some ⟨p, q, none⟩)) (w' := w) rfl ?_ (Ext.refl w) rfl
        have hi3 : (q : Int) < 4 := by have := HQ.out.2; omega
        go_simp
      · intro _ a w hk
        have s29 := hk.eq_ 11 29 (by kernel_rfl) rfl
        obtain ⟨A12, c12, hc12, hr12⟩ := (HB.out.later hk.ext) q HQ.out.2
        refine step_val (v := .slice A12 256 c12) (w' := w) rfl ?_ (Ext.refl w) ⟨_, _, rfl, hr12⟩
        go_simp
      · intro _ a w hk
        have s2 : a.tmps.getD 2 undef = .slice A 16 c := hk.was 2 (by kernel_rfl) rfl
        have r2 := (HR.out).later hk.ext
        exact step_move rfl rfl s2 ⟨_, _, rfl, r2⟩
      · intro _ a w hk
        have s8 : a.tmps.getD 8 undef = .int .i64 i := hk.was 8 (by kernel_rfl) rfl
        exact step_move rfl rfl s8 rfl
      · intro _ a w hk
        obtain ⟨A31, c31, s31, r31⟩ := hk.byt_ 13 31 (by kernel_rfl) rfl
        have s32 := hk.eq_ 14 32 (by kernel_rfl) rfl
        obtain ⟨b, o, rfl, hb, hc⟩ := r31.at_ (by omega)
        have hc1 := hc i HI.out
        rw [byteAt_nb, HV.out.1] at hc1
        have hi3 : (i : Int) < 16 := by have := HI.out; omega
        refine step_val (v := .pointer (some ⟨b, o + i, none⟩)) (w' := w) rfl ?_ (Ext.refl w) ⟨_, rfl, hb, hc1⟩
        go_simp
      · intro _ a w hk
        obtain ⟨p33, s33, h33, g33⟩ := hk.val 15 33 (by kernel_rfl) rfl
        obtain ⟨pb, po, pn⟩ := p33
        refine step_val (v := .int .u8 V) (w' := w) rfl ?_ (Ext.refl w) rfl
        go_simp
      · intro _ a w hk
        obtain ⟨A30, c30, s30, r30⟩ := hk.byt_ 12 30 (by kernel_rfl) rfl
        have s34 := hk.eq_ 16 34 (by kernel_rfl) rfl
        obtain ⟨b, o, rfl, hb, hc⟩ := r30.at_ (by omega)
        have hc1 := hc V HV.out.2.2
        rw [byteAt_nb, HV.out.2.1] at hc1
        have hi3 : (V : Int) < 256 := by have := HV.out.2.2; omega
        refine step_val (v := .pointer (some ⟨b, o + V, none⟩)) (w' := w) rfl ?_ (Ext.refl w) ⟨_, rfl, hb, hc1⟩
        go_simp
      · intro _ a w hk
        obtain ⟨p35, s35, h35, g35⟩ := hk.val 17 35 (by kernel_rfl) rfl
        obtain ⟨pb, po, pn⟩ := p35
        refine step_val (v := .int .u8 Y) (w' := w) rfl ?_ (Ext.refl w) rfl
        go_simp
      · intro _ a w hk
        have s18 := hk.eq_ 0 18 (by kernel_rfl) rfl
        have s19 := hk.eq_ 1 19 (by kernel_rfl) rfl
        refine step_val (v := .pointer (some ⟨G, i, none⟩)) (w' := w) rfl ?_ (Ext.refl w) rfl
        have hi3 : (i : Int) < 16 := by have := HI.out; omega
        go_simp
      · intro a w1 hf
        have s18 := hf.eq_ 0 18 (by kernel_rfl) rfl
        have s19 := hf.eq_ 1 19 (by kernel_rfl) rfl
        have s20 := hf.eq_ 2 20 (by kernel_rfl) rfl
        have s21 := hf.eq_ 3 21 (by kernel_rfl) rfl
        have s22 := hf.eq_ 4 22 (by kernel_rfl) rfl
        have s23 := hf.eq_ 5 23 (by kernel_rfl) rfl
        have s24 := hf.eq_ 6 24 (by kernel_rfl) rfl
        have s25 := hf.eq_ 7 25 (by kernel_rfl) rfl
        have s26 := hf.eq_ 8 26 (by kernel_rfl) rfl
        have s27 := hf.eq_ 9 27 (by kernel_rfl) rfl
        have s28 := hf.eq_ 10 28 (by kernel_rfl) rfl
        have s29 := hf.eq_ 11 29 (by kernel_rfl) rfl
        obtain ⟨A30, c30, s30, r30⟩ := hf.val 12 30 (by kernel_rfl) rfl
        obtain ⟨A31, c31, s31, r31⟩ := hf.val 13 31 (by kernel_rfl) rfl
        have s32 := hf.eq_ 14 32 (by kernel_rfl) rfl
        have s34 := hf.eq_ 16 34 (by kernel_rfl) rfl
        have s36 := hf.eq_ 18 36 (by kernel_rfl) rfl
        have s37 := hf.eq_ 19 37 (by kernel_rfl) rfl
        have hx := hf.ext
        have e := hf.frame
        clear hf
        simp only [regFrame, Act.put, List.setIfInBounds_toArray, List.set_cons_zero, List.set_cons_succ, s18, s19, s20, s21, s22, s23, s24, s25, s26, s27, s28, s29, s30, s31, s32, s34, s36, s37] at e
        generalize a.tmps.getD 33 undef = u33 at e
        generalize a.tmps.getD 35 undef = u35 at e
        clear s18 s19 s20 s21 s22 s23 s24 s25 s26 s27 s28 s29 s30 s31 s32 s34 s36 s37
        subst e
        have ho := HO.out.kept hx
        have hcell := Own.celln ho (fillTo_length _ _ _) i HI.out
        have hfree := Own.freen ho i
        have hset := Own.setn ho i (layF 2 bs i)
        rw [fillTo_set _ _ _ _ rfl, HY.out] at hset
        have hx2 := Below.setCell (Ext.trans HX.out hx) (p := ⟨G, i, none⟩) (by have := HG.out; simp; omega) (.int .u8 ((Y : Nat) : Int))
        refine wp_store_u8 (.tmp 37) (.tmp 36) rfl rfl G i Y _ rfl rfl hcell hfree ?_
        have HN := hid (And.intro hset hx2)
        clear hx ho hcell hfree hset hx2
        go_wp2_with fail
        go_roundw
        case rel => exact ⟨i + 1, by have := HI.out; omega, by go_num, HN.out⟩
        case measure => have := HI.out; simp [intOf]; omega
    · obtain rfl : i = 16 := by omega
      rw [fillTo_full] at hO
      have HQ := hid (And.intro hO hx)
      clear hO hx
      go_wp2_with fail
      go_ret
      exact ⟨.slice (some ⟨G, 0, none⟩) 16 16, rfl, by rw [HG.out]; exact HQ.out.1, HQ.out.2⟩
theorem rmix2_bad (A : Option Addr) (n c : Nat) (w : World) (hn : n ≠ 16) : Calls Tryd.prog 15 #[.slice A n c] w (NoRet w) := by
  have g : ((n : Int) != 16) = true := by simp; omega
  go_enter Tryd.func15, Tryd.ntmps15
  go_wp2
  go_ret2
  exact ⟨rfl, Ext.refl _⟩
theorem rmix2_any (A : Option Addr) (c : Nat) (bs : List UInt8) (w : World) (h : Rd w w.heap.size A 16 bs) : Calls Tryd.prog 15 #[.slice A 16 c] w (PRet w (mixL bs)) := by
  have HC := hid (rmix_any A c bs w h)
  clear h
  go_enter Tryd.func15, Tryd.ntmps15
  go_wp2_with fail
  refine HC.out.mono ?_
  rintro e w1 ⟨v, rfl, ho, hx⟩
  obtain ⟨A1, c1, rfl, hc1, hr1, _⟩ := ho.rdc (n := 16) (mixL_length bs)
  have HH := hid (And.intro hr1 (show Ext w w1 from hx))
  clear ho hx hr1
  go_wp2_with fail
  go_ret2
  exact ⟨_, _, rfl, hc1, HH.out⟩
theorem rlayer2_bad (A : Option Addr) (n c : Nat) (which : Int) (w : World) (hn : n ≠ 16 ∨ (which ≠ 1 ∧ which ≠ 2)) : Calls Tryd.prog 17 #[.int .i64 which, .slice A n c] w (NoRet w) := by
  by_cases h : n = 16
  · have h1 : ¬ which = 1 := by omega
    have h2 : ¬ which = 2 := by omega
    have g1 : (which != 1) = true := by simpa using h1
    have g2 : (which != 2) = true := by simpa using h2
    subst h
    go_enter Tryd.func17, Tryd.ntmps17
    go_wp2
    go_ret2
    exact ⟨rfl, Ext.refl _⟩
  · have g : ((n : Int) != 16) = true := by simp; omega
    go_enter Tryd.func17, Tryd.ntmps17
    go_wp2
    go_ret2
    exact ⟨rfl, Ext.refl _⟩
theorem rlayer2_1 (A : Option Addr) (c : Nat) (bs : List UInt8) (w : World) (h : Rd w w.heap.size A 16 bs) : Calls Tryd.prog 17 #[.int .i64 1, .slice A 16 c] w (PRet w (layL 1 bs)) := by
  have HR := hid h
  clear h
  go_enter Tryd.func17, Tryd.ntmps17
  go_wp2_with fail
  refine (rboxes_any _).mono ?_
  rintro e w1 ⟨p, rfl, hb, hx1⟩
  have HX1 := hid hx1
  have HB := hid hb
  clear hx1 hb
  go_wp2_with fail
  refine (rlayer_1 p A c bs _ HB.out (HR.out.later HX1.out)).mono ?_
  rintro e w2 ⟨v, rfl, ho, hx⟩
  obtain ⟨A1, c1, rfl, hc1, hr1, _⟩ := ho.rdc (n := 16) (layL_length 1 bs)
  have HH := hid (And.intro hr1 (Ext.trans HX1.out (show Ext w1 w2 from hx)))
  clear ho hx hr1
  go_wp2_with fail
  go_ret2
  exact ⟨_, _, rfl, hc1, HH.out⟩
theorem rlayer2_2 (A : Option Addr) (c : Nat) (bs : List UInt8) (w : World) (h : Rd w w.heap.size A 16 bs) : Calls Tryd.prog 17 #[.int .i64 2, .slice A 16 c] w (PRet w (layL 2 bs)) := by
  have HR := hid h
  clear h
  go_enter Tryd.func17, Tryd.ntmps17
  go_wp2_with fail
  refine (rboxes_any _).mono ?_
  rintro e w1 ⟨p, rfl, hb, hx1⟩
  have HX1 := hid hx1
  have HB := hid hb
  clear hx1 hb
  go_wp2_with fail
  refine (rlayer_2 p A c bs _ HB.out (HR.out.later HX1.out)).mono ?_
  rintro e w2 ⟨v, rfl, ho, hx⟩
  obtain ⟨A1, c1, rfl, hc1, hr1, _⟩ := ho.rdc (n := 16) (layL_length 2 bs)
  have HH := hid (And.intro hr1 (Ext.trans HX1.out (show Ext w1 w2 from hx)))
  clear ho hx hr1
  go_wp2_with fail
  go_ret2
  exact ⟨_, _, rfl, hc1, HH.out⟩
end Go.Proofs.YtpfkcplldhdipaaDoor
