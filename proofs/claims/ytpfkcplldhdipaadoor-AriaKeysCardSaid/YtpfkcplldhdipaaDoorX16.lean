/- Walk over pass of the program; own lemmas of the verifier, no statement is proved here. -/
import Derived.Test.YtpfkcplldhdipaaDoorX15
namespace Go.Proofs.YtpfkcplldhdipaaDoor
open Go.RowKit
def passKs2 (d S i : Nat) (BI KI : List UInt8) : List Go.Proofs.YtpfkcplldhdipaaDoor.K := [.eq (.pointer (some ⟨d, 0, none⟩)), .eq (.pointer (some ⟨d, 0, none⟩)), .eq (.pointer (some ⟨d, 0, none⟩)), .eq (.int .i64 i), .eq (bv BI), .eq (.pointer (some ⟨d, S, none⟩)), .eq (.int .i64 i), .eq (.pointer (some ⟨d, S, none⟩)), .eq (.pointer (some ⟨d, S + i * 16, none⟩)), .eq (bv KI), .eq (bv (stepL i BI KI)), .any]
def passKs6 (d S r : Nat) (SB KR : List UInt8) : List Go.Proofs.YtpfkcplldhdipaaDoor.K := [.eq (bv SB), .eq (.pointer (some ⟨d, S, none⟩)), .eq (.int .i64 r), .eq (.pointer (some ⟨d, S, none⟩)), .eq (.pointer (some ⟨d, S + r * 16, none⟩)), .eq (bv KR), .eq (bv (xorL SB KR 16)), .any]
def iAt (k : Nat) (a : Act) : Nat := match a.tmps.getD k undef with | .int _ q => q.toNat | _ => 0
/-- What holds at the label. -/
def PassJ (d S r P : Nat) (b : List UInt8) (ks : Nat → List UInt8) (w : World) (a : Act) (w1 : World) : Prop :=
  ∃ (i : Nat) (u8 u9 u10 u11 u12 u13 u14 u15 u16 u17 u18 u19 u20 u21 u22 u23 u24 u25 u26 u27 u28 u29 u30 u31 u32 u33 u34 u35 : Value), a = { tmps := #[.pointer (some ⟨d, 0, none⟩), .agg (cellsOf b).toArray, .pointer (some ⟨d, S, none⟩), undef, .pointer (some ⟨P, 0, none⟩), undef, .pointer (some ⟨P + 1, 0, none⟩), .int .i64 i, u8, u9, u10, u11, u12, u13, u14, u15, u16, u17, u18, u19, u20, u21, u22, u23, u24, u25, u26, u27, u28, u29, u30, u31, u32, u33, u34, u35], defers := [] } ∧ i < r ∧ RW w1 P 0 (passB ks b i) ∧ RW w1 (P + 1) 0 z16 ∧ Ext w w1
set_option maxRecDepth 100000 in
set_option maxHeartbeats 8000000 in
theorem pass_any (d S r : Nat) (b : List UInt8) (ks : Nat → List UInt8) (w : World) (hb : b.length = 16) (ht : TB w d) (hc : w.cell? ⟨d, 1024, none⟩ = some (.int .i64 r)) (hk : w.rangeAt d S (cellsOf (FL ks (r + 1)))) (hkl : ∀ j, j < r + 1 → (ks j).length = 16) (h0 : 0 < r) (hr : r ≤ 16) (hs : Sev w) :
    Calls Tryd.prog 32 #[.pointer (some ⟨d, 0, none⟩), bv b, .pointer (some ⟨d, S, none⟩)] w fun e w' => e = .returned (bv (passL ks r b)) ∧ Ext w w' := by
  unfold bv
  have HTB0 := hid ht
  have HSV := hid hs
  have HCR := hid hc
  have HKS := hid hk
  have HKL := hid hkl
  have HDL := hid ht.lt
  have HR16 := hid hr
  have HR0 := hid h0
  have h1 := RW.new w 55 b
  have x1 := Ext.alloc w (.cells (cellsOf b).toArray 55)
  obtain ⟨W1, hW1⟩ : ∃ W1, w.alloc (.cells (cellsOf b).toArray 55) = W1 := ⟨_, rfl⟩
  have z1 : W1.heap.size = w.heap.size + 1 := by rw [← hW1]; simp
  have h2 := RW.new W1 55 z16
  have x2 := Ext.alloc W1 (.cells (cellsOf z16).toArray 55)
  obtain ⟨W2, hW2⟩ : ∃ W2, W1.alloc (.cells (cellsOf z16).toArray 55) = W2 := ⟨_, rfl⟩
  rw [hW1] at h1 x1
  rw [hW2] at h2 x2
  have h1 := h1.later (by omega) x2
  obtain ⟨P, hP⟩ : ∃ P, w.heap.size = P := ⟨_, rfl⟩
  rw [z1] at h2
  rw [hP] at h1 h2
  have HXT := hid (x1.trans x2)
  have HA := hid h1
  have HZ0 := hid h2
  have HP := hid hP
  have HW := hid (And.intro hW1 hW2)
  have HBL := hid hb
  clear hW1 hW2 z1 x1 x2 h1 h2 ht hs hc hk hkl hP hb hr h0
  go_enter Tryd.func32, Tryd.ntmps32
  go_wp2_with fail
  refine wp_scope_jumps2 0 (PassJ d S r P b ks w) (fun a _ => r - iAt 7 a) rfl ?_ ?_
  · clear HA HZ0 HXT HW
    rintro a wr ⟨i, u8, u9, u10, u11, u12, u13, u14, u15, u16, u17, u18, u19, u20, u21, u22, u23, u24, u25, u26, u27, u28, u29, u30, u31, u32, u33, u34, u35, rfl, hir, hp, hz, hx⟩
    have hbl := passB_length ks HBL.out i
    have hbk := rangeAt_blk HKS.out i (by omega) (HKL.out i (by omega))
    have hkl := HKL.out i (by omega)
    obtain ⟨BI, hBI⟩ : ∃ BI, passB ks b i = BI := ⟨_, rfl⟩
    obtain ⟨KI, hKI⟩ : ∃ KI, ks i = KI := ⟨_, rfl⟩
    rw [hBI] at hp hbl
    rw [hKI] at hbk hkl
    have HBI := hid (And.intro hBI hKI)
    have HL := hid (And.intro hbl hkl)
    have HB := hid (And.intro hp.rd (rangeAt_later hbk hx))
    have HRW := hid (And.intro hp (And.intro hz hx))
    have HTB := hid (HTB0.out.later hx)
    have HI1000 := hid (show i ≤ 1000 by have := HR16.out; omega)
    have HI17 := hid (show i < 16 by have := HR16.out; omega)
    have HIR := hid hir
    clear hp hz hx hbl hbk hkl hBI hKI
    go_wp2_with fail
    refine region_tail 11 _ mixed rfl (by kernel_rfl) (by kernel_rfl) rfl rfl rfl (kV (passKs2 d S i BI KI)) (kV_keep _) (forall_ops ⟨?_, ?_, ?_, ?_, ?_, ?_, ?_, ?_, ?_, ?_, ?_, fun h => absurd rfl h, trivial⟩) ?_
    · intro _ a w hk
      have s0 : a.tmps.getD 0 undef = .pointer (some ⟨d, 0, none⟩) := hk.was 0 (by kernel_rfl) rfl
      exact step_move rfl rfl s0 rfl
    · intro _ a w hk
      have s8 := hk.eq_ 0 8 (by kernel_rfl) rfl
      refine step_val (v := .pointer (some ⟨d, 0, none⟩)) (w' := w) rfl ?_ (Ext.refl w) rfl
      go_simp
    · intro _ a w hk
      have s9 := hk.eq_ 1 9 (by kernel_rfl) rfl
      refine step_val (v := .pointer (some ⟨d, 0, none⟩)) (w' := w) rfl ?_ (Ext.refl w) rfl
      go_simp
    · intro _ a w hk
      have s7 : a.tmps.getD 7 undef = .int .i64 i := hk.was 7 (by kernel_rfl) rfl
      exact step_move rfl rfl s7 rfl
    · intro _ a w hk
      have s4 : a.tmps.getD 4 undef = .pointer (some ⟨P, 0, none⟩) := hk.was 4 (by kernel_rfl) rfl
      exact step_val (v := bv BI) (w' := w) rfl (exec_load_mid rfl s4 (rangeAt_later HB.out.1 hk.ext) Tryd.underlying55 (size55' HL.out.1)) (Ext.refl w) rfl
    · intro _ a w hk
      have s2 : a.tmps.getD 2 undef = .pointer (some ⟨d, S, none⟩) := hk.was 2 (by kernel_rfl) rfl
      exact step_move rfl rfl s2 rfl
    · intro _ a w hk
      have s7 : a.tmps.getD 7 undef = .int .i64 i := hk.was 7 (by kernel_rfl) rfl
      exact step_move rfl rfl s7 rfl
    · intro _ a w hk
      have s13 := hk.eq_ 5 13 (by kernel_rfl) rfl
      refine step_val (v := .pointer (some ⟨d, S, none⟩)) (w' := w) rfl ?_ (Ext.refl w) rfl
      go_simp
    · intro _ a w hk
      have s15 := hk.eq_ 7 15 (by kernel_rfl) rfl
      have s14 := hk.eq_ 6 14 (by kernel_rfl) rfl
      refine step_val (v := .pointer (some ⟨d, S + i * 16, none⟩)) (w' := w) rfl ?_ (Ext.refl w) rfl
      have hi3 : (i : Int) < 17 := by have := HI17.out; omega
      go_simp
    · intro _ a w hk
      have s16 := hk.eq_ 8 16 (by kernel_rfl) rfl
      exact step_val (v := bv KI) (w' := w) rfl (exec_load_mid rfl s16 (rangeAt_later HB.out.2 hk.ext) Tryd.underlying55 (size55' HL.out.2)) (Ext.refl w) rfl
    · intro _ a w hk
      have s10 := hk.eq_ 2 10 (by kernel_rfl) rfl
      have s11 := hk.eq_ 3 11 (by kernel_rfl) rfl
      have s12 := hk.eq_ 4 12 (by kernel_rfl) rfl
      have s17 := hk.eq_ 9 17 (by kernel_rfl) rfl
      exact step_call rfl rfl (by simp only [List.map_toArray, List.map_cons, List.map_nil, Act.eval, s10, s11, s12, s17] <;> rfl) cf46 (step_any d i BI KI w HL.out.1 HL.out.2 HI1000.out (HTB.out.later hk.ext)) (fun e w1 h => retX e w1 h)
    · intro a w1 hf
      have s8 := hf.eq_ 0 8 (by kernel_rfl) rfl
      have s9 := hf.eq_ 1 9 (by kernel_rfl) rfl
      have s10 := hf.eq_ 2 10 (by kernel_rfl) rfl
      have s11 := hf.eq_ 3 11 (by kernel_rfl) rfl
      have s12 := hf.eq_ 4 12 (by kernel_rfl) rfl
      have s13 := hf.eq_ 5 13 (by kernel_rfl) rfl
      have s14 := hf.eq_ 6 14 (by kernel_rfl) rfl
      have s15 := hf.eq_ 7 15 (by kernel_rfl) rfl
      have s16 := hf.eq_ 8 16 (by kernel_rfl) rfl
      have s17 := hf.eq_ 9 17 (by kernel_rfl) rfl
      have s18 := hf.eq_ 10 18 (by kernel_rfl) rfl
      have hx := hf.ext
      have e := hf.frame
      clear hf
      simp only [regFrame, Act.put, List.setIfInBounds_toArray, List.set_cons_zero, List.set_cons_succ, s8, s9, s10, s11, s12, s13, s14, s15, s16, s17, s18] at e
      clear s8 s9 s10 s11 s12 s13 s14 s15 s16 s17 s18
      subst e
      have hp := HRW.out.1.later (by rw [HL.out.1]; omega) hx
      have hz := HRW.out.2.1.later (by rw [z16_length]; omega) hx
      have hp2 := hp.store0 (stepL i BI KI) (by rw [stepL_length, HL.out.1])
      have hz2 := hz.apart P 0 (cellsOf (stepL i BI KI)) (by omega)
      have hx2 := below_setCells (B := w.heap.size) (b := P) (a := w) (by have := HP.out; omega) (cellsOf (stepL i BI KI)) 0 w1 (Ext.trans HRW.out.2.2 hx)
      refine wp_store_arr 55 (.tmp 4) (.tmp 18) rfl rfl P 0 (stepL i BI KI) rfl rfl (by rw [stepL_length]; have := hp.wr; rw [HL.out.1] at this; exact this) (size55' (stepL_length _ _ _)) ?_
      obtain ⟨W7, hW7⟩ : ∃ W7, w1.setCells P 0 (cellsOf (stepL i BI KI)) = W7 := ⟨_, rfl⟩
      rw [hW7] at hp2 hz2 hx2 ⊢
      obtain ⟨SB, hSB⟩ : ∃ SB, stepL i BI KI = SB := ⟨_, rfl⟩
      have hSBl : SB.length = 16 := by rw [← hSB]; exact stepL_length _ _ _
      rw [hSB] at hp2
      have HSB := hid hSB
      have HL7 := hid hSBl
      have HQ7 := hid (And.intro hp2 (And.intro hz2 hx2))
      have hcr := (Below.cell hx2 (p := ⟨d, 1024, none⟩) HDL.out).trans HCR.out
      have HRD := hid hp2.rd
      have HSZ := hid (size55' hSBl)
      clear hx hp hz hp2 hz2 hx2 hW7 hSBl hSB HRW HB
      obtain ⟨q, hq⟩ : ∃ q, i + 1 = q := ⟨_, rfl⟩
      have hqi : (i : Int) + 1 = (q : Int) := by omega
      have hqr : q ≤ 17 := by have := HI17.out; omega
      by_cases hlt : q < r
      · have HC := hid (mixed_any SB W7 HL7.out (HSV.out.later HQ7.out.2.2))
        have hqlt : (q : Int) < (r : Int) := by omega
        go_wp2_with (refine wpList_ld rfl 55 (.tmp 4) rfl P 0 rfl SB HRD.out Tryd.underlying55 HSZ.out ?_)
        refine HC.out.mono ?_
        rintro e w8 ⟨rfl, hx8⟩
        have hp8 := HQ7.out.1.later (by rw [HL7.out]; omega) hx8
        have hz8 := (HQ7.out.2.1.later (by rw [z16_length]; omega) hx8).apart P 0 (cellsOf (mixL SB)) (by omega)
        have hs8 := hp8.store0 (mixL SB) (by rw [mixL_length, HL7.out])
        have hx9 := below_setCells (B := w.heap.size) (b := P) (a := w) (by have := HP.out; omega) (cellsOf (mixL SB)) 0 w8 (Ext.trans HQ7.out.2.2 hx8)
        have HTH := hid (show w8.there P 0 (mixL SB).length by rw [mixL_length]; have := hp8.wr; rw [HL7.out] at this; exact this)
        have HSM := hid (size55' (mixL_length SB))
        have hpb : mixL SB = passB ks b q := by rw [← hq, passB, HBI.out.1, HBI.out.2, HSB.out]
        rw [hpb] at hs8 hz8 hx9
        have HN := hid (And.intro hs8 (And.intro hz8 hx9))
        have HPB := hid hpb
        clear hx8 hp8 hz8 hs8 hx9 hpb HC HRD HQ7
        go_wp2_with (refine wpList_st rfl 55 (.tmp 4) (.tmp 28) rfl P 0 (mixL SB) rfl rfl HTH.out HSM.out ?_)
        rw [HPB.out]
        go_step3
        (try simp only [Exit.jump])
        refine ⟨rfl, ⟨q, _, _, _, _, _, _, _, _, _, _, _, _, _, _, _, _, _, _, _, _, _, _, _, _, _, _, _, _, rfl, by omega, HN.out⟩, ?_⟩
        show r - q < r - i
        have := HIR.out
        omega
      · obtain rfl : q = r := by have := HIR.out; omega
        have hnlt : ¬ ((q : Int) < (q : Int)) := by omega
        have hbk := rangeAt_blk HKS.out q (by omega) (HKL.out q (by omega))
        obtain ⟨KR, hKR⟩ : ∃ KR, ks q = KR := ⟨_, rfl⟩
        have hKRl : KR.length = 16 := by rw [← hKR]; exact HKL.out q (by omega)
        rw [hKR] at hbk
        have HL6 := hid (And.intro HL7.out hKRl)
        have HB6 := hid (And.intro HRD.out (rangeAt_later hbk HQ7.out.2.2))
        have HZ := hid HQ7.out.2.1
        have HX6 := hid HQ7.out.2.2
        have HR17 := hid (show q < 17 by have := HI17.out; have := HR16.out; omega)
        have HRES := hid (show xorL SB KR 16 = passL ks q b by rw [passL, show q - 1 = i by omega, HBI.out.1, HBI.out.2, HSB.out, hKR])
        clear hbk hKR hKRl HRD HQ7
        go_wp2_with fail
        refine region_tail 7 _ mixed rfl (by kernel_rfl) (by kernel_rfl) rfl rfl rfl (kV (passKs6 d S q SB KR)) (kV_keep _) (forall_ops ⟨?_, ?_, ?_, ?_, ?_, ?_, ?_, fun h => absurd rfl h, trivial⟩) ?_
        · intro _ a w hk
          have s4 : a.tmps.getD 4 undef = .pointer (some ⟨P, 0, none⟩) := hk.was 4 (by kernel_rfl) rfl
          exact step_val (v := bv SB) (w' := w) rfl (exec_load_mid rfl s4 (rangeAt_later HB6.out.1 hk.ext) Tryd.underlying55 (size55' HL6.out.1)) (Ext.refl w) rfl
        · intro _ a w hk
          have s2 : a.tmps.getD 2 undef = .pointer (some ⟨d, S, none⟩) := hk.was 2 (by kernel_rfl) rfl
          exact step_move rfl rfl s2 rfl
        · intro _ a w hk
          have s7 : a.tmps.getD 7 undef = .int .i64 q := hk.was 7 (by kernel_rfl) rfl
          exact step_move rfl rfl s7 rfl
        · intro _ a w hk
          have s30 := hk.eq_ 1 30 (by kernel_rfl) rfl
          refine step_val (v := .pointer (some ⟨d, S, none⟩)) (w' := w) rfl ?_ (Ext.refl w) rfl
          go_simp
        · intro _ a w hk
          have s32 := hk.eq_ 3 32 (by kernel_rfl) rfl
          have s31 := hk.eq_ 2 31 (by kernel_rfl) rfl
          refine step_val (v := .pointer (some ⟨d, S + q * 16, none⟩)) (w' := w) rfl ?_ (Ext.refl w) rfl
          have hi3 : (q : Int) < 17 := by have := HR17.out; omega
          go_simp
        · intro _ a w hk
          have s33 := hk.eq_ 4 33 (by kernel_rfl) rfl
          exact step_val (v := bv KR) (w' := w) rfl (exec_load_mid rfl s33 (rangeAt_later HB6.out.2 hk.ext) Tryd.underlying55 (size55' HL6.out.2)) (Ext.refl w) rfl
        · intro _ a w hk
          have s29 := hk.eq_ 0 29 (by kernel_rfl) rfl
          have s34 := hk.eq_ 5 34 (by kernel_rfl) rfl
          exact step_call rfl rfl (by simp only [List.map_toArray, List.map_cons, List.map_nil, Act.eval, s29, s34] <;> rfl) cf36 (xored_any SB KR w HL6.out.1 HL6.out.2) (fun e w1 h => retX e w1 h)
        · intro a w1 hf
          have s29 := hf.eq_ 0 29 (by kernel_rfl) rfl
          have s30 := hf.eq_ 1 30 (by kernel_rfl) rfl
          have s31 := hf.eq_ 2 31 (by kernel_rfl) rfl
          have s32 := hf.eq_ 3 32 (by kernel_rfl) rfl
          have s33 := hf.eq_ 4 33 (by kernel_rfl) rfl
          have s34 := hf.eq_ 5 34 (by kernel_rfl) rfl
          have s35 := hf.eq_ 6 35 (by kernel_rfl) rfl
          have hx := hf.ext
          have e := hf.frame
          clear hf
          simp only [regFrame, Act.put, List.setIfInBounds_toArray, List.set_cons_zero, List.set_cons_succ, s29, s30, s31, s32, s33, s34, s35] at e
          clear s29 s30 s31 s32 s33 s34 s35
          subst e
          have hz := HZ.out.later (by rw [z16_length]; omega) hx
          have hs := hz.store0 (xorL SB KR 16) (by rw [xorL_length, z16_length])
          have hxx := below_setCells (B := w.heap.size) (b := P + 1) (a := w) (by have := HP.out; omega) (cellsOf (xorL SB KR 16)) 0 w1 (Ext.trans HX6.out hx)
          have HS := hid hs.rd
          have HXX := hid hxx
          refine wp_store_arr 55 (.tmp 6) (.tmp 35) rfl rfl (P + 1) 0 (xorL SB KR 16) rfl rfl (by rw [xorL_length]; have := hz.wr; rw [z16_length] at this; exact this) (size55' (xorL_length _ _ _)) ?_
          clear hx hz hs hxx
          go_wp2_with fail
          (try simp only [Exit.jump])
          refine ret_mid rfl rfl (P + 1) (xorL SB KR 16) rfl HS.out Tryd.underlying55 (size55' (xorL_length _ _ _)) ⟨by rw [HRES.out]; rfl, HXX.out⟩
  · intro hfirst
    rw [← cells_z16, HW.out.1, HW.out.2, HP.out]
    refine wp_seq ?_
    generalize hK : (Exit.then _ _) = KK
    go_wp2_with fail
    subst hK
    simp only [Exit.then]
    refine wp_seq ?_
    go_step3
    simp only [Exit.then]
    refine hfirst.out _ _ ⟨0, _, _, _, _, _, _, _, _, _, _, _, _, _, _, _, _, _, _, _, _, _, _, _, _, _, _, _, _, rfl, HR0.out, HA.out, HZ0.out, HXT.out⟩
end Go.Proofs.YtpfkcplldhdipaaDoor
