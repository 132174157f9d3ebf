/- The law on tables that are made, walked; own text of the verifier. -/
import Derived.Test.YtcmhaomnabdopaaDoorX7
import Derived.Deep.DeepCutAuto
import Derived.Deep.CutBlock
namespace Go.Proofs.YtcmhaomnabdopaaDoor
open Go.RowKit
def makesKs (k m c : Nat) (r : List UInt8) : List K := [.eq (.int .i64 k), .eq (.int .i64 m), .eq (.agg (cellsOf r).toArray), .eq (.int .u8 c), .byt 256 (mkL k m r c), .eq (.string (str (mkL k m r c))), .eq (.int .i64 k), .eq (.int .i64 m), .eq (.agg (cellsOf r).toArray), .eq (.int .u8 c), .byt 256 (mkL k m r c), .eq (.string (str (mkL k m r c))), .eq (.bool true), .eq (.bool true)]
set_option maxRecDepth 100000 in
set_option maxHeartbeats 8000000 in
theorem makes_walk (a0 a1 : Int) (a2 : Option Addr) (len2 cap2 : Nat) (z2 : List Int) (a3 : Int) (w : World) (_w0 : (Lit.int .i64 a0).wf = true) (w1 : (Lit.int .i64 a1).wf = true) (w2 : IsRow .u8 w a2 len2 cap2 z2) (w3 : (Lit.int .u8 a3).wf = true) (ho : Odd w) :
    Calls Tryd.prog 6 #[.int .i64 a0, .int .i64 a1, .slice a2 len2 cap2, .int .u8 a3] w fun e w' => e = .returned (.bool true) ∧ Below w.heap.size w w' := by
  obtain ⟨c, rfl, hc⟩ := byte_arg w3
  obtain ⟨bs, hrb, _, _⟩ := w2.rdc
  have hwf := wf_i64 w1
  clear _w0 w1 w2 w3
  go_enter Tryd.func6, Tryd.ntmps6
  go_wp2_with fail
  refine (known_any _ ho).mono ?_
  rintro e wk ⟨rfl, hxk⟩
  have HXK := hid hxk
  have HRB := hid (hrb.later hxk)
  have HO1 := hid (ho.later hxk)
  clear hxk ho hrb
  obtain ⟨k, hk⟩ : ∃ k : Nat, a0 % 1001 = k := ⟨(a0 % 1001).toNat, by omega⟩
  have hk1 : k ≤ 1000 := by omega
  have HK := hid hk
  clear hk
  go_wp2_with fail
  refine (within_any _ _ _ (by omega) (by omega)).mono ?_
  rintro e w' ⟨rfl, rfl⟩
  rw [HK.out]
  go_wp2_with fail
  refine (within_any _ _ _ (by omega) (by omega)).mono ?_
  rintro e w' ⟨rfl, rfl⟩
  obtain ⟨m0, hm0, hM0⟩ := rest_arg a1
  have hm1 : a1 % 256 = (m0 : Int) - 256 := by omega
  rw [hm1]
  have HM0 := hid hM0
  have hml := hM0.lo
  have hmh := hM0.hi
  have hmm : (256 : Int) + ((m0 : Int) - 256) = m0 := by omega
  clear hm0 hM0 hm1
  go_wp2_with fail
  clear hmm
  refine (within_any _ _ _ (by omega) (by omega)).mono ?_
  rintro e w' ⟨rfl, rfl⟩
  go_upto_if 21 with fail
  go_cut [10] (fun v wx => ∃ m : Nat, v = .int .i64 m ∧ IsRest m ∧ Ext wk wx)
  case first =>
    by_cases heven : a1 % 2 = 0
    · go_wp2_with fail
      refine (mod_any _ _).mono ?_
      rintro e wm ⟨rfl, hxm⟩
      have HXM := hid hxm
      clear hxm
      go_wp2_with fail
      go_meet
      exact ⟨_, rfl, (modF_field _).toIsRest, HXM.out⟩
    · have hne : (a1 % 2 == 0) = false := by simp; omega
      go_wp2_with fail
      go_meet
      exact ⟨_, rfl, HM0.out, Ext.refl _⟩
  case rest =>
    obtain ⟨m, rfl, hm, hxc⟩ := hcut
    have HM := hid hm
    have hml2 := hm.lo
    have hmh2 := hm.hi
    have HXC := hid (Ext.trans HXK.out hxc)
    have HRB2 := hid (HRB.out.later hxc)
    have HO2 := hid (HO1.out.later hxc)
    clear hm hxc
    rename_i hK
    apply hK
    clear hK
    go_wp2_with fail
    refine (rows_any _ _ _ _ _ HRB2.out).mono ?_
    rintro e wr ⟨rfl, hxr⟩
    have hr8 := rowsL_length bs
    obtain ⟨r, hr⟩ : ∃ r, rowsL bs = r := ⟨_, rfl⟩
    rw [hr] at hr8 ⊢
    have HXR := hid (Ext.trans HXC.out hxr)
    have HO3 := hid (HO2.out.later hxr)
    clear hr hxr
    go_wp2_with (refine wpList_store_row rfl 33 (.tmp 11) (.tmp 26) rfl wr.heap.size (cellsOf r).toArray rfl rfl 33 _ (heap_alloc_new wr _) (size33' hr8) (by simp [cellsOf, hr8]) (cells_all _) ?_)
    have hA := setRow_heap (wr.alloc (.cells (cellsOf (List.replicate 8 0)).toArray 33)) wr.heap.size _ (cellsOf r).toArray 33 (0, 0) (heap_alloc_new wr _)
    have hX := below_setRow (Ext.alloc wr (.cells (cellsOf (List.replicate 8 0)).toArray 33)) (g := wr.heap.size) (Nat.le_refl _) (cellsOf r).toArray
    rw [cells_zero8] at hA hX
    obtain ⟨W3, hW3⟩ : ∃ W3, (wr.alloc (.cells #[.int .u8 0, .int .u8 0, .int .u8 0, .int .u8 0, .int .u8 0, .int .u8 0, .int .u8 0, .int .u8 0] 33)).setRow wr.heap.size (cellsOf r).toArray = W3 := ⟨_, rfl⟩
    rw [hW3] at hA hX ⊢
    have HX3 := hid (Ext.trans HXR.out hX)
    have hO := hid (HO3.out.later hX)
    obtain ⟨G, hG⟩ : ∃ G, wr.heap.size = G := ⟨_, rfl⟩
    rw [hG] at hA ⊢
    have HA := hid (show Arr8 W3 G r from hA)
    clear hW3 hA hX hG
    refine region_inv mixed rfl (by kernel_rfl) (kV (makesKs k m c r)) (kV_keep _) (forall_ops ⟨?_, ?_, ?_, ?_, ?_, ?_, ?_, ?_, ?_, ?_, ?_, ?_, ?_, ?_, trivial⟩) ?_
    · intro a w hk
      have s9 : a.tmps.getD 9 undef = .int .i64 k := hk.was 9 (by kernel_rfl) rfl
      exact step_move rfl rfl s9 rfl
    · intro a w hk
      have s10 : a.tmps.getD 10 undef = .int .i64 m := hk.was 10 (by kernel_rfl) rfl
      exact step_move rfl rfl s10 rfl
    · intro a w hk
      have s11 : a.tmps.getD 11 undef = .pointer (some ⟨G, 0, none⟩) := hk.was 11 (by kernel_rfl) rfl
      exact step_val (v := .agg (cellsOf r).toArray) (w' := w) rfl (exec_load33 rfl s11 (HA.out.later hk.ext) hr8) (Ext.refl w) rfl
    · intro a w hk
      have s3 : a.tmps.getD 3 undef = .int .u8 c := hk.was 3 (by kernel_rfl) rfl
      exact step_move rfl rfl s3 rfl
    · intro a w hk
      have s27 := hk.eq_ 0 27 (by kernel_rfl) rfl
      have s28 := hk.eq_ 1 28 (by kernel_rfl) rfl
      have s29 := hk.eq_ 2 29 (by kernel_rfl) rfl
      have s30 := hk.eq_ 3 30 (by kernel_rfl) rfl
      exact step_call rfl rfl (by simp only [List.map_toArray, List.map_cons, List.map_nil, Act.eval, s27, s28, s29, s30] <;> rfl) cf23 (make_any k m c r w hr8 (by omega) HM.out hc (hO.out.later hk.ext)) (RetB.k (mkL_length _ _ _ _))
    · intro a w hk
      obtain ⟨A31, c31, s31, r31⟩ := hk.byt_ 4 31 (by kernel_rfl) rfl
      exact step_conv rfl rfl s31 (strq r31) rfl
    · intro a w hk
      have s9 : a.tmps.getD 9 undef = .int .i64 k := hk.was 9 (by kernel_rfl) rfl
      exact step_move rfl rfl s9 rfl
    · intro a w hk
      have s10 : a.tmps.getD 10 undef = .int .i64 m := hk.was 10 (by kernel_rfl) rfl
      exact step_move rfl rfl s10 rfl
    · intro a w hk
      have s11 : a.tmps.getD 11 undef = .pointer (some ⟨G, 0, none⟩) := hk.was 11 (by kernel_rfl) rfl
      exact step_val (v := .agg (cellsOf r).toArray) (w' := w) rfl (exec_load33 rfl s11 (HA.out.later hk.ext) hr8) (Ext.refl w) rfl
    · intro a w hk
      have s3 : a.tmps.getD 3 undef = .int .u8 c := hk.was 3 (by kernel_rfl) rfl
      exact step_move rfl rfl s3 rfl
    · intro a w hk
      have s33 := hk.eq_ 6 33 (by kernel_rfl) rfl
      have s34 := hk.eq_ 7 34 (by kernel_rfl) rfl
      have s35 := hk.eq_ 8 35 (by kernel_rfl) rfl
      have s36 := hk.eq_ 9 36 (by kernel_rfl) rfl
      exact step_call rfl rfl (by simp only [List.map_toArray, List.map_cons, List.map_nil, Act.eval, s33, s34, s35, s36] <;> rfl) cf24 (rmake_any k m c r w hr8 (by omega) HM.out hc) (RetB.k (mkL_length _ _ _ _))
    · intro a w hk
      obtain ⟨A37, c37, s37, r37⟩ := hk.byt_ 10 37 (by kernel_rfl) rfl
      exact step_conv rfl rfl s37 (strq r37) rfl
    · intro a w hk
      have s32 := hk.eq_ 5 32 (by kernel_rfl) rfl
      have s38 := hk.eq_ 11 38 (by kernel_rfl) rfl
      refine step_val (v := .bool true) (w' := w) rfl ?_ (Ext.refl w) rfl
      go_simp
    · intro a w hk
      have s39 := hk.eq_ 12 39 (by kernel_rfl) rfl
      exact step_assign rfl rfl s39 rfl
    · intro a w4 hf
      have s27 := hf.eq_ 0 27 (by kernel_rfl) rfl
      have s28 := hf.eq_ 1 28 (by kernel_rfl) rfl
      have s29 := hf.eq_ 2 29 (by kernel_rfl) rfl
      have s30 := hf.eq_ 3 30 (by kernel_rfl) rfl
      obtain ⟨A31, c31, s31, r31⟩ := hf.val 4 31 (by kernel_rfl) rfl
      have s32 := hf.eq_ 5 32 (by kernel_rfl) rfl
      have s33 := hf.eq_ 6 33 (by kernel_rfl) rfl
      have s34 := hf.eq_ 7 34 (by kernel_rfl) rfl
      have s35 := hf.eq_ 8 35 (by kernel_rfl) rfl
      have s36 := hf.eq_ 9 36 (by kernel_rfl) rfl
      obtain ⟨A37, c37, s37, r37⟩ := hf.val 10 37 (by kernel_rfl) rfl
      have s38 := hf.eq_ 11 38 (by kernel_rfl) rfl
      have s39 := hf.eq_ 12 39 (by kernel_rfl) rfl
      have s8 := hf.eq_ 13 8 (by kernel_rfl) rfl
      have hx := hf.ext
      have e := hf.frame
      clear hf
      simp only [regFrame, Act.put, List.setIfInBounds_toArray, List.set_cons_zero, List.set_cons_succ, s27, s28, s29, s30, s31, s32, s33, s34, s35, s36, s37, s38, s39, s8] at e
      clear s27 s28 s29 s30 s31 s32 s33 s34 s35 s36 s37 s38 s39 s8
      subst e
      have HX4 := hid (Ext.trans HX3.out hx)
      clear hx
      go_wp2_with fail
      go_ret
      exact ⟨rfl, HX4.out⟩
end Go.Proofs.YtcmhaomnabdopaaDoor
