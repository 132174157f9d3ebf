/- The law on known tables, walked; own text of the verifier. -/
import Derived.Test.YtcmhaomnabdopaaDoorX7
import Derived.Deep.DeepCutAuto
import Derived.Deep.CutBlock
namespace Go.Proofs.YtcmhaomnabdopaaDoor
open Go.RowKit
theorem lit1 : (cellsOf knownR1).toArray = #[.int .u8 241, .int .u8 227, .int .u8 199, .int .u8 143, .int .u8 31, .int .u8 62, .int .u8 124, .int .u8 248] := rfl
theorem lit2 : (cellsOf knownR2).toArray = #[.int .u8 122, .int .u8 188, .int .u8 235, .int .u8 185, .int .u8 52, .int .u8 129, .int .u8 186, .int .u8 203] := rfl
theorem six_true (j : Nat) (h : j < 6) : some ((List.replicate 6 (Value.bool true)).getD j undef) = some (.bool true) := by
  simp only [List.getD, List.getElem?_replicate, h, if_true, Option.getD_some]
theorem make1 (w : World) (ho : Odd w) : Calls Tryd.prog 23 #[.int .i64 254, .int .i64 283, .agg #[.int .u8 241, .int .u8 227, .int .u8 199, .int .u8 143, .int .u8 31, .int .u8 62, .int .u8 124, .int .u8 248], .int .u8 99] w (RetB w (mkL 254 283 knownR1 99)) := by
  have h := make_any 254 283 99 knownR1 w rfl (by omega) rest283 (by omega) ho
  rw [lit1] at h
  exact h
theorem make2 (w : World) (ho : Odd w) : Calls Tryd.prog 23 #[.int .i64 247, .int .i64 283, .agg #[.int .u8 122, .int .u8 188, .int .u8 235, .int .u8 185, .int .u8 52, .int .u8 129, .int .u8 186, .int .u8 203], .int .u8 226] w (RetB w (mkL 247 283 knownR2 226)) := by
  have h := make_any 247 283 226 knownR2 w rfl (by omega) rest283 (by omega) ho
  rw [lit2] at h
  exact h
def knownKs : List K := [.byt 256 ((mkL 254 283 knownR1 99)), .ptr (.int .u8 99), .eq (.int .u8 99), .eq (.bool true), .byt 256 ((mkL 254 283 knownR1 99)), .ptr (.int .u8 124), .eq (.int .u8 124), .eq (.bool true), .byt 256 ((mkL 247 283 knownR2 226)), .ptr (.int .u8 226), .eq (.int .u8 226), .eq (.bool true), .byt 256 ((mkL 247 283 knownR2 226)), .ptr (.int .u8 78), .eq (.int .u8 78), .eq (.bool true), .byt 256 ((mkL 254 283 knownR1 99)), .eq (.bool true), .byt 256 ((mkL 247 283 knownR2 226)), .eq (.bool true), .row 6 (List.replicate 6 (Value.bool true)), .row 6 (List.replicate 6 (Value.bool true))]
set_option maxRecDepth 100000 in
set_option maxHeartbeats 8000000 in
theorem known_walk (a0 : Int) (_w0 : (Lit.int .i64 a0).wf = true) (w : World) (ho : Odd w) :
    Calls Tryd.prog 9 #[.int .i64 a0] w fun e w' => e = .returned (.bool true) ∧ Below w.heap.size w w' := by
  go_enter Tryd.func9, Tryd.ntmps9
  go_wp2_with fail
  refine (known_any _ ho).mono ?_
  rintro e wk ⟨rfl, hxk⟩
  have HXK := hid hxk
  have HO1 := hid (ho.later hxk)
  clear hxk ho
  go_wp2_with fail
  refine (make1 _ HO1.out).mono ?_
  rintro e ws ⟨v, rfl, hos, hxs⟩
  obtain ⟨A3, c3, rfl, hrs, _⟩ := hos.rdn (n := 256) (mkL_length _ _ _ _)
  have HXS := hid (Ext.trans HXK.out hxs)
  have HO2 := hid (HO1.out.later hxs)
  have HS0 := hid hrs
  clear hxs hrs hos
  go_wp2_with fail
  refine (make2 _ HO2.out).mono ?_
  rintro e wt ⟨v, rfl, hot, hxt⟩
  obtain ⟨A4, c4, rfl, hrt, _⟩ := hot.rdn (n := 256) (mkL_length _ _ _ _)
  have HXT := hid (Ext.trans HXS.out hxt)
  have HS := hid (HS0.out.later hxt)
  have HT := hid hrt
  clear hxt hrt hot
  go_upto_region 7 with fail
  refine region_inv mixed rfl (by kernel_rfl) (kV knownKs) (kV_keep _) (forall_ops ⟨?_, ?_, ?_, ?_, ?_, ?_, ?_, ?_, ?_, ?_, ?_, ?_, ?_, ?_, ?_, ?_, ?_, ?_, ?_, ?_, ?_, ?_, trivial⟩) ?_
  · intro a w hk
    have s3 : a.tmps.getD 3 undef = .slice A3 256 c3 := hk.was 3 (by kernel_rfl) rfl
    have r3 := (HS.out).later hk.ext
    exact step_move rfl rfl s3 ⟨_, _, rfl, r3⟩
  · intro a w hk
    obtain ⟨A20, c20, s20, r20⟩ := hk.byt_ 0 20 (by kernel_rfl) rfl
    obtain ⟨b, o, rfl, hb, hc⟩ := r20.at_ (by omega)
    have hc1 := hc 0 (by omega)
    rw [byteAt_nb, k10] at hc1
    refine step_val (v := .pointer (some ⟨b, o + 0, none⟩)) (w' := w) rfl ?_ (Ext.refl w) ⟨_, rfl, hb, hc1⟩
    go_simp
  · intro a w hk
    obtain ⟨p21, s21, h21, g21⟩ := hk.val 1 21 (by kernel_rfl) rfl
    refine step_val (v := .int .u8 99) (w' := w) rfl ?_ (Ext.refl w) rfl
    go_simp
  · intro a w hk
    have s22 := hk.eq_ 2 22 (by kernel_rfl) rfl
    refine step_val (v := .bool true) (w' := w) rfl ?_ (Ext.refl w) rfl
    go_simp
  · intro a w hk
    have s3 : a.tmps.getD 3 undef = .slice A3 256 c3 := hk.was 3 (by kernel_rfl) rfl
    have r3 := (HS.out).later hk.ext
    exact step_move rfl rfl s3 ⟨_, _, rfl, r3⟩
  · intro a w hk
    obtain ⟨A24, c24, s24, r24⟩ := hk.byt_ 4 24 (by kernel_rfl) rfl
    obtain ⟨b, o, rfl, hb, hc⟩ := r24.at_ (by omega)
    have hc1 := hc 1 (by omega)
    rw [byteAt_nb, k11] at hc1
    refine step_val (v := .pointer (some ⟨b, o + 1, none⟩)) (w' := w) rfl ?_ (Ext.refl w) ⟨_, rfl, hb, hc1⟩
    go_simp
  · intro a w hk
    obtain ⟨p25, s25, h25, g25⟩ := hk.val 5 25 (by kernel_rfl) rfl
    refine step_val (v := .int .u8 124) (w' := w) rfl ?_ (Ext.refl w) rfl
    go_simp
  · intro a w hk
    have s26 := hk.eq_ 6 26 (by kernel_rfl) rfl
    refine step_val (v := .bool true) (w' := w) rfl ?_ (Ext.refl w) rfl
    go_simp
  · intro a w hk
    have s4 : a.tmps.getD 4 undef = .slice A4 256 c4 := hk.was 4 (by kernel_rfl) rfl
    have r4 := (HT.out).later hk.ext
    exact step_move rfl rfl s4 ⟨_, _, rfl, r4⟩
  · intro a w hk
    obtain ⟨A28, c28, s28, r28⟩ := hk.byt_ 8 28 (by kernel_rfl) rfl
    obtain ⟨b, o, rfl, hb, hc⟩ := r28.at_ (by omega)
    have hc1 := hc 0 (by omega)
    rw [byteAt_nb, k20] at hc1
    refine step_val (v := .pointer (some ⟨b, o + 0, none⟩)) (w' := w) rfl ?_ (Ext.refl w) ⟨_, rfl, hb, hc1⟩
    go_simp
  · intro a w hk
    obtain ⟨p29, s29, h29, g29⟩ := hk.val 9 29 (by kernel_rfl) rfl
    refine step_val (v := .int .u8 226) (w' := w) rfl ?_ (Ext.refl w) rfl
    go_simp
  · intro a w hk
    have s30 := hk.eq_ 10 30 (by kernel_rfl) rfl
    refine step_val (v := .bool true) (w' := w) rfl ?_ (Ext.refl w) rfl
    go_simp
  · intro a w hk
    have s4 : a.tmps.getD 4 undef = .slice A4 256 c4 := hk.was 4 (by kernel_rfl) rfl
    have r4 := (HT.out).later hk.ext
    exact step_move rfl rfl s4 ⟨_, _, rfl, r4⟩
  · intro a w hk
    obtain ⟨A32, c32, s32, r32⟩ := hk.byt_ 12 32 (by kernel_rfl) rfl
    obtain ⟨b, o, rfl, hb, hc⟩ := r32.at_ (by omega)
    have hc1 := hc 1 (by omega)
    rw [byteAt_nb, k21] at hc1
    refine step_val (v := .pointer (some ⟨b, o + 1, none⟩)) (w' := w) rfl ?_ (Ext.refl w) ⟨_, rfl, hb, hc1⟩
    go_simp
  · intro a w hk
    obtain ⟨p33, s33, h33, g33⟩ := hk.val 13 33 (by kernel_rfl) rfl
    refine step_val (v := .int .u8 78) (w' := w) rfl ?_ (Ext.refl w) rfl
    go_simp
  · intro a w hk
    have s34 := hk.eq_ 14 34 (by kernel_rfl) rfl
    refine step_val (v := .bool true) (w' := w) rfl ?_ (Ext.refl w) rfl
    go_simp
  · intro a w hk
    have s3 : a.tmps.getD 3 undef = .slice A3 256 c3 := hk.was 3 (by kernel_rfl) rfl
    have r3 := (HS.out).later hk.ext
    exact step_move rfl rfl s3 ⟨_, _, rfl, r3⟩
  · intro a w hk
    obtain ⟨A36, c36, s36, r36⟩ := hk.byt_ 16 36 (by kernel_rfl) rfl
    exact step_call rfl rfl (by simp only [List.map_toArray, List.map_cons, List.map_nil, Act.eval, s36] <;> rfl) cf17 (is_tab A36 256 c36 (mkL 254 283 knownR1 99) w r36 known1) (fun e w' h => retX e w' h)
  · intro a w hk
    have s4 : a.tmps.getD 4 undef = .slice A4 256 c4 := hk.was 4 (by kernel_rfl) rfl
    have r4 := (HT.out).later hk.ext
    exact step_move rfl rfl s4 ⟨_, _, rfl, r4⟩
  · intro a w hk
    obtain ⟨A38, c38, s38, r38⟩ := hk.byt_ 18 38 (by kernel_rfl) rfl
    exact step_call rfl rfl (by simp only [List.map_toArray, List.map_cons, List.map_nil, Act.eval, s38] <;> rfl) cf17 (is_tab A38 256 c38 (mkL 247 283 knownR2 226) w r38 known2) (fun e w' h => retX e w' h)
  · intro a w hk
    have s23 := hk.eq_ 3 23 (by kernel_rfl) rfl
    have s27 := hk.eq_ 7 27 (by kernel_rfl) rfl
    have s31 := hk.eq_ 11 31 (by kernel_rfl) rfl
    have s35 := hk.eq_ 15 35 (by kernel_rfl) rfl
    have s37 := hk.eq_ 17 37 (by kernel_rfl) rfl
    have s39 := hk.eq_ 19 39 (by kernel_rfl) rfl
    refine step_val (v := .slice (some ⟨w.heap.size, 0, none⟩) 6 6) (w' := w.alloc (.cells #[.bool true, .bool true, .bool true, .bool true, .bool true, .bool true] 4)) rfl ?_ (Ext.alloc _ _) ⟨_, rfl, by simp, fun k hk => ?_⟩
    · simp only [execOp, List.map_toArray, List.map_cons, List.map_nil, Act.eval, s23, s27, s31, s35, s37, s39]
      go_simp
    · match k, hk with
      | 0, _ | 1, _ | 2, _ | 3, _ | 4, _ | 5, _ => simp
  · intro a w hk
    obtain ⟨b40, s40, h40, g40⟩ := hk.val 20 40 (by kernel_rfl) rfl
    exact step_assign rfl rfl s40 ⟨_, rfl, h40, g40⟩
  · intro a w1 hf
    obtain ⟨A20, c20, s20, r20⟩ := hf.val 0 20 (by kernel_rfl) rfl
    have s22 := hf.eq_ 2 22 (by kernel_rfl) rfl
    have s23 := hf.eq_ 3 23 (by kernel_rfl) rfl
    obtain ⟨A24, c24, s24, r24⟩ := hf.val 4 24 (by kernel_rfl) rfl
    have s26 := hf.eq_ 6 26 (by kernel_rfl) rfl
    have s27 := hf.eq_ 7 27 (by kernel_rfl) rfl
    obtain ⟨A28, c28, s28, r28⟩ := hf.val 8 28 (by kernel_rfl) rfl
    have s30 := hf.eq_ 10 30 (by kernel_rfl) rfl
    have s31 := hf.eq_ 11 31 (by kernel_rfl) rfl
    obtain ⟨A32, c32, s32, r32⟩ := hf.val 12 32 (by kernel_rfl) rfl
    have s34 := hf.eq_ 14 34 (by kernel_rfl) rfl
    have s35 := hf.eq_ 15 35 (by kernel_rfl) rfl
    obtain ⟨A36, c36, s36, r36⟩ := hf.val 16 36 (by kernel_rfl) rfl
    have s37 := hf.eq_ 17 37 (by kernel_rfl) rfl
    obtain ⟨A38, c38, s38, r38⟩ := hf.val 18 38 (by kernel_rfl) rfl
    have s39 := hf.eq_ 19 39 (by kernel_rfl) rfl
    obtain ⟨b40, s40, h40, g40⟩ := hf.val 20 40 (by kernel_rfl) rfl
    obtain ⟨b5, s5, h5, g5⟩ := hf.val 21 5 (by kernel_rfl) rfl
    have hx := hf.ext
    have e := hf.frame
    clear hf
    simp only [regFrame, Act.put, List.setIfInBounds_toArray, List.set_cons_zero, List.set_cons_succ, s20, s22, s23, s24, s26, s27, s28, s30, s31, s32, s34, s35, s36, s37, s38, s39, s40, s5] at e
    generalize a.tmps.getD 21 undef = u21 at e
    generalize a.tmps.getD 25 undef = u25 at e
    generalize a.tmps.getD 29 undef = u29 at e
    generalize a.tmps.getD 33 undef = u33 at e
    clear s20 s22 s23 s24 s26 s27 s28 s30 s31 s32 s34 s35 s36 s37 s38 s39 s40 s5
    subst e
    have HX1 := hid (Ext.trans HXT.out hx)
    clear hx
    obtain ⟨j, hj⟩ : ∃ j : Nat, a0 % 6 = j := ⟨(a0 % 6).toNat, by omega⟩
    have hj6 : j < 6 := by omega
    go_wp2_with fail
    refine (within_any _ _ _ (by omega) (by omega)).mono ?_
    rintro e w3 ⟨rfl, rfl⟩
    rw [hj]
    clear hj
    have hc : w1.cell? ⟨b5, j, none⟩ = some (.bool true) := by rw [g5 j hj6]; exact six_true j hj6
    clear g5 g40
    go_wp2_with fail
    go_ret
    exact ⟨rfl, HX1.out⟩
end Go.Proofs.YtcmhaomnabdopaaDoor
