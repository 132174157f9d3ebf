/- Walk over the laws' known answer; own lemmas of the verifier, no statement is proved here. -/
import Derived.Test.YtpfkcplldhdipaaDoorX17
import Derived.Test.YtpfkcplldhdipaaDoorP2
namespace Go.Proofs.YtpfkcplldhdipaaDoor
open Go.RowKit
theorem made16_run (w : World) : (Instr.makeSlice 22 (.int .i64 (16 : Int)) (.int .i64 (16 : Int))).run Tryd.prog w = .ok (.slice (some ⟨w.heap.size, 0, none⟩) 16 16) (w.alloc (.cells (madeCells #[Value.int .u8 0] 16) 5)) := made_run 16 w (by omega)
theorem made_byt (w : World) : Go.Proofs.YtpfkcplldhdipaaDoor.K.holds (.byt 16 k0) (w.alloc (.cells (madeCells #[Value.int .u8 0] 16) 5)) (.slice (some ⟨w.heap.size, 0, none⟩) 16 16) := by
  obtain ⟨A, c, h1, h2, _⟩ := (made_own 16 w (by omega)).rdn (n := 16) rfl
  exact ⟨A, c, h1, h2⟩
theorem k0_len : okLen k0.length := .inl rfl
def knK : List Go.Proofs.YtpfkcplldhdipaaDoor.K := [.eq (.int .i64 0), .eq (.bool true), .eq (.bool true), .eq (.int .i64 0), .eq (.bool true), .eq (.bool true), .eq (.bool true), .byt 16 (cL), .eq (.int .i64 16), .eq (.bool true), .eq (.bool true), .eq (.bool true), .byt 16 (cL), .eq (.string (str (cL))), .byt 16 (k0), .eq (.string (str (k0))), .eq (.bool true), .eq (.bool true), .eq (.bool true), .byt 16 (k0), .eq (.string (str (k0))), .byt 16 (k0), .eq (.string (str (k0))), .eq (.bool true), .eq (.bool true), .eq (.bool true)]
set_option maxRecDepth 100000 in
set_option maxHeartbeats 4000000 in
theorem known_any (w : World) (hG : GK w) : Calls Tryd.prog 9 #[] w (RetTrue w) := by
  have HG := hid hG
  have HNE := hid (str_ne cL_ne)
  clear hG
  have hth := tA_out
  have hba := tB_out
  rw [dL_eq] at hba
  rw [show (12 : Nat) = keyN k0 - 1 by rw [keyN0]] at hth hba
  have HTH := hid hth
  have HBA := hid hba
  clear hth hba
  go_enter Tryd.func9, Tryd.ntmps9
  go_wp2_with fail
  refine (new_bad none 0 0 _ (by unfold okLen; omega)).mono ?_
  rintro e w1 ⟨rfl, hx1⟩
  have HX1 := hid hx1
  clear hx1
  go_wp2_with (at_make; refine wpL_make rfl (.const (.int .i64 16)) (.const (.int .i64 16)) 22 rfl Tryd.underlying22 Tryd.info5 .i64 _ 16 rfl rfl rfl (by omega) w1.heap.size (Nat.le_refl _) ?_; intro w2 hown2 hb2 _)
  obtain ⟨A2, c2, e2, hc2, hm2, hr2⟩ := hown2.rdm (n := 16) rfl
  have HX2 := hid (Ext.trans HX1.out (show Ext w1 w2 from hb2))
  have HR2 := hid (show Rd w2 w2.heap.size A2 16 k0 from hr2)
  rw [e2]
  clear hown2 hb2 hr2 e2 HX1
  refine (new_any A2 16 c2 k0 _ HR2.out (.inl rfl) hc2 (HG.out.later HX2.out)).mono ?_
  rintro e w3 ⟨d, rfl, _, h2, hx3⟩
  have HX3 := hid (Ext.trans HX2.out hx3)
  have HS3 := hid h2
  clear h2 hx3 HX2 HR2 hc2 hm2
  go_wp2_with (at_make; refine wpL_make rfl (.const (.int .i64 16)) (.const (.int .i64 16)) 22 rfl Tryd.underlying22 Tryd.info5 .i64 _ 16 rfl rfl rfl (by omega) w3.heap.size (Nat.le_refl _) ?_; intro w4 hown4 hb4 _)
  obtain ⟨A4, c4, e4, hc4, hm4, hr4⟩ := hown4.rdm (n := 16) rfl
  have HX4 := hid (Ext.trans HX3.out (show Ext w3 w4 from hb4))
  have HS4 := hid (HS3.out.later (show Ext w3 w4 from hb4))
  have HR4 := hid (show Rd w4 w4.heap.size A4 16 k0 from hr4)
  rw [e4]
  clear hown4 hb4 hr4 e4 HX3 HS3
  refine (block_false d A4 c4 k0 k0 _ HS4.out HR4.out k0_len (HG.out.later HX4.out).sev).mono ?_
  rw [HTH.out]
  rintro e w5 ⟨A5, c5, rfl, hc5, hr5, hx5⟩
  have HX5 := hid (Ext.trans HX4.out hx5)
  have HS5 := hid (HS4.out.later hx5)
  have HR5a := hid hr5
  clear hx5 hr5 HX4 HS4 HR4 hc4 hm4
  go_wp2_with fail
  refine (block_true d A5 c5 k0 cL _ HS5.out HR5a.out k0_len (HG.out.later HX5.out).sev).mono ?_
  rw [HBA.out]
  rintro e w5b ⟨A7, c7, rfl, hc7, hr7, hx7⟩
  have HX7 := hid (Ext.trans HX5.out hx7)
  have HR7 := hid hr7
  have HR5 := hid (HR5a.out.later hx7)
  clear hx7 hr7 HX5 HS5 HR5a hc5 hc7
  go_wp2_with fail
  refine region_inv mixed rfl (by kernel_rfl) (kV knK) (kV_keep _) (forall_ops ⟨?_, ?_, ?_, ?_, ?_, ?_, ?_, ?_, ?_, ?_, ?_, ?_, ?_, ?_, ?_, ?_, ?_, ?_, ?_, ?_, ?_, ?_, ?_, ?_, ?_, ?_, trivial⟩) ?_
  · intro a w hk
    have s6 : a.tmps.getD 6 undef = .int .i64 0 := hk.was 6 (by kernel_rfl) rfl
    exact step_move rfl rfl s6 rfl
  · intro a w hk
    have s40 := hk.eq_ 0 40 (by kernel_rfl) rfl
    refine step_val (v := .bool true) (w' := w) rfl ?_ (Ext.refl w) rfl
    go_simp
  · intro a w hk
    have s41 := hk.eq_ 1 41 (by kernel_rfl) rfl
    exact step_move rfl rfl s41 rfl
  · intro a w hk
    refine hk.run 2 42 true true rfl (by kernel_rfl) rfl fun hw => ?_
    have s8 : a.tmps.getD 8 undef = .int .i64 0 := hk.was 8 (by kernel_rfl) rfl
    exact step_move hw rfl s8 rfl
  · intro a w hk
    refine hk.run 2 42 true true rfl (by kernel_rfl) rfl fun hw => ?_
    have s43 := hk.eq_ 3 43 (by kernel_rfl) rfl
    refine step_val (v := .bool true) (w' := w) hw ?_ (Ext.refl w) rfl
    go_simp
  · intro a w hk
    have s42 := hk.eq_ 2 42 (by kernel_rfl) rfl
    have s44 := hk.eq_ 4 44 (by kernel_rfl) rfl
    exact step_pick (b := true) rfl rfl s42 s44 rfl
  · intro a w hk
    have s45 := hk.eq_ 5 45 (by kernel_rfl) rfl
    exact step_move rfl rfl s45 rfl
  · intro a w hk
    refine hk.run 6 46 true true rfl (by kernel_rfl) rfl fun hw => ?_
    have s5 : a.tmps.getD 5 undef = .slice A5 16 c5 := hk.was 5 (by kernel_rfl) rfl
    have r5 := (HR5.out).later hk.ext
    exact step_move hw rfl s5 ⟨_, _, rfl, r5⟩
  · intro a w hk
    refine hk.run 6 46 true true rfl (by kernel_rfl) rfl fun hw => ?_
    obtain ⟨A47, c47, s47, r47⟩ := hk.byt_ 7 47 (by kernel_rfl) rfl
    refine step_val (v := .int .i64 16) (w' := w) hw ?_ (Ext.refl w) rfl
    go_simp
  · intro a w hk
    refine hk.run 6 46 true true rfl (by kernel_rfl) rfl fun hw => ?_
    have s48 := hk.eq_ 8 48 (by kernel_rfl) rfl
    refine step_val (v := .bool true) (w' := w) hw ?_ (Ext.refl w) rfl
    go_simp
  · intro a w hk
    have s46 := hk.eq_ 6 46 (by kernel_rfl) rfl
    have s49 := hk.eq_ 9 49 (by kernel_rfl) rfl
    exact step_pick (b := true) rfl rfl s46 s49 rfl
  · intro a w hk
    have s50 := hk.eq_ 10 50 (by kernel_rfl) rfl
    exact step_move rfl rfl s50 rfl
  · intro a w hk
    refine hk.run 11 51 true true rfl (by kernel_rfl) rfl fun hw => ?_
    have s5 : a.tmps.getD 5 undef = .slice A5 16 c5 := hk.was 5 (by kernel_rfl) rfl
    have r5 := (HR5.out).later hk.ext
    exact step_move hw rfl s5 ⟨_, _, rfl, r5⟩
  · intro a w hk
    refine hk.run 11 51 true true rfl (by kernel_rfl) rfl fun hw => ?_
    obtain ⟨A52, c52, s52, r52⟩ := hk.byt_ 12 52 (by kernel_rfl) rfl
    exact step_conv hw rfl s52 (strq r52) rfl
  · intro a w hk
    refine hk.run 11 51 true true rfl (by kernel_rfl) rfl fun hw => ?_
    have s7 : a.tmps.getD 7 undef = .slice A7 16 c7 := hk.was 7 (by kernel_rfl) rfl
    have r7 := (HR7.out).later hk.ext
    exact step_move hw rfl s7 ⟨_, _, rfl, r7⟩
  · intro a w hk
    refine hk.run 11 51 true true rfl (by kernel_rfl) rfl fun hw => ?_
    obtain ⟨A54, c54, s54, r54⟩ := hk.byt_ 14 54 (by kernel_rfl) rfl
    exact step_conv hw rfl s54 (strq r54) rfl
  · intro a w hk
    refine hk.run 11 51 true true rfl (by kernel_rfl) rfl fun hw => ?_
    have s53 := hk.eq_ 13 53 (by kernel_rfl) rfl
    have s55 := hk.eq_ 15 55 (by kernel_rfl) rfl
    refine step_val (v := .bool true) (w' := w) hw ?_ (Ext.refl w) rfl
    have hne := HNE.out
    go_simp
  · intro a w hk
    have s51 := hk.eq_ 11 51 (by kernel_rfl) rfl
    have s56 := hk.eq_ 16 56 (by kernel_rfl) rfl
    exact step_pick (b := true) rfl rfl s51 s56 rfl
  · intro a w hk
    have s57 := hk.eq_ 17 57 (by kernel_rfl) rfl
    exact step_move rfl rfl s57 rfl
  · intro a w hk
    refine hk.run 18 58 true true rfl (by kernel_rfl) rfl fun hw => ?_
    have s7 : a.tmps.getD 7 undef = .slice A7 16 c7 := hk.was 7 (by kernel_rfl) rfl
    have r7 := (HR7.out).later hk.ext
    exact step_move hw rfl s7 ⟨_, _, rfl, r7⟩
  · intro a w hk
    refine hk.run 18 58 true true rfl (by kernel_rfl) rfl fun hw => ?_
    obtain ⟨A59, c59, s59, r59⟩ := hk.byt_ 19 59 (by kernel_rfl) rfl
    exact step_conv hw rfl s59 (strq r59) rfl
  · intro a w hk
    refine hk.run 18 58 true true rfl (by kernel_rfl) rfl fun hw => ?_
    refine step_val (v := .slice (some ⟨w.heap.size, 0, none⟩) 16 16) (w' := w.alloc (.cells (madeCells #[Value.int .u8 0] 16) 5)) hw ?_ (Ext.alloc _ _) (made_byt w)
    simp only [execOp, Act.eval]
    rw [Sem.run_bind, made16_run w]
    rfl
  · intro a w hk
    refine hk.run 18 58 true true rfl (by kernel_rfl) rfl fun hw => ?_
    obtain ⟨A61, c61, s61, r61⟩ := hk.byt_ 21 61 (by kernel_rfl) rfl
    exact step_conv hw rfl s61 (strq r61) rfl
  · intro a w hk
    refine hk.run 18 58 true true rfl (by kernel_rfl) rfl fun hw => ?_
    have s60 := hk.eq_ 20 60 (by kernel_rfl) rfl
    have s62 := hk.eq_ 22 62 (by kernel_rfl) rfl
    refine step_val (v := .bool true) (w' := w) hw ?_ (Ext.refl w) rfl
    go_simp
  · intro a w hk
    have s58 := hk.eq_ 18 58 (by kernel_rfl) rfl
    have s63 := hk.eq_ 23 63 (by kernel_rfl) rfl
    exact step_pick (b := true) rfl rfl s58 s63 rfl
  · intro a w hk
    have s64 := hk.eq_ 24 64 (by kernel_rfl) rfl
    exact step_assign rfl rfl s64 rfl
  · intro a w6 hf
    have s40 := hf.eq_ 0 40 (by kernel_rfl) rfl
    have s41 := hf.eq_ 1 41 (by kernel_rfl) rfl
    have s42 := hf.eq_ 2 42 (by kernel_rfl) rfl
    have s43 := hf.eq_ 3 43 (by kernel_rfl) rfl
    have s44 := hf.eq_ 4 44 (by kernel_rfl) rfl
    have s45 := hf.eq_ 5 45 (by kernel_rfl) rfl
    have s46 := hf.eq_ 6 46 (by kernel_rfl) rfl
    obtain ⟨A47, c47, s47, r47⟩ := hf.val 7 47 (by kernel_rfl) rfl
    have s48 := hf.eq_ 8 48 (by kernel_rfl) rfl
    have s49 := hf.eq_ 9 49 (by kernel_rfl) rfl
    have s50 := hf.eq_ 10 50 (by kernel_rfl) rfl
    have s51 := hf.eq_ 11 51 (by kernel_rfl) rfl
    obtain ⟨A52, c52, s52, r52⟩ := hf.val 12 52 (by kernel_rfl) rfl
    have s53 := hf.eq_ 13 53 (by kernel_rfl) rfl
    obtain ⟨A54, c54, s54, r54⟩ := hf.val 14 54 (by kernel_rfl) rfl
    have s55 := hf.eq_ 15 55 (by kernel_rfl) rfl
    have s56 := hf.eq_ 16 56 (by kernel_rfl) rfl
    have s57 := hf.eq_ 17 57 (by kernel_rfl) rfl
    have s58 := hf.eq_ 18 58 (by kernel_rfl) rfl
    obtain ⟨A59, c59, s59, r59⟩ := hf.val 19 59 (by kernel_rfl) rfl
    have s60 := hf.eq_ 20 60 (by kernel_rfl) rfl
    obtain ⟨A61, c61, s61, r61⟩ := hf.val 21 61 (by kernel_rfl) rfl
    have s62 := hf.eq_ 22 62 (by kernel_rfl) rfl
    have s63 := hf.eq_ 23 63 (by kernel_rfl) rfl
    have s64 := hf.eq_ 24 64 (by kernel_rfl) rfl
    have s0 := hf.eq_ 25 0 (by kernel_rfl) rfl
    have hx := hf.ext
    have e := hf.frame
    clear hf
    simp only [regFrame, Act.put, List.setIfInBounds_toArray, List.set_cons_zero, List.set_cons_succ, s40, s41, s42, s43, s44, s45, s46, s47, s48, s49, s50, s51, s52, s53, s54, s55, s56, s57, s58, s59, s60, s61, s62, s63, s64, s0] at e
    clear s40 s41 s42 s43 s44 s45 s46 s47 s48 s49 s50 s51 s52 s53 s54 s55 s56 s57 s58 s59 s60 s61 s62 s63 s64 s0
    subst e
    have HX6 := hid (Ext.trans HX7.out hx)
    clear hx
    go_wp2_with fail
    go_ret
    exact ⟨rfl, HX6.out⟩
end Go.Proofs.YtpfkcplldhdipaaDoor
