/- The law on known answers, walked; own text of the verifier. -/
import Derived.Test.YtllkbfhkpnncgaaCf
namespace Go.Proofs.Ytllkbfhkpnncgaa
open Go.RowKit
theorem kn1 : rol32 2147483649 (1 % 32 : Int).toNat = 3 := by kernel_rfl
theorem kn2 : rol32 1 (-1 % 32 : Int).toNat = 2147483648 := by kernel_rfl
theorem kn3 : rol8 1 (7 % 8 : Int).toNat = 128 := by kernel_rfl
theorem kn4 : rol8 150 (4 % 8 : Int).toNat = 105 := by kernel_rfl
theorem kn5 : turnL [18, 52] 2 (tf 4 2) (ts 4) = [35, 65] := by kernel_rfl
theorem kn6 : incB [255, 255] = [0, 0] := by kernel_rfl
theorem kn7 : incB [0, 1, 255] = [0, 2, 0] := by kernel_rfl
theorem kn8 : putL32 16909060 = [4, 3, 2, 1] := by kernel_rfl
theorem kn9 : le32N [1, 2, 3, 4] 4 = 67305985 := by unfold le32N; rw [if_pos rfl, le4]; rfl
theorem kn10 : be64N [0, 0, 0, 0, 0, 0, 1, 0] 8 = 256 := by unfold be64N; rw [if_pos rfl, be8]; rfl
theorem ten_true (j : Nat) (h : j < 10) : some ((List.replicate 10 (Value.bool true)).getD j undef) = some (.bool true) := by
  simp only [List.getD, List.getElem?_replicate, h, if_true, Option.getD_some]
def knownKs : List K := [.eq (.int .u32 67305985), .eq (.bool true), .eq (.int .u64 256), .eq (.bool true), .eq (.bool false), .eq (.bool true), .eq (.bool true), .eq (.bool false), .eq (.bool true), .eq (.bool true), .eq (.int .u32 3), .eq (.bool true), .eq (.int .u32 2147483648), .eq (.bool true), .eq (.int .u8 128), .eq (.bool true), .eq (.bool true), .eq (.int .u8 105), .eq (.bool true), .eq (.bool true), .byt 2 ([18, 52]), .byt 2 ([35, 65]), .eq (.string (str ([35, 65]))), .eq (.bool true), .byt 2 ([255, 255]), .byt 2 ([0, 0]), .eq (.string (str ([0, 0]))), .eq (.bool true), .eq (.bool true), .byt 3 ([0, 1, 255]), .byt 3 ([0, 2, 0]), .eq (.string (str ([0, 2, 0]))), .eq (.bool true), .eq (.bool true), .byt 0 ([]), .eq (.int .i64 0), .eq (.bool true), .byt 4 ([4, 3, 2, 1]), .eq (.string (str ([4, 3, 2, 1]))), .eq (.bool true), .row 10 (List.replicate 10 (Value.bool true)), .row 10 (List.replicate 10 (Value.bool true))]
set_option maxRecDepth 100000 in
set_option maxHeartbeats 2000000 in
theorem knownlaw_walk (a0 : Int) (_w0 : (Lit.int .i64 a0).wf = true) (w : World) :
    Calls Try.prog 12 #[.int .i64 a0] w fun e w' => e = .returned (.bool true) ∧ Below w.heap.size w w' := by
  go_enter Try.func12, Try.ntmps12
  go_wp2_with fail
  refine (known_any _).mono ?_
  rintro e w1 ⟨rfl, hb1⟩
  go_wp2_with fail
  refine (le32_any _ 4 _ _ [1, 2, 3, 4] _ (lit_rd w1 [1, 2, 3, 4] _ 4 rfl rfl (by unfold maxLen; omega)) (by omega)).mono ?_
  rintro e w2 ⟨rfl, hw⟩
  have hb2 : Ext w1 w2 := by rw [← hw]; exact Ext.alloc _ _
  rw [kn9, show isLen 4 4 = true from rfl]
  clear hw
  go_wp2_with fail
  refine (be64_any _ 8 _ _ [0, 0, 0, 0, 0, 0, 1, 0] _ (lit_rd w2 [0, 0, 0, 0, 0, 0, 1, 0] _ 8 rfl rfl (by unfold maxLen; omega)) (by omega)).mono ?_
  rintro e w3 ⟨rfl, hw⟩
  have hb3 : Ext w2 w3 := by rw [← hw]; exact Ext.alloc _ _
  rw [kn10, show isLen 8 8 = true from rfl]
  clear hw
  go_wp2_with fail
  refine (be32_any _ 3 _ _ [1, 2, 3] _ (lit_rd w3 [1, 2, 3] _ 3 rfl rfl (by unfold maxLen; omega)) (by omega)).mono ?_
  rintro e w4 ⟨rfl, hw⟩
  have hb4 : Ext w3 w4 := by rw [← hw]; exact Ext.alloc _ _
  rw [show be32N [1, 2, 3] 3 = 0 from rfl, show isLen 4 3 = false from rfl]
  clear hw
  go_wp2_with fail
  refine (xor_ne _ _ _ _ _ _ _ (by omega)).mono ?_
  rintro e W ⟨rfl, hw⟩
  have hb5 : Ext w4 W := by rw [← hw]; exact Ext.alloc _ _
  have HB := hid (Ext.trans hb1 (Ext.trans hb2 (Ext.trans hb3 (Ext.trans hb4 hb5))))
  clear hw hb1 hb2 hb3 hb4 hb5
  go_wp2_with fail
  refine region_inv mixed rfl (by kernel_rfl) (kV knownKs) (kV_keep _) (forall_ops ⟨?_, ?_, ?_, ?_, ?_, ?_, ?_, ?_, ?_, ?_, ?_, ?_, ?_, ?_, ?_, ?_, ?_, ?_, ?_, ?_, ?_, ?_, ?_, ?_, ?_, ?_, ?_, ?_, ?_, ?_, ?_, ?_, ?_, ?_, ?_, ?_, ?_, ?_, ?_, ?_, ?_, ?_, trivial⟩) ?_
  · intro a w hk
    have s3 : a.tmps.getD 3 undef = .int .u32 67305985 := hk.was 3 (by kernel_rfl) rfl
    exact step_move rfl rfl s3 rfl
  · intro a w hk
    have s34 := hk.eq_ 0 34 (by kernel_rfl) rfl
    refine step_val (v := .bool true) (w' := w) rfl ?_ (Ext.refl w) rfl
    go_simp
  · intro a w hk
    have s5 : a.tmps.getD 5 undef = .int .u64 256 := hk.was 5 (by kernel_rfl) rfl
    exact step_move rfl rfl s5 rfl
  · intro a w hk
    have s36 := hk.eq_ 2 36 (by kernel_rfl) rfl
    refine step_val (v := .bool true) (w' := w) rfl ?_ (Ext.refl w) rfl
    go_simp
  · intro a w hk
    have s8 : a.tmps.getD 8 undef = .bool false := hk.was 8 (by kernel_rfl) rfl
    exact step_move rfl rfl s8 rfl
  · intro a w hk
    have s38 := hk.eq_ 4 38 (by kernel_rfl) rfl
    refine step_val (v := .bool true) (w' := w) rfl ?_ (Ext.refl w) rfl
    go_simp
  · intro a w hk
    have s39 := hk.eq_ 5 39 (by kernel_rfl) rfl
    exact step_move rfl rfl s39 rfl
  · intro a w hk
    refine hk.run 6 40 true true rfl (by kernel_rfl) rfl fun hw => ?_
    have s10 : a.tmps.getD 10 undef = .bool false := hk.was 10 (by kernel_rfl) rfl
    exact step_move hw rfl s10 rfl
  · intro a w hk
    refine hk.run 6 40 true true rfl (by kernel_rfl) rfl fun hw => ?_
    have s41 := hk.eq_ 7 41 (by kernel_rfl) rfl
    refine step_val (v := .bool true) (w' := w) hw ?_ (Ext.refl w) rfl
    go_simp
  · intro a w hk
    have s40 := hk.eq_ 6 40 (by kernel_rfl) rfl
    have s42 := hk.eq_ 8 42 (by kernel_rfl) rfl
    exact step_pick (b := true) rfl rfl s40 s42 rfl
  · intro a w hk
    exact step_call rfl rfl (by simp only [List.map_toArray, List.map_cons, List.map_nil, Act.eval] <;> rfl) cf28 (rl32 2147483649 1 w) (fun e w' h => retE e w' ⟨h.1.trans (by rw [kn1]), h.2⟩)
  · intro a w hk
    have s44 := hk.eq_ 10 44 (by kernel_rfl) rfl
    refine step_val (v := .bool true) (w' := w) rfl ?_ (Ext.refl w) rfl
    go_simp
  · intro a w hk
    exact step_call rfl rfl (by simp only [List.map_toArray, List.map_cons, List.map_nil, Act.eval] <;> rfl) cf28 (rl32 1 (-1) w) (fun e w' h => retE e w' ⟨h.1.trans (by rw [kn2]), h.2⟩)
  · intro a w hk
    have s46 := hk.eq_ 12 46 (by kernel_rfl) rfl
    refine step_val (v := .bool true) (w' := w) rfl ?_ (Ext.refl w) rfl
    go_simp
  · intro a w hk
    exact step_call rfl rfl (by simp only [List.map_toArray, List.map_cons, List.map_nil, Act.eval] <;> rfl) cf30 (rl8 1 7 w) (fun e w' h => retE e w' ⟨h.1.trans (by rw [kn3]), h.2⟩)
  · intro a w hk
    have s48 := hk.eq_ 14 48 (by kernel_rfl) rfl
    refine step_val (v := .bool true) (w' := w) rfl ?_ (Ext.refl w) rfl
    go_simp
  · intro a w hk
    have s49 := hk.eq_ 15 49 (by kernel_rfl) rfl
    exact step_move rfl rfl s49 rfl
  · intro a w hk
    refine hk.run 16 50 true true rfl (by kernel_rfl) rfl fun hw => ?_
    exact step_call hw rfl (by simp only [List.map_toArray, List.map_cons, List.map_nil, Act.eval] <;> rfl) cf30 (rl8 150 4 w) (fun e w' h => retE e w' ⟨h.1.trans (by rw [kn4]), h.2⟩)
  · intro a w hk
    refine hk.run 16 50 true true rfl (by kernel_rfl) rfl fun hw => ?_
    have s51 := hk.eq_ 17 51 (by kernel_rfl) rfl
    refine step_val (v := .bool true) (w' := w) hw ?_ (Ext.refl w) rfl
    go_simp
  · intro a w hk
    have s50 := hk.eq_ 16 50 (by kernel_rfl) rfl
    have s52 := hk.eq_ 18 52 (by kernel_rfl) rfl
    exact step_pick (b := true) rfl rfl s50 s52 rfl
  · intro a w hk
    refine step_build (n := 2) (cs := #[Value.int .u8 18, Value.int .u8 52]) rfl rfl (by simp only [List.map_toArray, List.map_cons, List.map_nil, Act.eval] <;> rfl) ?_ rfl rfl (by unfold maxLen; omega) (fun _ _ h => h)
    go_simp
  · intro a w hk
    obtain ⟨A54, c54, s54, r54⟩ := hk.byt_ 20 54 (by kernel_rfl) rfl
    exact step_call rfl rfl (by simp only [List.map_toArray, List.map_cons, List.map_nil, Act.eval, s54] <;> rfl) cf32 (turn_all _ _ _ 4 _ w r54 (by omega)) (fun e w' h => RetB.k rfl e w' (RetB.mono_eq kn5 h))
  · intro a w hk
    obtain ⟨A55, c55, s55, r55⟩ := hk.byt_ 21 55 (by kernel_rfl) rfl
    exact step_conv rfl rfl s55 (strq r55) rfl
  · intro a w hk
    have s56 := hk.eq_ 22 56 (by kernel_rfl) rfl
    refine step_val (v := .bool true) (w' := w) rfl ?_ (Ext.refl w) rfl
    have kt : ((str [35, 65]).toList == [35, 65]) = true := by rw [str_toList]; rfl
    have kt2 := kt
    go_simp
  · intro a w hk
    refine step_build (n := 2) (cs := #[Value.int .u8 255, Value.int .u8 255]) rfl rfl (by simp only [List.map_toArray, List.map_cons, List.map_nil, Act.eval] <;> rfl) ?_ rfl rfl (by unfold maxLen; omega) (fun _ _ h => h)
    go_simp
  · intro a w hk
    obtain ⟨A58, c58, s58, r58⟩ := hk.byt_ 24 58 (by kernel_rfl) rfl
    exact step_call rfl rfl (by simp only [List.map_toArray, List.map_cons, List.map_nil, Act.eval, s58] <;> rfl) cf36 (inc_any _ _ _ _ w r58 (by omega)) (fun e w' h => RetB.k rfl e w' (RetB.mono_eq kn6 h))
  · intro a w hk
    obtain ⟨A59, c59, s59, r59⟩ := hk.byt_ 25 59 (by kernel_rfl) rfl
    exact step_conv rfl rfl s59 (strq r59) rfl
  · intro a w hk
    have s60 := hk.eq_ 26 60 (by kernel_rfl) rfl
    refine step_val (v := .bool true) (w' := w) rfl ?_ (Ext.refl w) rfl
    have kt : ((str [0, 0]).toList == [0, 0]) = true := by rw [str_toList]; rfl
    have kt2 := kt
    go_simp
  · intro a w hk
    have s61 := hk.eq_ 27 61 (by kernel_rfl) rfl
    exact step_move rfl rfl s61 rfl
  · intro a w hk
    refine hk.run 28 62 true true rfl (by kernel_rfl) rfl fun hw => ?_
    refine step_build (n := 3) (cs := #[Value.int .u8 0, Value.int .u8 1, Value.int .u8 255]) hw rfl (by simp only [List.map_toArray, List.map_cons, List.map_nil, Act.eval] <;> rfl) ?_ rfl rfl (by unfold maxLen; omega) (fun _ _ h => h)
    go_simp
  · intro a w hk
    refine hk.run 28 62 true true rfl (by kernel_rfl) rfl fun hw => ?_
    obtain ⟨A63, c63, s63, r63⟩ := hk.byt_ 29 63 (by kernel_rfl) rfl
    exact step_call hw rfl (by simp only [List.map_toArray, List.map_cons, List.map_nil, Act.eval, s63] <;> rfl) cf36 (inc_any _ _ _ _ w r63 (by omega)) (fun e w' h => RetB.k rfl e w' (RetB.mono_eq kn7 h))
  · intro a w hk
    refine hk.run 28 62 true true rfl (by kernel_rfl) rfl fun hw => ?_
    obtain ⟨A64, c64, s64, r64⟩ := hk.byt_ 30 64 (by kernel_rfl) rfl
    exact step_conv hw rfl s64 (strq r64) rfl
  · intro a w hk
    refine hk.run 28 62 true true rfl (by kernel_rfl) rfl fun hw => ?_
    have s65 := hk.eq_ 31 65 (by kernel_rfl) rfl
    refine step_val (v := .bool true) (w' := w) hw ?_ (Ext.refl w) rfl
    have kt : ((str [0, 2, 0]).toList == [0, 2, 0]) = true := by rw [str_toList]; rfl
    have kt2 := kt
    go_simp
  · intro a w hk
    have s62 := hk.eq_ 28 62 (by kernel_rfl) rfl
    have s66 := hk.eq_ 32 66 (by kernel_rfl) rfl
    exact step_pick (b := true) rfl rfl s62 s66 rfl
  · intro a w hk
    exact step_call rfl rfl (by simp only [List.map_toArray, List.map_cons, List.map_nil, Act.eval] <;> rfl) cf36 (inc_any none 0 0 [] w (Rd.nil _ _ _) (by omega)) (fun e w' h => RetB.k rfl e w' (RetB.mono_eq incB_nil h))
  · intro a w hk
    obtain ⟨A68, c68, s68, r68⟩ := hk.byt_ 34 68 (by kernel_rfl) rfl
    refine step_val (v := .int .i64 0) (w' := w) rfl ?_ (Ext.refl w) rfl
    go_simp
  · intro a w hk
    have s69 := hk.eq_ 35 69 (by kernel_rfl) rfl
    refine step_val (v := .bool true) (w' := w) rfl ?_ (Ext.refl w) rfl
    go_simp
  · intro a w hk
    exact step_call rfl rfl (by simp only [List.map_toArray, List.map_cons, List.map_nil, Act.eval] <;> rfl) cf22 (putLe32_any 16909060 w (by omega) (by omega)) (fun e w' h => RetB.k rfl e w' (RetB.mono_eq kn8 h))
  · intro a w hk
    obtain ⟨A71, c71, s71, r71⟩ := hk.byt_ 37 71 (by kernel_rfl) rfl
    exact step_conv rfl rfl s71 (strq r71) rfl
  · intro a w hk
    have s72 := hk.eq_ 38 72 (by kernel_rfl) rfl
    refine step_val (v := .bool true) (w' := w) rfl ?_ (Ext.refl w) rfl
    have kt : ((str [4, 3, 2, 1]).toList == [4, 3, 2, 1]) = true := by rw [str_toList]; rfl
    have kt2 := kt
    go_simp
  · intro a w hk
    have s35 := hk.eq_ 1 35 (by kernel_rfl) rfl
    have s37 := hk.eq_ 3 37 (by kernel_rfl) rfl
    have s43 := hk.eq_ 9 43 (by kernel_rfl) rfl
    have s45 := hk.eq_ 11 45 (by kernel_rfl) rfl
    have s47 := hk.eq_ 13 47 (by kernel_rfl) rfl
    have s53 := hk.eq_ 19 53 (by kernel_rfl) rfl
    have s57 := hk.eq_ 23 57 (by kernel_rfl) rfl
    have s67 := hk.eq_ 33 67 (by kernel_rfl) rfl
    have s70 := hk.eq_ 36 70 (by kernel_rfl) rfl
    have s73 := hk.eq_ 39 73 (by kernel_rfl) rfl
    refine step_val (v := .slice (some ⟨w.heap.size, 0, none⟩) 10 10) (w' := w.alloc (.cells #[.bool true, .bool true, .bool true, .bool true, .bool true, .bool true, .bool true, .bool true, .bool true, .bool true] 4)) rfl ?_ (Ext.alloc _ _) ⟨_, rfl, by simp, fun k hk => ?_⟩
    · have e : ∀ vs, (Instr.buildSlice 50 10 vs).run Try.prog w = (Instr.buildSlice 50 10 vs).run Try.prog w := fun _ => rfl
      simp only [execOp, List.map_toArray, List.map_cons, List.map_nil, Act.eval, s35, s37, s43, s45, s47, s53, s57, s67, s70, s73]
      go_simp
    · match k, hk with
      | 0, _ | 1, _ | 2, _ | 3, _ | 4, _ | 5, _ | 6, _ | 7, _ | 8, _ | 9, _ => simp
  · intro a w hk
    obtain ⟨b74, s74, h74, g74⟩ := hk.val 40 74 (by kernel_rfl) rfl
    exact step_assign rfl rfl s74 ⟨_, rfl, h74, g74⟩
  · intro a w1 hf
    have s34 := hf.eq_ 0 34 (by kernel_rfl) rfl
    have s35 := hf.eq_ 1 35 (by kernel_rfl) rfl
    have s36 := hf.eq_ 2 36 (by kernel_rfl) rfl
    have s37 := hf.eq_ 3 37 (by kernel_rfl) rfl
    have s38 := hf.eq_ 4 38 (by kernel_rfl) rfl
    have s39 := hf.eq_ 5 39 (by kernel_rfl) rfl
    have s40 := hf.eq_ 6 40 (by kernel_rfl) rfl
    have s41 := hf.eq_ 7 41 (by kernel_rfl) rfl
    have s42 := hf.eq_ 8 42 (by kernel_rfl) rfl
    have s43 := hf.eq_ 9 43 (by kernel_rfl) rfl
    have s44 := hf.eq_ 10 44 (by kernel_rfl) rfl
    have s45 := hf.eq_ 11 45 (by kernel_rfl) rfl
    have s46 := hf.eq_ 12 46 (by kernel_rfl) rfl
    have s47 := hf.eq_ 13 47 (by kernel_rfl) rfl
    have s48 := hf.eq_ 14 48 (by kernel_rfl) rfl
    have s49 := hf.eq_ 15 49 (by kernel_rfl) rfl
    have s50 := hf.eq_ 16 50 (by kernel_rfl) rfl
    have s51 := hf.eq_ 17 51 (by kernel_rfl) rfl
    have s52 := hf.eq_ 18 52 (by kernel_rfl) rfl
    have s53 := hf.eq_ 19 53 (by kernel_rfl) rfl
    obtain ⟨A54, c54, s54, r54⟩ := hf.val 20 54 (by kernel_rfl) rfl
    obtain ⟨A55, c55, s55, r55⟩ := hf.val 21 55 (by kernel_rfl) rfl
    have s56 := hf.eq_ 22 56 (by kernel_rfl) rfl
    have s57 := hf.eq_ 23 57 (by kernel_rfl) rfl
    obtain ⟨A58, c58, s58, r58⟩ := hf.val 24 58 (by kernel_rfl) rfl
    obtain ⟨A59, c59, s59, r59⟩ := hf.val 25 59 (by kernel_rfl) rfl
    have s60 := hf.eq_ 26 60 (by kernel_rfl) rfl
    have s61 := hf.eq_ 27 61 (by kernel_rfl) rfl
    have s62 := hf.eq_ 28 62 (by kernel_rfl) rfl
    obtain ⟨A63, c63, s63, r63⟩ := hf.val 29 63 (by kernel_rfl) rfl
    obtain ⟨A64, c64, s64, r64⟩ := hf.val 30 64 (by kernel_rfl) rfl
    have s65 := hf.eq_ 31 65 (by kernel_rfl) rfl
    have s66 := hf.eq_ 32 66 (by kernel_rfl) rfl
    have s67 := hf.eq_ 33 67 (by kernel_rfl) rfl
    obtain ⟨A68, c68, s68, r68⟩ := hf.val 34 68 (by kernel_rfl) rfl
    have s69 := hf.eq_ 35 69 (by kernel_rfl) rfl
    have s70 := hf.eq_ 36 70 (by kernel_rfl) rfl
    obtain ⟨A71, c71, s71, r71⟩ := hf.val 37 71 (by kernel_rfl) rfl
    have s72 := hf.eq_ 38 72 (by kernel_rfl) rfl
    have s73 := hf.eq_ 39 73 (by kernel_rfl) rfl
    obtain ⟨b74, s74, h74, g74⟩ := hf.val 40 74 (by kernel_rfl) rfl
    obtain ⟨b11, s11, h11, g11⟩ := hf.val 41 11 (by kernel_rfl) rfl
    have hx := hf.ext
    have e := hf.frame
    clear hf
    simp only [regFrame, Act.put, List.setIfInBounds_toArray, List.set_cons_zero, List.set_cons_succ, s34, s35, s36, s37, s38, s39, s40, s41, s42, s43, s44, s45, s46, s47, s48, s49, s50, s51, s52, s53, s54, s55, s56, s57, s58, s59, s60, s61, s62, s63, s64, s65, s66, s67, s68, s69, s70, s71, s72, s73, s74, s11] at e
    clear s34 s35 s36 s37 s38 s39 s40 s41 s42 s43 s44 s45 s46 s47 s48 s49 s50 s51 s52 s53 s54 s55 s56 s57 s58 s59 s60 s61 s62 s63 s64 s65 s66 s67 s68 s69 s70 s71 s72 s73 s74 s11
    subst e
    have HB2 := hid (Ext.trans HB.out hx)
    clear hx HB
    rename_i hK
    apply hK
    go_wp2_with fail
    refine (within_any _ _ _ (by omega) (by omega)).mono ?_
    rintro e w3 ⟨rfl, rfl⟩
    have m1 : 0 ≤ a0 % 10 := by omega
    have m2 : a0 % 10 < 10 := by omega
    obtain ⟨j, hj⟩ : ∃ j : Nat, a0 % 10 = j := ⟨(a0 % 10).toNat, by omega⟩
    have hj10 : j < 10 := by omega
    rw [hj]
    clear hj m1 m2
    have hc : w1.cell? ⟨b11, j, none⟩ = some (.bool true) := by rw [g11 j hj10]; exact ten_true j hj10
    clear g11
    go_wp2_with fail
    go_ret
    exact ⟨rfl, HB2.out⟩
end Go.Proofs.Ytllkbfhkpnncgaa
