/- Walk over the laws' known answer; own lemmas of the verifier, no statement is proved here. -/
import Derived.Test.YthfcndaccfpnmaaDoorX16
import Derived.Deep.OwnRows
namespace Go.Proofs.YthfcndaccfpnmaaDoor
open Go.RowKit
theorem kf_one (key : List UInt8) (h : key.length = 8) : kfOf key 0 = keyF key := by
  unfold kfOf key3
  rw [if_neg (by omega)]
  simp only [Nat.mul_zero, List.drop_zero]
  rw [List.take_of_length_le (by omega)]
theorem block_one (key b : List UInt8) (back : Bool) (h : key.length = 8) : blockL (manyOf key.length) (kfOf key) back b = turnL (dirF (keyF key) back) b := by
  have hm : manyOf key.length = 1 := by unfold manyOf; rw [if_pos h]
  rw [hm]
  unfold blockL
  rw [blkG, blkG]
  have hp : place 0 1 back = 0 := by cases back <;> rfl
  rw [hp, kf_one key h]
  simp
theorem zblock (b : List UInt8) (back : Bool) : blockL (manyOf z8.length) (kfOf z8) back b = turnL (fun _ => z6) b := by
  rw [block_one z8 b back rfl]
  exact turnL_congr b fun i _ => by unfold dirF; exact zkey _
theorem made_run (w : World) : (Instr.makeSlice 22 (.int .i64 (8 : Int)) (.int .i64 (8 : Int))).run Tryd.prog w = .ok (.slice (some ⟨w.heap.size, 0, none⟩) 8 8) (w.alloc (.cells (madeCells #[Value.int .u8 0] 8) 5)) := by
  obtain ⟨i0, hi0, hz0, hz1, hz2⟩ := info_parts Tryd.info5
  exact run_make_row 22 5 i0 (.int .u8 0) Tryd.underlying22 hi0 hz0 hz1 rfl .i64 .i64 8 (by rw [hz2]; omega) (by omega) w
theorem made_byt (w : World) : K.holds (.byt 8 z8) (w.alloc (.cells (madeCells #[Value.int .u8 0] 8) 5)) (.slice (some ⟨w.heap.size, 0, none⟩) 8 8) := by
  have e : (madeCells #[Value.int .u8 0] 8).toList = cellsOf z8 := cells_zero 8
  obtain ⟨A, c, h1, h2, _⟩ := (Own.lit w z8 (madeCells #[Value.int .u8 0] 8) 8 w.heap.size e rfl (by unfold maxLen; omega) (Nat.le_refl _)).rdn (n := 8) rfl
  exact ⟨A, c, h1, h2⟩
theorem str_toList (bs : List UInt8) : (str bs).toList = bs := by
  unfold str
  apply List.ext_getElem
  · simp
  · intro i h1 h2; simp
theorem str_ne {xs ys : List UInt8} (h : xs ≠ ys) : ¬ (str xs).toList = (str ys).toList := by
  rw [str_toList, str_toList]; exact h
def knownKs (BZ : List UInt8) : List K := [.eq (.int .i64 0), .eq (.bool true), .eq (.bool true), .eq (.int .i64 0), .eq (.bool true), .eq (.bool true), .eq (.bool true), .byt 8 (BZ), .eq (.int .i64 8), .eq (.bool true), .eq (.bool true), .eq (.bool true), .byt 8 (BZ), .eq (.string (str (BZ))), .byt 8 (z8), .eq (.string (str (z8))), .eq (.bool true), .eq (.bool true), .eq (.bool true), .byt 8 (z8), .eq (.string (str (z8))), .byt 8 (z8), .eq (.string (str (z8))), .eq (.bool true), .eq (.bool true), .eq (.bool true)]
set_option maxRecDepth 100000 in
set_option maxHeartbeats 4000000 in
theorem known_any (w : World) (hB : Boxes w) : Calls Tryd.prog 10 #[] w (RetTrue w) := by
  go_enter Tryd.func10, Tryd.ntmps10
  go_wp2_with fail
  refine (new_bad none 0 0 _ (by omega)).mono ?_
  rintro e w1 ⟨rfl, hx1⟩
  have HX1 := hid hx1
  clear hx1
  go_wp2_with (at_make; refine wpL_make rfl (.const (.int .i64 8)) (.const (.int .i64 8)) 22 rfl Tryd.underlying22 Tryd.info5 .i64 _ 8 rfl rfl rfl (by omega) w1.heap.size (Nat.le_refl _) ?_; intro w2 hown2 hb2 _)
  obtain ⟨A2, c2, e2, hc2, hr2, _⟩ := hown2.rdc (n := 8) rfl
  have HX2 := hid (Ext.trans HX1.out (show Ext w1 w2 from hb2))
  have HR2 := hid (show Rd w2 w2.heap.size A2 8 z8 from hr2)
  rw [e2]
  clear hown2 hb2 hr2 HX1 e2
  refine (new_any A2 8 c2 z8 _ (.inl rfl) HR2.out hc2).mono ?_
  rintro e w3 ⟨p, rfl, hd3, hx3⟩
  have HX3 := hid (Ext.trans HX2.out hx3)
  have HD3 := hid hd3
  clear hd3 hx3 HX2 HR2
  go_wp2_with (at_make; refine wpL_make rfl (.const (.int .i64 8)) (.const (.int .i64 8)) 22 rfl Tryd.underlying22 Tryd.info5 .i64 _ 8 rfl rfl rfl (by omega) w3.heap.size (Nat.le_refl _) ?_; intro w4 hown4 hb4 _)
  obtain ⟨A4, c4, e4, hc4, hr4, _⟩ := hown4.rdc (n := 8) rfl
  have HX4 := hid (Ext.trans HX3.out (show Ext w3 w4 from hb4))
  have HD4 := hid (HD3.out.later (show Ext w3 w4 from hb4))
  have HR4 := hid (show Rd w4 w4.heap.size A4 8 z8 from hr4)
  rw [e4]
  clear hown4 hb4 hr4 HX3 e4 HD3
  refine (block_any A4 p _ c4 z8 _ false _ HD4.out (by decide) HR4.out (hB.later HX4.out)).mono ?_
  rw [zblock]
  rintro e w5 ⟨A5, c5, rfl, hc5, hr5, hx5⟩
  have HX5 := hid (Ext.trans HX4.out hx5)
  have HD5 := hid (HD4.out.later hx5)
  have HR5 := hid hr5
  clear hr5 hx5 HX4 HR4 HD4
  go_wp2_with fail
  refine (block_any A5 p _ c5 _ _ true _ HD5.out (by decide) HR5.out (hB.later HX5.out)).mono ?_
  rw [zblock, turnL_back (kf := fun _ => z6) (kg := fun _ => z6) z8 rfl (fun _ _ => rfl)]
  rintro e w6 ⟨A7, c7, rfl, hc7, hr7, hx6⟩
  have HX6 := hid (Ext.trans HX5.out hx6)
  have HR5 := hid (HR5.out.later hx6)
  have HR7 := hid hr7
  have HNE := hid (str_ne zturn)
  obtain ⟨BZ, hBZ⟩ : ∃ BZ, turnL (fun _ => z6) z8 = BZ := ⟨_, rfl⟩
  rw [hBZ] at HR5 HNE
  clear hr7 hx6 HX5 HD5 hBZ
  go_wp2_with fail
  refine region_inv mixed rfl (by kernel_rfl) (kV (knownKs BZ)) (kV_keep _) (forall_ops ⟨?_, ?_, ?_, ?_, ?_, ?_, ?_, ?_, ?_, ?_, ?_, ?_, ?_, ?_, ?_, ?_, ?_, ?_, ?_, ?_, ?_, ?_, ?_, ?_, ?_, ?_, trivial⟩) ?_
  · intro a w hk
    have s6 : a.tmps.getD 6 undef = .int .i64 0 := hk.was 6 (by kernel_rfl) rfl
    exact step_move rfl rfl s6 rfl
  · intro a w hk
    have s40 := hk.eq_ 0 40 (by kernel_rfl) rfl
    refine step_val (v := .bool true) (w' := w) rfl ?_ (Ext.refl w) rfl
    go_simp
  · intro a w hk
    have s41 := hk.eq_ 1 41 (by kernel_rfl) rfl
    exact step_move rfl rfl s41 rfl
  · intro a w hk
    refine hk.run 2 42 true true rfl (by kernel_rfl) rfl fun hw => ?_
    have s8 : a.tmps.getD 8 undef = .int .i64 0 := hk.was 8 (by kernel_rfl) rfl
    exact step_move hw rfl s8 rfl
  · intro a w hk
    refine hk.run 2 42 true true rfl (by kernel_rfl) rfl fun hw => ?_
    have s43 := hk.eq_ 3 43 (by kernel_rfl) rfl
    refine step_val (v := .bool true) (w' := w) hw ?_ (Ext.refl w) rfl
    go_simp
  · intro a w hk
    have s42 := hk.eq_ 2 42 (by kernel_rfl) rfl
    have s44 := hk.eq_ 4 44 (by kernel_rfl) rfl
    exact step_pick (b := true) rfl rfl s42 s44 rfl
  · intro a w hk
    have s45 := hk.eq_ 5 45 (by kernel_rfl) rfl
    exact step_move rfl rfl s45 rfl
  · intro a w hk
    refine hk.run 6 46 true true rfl (by kernel_rfl) rfl fun hw => ?_
    have s5 : a.tmps.getD 5 undef = .slice A5 8 c5 := hk.was 5 (by kernel_rfl) rfl
    have r5 := (HR5.out).later hk.ext
    exact step_move hw rfl s5 ⟨_, _, rfl, r5⟩
  · intro a w hk
    refine hk.run 6 46 true true rfl (by kernel_rfl) rfl fun hw => ?_
    obtain ⟨A47, c47, s47, r47⟩ := hk.byt_ 7 47 (by kernel_rfl) rfl
    refine step_val (v := .int .i64 8) (w' := w) hw ?_ (Ext.refl w) rfl
    go_simp
  · intro a w hk
    refine hk.run 6 46 true true rfl (by kernel_rfl) rfl fun hw => ?_
    have s48 := hk.eq_ 8 48 (by kernel_rfl) rfl
    refine step_val (v := .bool true) (w' := w) hw ?_ (Ext.refl w) rfl
    go_simp
  · intro a w hk
    have s46 := hk.eq_ 6 46 (by kernel_rfl) rfl
    have s49 := hk.eq_ 9 49 (by kernel_rfl) rfl
    exact step_pick (b := true) rfl rfl s46 s49 rfl
  · intro a w hk
    have s50 := hk.eq_ 10 50 (by kernel_rfl) rfl
    exact step_move rfl rfl s50 rfl
  · intro a w hk
    refine hk.run 11 51 true true rfl (by kernel_rfl) rfl fun hw => ?_
    have s5 : a.tmps.getD 5 undef = .slice A5 8 c5 := hk.was 5 (by kernel_rfl) rfl
    have r5 := (HR5.out).later hk.ext
    exact step_move hw rfl s5 ⟨_, _, rfl, r5⟩
  · intro a w hk
    refine hk.run 11 51 true true rfl (by kernel_rfl) rfl fun hw => ?_
    obtain ⟨A52, c52, s52, r52⟩ := hk.byt_ 12 52 (by kernel_rfl) rfl
    exact step_conv hw rfl s52 (strq r52) rfl
  · intro a w hk
    refine hk.run 11 51 true true rfl (by kernel_rfl) rfl fun hw => ?_
    have s7 : a.tmps.getD 7 undef = .slice A7 8 c7 := hk.was 7 (by kernel_rfl) rfl
    have r7 := (HR7.out).later hk.ext
    exact step_move hw rfl s7 ⟨_, _, rfl, r7⟩
  · intro a w hk
    refine hk.run 11 51 true true rfl (by kernel_rfl) rfl fun hw => ?_
    obtain ⟨A54, c54, s54, r54⟩ := hk.byt_ 14 54 (by kernel_rfl) rfl
    exact step_conv hw rfl s54 (strq r54) rfl
  · intro a w hk
    refine hk.run 11 51 true true rfl (by kernel_rfl) rfl fun hw => ?_
    have s53 := hk.eq_ 13 53 (by kernel_rfl) rfl
    have s55 := hk.eq_ 15 55 (by kernel_rfl) rfl
    refine step_val (v := .bool true) (w' := w) hw ?_ (Ext.refl w) rfl
    have hne := HNE.out
    go_simp
  · intro a w hk
    have s51 := hk.eq_ 11 51 (by kernel_rfl) rfl
    have s56 := hk.eq_ 16 56 (by kernel_rfl) rfl
    exact step_pick (b := true) rfl rfl s51 s56 rfl
  · intro a w hk
    have s57 := hk.eq_ 17 57 (by kernel_rfl) rfl
    exact step_move rfl rfl s57 rfl
  · intro a w hk
    refine hk.run 18 58 true true rfl (by kernel_rfl) rfl fun hw => ?_
    have s7 : a.tmps.getD 7 undef = .slice A7 8 c7 := hk.was 7 (by kernel_rfl) rfl
    have r7 := (HR7.out).later hk.ext
    exact step_move hw rfl s7 ⟨_, _, rfl, r7⟩
  · intro a w hk
    refine hk.run 18 58 true true rfl (by kernel_rfl) rfl fun hw => ?_
    obtain ⟨A59, c59, s59, r59⟩ := hk.byt_ 19 59 (by kernel_rfl) rfl
    exact step_conv hw rfl s59 (strq r59) rfl
  · intro a w hk
    refine hk.run 18 58 true true rfl (by kernel_rfl) rfl fun hw => ?_
    refine step_val (v := .slice (some ⟨w.heap.size, 0, none⟩) 8 8) (w' := w.alloc (.cells (madeCells #[Value.int .u8 0] 8) 5)) hw ?_ (Ext.alloc _ _) (made_byt w)
    simp only [execOp, Act.eval]
    rw [Sem.run_bind, made_run w]
    rfl
  · intro a w hk
    refine hk.run 18 58 true true rfl (by kernel_rfl) rfl fun hw => ?_
    obtain ⟨A61, c61, s61, r61⟩ := hk.byt_ 21 61 (by kernel_rfl) rfl
    exact step_conv hw rfl s61 (strq r61) rfl
  · intro a w hk
    refine hk.run 18 58 true true rfl (by kernel_rfl) rfl fun hw => ?_
    have s60 := hk.eq_ 20 60 (by kernel_rfl) rfl
    have s62 := hk.eq_ 22 62 (by kernel_rfl) rfl
    refine step_val (v := .bool true) (w' := w) hw ?_ (Ext.refl w) rfl
    go_simp
  · intro a w hk
    have s58 := hk.eq_ 18 58 (by kernel_rfl) rfl
    have s63 := hk.eq_ 23 63 (by kernel_rfl) rfl
    exact step_pick (b := true) rfl rfl s58 s63 rfl
  · intro a w hk
    have s64 := hk.eq_ 24 64 (by kernel_rfl) rfl
    exact step_assign rfl rfl s64 rfl
  · intro a w1 hf
    have s40 := hf.eq_ 0 40 (by kernel_rfl) rfl
    have s41 := hf.eq_ 1 41 (by kernel_rfl) rfl
    have s42 := hf.eq_ 2 42 (by kernel_rfl) rfl
    have s43 := hf.eq_ 3 43 (by kernel_rfl) rfl
    have s44 := hf.eq_ 4 44 (by kernel_rfl) rfl
    have s45 := hf.eq_ 5 45 (by kernel_rfl) rfl
    have s46 := hf.eq_ 6 46 (by kernel_rfl) rfl
    obtain ⟨A47, c47, s47, r47⟩ := hf.val 7 47 (by kernel_rfl) rfl
    have s48 := hf.eq_ 8 48 (by kernel_rfl) rfl
    have s49 := hf.eq_ 9 49 (by kernel_rfl) rfl
    have s50 := hf.eq_ 10 50 (by kernel_rfl) rfl
    have s51 := hf.eq_ 11 51 (by kernel_rfl) rfl
    obtain ⟨A52, c52, s52, r52⟩ := hf.val 12 52 (by kernel_rfl) rfl
    have s53 := hf.eq_ 13 53 (by kernel_rfl) rfl
    obtain ⟨A54, c54, s54, r54⟩ := hf.val 14 54 (by kernel_rfl) rfl
    have s55 := hf.eq_ 15 55 (by kernel_rfl) rfl
    have s56 := hf.eq_ 16 56 (by kernel_rfl) rfl
    have s57 := hf.eq_ 17 57 (by kernel_rfl) rfl
    have s58 := hf.eq_ 18 58 (by kernel_rfl) rfl
    obtain ⟨A59, c59, s59, r59⟩ := hf.val 19 59 (by kernel_rfl) rfl
    have s60 := hf.eq_ 20 60 (by kernel_rfl) rfl
    obtain ⟨A61, c61, s61, r61⟩ := hf.val 21 61 (by kernel_rfl) rfl
    have s62 := hf.eq_ 22 62 (by kernel_rfl) rfl
    have s63 := hf.eq_ 23 63 (by kernel_rfl) rfl
    have s64 := hf.eq_ 24 64 (by kernel_rfl) rfl
    have s0 := hf.eq_ 25 0 (by kernel_rfl) rfl
    have hx := hf.ext
    have e := hf.frame
    clear hf
    simp only [regFrame, Act.put, List.setIfInBounds_toArray, List.set_cons_zero, List.set_cons_succ, s40, s41, s42, s43, s44, s45, s46, s47, s48, s49, s50, s51, s52, s53, s54, s55, s56, s57, s58, s59, s60, s61, s62, s63, s64, s0] at e
    clear s40 s41 s42 s43 s44 s45 s46 s47 s48 s49 s50 s51 s52 s53 s54 s55 s56 s57 s58 s59 s60 s61 s62 s63 s64 s0
    subst e
    go_wp2_with fail
    go_ret
    exact ⟨rfl, Ext.trans HX6.out hx⟩
end Go.Proofs.YthfcndaccfpnmaaDoor
