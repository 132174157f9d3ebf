/- The law on sums of bits by rows, walked; own text of the verifier. -/
import Derived.Test.YtcmhaomnabdopaaDoorX6
namespace Go.Proofs.YtcmhaomnabdopaaDoor
open Go.RowKit
theorem xor_i (a b : Nat) (ha : a < 256) (hb : b < 256) : bits .xor .u8 (a : Int) (b : Int) = ((a ^^^ b : Nat) : Int) := u8_xor_nat a b ha hb
def affKs (x y c : Nat) (r : List UInt8) : List K := [.eq (.int .u8 x), .eq (.agg (cellsOf r).toArray), .eq (.int .u8 c), .eq (.int .u8 (affN x (nb r) c : Nat)), .eq (.int .u8 x), .eq (.agg (cellsOf r).toArray), .eq (.int .u8 c), .eq (.int .u8 (affN x (nb r) c : Nat)), .eq (.bool true), .eq (.bool true), .eq (.int .u8 x), .eq (.int .u8 y), .eq (.int .u8 ((x ^^^ y : Nat) : Int)), .eq (.agg (cellsOf r).toArray), .eq (.int .u8 c), .eq (.int .u8 (affN (x ^^^ y) (nb r) c : Nat)), .eq (.int .u8 x), .eq (.agg (cellsOf r).toArray), .eq (.int .u8 c), .eq (.int .u8 (affN x (nb r) c : Nat)), .eq (.int .u8 y), .eq (.agg (cellsOf r).toArray), .eq (.int .u8 (affN y (nb r) 0 : Nat)), .eq (.int .u8 (affN (x ^^^ y) (nb r) c : Nat)), .eq (.bool true), .eq (.bool true), .eq (.bool true), .eq (.agg (cellsOf r).toArray), .eq (.int .u8 c), .eq (.int .u8 (affN 0 (nb r) c : Nat)), .eq (.int .u8 c), .eq (.bool true), .eq (.bool true), .eq (.bool true), .eq (.int .u8 x), .eq (.agg (cellsOf r).toArray), .eq (.int .u8 c), .eq (.int .u8 (affN x (nb r) c : Nat)), .eq (.int .u8 x), .eq (.agg (cellsOf r).toArray), .eq (.int .u8 (affN x (nb r) 0 : Nat)), .eq (.int .u8 c), .eq (.int .u8 (affN x (nb r) c : Nat)), .eq (.bool true), .eq (.bool true), .eq (.bool true)]
set_option maxRecDepth 100000 in
set_option maxHeartbeats 4000000 in
theorem affine_walk (a0 : Int) (a1 : Int) (a2 : Option Addr) (len2 cap2 : Nat) (z2 : List Int) (a3 : Int) (w : World) (w0 : (Lit.int .u8 a0).wf = true) (w1 : (Lit.int .u8 a1).wf = true) (w2 : IsRow .u8 w a2 len2 cap2 z2) (w3 : (Lit.int .u8 a3).wf = true) (ho : Odd w) :
    Calls Tryd.prog 5 #[.int .u8 a0, .int .u8 a1, .slice a2 len2 cap2, .int .u8 a3] w fun e w' => e = .returned (.bool true) ∧ Below w.heap.size w w' := by
  obtain ⟨x, rfl, hx⟩ := byte_arg w0
  obtain ⟨y, rfl, hy⟩ := byte_arg w1
  obtain ⟨c, rfl, hc⟩ := byte_arg w3
  obtain ⟨bs, hrb, _, _⟩ := w2.rdc
  clear w0 w1 w2 w3
  go_enter Tryd.func5, Tryd.ntmps5
  go_wp2_with fail
  refine (known_any _ ho).mono ?_
  rintro e wk ⟨rfl, hxk⟩
  have HXK := hid hxk
  have hrb1 := hrb.later hxk
  have HO1 := hid (ho.later hxk)
  clear hxk hrb ho
  go_wp2_with fail
  refine (rows_any _ _ _ _ _ hrb1).mono ?_
  rintro e wr ⟨rfl, hxr⟩
  have hr8 := rowsL_length bs
  obtain ⟨r, hr⟩ : ∃ r, rowsL bs = r := ⟨_, rfl⟩
  rw [hr] at hr8 ⊢
  have HXR := hid (Ext.trans HXK.out hxr)
  have HO2 := hid (HO1.out.later hxr)
  clear hr hrb1 hxr
  go_wp2_with (refine wpList_store_row rfl 33 (.tmp 9) (.tmp 13) rfl wr.heap.size (cellsOf r).toArray rfl rfl 33 _ (heap_alloc_new wr _) (size33' hr8) (by simp [cellsOf, hr8]) (cells_all _) ?_)
  have hA := setRow_heap (wr.alloc (.cells (cellsOf (List.replicate 8 0)).toArray 33)) wr.heap.size _ (cellsOf r).toArray 33 (0, 0) (heap_alloc_new wr _)
  have hX := below_setRow (Ext.alloc wr (.cells (cellsOf (List.replicate 8 0)).toArray 33)) (g := wr.heap.size) (Nat.le_refl _) (cellsOf r).toArray
  rw [cells_zero8] at hA hX
  obtain ⟨W3, hW3⟩ : ∃ W3, (wr.alloc (.cells #[.int .u8 0, .int .u8 0, .int .u8 0, .int .u8 0, .int .u8 0, .int .u8 0, .int .u8 0, .int .u8 0] 33)).setRow wr.heap.size (cellsOf r).toArray = W3 := ⟨_, rfl⟩
  rw [hW3] at hA hX ⊢
  have HX3 := hid (Ext.trans HXR.out hX)
  have hO := hid (HO2.out.later hX)
  obtain ⟨G, hG⟩ : ∃ G, wr.heap.size = G := ⟨_, rfl⟩
  rw [hG] at hA ⊢
  have HA := hid (show Arr8 W3 G r from hA)
  clear hW3 hA hX hG
  have hxy := xor_lt8 hx hy
  have HXY := hid (xor_i x y hx hy)
  have HX1 := hid (show bits .xor .u8 (affN x (nb r) c : Nat) (affN y (nb r) 0 : Nat) = ((affN (x ^^^ y) (nb r) c : Nat) : Int) from (xor_i _ _ (affN_lt hc) (affN_lt (by omega))).trans (by rw [show affN (x ^^^ y) (nb r) c = affN x (nb r) c ^^^ affN y (nb r) 0 from affG_xor x y c (nb r) 8]))
  have HX2 := hid (show bits .xor .u8 (affN x (nb r) 0 : Nat) (c : Nat) = ((affN x (nb r) c : Nat) : Int) from (xor_i _ _ (affN_lt (by omega)) hc).trans (by rw [show affN x (nb r) c = affN x (nb r) 0 ^^^ c from affG_behind x c (nb r) 8]))
  have HZ := hid (show ((affN 0 (nb r) c : Nat) : Int) = c by rw [show affN 0 (nb r) c = c from affG_none c (nb r) 8])
  refine region_inv mixed rfl (by kernel_rfl) (kV (affKs x y c r)) (kV_keep _) (forall_ops ⟨?_, ?_, ?_, ?_, ?_, ?_, ?_, ?_, ?_, ?_, ?_, ?_, ?_, ?_, ?_, ?_, ?_, ?_, ?_, ?_, ?_, ?_, ?_, ?_, ?_, ?_, ?_, ?_, ?_, ?_, ?_, ?_, ?_, ?_, ?_, ?_, ?_, ?_, ?_, ?_, ?_, ?_, ?_, ?_, ?_, ?_, trivial⟩) ?_
  · intro a w hk
    have s0 : a.tmps.getD 0 undef = .int .u8 x := hk.was 0 (by kernel_rfl) rfl
    exact step_move rfl rfl s0 rfl
  · intro a w hk
    have s9 : a.tmps.getD 9 undef = .pointer (some ⟨G, 0, none⟩) := hk.was 9 (by kernel_rfl) rfl
    exact step_val (v := .agg (cellsOf r).toArray) (w' := w) rfl (exec_load33 rfl s9 (HA.out.later hk.ext) hr8) (Ext.refl w) rfl
  · intro a w hk
    have s3 : a.tmps.getD 3 undef = .int .u8 c := hk.was 3 (by kernel_rfl) rfl
    exact step_move rfl rfl s3 rfl
  · intro a w hk
    have s14 := hk.eq_ 0 14 (by kernel_rfl) rfl
    have s15 := hk.eq_ 1 15 (by kernel_rfl) rfl
    have s16 := hk.eq_ 2 16 (by kernel_rfl) rfl
    exact step_call rfl rfl (by simp only [List.map_toArray, List.map_cons, List.map_nil, Act.eval, s14, s15, s16] <;> rfl) cf20 (aff_any x c r w hr8 hx hc (hO.out.later hk.ext)) (fun e w' h => retX e w' h)
  · intro a w hk
    have s0 : a.tmps.getD 0 undef = .int .u8 x := hk.was 0 (by kernel_rfl) rfl
    exact step_move rfl rfl s0 rfl
  · intro a w hk
    have s9 : a.tmps.getD 9 undef = .pointer (some ⟨G, 0, none⟩) := hk.was 9 (by kernel_rfl) rfl
    exact step_val (v := .agg (cellsOf r).toArray) (w' := w) rfl (exec_load33 rfl s9 (HA.out.later hk.ext) hr8) (Ext.refl w) rfl
  · intro a w hk
    have s3 : a.tmps.getD 3 undef = .int .u8 c := hk.was 3 (by kernel_rfl) rfl
    exact step_move rfl rfl s3 rfl
  · intro a w hk
    have s18 := hk.eq_ 4 18 (by kernel_rfl) rfl
    have s19 := hk.eq_ 5 19 (by kernel_rfl) rfl
    have s20 := hk.eq_ 6 20 (by kernel_rfl) rfl
    exact step_call rfl rfl (by simp only [List.map_toArray, List.map_cons, List.map_nil, Act.eval, s18, s19, s20] <;> rfl) cf21 (raff_any x c r w hr8 hx hc) (fun e w' h => retX e w' h)
  · intro a w hk
    have s17 := hk.eq_ 3 17 (by kernel_rfl) rfl
    have s21 := hk.eq_ 7 21 (by kernel_rfl) rfl
    refine step_val (v := .bool true) (w' := w) rfl ?_ (Ext.refl w) rfl
    go_simp
  · intro a w hk
    have s22 := hk.eq_ 8 22 (by kernel_rfl) rfl
    exact step_move rfl rfl s22 rfl
  · intro a w hk
    refine hk.run 9 23 true true rfl (by kernel_rfl) rfl fun hw => ?_
    have s0 : a.tmps.getD 0 undef = .int .u8 x := hk.was 0 (by kernel_rfl) rfl
    exact step_move hw rfl s0 rfl
  · intro a w hk
    refine hk.run 9 23 true true rfl (by kernel_rfl) rfl fun hw => ?_
    have s1 : a.tmps.getD 1 undef = .int .u8 y := hk.was 1 (by kernel_rfl) rfl
    exact step_move hw rfl s1 rfl
  · intro a w hk
    refine hk.run 9 23 true true rfl (by kernel_rfl) rfl fun hw => ?_
    have s24 := hk.eq_ 10 24 (by kernel_rfl) rfl
    have s25 := hk.eq_ 11 25 (by kernel_rfl) rfl
    refine step_val (v := .int .u8 ((x ^^^ y : Nat) : Int)) (w' := w) hw ?_ (Ext.refl w) rfl
    have h := HXY.out
    go_simp
  · intro a w hk
    refine hk.run 9 23 true true rfl (by kernel_rfl) rfl fun hw => ?_
    have s9 : a.tmps.getD 9 undef = .pointer (some ⟨G, 0, none⟩) := hk.was 9 (by kernel_rfl) rfl
    exact step_val (v := .agg (cellsOf r).toArray) (w' := w) hw (exec_load33 rfl s9 (HA.out.later hk.ext) hr8) (Ext.refl w) rfl
  · intro a w hk
    refine hk.run 9 23 true true rfl (by kernel_rfl) rfl fun hw => ?_
    have s3 : a.tmps.getD 3 undef = .int .u8 c := hk.was 3 (by kernel_rfl) rfl
    exact step_move hw rfl s3 rfl
  · intro a w hk
    refine hk.run 9 23 true true rfl (by kernel_rfl) rfl fun hw => ?_
    have s26 := hk.eq_ 12 26 (by kernel_rfl) rfl
    have s27 := hk.eq_ 13 27 (by kernel_rfl) rfl
    have s28 := hk.eq_ 14 28 (by kernel_rfl) rfl
    exact step_call hw rfl (by simp only [List.map_toArray, List.map_cons, List.map_nil, Act.eval, s26, s27, s28] <;> rfl) cf20 (aff_any (x ^^^ y) c r w hr8 hxy hc (hO.out.later hk.ext)) (fun e w' h => retX e w' h)
  · intro a w hk
    refine hk.run 9 23 true true rfl (by kernel_rfl) rfl fun hw => ?_
    have s0 : a.tmps.getD 0 undef = .int .u8 x := hk.was 0 (by kernel_rfl) rfl
    exact step_move hw rfl s0 rfl
  · intro a w hk
    refine hk.run 9 23 true true rfl (by kernel_rfl) rfl fun hw => ?_
    have s9 : a.tmps.getD 9 undef = .pointer (some ⟨G, 0, none⟩) := hk.was 9 (by kernel_rfl) rfl
    exact step_val (v := .agg (cellsOf r).toArray) (w' := w) hw (exec_load33 rfl s9 (HA.out.later hk.ext) hr8) (Ext.refl w) rfl
  · intro a w hk
    refine hk.run 9 23 true true rfl (by kernel_rfl) rfl fun hw => ?_
    have s3 : a.tmps.getD 3 undef = .int .u8 c := hk.was 3 (by kernel_rfl) rfl
    exact step_move hw rfl s3 rfl
  · intro a w hk
    refine hk.run 9 23 true true rfl (by kernel_rfl) rfl fun hw => ?_
    have s30 := hk.eq_ 16 30 (by kernel_rfl) rfl
    have s31 := hk.eq_ 17 31 (by kernel_rfl) rfl
    have s32 := hk.eq_ 18 32 (by kernel_rfl) rfl
    exact step_call hw rfl (by simp only [List.map_toArray, List.map_cons, List.map_nil, Act.eval, s30, s31, s32] <;> rfl) cf20 (aff_any x c r w hr8 hx hc (hO.out.later hk.ext)) (fun e w' h => retX e w' h)
  · intro a w hk
    refine hk.run 9 23 true true rfl (by kernel_rfl) rfl fun hw => ?_
    have s1 : a.tmps.getD 1 undef = .int .u8 y := hk.was 1 (by kernel_rfl) rfl
    exact step_move hw rfl s1 rfl
  · intro a w hk
    refine hk.run 9 23 true true rfl (by kernel_rfl) rfl fun hw => ?_
    have s9 : a.tmps.getD 9 undef = .pointer (some ⟨G, 0, none⟩) := hk.was 9 (by kernel_rfl) rfl
    exact step_val (v := .agg (cellsOf r).toArray) (w' := w) hw (exec_load33 rfl s9 (HA.out.later hk.ext) hr8) (Ext.refl w) rfl
  · intro a w hk
    refine hk.run 9 23 true true rfl (by kernel_rfl) rfl fun hw => ?_
    have s34 := hk.eq_ 20 34 (by kernel_rfl) rfl
    have s35 := hk.eq_ 21 35 (by kernel_rfl) rfl
    exact step_call hw rfl (by simp only [List.map_toArray, List.map_cons, List.map_nil, Act.eval, s34, s35] <;> rfl) cf20 (aff_any y 0 r w hr8 hy (by omega) (hO.out.later hk.ext)) (fun e w' h => retX e w' h)
  · intro a w hk
    refine hk.run 9 23 true true rfl (by kernel_rfl) rfl fun hw => ?_
    have s33 := hk.eq_ 19 33 (by kernel_rfl) rfl
    have s36 := hk.eq_ 22 36 (by kernel_rfl) rfl
    refine step_val (v := .int .u8 (affN (x ^^^ y) (nb r) c : Nat)) (w' := w) hw ?_ (Ext.refl w) rfl
    have h := HX1.out
    go_simp
  · intro a w hk
    refine hk.run 9 23 true true rfl (by kernel_rfl) rfl fun hw => ?_
    have s29 := hk.eq_ 15 29 (by kernel_rfl) rfl
    have s37 := hk.eq_ 23 37 (by kernel_rfl) rfl
    refine step_val (v := .bool true) (w' := w) hw ?_ (Ext.refl w) rfl
    go_simp
  · intro a w hk
    have s23 := hk.eq_ 9 23 (by kernel_rfl) rfl
    have s38 := hk.eq_ 24 38 (by kernel_rfl) rfl
    exact step_pick (b := true) rfl rfl s23 s38 rfl
  · intro a w hk
    have s39 := hk.eq_ 25 39 (by kernel_rfl) rfl
    exact step_move rfl rfl s39 rfl
  · intro a w hk
    refine hk.run 26 40 true true rfl (by kernel_rfl) rfl fun hw => ?_
    have s9 : a.tmps.getD 9 undef = .pointer (some ⟨G, 0, none⟩) := hk.was 9 (by kernel_rfl) rfl
    exact step_val (v := .agg (cellsOf r).toArray) (w' := w) hw (exec_load33 rfl s9 (HA.out.later hk.ext) hr8) (Ext.refl w) rfl
  · intro a w hk
    refine hk.run 26 40 true true rfl (by kernel_rfl) rfl fun hw => ?_
    have s3 : a.tmps.getD 3 undef = .int .u8 c := hk.was 3 (by kernel_rfl) rfl
    exact step_move hw rfl s3 rfl
  · intro a w hk
    refine hk.run 26 40 true true rfl (by kernel_rfl) rfl fun hw => ?_
    have s41 := hk.eq_ 27 41 (by kernel_rfl) rfl
    have s42 := hk.eq_ 28 42 (by kernel_rfl) rfl
    exact step_call hw rfl (by simp only [List.map_toArray, List.map_cons, List.map_nil, Act.eval, s41, s42] <;> rfl) cf20 (aff_any 0 c r w hr8 (by omega) hc (hO.out.later hk.ext)) (fun e w' h => retX e w' h)
  · intro a w hk
    refine hk.run 26 40 true true rfl (by kernel_rfl) rfl fun hw => ?_
    have s3 : a.tmps.getD 3 undef = .int .u8 c := hk.was 3 (by kernel_rfl) rfl
    exact step_move hw rfl s3 rfl
  · intro a w hk
    refine hk.run 26 40 true true rfl (by kernel_rfl) rfl fun hw => ?_
    have s43 := hk.eq_ 29 43 (by kernel_rfl) rfl
    have s44 := hk.eq_ 30 44 (by kernel_rfl) rfl
    refine step_val (v := .bool true) (w' := w) hw ?_ (Ext.refl w) rfl
    have h := HZ.out
    go_simp
  · intro a w hk
    have s40 := hk.eq_ 26 40 (by kernel_rfl) rfl
    have s45 := hk.eq_ 31 45 (by kernel_rfl) rfl
    exact step_pick (b := true) rfl rfl s40 s45 rfl
  · intro a w hk
    have s46 := hk.eq_ 32 46 (by kernel_rfl) rfl
    exact step_move rfl rfl s46 rfl
  · intro a w hk
    refine hk.run 33 47 true true rfl (by kernel_rfl) rfl fun hw => ?_
    have s0 : a.tmps.getD 0 undef = .int .u8 x := hk.was 0 (by kernel_rfl) rfl
    exact step_move hw rfl s0 rfl
  · intro a w hk
    refine hk.run 33 47 true true rfl (by kernel_rfl) rfl fun hw => ?_
    have s9 : a.tmps.getD 9 undef = .pointer (some ⟨G, 0, none⟩) := hk.was 9 (by kernel_rfl) rfl
    exact step_val (v := .agg (cellsOf r).toArray) (w' := w) hw (exec_load33 rfl s9 (HA.out.later hk.ext) hr8) (Ext.refl w) rfl
  · intro a w hk
    refine hk.run 33 47 true true rfl (by kernel_rfl) rfl fun hw => ?_
    have s3 : a.tmps.getD 3 undef = .int .u8 c := hk.was 3 (by kernel_rfl) rfl
    exact step_move hw rfl s3 rfl
  · intro a w hk
    refine hk.run 33 47 true true rfl (by kernel_rfl) rfl fun hw => ?_
    have s48 := hk.eq_ 34 48 (by kernel_rfl) rfl
    have s49 := hk.eq_ 35 49 (by kernel_rfl) rfl
    have s50 := hk.eq_ 36 50 (by kernel_rfl) rfl
    exact step_call hw rfl (by simp only [List.map_toArray, List.map_cons, List.map_nil, Act.eval, s48, s49, s50] <;> rfl) cf20 (aff_any x c r w hr8 hx hc (hO.out.later hk.ext)) (fun e w' h => retX e w' h)
  · intro a w hk
    refine hk.run 33 47 true true rfl (by kernel_rfl) rfl fun hw => ?_
    have s0 : a.tmps.getD 0 undef = .int .u8 x := hk.was 0 (by kernel_rfl) rfl
    exact step_move hw rfl s0 rfl
  · intro a w hk
    refine hk.run 33 47 true true rfl (by kernel_rfl) rfl fun hw => ?_
    have s9 : a.tmps.getD 9 undef = .pointer (some ⟨G, 0, none⟩) := hk.was 9 (by kernel_rfl) rfl
    exact step_val (v := .agg (cellsOf r).toArray) (w' := w) hw (exec_load33 rfl s9 (HA.out.later hk.ext) hr8) (Ext.refl w) rfl
  · intro a w hk
    refine hk.run 33 47 true true rfl (by kernel_rfl) rfl fun hw => ?_
    have s52 := hk.eq_ 38 52 (by kernel_rfl) rfl
    have s53 := hk.eq_ 39 53 (by kernel_rfl) rfl
    exact step_call hw rfl (by simp only [List.map_toArray, List.map_cons, List.map_nil, Act.eval, s52, s53] <;> rfl) cf20 (aff_any x 0 r w hr8 hx (by omega) (hO.out.later hk.ext)) (fun e w' h => retX e w' h)
  · intro a w hk
    refine hk.run 33 47 true true rfl (by kernel_rfl) rfl fun hw => ?_
    have s3 : a.tmps.getD 3 undef = .int .u8 c := hk.was 3 (by kernel_rfl) rfl
    exact step_move hw rfl s3 rfl
  · intro a w hk
    refine hk.run 33 47 true true rfl (by kernel_rfl) rfl fun hw => ?_
    have s54 := hk.eq_ 40 54 (by kernel_rfl) rfl
    have s55 := hk.eq_ 41 55 (by kernel_rfl) rfl
    refine step_val (v := .int .u8 (affN x (nb r) c : Nat)) (w' := w) hw ?_ (Ext.refl w) rfl
    have h := HX2.out
    go_simp
  · intro a w hk
    refine hk.run 33 47 true true rfl (by kernel_rfl) rfl fun hw => ?_
    have s51 := hk.eq_ 37 51 (by kernel_rfl) rfl
    have s56 := hk.eq_ 42 56 (by kernel_rfl) rfl
    refine step_val (v := .bool true) (w' := w) hw ?_ (Ext.refl w) rfl
    go_simp
  · intro a w hk
    have s47 := hk.eq_ 33 47 (by kernel_rfl) rfl
    have s57 := hk.eq_ 43 57 (by kernel_rfl) rfl
    exact step_pick (b := true) rfl rfl s47 s57 rfl
  · intro a w hk
    have s58 := hk.eq_ 44 58 (by kernel_rfl) rfl
    exact step_assign rfl rfl s58 rfl
  · intro a w1 hf
    have s14 := hf.eq_ 0 14 (by kernel_rfl) rfl
    have s15 := hf.eq_ 1 15 (by kernel_rfl) rfl
    have s16 := hf.eq_ 2 16 (by kernel_rfl) rfl
    have s17 := hf.eq_ 3 17 (by kernel_rfl) rfl
    have s18 := hf.eq_ 4 18 (by kernel_rfl) rfl
    have s19 := hf.eq_ 5 19 (by kernel_rfl) rfl
    have s20 := hf.eq_ 6 20 (by kernel_rfl) rfl
    have s21 := hf.eq_ 7 21 (by kernel_rfl) rfl
    have s22 := hf.eq_ 8 22 (by kernel_rfl) rfl
    have s23 := hf.eq_ 9 23 (by kernel_rfl) rfl
    have s24 := hf.eq_ 10 24 (by kernel_rfl) rfl
    have s25 := hf.eq_ 11 25 (by kernel_rfl) rfl
    have s26 := hf.eq_ 12 26 (by kernel_rfl) rfl
    have s27 := hf.eq_ 13 27 (by kernel_rfl) rfl
    have s28 := hf.eq_ 14 28 (by kernel_rfl) rfl
    have s29 := hf.eq_ 15 29 (by kernel_rfl) rfl
    have s30 := hf.eq_ 16 30 (by kernel_rfl) rfl
    have s31 := hf.eq_ 17 31 (by kernel_rfl) rfl
    have s32 := hf.eq_ 18 32 (by kernel_rfl) rfl
    have s33 := hf.eq_ 19 33 (by kernel_rfl) rfl
    have s34 := hf.eq_ 20 34 (by kernel_rfl) rfl
    have s35 := hf.eq_ 21 35 (by kernel_rfl) rfl
    have s36 := hf.eq_ 22 36 (by kernel_rfl) rfl
    have s37 := hf.eq_ 23 37 (by kernel_rfl) rfl
    have s38 := hf.eq_ 24 38 (by kernel_rfl) rfl
    have s39 := hf.eq_ 25 39 (by kernel_rfl) rfl
    have s40 := hf.eq_ 26 40 (by kernel_rfl) rfl
    have s41 := hf.eq_ 27 41 (by kernel_rfl) rfl
    have s42 := hf.eq_ 28 42 (by kernel_rfl) rfl
    have s43 := hf.eq_ 29 43 (by kernel_rfl) rfl
    have s44 := hf.eq_ 30 44 (by kernel_rfl) rfl
    have s45 := hf.eq_ 31 45 (by kernel_rfl) rfl
    have s46 := hf.eq_ 32 46 (by kernel_rfl) rfl
    have s47 := hf.eq_ 33 47 (by kernel_rfl) rfl
    have s48 := hf.eq_ 34 48 (by kernel_rfl) rfl
    have s49 := hf.eq_ 35 49 (by kernel_rfl) rfl
    have s50 := hf.eq_ 36 50 (by kernel_rfl) rfl
    have s51 := hf.eq_ 37 51 (by kernel_rfl) rfl
    have s52 := hf.eq_ 38 52 (by kernel_rfl) rfl
    have s53 := hf.eq_ 39 53 (by kernel_rfl) rfl
    have s54 := hf.eq_ 40 54 (by kernel_rfl) rfl
    have s55 := hf.eq_ 41 55 (by kernel_rfl) rfl
    have s56 := hf.eq_ 42 56 (by kernel_rfl) rfl
    have s57 := hf.eq_ 43 57 (by kernel_rfl) rfl
    have s58 := hf.eq_ 44 58 (by kernel_rfl) rfl
    have s8 := hf.eq_ 45 8 (by kernel_rfl) rfl
    have hx := hf.ext
    have e := hf.frame
    clear hf
    simp only [regFrame, Act.put, List.setIfInBounds_toArray, List.set_cons_zero, List.set_cons_succ, s14, s15, s16, s17, s18, s19, s20, s21, s22, s23, s24, s25, s26, s27, s28, s29, s30, s31, s32, s33, s34, s35, s36, s37, s38, s39, s40, s41, s42, s43, s44, s45, s46, s47, s48, s49, s50, s51, s52, s53, s54, s55, s56, s57, s58, s8] at e
    clear s14 s15 s16 s17 s18 s19 s20 s21 s22 s23 s24 s25 s26 s27 s28 s29 s30 s31 s32 s33 s34 s35 s36 s37 s38 s39 s40 s41 s42 s43 s44 s45 s46 s47 s48 s49 s50 s51 s52 s53 s54 s55 s56 s57 s58 s8
    subst e
    have HX4 := hid (Ext.trans HX3.out hx)
    clear hx
    go_wp2_with fail
    go_ret
    exact ⟨rfl, HX4.out⟩
end Go.Proofs.YtcmhaomnabdopaaDoor
