/- Walk over Block of the program; own lemmas of the verifier, no statement is proved here. -/
import Derived.Test.YtbdncalllfpodaaDoorX21
namespace Go.Proofs.YtbdncalllfpodaaDoor
open Go.RowKit
theorem idx77 (x : W4) (j : Nat) (h : j < 4) (w : World) : (Instr.index 77 (.agg x.cells) (.int .i64 (j : Int))).run Tryd.prog w = .ok (.int .u32 ((x.at j).toNat : Nat)) w := by
  match j, h with
  | 0, _ => exact (show (Instr.index 77 (.agg x.cells) (.int .i64 ((0 : Nat) : Int))).run Tryd.prog w = .ok (.int .u32 (x.a.toNat : Nat)) w by kernel_rfl)
  | 1, _ => exact (show (Instr.index 77 (.agg x.cells) (.int .i64 ((1 : Nat) : Int))).run Tryd.prog w = .ok (.int .u32 (x.b.toNat : Nat)) w by kernel_rfl)
  | 2, _ => exact (show (Instr.index 77 (.agg x.cells) (.int .i64 ((2 : Nat) : Int))).run Tryd.prog w = .ok (.int .u32 (x.c.toNat : Nat)) w by kernel_rfl)
  | 3, _ => exact (show (Instr.index 77 (.agg x.cells) (.int .i64 ((3 : Nat) : Int))).run Tryd.prog w = .ok (.int .u32 (x.d.toNat : Nat)) w by kernel_rfl)
/-- The bytes of the first j words. -/
def outP (y : W4) (j : Nat) : List UInt8 := ((List.range j).map fun i => outB (y.at i)).flatten
theorem outP_succ (y : W4) (j : Nat) : outP y (j + 1) = outP y j ++ outB (y.at j) := by simp [outP, List.range_succ]
theorem outP_full (y : W4) : outP y 4 = outL y := by
  unfold outP outL
  simp [List.range_succ, W4.at]
theorem outB_length (x : UInt32) : (outB x).length = 4 := by simp [outB, putL32]
theorem outP_length (y : W4) (j : Nat) : (outP y j).length = 4 * j := by
  induction j with
  | zero => rfl
  | succ j ih => rw [outP_succ, List.length_append, ih, outB_length]; omega
theorem blockL_length (k s : List UInt32) (back : Bool) (m : List UInt8) : (blockL k s back m).length = 16 := by
  unfold blockL; rw [← outP_full, outP_length]
def BlkRet (w : World) (bs : List UInt8) (e : Ending) (w' : World) : Prop := ∃ v, e = .returned (.tuple #[v, .int .i64 0]) ∧ Own w' w.heap.size v bs ∧ Ext w w'
set_option maxHeartbeats 1000000 in
theorem block_bad (p : Nat) (A : Option Addr) (n cc : Nat) (back : Bool) (w : World) (h : n ≠ 16) :
    Calls Tryd.prog 22 #[.pointer (some ⟨p, 0, none⟩), .slice A n cc, .bool back] w fun e w' => e = .returned (.tuple #[.slice none 0 0, .int .i64 1]) ∧ Ext w w' := by
  have g : ((n : Int) != 16) = true := by simp; omega
  go_enter Tryd.func22, Tryd.ntmps22
  go_wp2
  go_ret2
  exact ⟨rfl, Ext.refl _⟩
theorem gather_in (A : Option Addr) (c : Nat) (bs : List UInt8) (w : World) (h : Rd w w.heap.size A 16 bs) (hc : 16 ≤ c) :
    Calls Tryd.prog 25 #[.slice A (16 : Nat) c] w fun e w' => ∃ g c', e = .returned (.slice (some ⟨g, 0, none⟩) 4 c') ∧ 4 ≤ c' ∧ w'.rangeAt g 0 (inW bs).cells.toList ∧ Ext w w' := by
  obtain ⟨b, o, rfl, _, _⟩ := h.at_ (by omega)
  refine (gatherW_any b o 4 c bs w h (by omega) hc).mono ?_
  rintro e w' ⟨v, rfl, ho, hx⟩
  obtain ⟨g, c', rfl, hc', _, _⟩ := OwnN.head (n := 4) ho rfl (by omega)
  refine ⟨g, c', rfl, hc', fun j v hv => ?_, hx⟩
  have hj : j < 4 := by
    rcases Nat.lt_or_ge j 4 with h1 | h1
    · exact h1
    · rw [List.getElem?_eq_none (by simp [W4.cells]; exact h1)] at hv; cases hv
  have hcell := OwnN.celln ho rfl j hj
  rw [Nat.zero_add, hcell, ← hv]
  rcases (show j = 0 ∨ j = 1 ∨ j = 2 ∨ j = 3 by omega) with rfl | rfl | rfl | rfl <;> rfl
set_option maxRecDepth 100000 in
set_option maxHeartbeats 4000000 in
theorem blockT_any (p n c cc : Nat) (A0 A : Option Addr) (ks ss : List UInt32) (bs : List UInt8) (w : World) (hG : GT w) (hT : TwoAt w p ks ss A0 n c) (h : Rd w w.heap.size A 16 bs) (hcc : 16 ≤ cc) :
    Calls Tryd.prog 22 #[.pointer (some ⟨p, 0, none⟩), .slice A 16 cc, .bool false] w (BlkRet w (outL (thereW ks ss (inW bs)))) := by
  obtain ⟨i0, hi5, hz0, hz1, hz2⟩ := info_parts Tryd.info5
  have HIN := hid (gather_in A cc bs w h hcc)
  have HG := hid hG
  have HT := hid hT
  clear hG hT h hcc
  obtain ⟨x, hx⟩ : ∃ x, inW bs = x := ⟨_, rfl⟩
  rw [hx] at HIN
  have HXX := hid hx
  clear hx
  go_enter Tryd.func22, Tryd.ntmps22
  go_wp2_with fail
  refine HIN.out.mono ?_
  rintro e w1 ⟨g, c', rfl, hc', hra, hx1⟩
  have HRA := hid hra
  have HAT := hid (fun w' => run_arrayAt (P := Tryd.prog) w' 77 37 4 (some ⟨g, 0, none⟩) 4 c' Tryd.underlying77 (Nat.le_refl _))
  have hb2 : V4 ((w1.alloc (.cells #[.int .u32 0, .int .u32 0, .int .u32 0, .int .u32 0] 77)).setRow w1.heap.size x.cells) w1.heap.size x := V4.put (show V4 _ _ ⟨0, 0, 0, 0⟩ from heap_alloc_new w1 _) x
  have hz1 := Below.size hx1
  have hx2 : Ext w ((w1.alloc (.cells #[.int .u32 0, .int .u32 0, .int .u32 0, .int .u32 0] 77)).setRow w1.heap.size x.cells) := Below.setRow_ (Ext.trans hx1 (Ext.alloc _ _)) hz1 _
  have HB2 := hid hb2
  have HX2 := hid hx2
  have HZ1 := hid hz1
  have HT2 := hid (HT.out.later hx2)
  have HG2 := hid (HG.out.later hx2)
  clear hra hx1 hb2 hx2 hz1 HIN hc'
  go_wp2_with (first
    | (rw [HAT.out]; simp only [Result.andThen]; rw [Oper.upon_value])
    | (refine wpList_load_mid rfl 77 (.tmp 17) rfl g 0 rfl x.cells.toList _ HRA.out Tryd.underlying77 rfl (by rw [W4.size x]; rfl) ?_)
    | (refine wpList_store_row rfl 77 (.tmp 8) (.tmp 18) rfl w1.heap.size x.cells rfl rfl 77 _ (heap_alloc_new w1 _) (W4.size x) rfl (W4.all x) ?_)
    | (refine wpList_load_row rfl 77 (.tmp 8) rfl w1.heap.size rfl 77 x.cells (0, 0) _ HB2.out Tryd.underlying77 rfl (W4.size x) ?_))
  refine (turn_any p n c A0 ks ss x _ HG2.out HT2.out).mono ?_
  rintro e w3 ⟨rfl, hx3⟩
  obtain ⟨y, hy⟩ : ∃ y, thereW ks ss x = y := ⟨_, rfl⟩
  have HYY := hid hy
  rw [hy]
  have hb3 := HB2.out.later hx3
  have HB3 := hid hb3
  have HB4 := hid (hb3.put y)
  have HX4 := hid (Below.setRow_ (Ext.trans HX2.out hx3) HZ1.out y.cells : Below w.heap.size w (w3.setRow w1.heap.size y.cells))
  clear hb3 hx3 hy HX2 HT2 HG2 HRA HAT HB2
  go_wp2_with (first
    | (refine wpList_store_row rfl 77 (.tmp 8) (.tmp 25) rfl w1.heap.size y.cells rfl rfl 77 _ HB3.out (W4.size y) rfl (W4.all y) ?_)
    | (at_make; refine wpList_make_own _ rfl (.const (.int .i64 0)) (.const (.int .i64 16)) 22 rfl w.heap.size 5 _ (.int .u8 0) 1 Tryd.underlying22 hi5 hz0 hz1 .i64 .i64 16 16 rfl rfl rfl (by rw [hz2]; omega) (by unfold maxLen; omega) (Below.size HX4.out) ?_; intro w5 hown5 hg5)
    | (refine wpList_load_row rfl 77 (.tmp 8) rfl w1.heap.size rfl 77 y.cells (0, 0) _ (V4.later HB4.out ((Below.refl _ _).grown hg5 (Nat.le_refl _) (fun k e => by cases e))) Tryd.underlying77 rfl (W4.size y) ?_))
  have hbz := Below.size HX4.out
  have HO := hid (show Own w5 w.heap.size (.slice (some ⟨(w3.setRow w1.heap.size y.cells).heap.size, 0, none⟩) 0 16) (outP y 0) from hown5)
  have HX5 := hid (show Ext w w5 from Below.grown HX4.out hg5 hbz (fun k e => by cases e))
  rw [setRow_size] at HO
  obtain ⟨g9, hg9⟩ : ∃ g9, w3.heap.size = g9 := ⟨_, rfl⟩
  rw [hg9] at HO ⊢
  clear hown5 hg5 hg9 hbz HX4 HB3 HB4 HZ1 hi5 hz0 hz1 hz2
  go_loopw [9, 28] (fun v i wr => ∃ j : Nat, j ≤ 4 ∧ i = .int .i64 j ∧ Own wr w.heap.size v (outP y j) ∧ Ext w wr) (fun _ i _ => 4 - (intOf i).toNat)
  case atStart => exact ⟨0, by omega, rfl, HO.out, HX5.out⟩
  case round =>
    obtain ⟨j, hj, rfl, hown, hx⟩ := hrel
    by_cases hlt : j < 4
    · have HI := hid (idx77 y j hlt)
      have hz := wlt (y.at j)
      have HPU := hid (fun w => putLe32_any (((y.at j).toNat : Nat) : Int) w (by omega) (by omega))
      have HSU := hid (outP_succ y j)
      have HLE := hid (outP_length y j)
      have HLB := hid (outB_length (y.at j))
      have HOB := hid (show putL32 (((y.at j).toNat : Nat) : Int) = outB (y.at j) from rfl)
      obtain ⟨z, hze⟩ : ∃ z, y.at j = z := ⟨_, rfl⟩
      rw [hze] at HI HPU HSU HLB HOB
      have HX := hid hx
      have HOW := hid hown
      have hlt' : (j : Int) < 4 := by omega
      clear hz hze hx hown
      go_wp2_with (rw [HI.out]; simp only [Result.andThen]; rw [Oper.upon_value])
      refine (HPU.out _).mono ?_
      rintro e w6 ⟨u, rfl, hou, hx6⟩
      rw [HOB.out] at hou
      obtain ⟨A6, c6, rfl, hr6, _⟩ := hou.rdn HLB.out
      have HO6 := hid (HOW.out.kept hx6)
      have HX6 := hid (Ext.trans HX.out hx6)
      have HR6 := hid hr6
      clear hou hx6 hr6
      go_wp2_with (refine wpL_append _ rfl (.tmp 31) (.tmp 33) 22 rfl Tryd.underlying22 Tryd.info5 w.heap.size _ _ rfl HO6.out _ A6 4 c6 _ rfl HR6.out (by have := HLE.out; omega) HX6.out.size ?_; intro v' w7 hown7 hb7)
      have HO7 := hid hown7
      rw [← HSU.out] at HO7
      have HX7 := hid (show Ext w w7 from Below.trans HX6.out hb7)
      clear hown7 hb7
      go_wp2_with fail
      exact ⟨⟨j + 1, by omega, by go_num, HO7.out, HX7.out⟩, by simp [intOf]; omega⟩
    · obtain rfl : j = 4 := by omega
      have HX := hid hx
      have HOW := hid hown
      rw [outP_full] at HOW
      clear hx hown
      go_wp2_with fail
      go_ret2
      exact ⟨_, rfl, by rw [HXX.out, HYY.out]; exact HOW.out, HX.out⟩
set_option maxRecDepth 100000 in
set_option maxHeartbeats 4000000 in
theorem blockB_any (p n c cc : Nat) (A0 A : Option Addr) (ks ss : List UInt32) (bs : List UInt8) (w : World) (hG : GT w) (hT : TwoAt w p ks ss A0 n c) (h : Rd w w.heap.size A 16 bs) (hcc : 16 ≤ cc) :
    Calls Tryd.prog 22 #[.pointer (some ⟨p, 0, none⟩), .slice A 16 cc, .bool true] w (BlkRet w (outL (backW ks ss (inW bs)))) := by
  obtain ⟨i0, hi5, hz0, hz1, hz2⟩ := info_parts Tryd.info5
  have HIN := hid (gather_in A cc bs w h hcc)
  have HG := hid hG
  have HT := hid hT
  clear hG hT h hcc
  obtain ⟨x, hx⟩ : ∃ x, inW bs = x := ⟨_, rfl⟩
  rw [hx] at HIN
  have HXX := hid hx
  clear hx
  go_enter Tryd.func22, Tryd.ntmps22
  go_wp2_with fail
  refine HIN.out.mono ?_
  rintro e w1 ⟨g, c', rfl, hc', hra, hx1⟩
  have HRA := hid hra
  have HAT := hid (fun w' => run_arrayAt (P := Tryd.prog) w' 77 37 4 (some ⟨g, 0, none⟩) 4 c' Tryd.underlying77 (Nat.le_refl _))
  have hb2 : V4 ((w1.alloc (.cells #[.int .u32 0, .int .u32 0, .int .u32 0, .int .u32 0] 77)).setRow w1.heap.size x.cells) w1.heap.size x := V4.put (show V4 _ _ ⟨0, 0, 0, 0⟩ from heap_alloc_new w1 _) x
  have hz1 := Below.size hx1
  have hx2 : Ext w ((w1.alloc (.cells #[.int .u32 0, .int .u32 0, .int .u32 0, .int .u32 0] 77)).setRow w1.heap.size x.cells) := Below.setRow_ (Ext.trans hx1 (Ext.alloc _ _)) hz1 _
  have HB2 := hid hb2
  have HX2 := hid hx2
  have HZ1 := hid hz1
  have HT2 := hid (HT.out.later hx2)
  have HG2 := hid (HG.out.later hx2)
  clear hra hx1 hb2 hx2 hz1 HIN hc'
  go_wp2_with (first
    | (rw [HAT.out]; simp only [Result.andThen]; rw [Oper.upon_value])
    | (refine wpList_load_mid rfl 77 (.tmp 17) rfl g 0 rfl x.cells.toList _ HRA.out Tryd.underlying77 rfl (by rw [W4.size x]; rfl) ?_)
    | (refine wpList_store_row rfl 77 (.tmp 8) (.tmp 18) rfl w1.heap.size x.cells rfl rfl 77 _ (heap_alloc_new w1 _) (W4.size x) rfl (W4.all x) ?_)
    | (refine wpList_load_row rfl 77 (.tmp 8) rfl w1.heap.size rfl 77 x.cells (0, 0) _ HB2.out Tryd.underlying77 rfl (W4.size x) ?_))
  refine (turnBack_any p n c A0 ks ss x _ HG2.out HT2.out).mono ?_
  rintro e w3 ⟨rfl, hx3⟩
  obtain ⟨y, hy⟩ : ∃ y, backW ks ss x = y := ⟨_, rfl⟩
  have HYY := hid hy
  rw [hy]
  have hb3 := HB2.out.later hx3
  have HB3 := hid hb3
  have HB4 := hid (hb3.put y)
  have HX4 := hid (Below.setRow_ (Ext.trans HX2.out hx3) HZ1.out y.cells : Below w.heap.size w (w3.setRow w1.heap.size y.cells))
  clear hb3 hx3 hy HX2 HT2 HG2 HRA HAT HB2
  go_wp2_with (first
    | (refine wpList_store_row rfl 77 (.tmp 8) (.tmp 22) rfl w1.heap.size y.cells rfl rfl 77 _ HB3.out (W4.size y) rfl (W4.all y) ?_)
    | (at_make; refine wpList_make_own _ rfl (.const (.int .i64 0)) (.const (.int .i64 16)) 22 rfl w.heap.size 5 _ (.int .u8 0) 1 Tryd.underlying22 hi5 hz0 hz1 .i64 .i64 16 16 rfl rfl rfl (by rw [hz2]; omega) (by unfold maxLen; omega) (Below.size HX4.out) ?_; intro w5 hown5 hg5)
    | (refine wpList_load_row rfl 77 (.tmp 8) rfl w1.heap.size rfl 77 y.cells (0, 0) _ (V4.later HB4.out ((Below.refl _ _).grown hg5 (Nat.le_refl _) (fun k e => by cases e))) Tryd.underlying77 rfl (W4.size y) ?_))
  have hbz := Below.size HX4.out
  have HO := hid (show Own w5 w.heap.size (.slice (some ⟨(w3.setRow w1.heap.size y.cells).heap.size, 0, none⟩) 0 16) (outP y 0) from hown5)
  have HX5 := hid (show Ext w w5 from Below.grown HX4.out hg5 hbz (fun k e => by cases e))
  rw [setRow_size] at HO
  obtain ⟨g9, hg9⟩ : ∃ g9, w3.heap.size = g9 := ⟨_, rfl⟩
  rw [hg9] at HO ⊢
  clear hown5 hg5 hg9 hbz HX4 HB3 HB4 HZ1 hi5 hz0 hz1 hz2
  go_loopw [9, 28] (fun v i wr => ∃ j : Nat, j ≤ 4 ∧ i = .int .i64 j ∧ Own wr w.heap.size v (outP y j) ∧ Ext w wr) (fun _ i _ => 4 - (intOf i).toNat)
  case atStart => exact ⟨0, by omega, rfl, HO.out, HX5.out⟩
  case round =>
    obtain ⟨j, hj, rfl, hown, hx⟩ := hrel
    by_cases hlt : j < 4
    · have HI := hid (idx77 y j hlt)
      have hz := wlt (y.at j)
      have HPU := hid (fun w => putLe32_any (((y.at j).toNat : Nat) : Int) w (by omega) (by omega))
      have HSU := hid (outP_succ y j)
      have HLE := hid (outP_length y j)
      have HLB := hid (outB_length (y.at j))
      have HOB := hid (show putL32 (((y.at j).toNat : Nat) : Int) = outB (y.at j) from rfl)
      obtain ⟨z, hze⟩ : ∃ z, y.at j = z := ⟨_, rfl⟩
      rw [hze] at HI HPU HSU HLB HOB
      have HX := hid hx
      have HOW := hid hown
      have hlt' : (j : Int) < 4 := by omega
      clear hz hze hx hown
      go_wp2_with (rw [HI.out]; simp only [Result.andThen]; rw [Oper.upon_value])
      refine (HPU.out _).mono ?_
      rintro e w6 ⟨u, rfl, hou, hx6⟩
      rw [HOB.out] at hou
      obtain ⟨A6, c6, rfl, hr6, _⟩ := hou.rdn HLB.out
      have HO6 := hid (HOW.out.kept hx6)
      have HX6 := hid (Ext.trans HX.out hx6)
      have HR6 := hid hr6
      clear hou hx6 hr6
      go_wp2_with (refine wpL_append _ rfl (.tmp 31) (.tmp 33) 22 rfl Tryd.underlying22 Tryd.info5 w.heap.size _ _ rfl HO6.out _ A6 4 c6 _ rfl HR6.out (by have := HLE.out; omega) HX6.out.size ?_; intro v' w7 hown7 hb7)
      have HO7 := hid hown7
      rw [← HSU.out] at HO7
      have HX7 := hid (show Ext w w7 from Below.trans HX6.out hb7)
      clear hown7 hb7
      go_wp2_with fail
      exact ⟨⟨j + 1, by omega, by go_num, HO7.out, HX7.out⟩, by simp [intOf]; omega⟩
    · obtain rfl : j = 4 := by omega
      have HX := hid hx
      have HOW := hid hown
      rw [outP_full] at HOW
      clear hx hown
      go_wp2_with fail
      go_ret2
      exact ⟨_, rfl, by rw [HXX.out, HYY.out]; exact HOW.out, HX.out⟩
theorem block_any (p : Nat) (cc : Nat) (A : Option Addr) (ks ss : List UInt32) (back : Bool) (bs : List UInt8) (w : World) (hG : GT w) (hT : IsTwo w p ks ss) (h : Rd w w.heap.size A 16 bs) (hcc : 16 ≤ cc) :
    Calls Tryd.prog 22 #[.pointer (some ⟨p, 0, none⟩), .slice A 16 cc, .bool back] w (BlkRet w (blockL ks ss back bs)) := by
  obtain ⟨A0, n, c, hT⟩ := hT
  cases back
  · exact blockT_any p n c cc A0 A ks ss bs w hG hT h hcc
  · exact blockB_any p n c cc A0 A ks ss bs w hG hT h hcc
end Go.Proofs.YtbdncalllfpodaaDoor
