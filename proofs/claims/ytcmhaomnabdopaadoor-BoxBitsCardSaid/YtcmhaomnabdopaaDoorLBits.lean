/- The law on each bit's own row, walked; own text of the verifier. -/
import Derived.Test.YtcmhaomnabdopaaDoorX6
import Derived.Deep.DeepCutAuto
import Derived.Deep.CutBlock
namespace Go.Proofs.YtcmhaomnabdopaaDoor
open Go.RowKit
theorem xor_ib (a b : Nat) (ha : a < 256) (hb : b < 256) : bits .xor .u8 (a : Int) (b : Int) = ((a ^^^ b : Nat) : Int) := u8_xor_nat a b ha hb
theorem cells8 {r : List UInt8} (h : r.length = 8) : (cellsOf r).toArray = #[.int .u8 (nb r 0 : Nat), .int .u8 (nb r 1 : Nat), .int .u8 (nb r 2 : Nat), .int .u8 (nb r 3 : Nat), .int .u8 (nb r 4 : Nat), .int .u8 (nb r 5 : Nat), .int .u8 (nb r 6 : Nat), .int .u8 (nb r 7 : Nat)] := by
  match r, h with
  | [_, _, _, _, _, _, _, _], _ => rfl
def bitsKs (x c : Nat) (r s : List UInt8) : List K := [.eq (.int .u8 x), .eq (.agg (cellsOf r).toArray), .eq (.int .u8 c), .eq (.int .u8 (affN x (nb r) c : Nat)), .eq (.int .u8 x), .eq (.agg (cellsOf s).toArray), .eq (.int .u8 c), .eq (.int .u8 (affN x (nb s) c : Nat)), .eq (.int .u8 (affN x (nb r) c : Nat)), .eq (.int .u8 (affN x (nb s) c : Nat))]
theorem bits_turn {x c b k : Nat} {r s : List UInt8} (hr : r.length = 8) (hk : k < 8) (hs : s = r.set k (UInt8.ofNat (nb r k ^^^ b))) (hb : b < 256) :
    affN x (nb r) c ^^^ affN x (nb s) c = par (x &&& b) * 2 ^ k := by
  have e : ∀ j, nb s j = if k = j then nb r k ^^^ b else nb r j := fun j => by
    rw [hs]; exact nb_set r k j _ (by omega) (xor_lt8 (nb_lt r k) hb)
  have h := affG_row (x := x) (c := c) (b := b) (k := k) (rs := nb r) (ss := nb s) (by rw [e, if_pos rfl]) (fun j hj => by rw [e, if_neg (fun h => hj h.symm)]) 8
  rw [if_pos hk] at h
  unfold affN
  rw [h, ← Nat.xor_assoc, Nat.xor_self, Nat.zero_xor]
set_option maxRecDepth 100000 in
set_option maxHeartbeats 4000000 in
theorem bits_walk (a0 : Int) (a1 : Option Addr) (len1 cap1 : Nat) (z1 : List Int) (a2 a3 a4 : Int) (w : World) (w0 : (Lit.int .u8 a0).wf = true) (w1 : IsRow .u8 w a1 len1 cap1 z1) (w2 : (Lit.int .u8 a2).wf = true) (_w3 : (Lit.int .i64 a3).wf = true) (w4 : (Lit.int .u8 a4).wf = true) (ho : Odd w) :
    Calls Tryd.prog 11 #[.int .u8 a0, .slice a1 len1 cap1, .int .u8 a2, .int .i64 a3, .int .u8 a4] w fun e w' => e = .returned (.bool true) ∧ Below w.heap.size w w' := by
  obtain ⟨x, rfl, hx⟩ := byte_arg w0
  obtain ⟨c, rfl, hc⟩ := byte_arg w2
  obtain ⟨b, rfl, hb⟩ := byte_arg w4
  obtain ⟨bs, hrb, _, _⟩ := w1.rdc
  clear w0 w1 w2 _w3 w4
  go_enter Tryd.func11, Tryd.ntmps11
  go_wp2_with fail
  refine (known_any _ ho).mono ?_
  rintro e wk ⟨rfl, hxk⟩
  have HXK := hid hxk
  have hrb1 := hrb.later hxk
  have HO1 := hid (ho.later hxk)
  clear hxk hrb ho
  go_wp2_with fail
  refine (rows_any _ _ _ _ _ hrb1).mono ?_
  rintro e wr ⟨rfl, hxr⟩
  have hr8 := rowsL_length bs
  obtain ⟨r, hr⟩ : ∃ r, rowsL bs = r := ⟨_, rfl⟩
  rw [hr] at hr8 ⊢
  have HXR := hid (Ext.trans HXK.out hxr)
  have HO2 := hid (HO1.out.later hxr)
  clear hr hrb1 hxr
  obtain ⟨k, hk⟩ : ∃ k : Nat, a3 % 8 = k := ⟨(a3 % 8).toNat, by omega⟩
  have hk8 : k < 8 := by omega
  have HK := hid hk
  clear hk
  go_wp2_with (refine wpList_store_row rfl 33 (.tmp 11) (.tmp 21) rfl wr.heap.size (cellsOf r).toArray rfl rfl 33 _ (heap_alloc_new wr _) (size33' hr8) (by simp [cellsOf, hr8]) (cells_all _) ?_)
  have hA := setRow_heap (wr.alloc (.cells (cellsOf (List.replicate 8 0)).toArray 33)) wr.heap.size _ (cellsOf r).toArray 33 (0, 0) (heap_alloc_new wr _)
  have hX := below_setRow (Ext.alloc wr (.cells (cellsOf (List.replicate 8 0)).toArray 33)) (g := wr.heap.size) (Nat.le_refl _) (cellsOf r).toArray
  rw [cells_zero8] at hA hX
  obtain ⟨W3, hW3⟩ : ∃ W3, (wr.alloc (.cells #[.int .u8 0, .int .u8 0, .int .u8 0, .int .u8 0, .int .u8 0, .int .u8 0, .int .u8 0, .int .u8 0] 33)).setRow wr.heap.size (cellsOf r).toArray = W3 := ⟨_, rfl⟩
  rw [hW3] at hA hX ⊢
  have HX3 := hid (Ext.trans HXR.out hX)
  have hO := hid (HO2.out.later hX)
  have hGW : wr.heap.size < W3.heap.size := (Array.getElem?_eq_some_iff.1 hA).1
  obtain ⟨G, hG⟩ : ∃ G, wr.heap.size = G := ⟨_, rfl⟩
  rw [hG] at hA hGW ⊢
  have HA0 := hid (show Arr8 W3 G r from hA)
  clear hW3 hA hX hG
  refine (within_any _ _ _ (by omega) (by omega)).mono ?_
  rintro e w' ⟨rfl, rfl⟩
  rw [HK.out]
  go_upto_region 6 with (first
    | (refine wpList_load_row rfl 33 (.tmp 11) rfl G rfl 33 (cellsOf r).toArray (0,0) _ HA0.out Tryd.underlying33 rfl (size33' hr8) ?_)
    | (refine wpList_store_row rfl 33 (.tmp 13) (.tmp 24) rfl W3.heap.size (cellsOf r).toArray rfl rfl 33 _ (heap_alloc_new W3 _) (size33' hr8) (by simp [cellsOf, hr8]) (cells_all _) ?_))
  have hA := setRow_heap (W3.alloc (.cells (cellsOf (List.replicate 8 0)).toArray 33)) W3.heap.size _ (cellsOf r).toArray 33 (0, 0) (heap_alloc_new W3 _)
  have hX := below_setRow (Ext.alloc W3 (.cells (cellsOf (List.replicate 8 0)).toArray 33)) (g := W3.heap.size) (Nat.le_refl _) (cellsOf r).toArray
  rw [cells_zero8] at hA hX
  obtain ⟨W4, hW4⟩ : ∃ W4, (W3.alloc (.cells #[.int .u8 0, .int .u8 0, .int .u8 0, .int .u8 0, .int .u8 0, .int .u8 0, .int .u8 0, .int .u8 0] 33)).setRow W3.heap.size (cellsOf r).toArray = W4 := ⟨_, rfl⟩
  rw [hW4] at hA hX ⊢
  obtain ⟨H, hH⟩ : ∃ H, W3.heap.size = H := ⟨_, rfl⟩
  rw [hH] at hA hGW ⊢
  have hA4 : Arr8 W4 H r := hA
  have hcell := hA4.cell k (by omega)
  have hfr := frozen_of_row W4 H k _ 33 hA4
  have hrl := nb_lt r k
  have hsl := xor_lt8 hrl hb
  have hset := heap_setCell_same W4 H k _ 33 (.int .u8 ((UInt8.ofNat (nb r k ^^^ b)).toNat : Int)) hA4
  rw [cells_set, u8_nat _ hsl] at hset
  have hxb := xor_ib (nb r k) b hrl hb
  rw [← hxb] at hset
  obtain ⟨s, hs⟩ : ∃ s, r.set k (UInt8.ofNat (nb r k ^^^ b)) = s := ⟨_, rfl⟩
  have hs8 : s.length = 8 := by rw [← hs, List.length_set]; exact hr8
  have HTURN := hid (fun X C => bits_turn (x := X) (c := C) hr8 hk8 hs.symm hb)
  rw [hs] at hset
  have hset0 := heap_setCell_other W4 ⟨H, k, none⟩ G (.int .u8 (bits .xor .u8 (nb r k : Nat) (b : Nat))) (by simp; omega)
  have HX4 := hid (show Ext W3 (W4.setCell ⟨H, k, none⟩ (.int .u8 (bits .xor .u8 (nb r k : Nat) (b : Nat)))) from Below.setCell hX (by simp; omega) _)
  have HA := hid (show Arr8 (W4.setCell ⟨H, k, none⟩ (.int .u8 (bits .xor .u8 (nb r k : Nat) (b : Nat)))) G r from hset0.trans (HA0.out.later hX))
  have HS := hid (show Arr8 (W4.setCell ⟨H, k, none⟩ (.int .u8 (bits .xor .u8 (nb r k : Nat) (b : Nat)))) H s from hset)
  have hO2 := hid (hO.out.later HX4.out)
  obtain ⟨R, hR⟩ : ∃ R, nb r k = R := ⟨_, rfl⟩
  rw [hR] at HX4 HA HS hO2 hcell hrl
  clear hW4 hA hX hA4 hset hset0 hs hH hxb hR hsl HA0 HO2 HO1
  go_upto_region 7 with fail
  obtain ⟨W5, hW5⟩ : ∃ W5, W4.setCell ⟨H, k, none⟩ (.int .u8 (bits .xor .u8 (R : Nat) (b : Nat))) = W5 := ⟨_, rfl⟩
  rw [hW5] at HX4 HA HS hO2 ⊢
  have HX5 := hid (Ext.trans HX3.out HX4.out)
  have hO := hO2
  clear hW5 hcell hfr HX4 HX3 hO2
  refine region_inv mixed rfl (by kernel_rfl) (kV (bitsKs x c r s)) (kV_keep _) (forall_ops ⟨?_, ?_, ?_, ?_, ?_, ?_, ?_, ?_, ?_, ?_, trivial⟩) ?_
  · intro a w hk
    have s0 : a.tmps.getD 0 undef = .int .u8 x := hk.was 0 (by kernel_rfl) rfl
    exact step_move rfl rfl s0 rfl
  · intro a w hk
    have s11 : a.tmps.getD 11 undef = .pointer (some ⟨G, 0, none⟩) := hk.was 11 (by kernel_rfl) rfl
    exact step_val (v := .agg (cellsOf r).toArray) (w' := w) rfl (exec_load33 rfl s11 (HA.out.later hk.ext) hr8) (Ext.refl w) rfl
  · intro a w hk
    have s2 : a.tmps.getD 2 undef = .int .u8 c := hk.was 2 (by kernel_rfl) rfl
    exact step_move rfl rfl s2 rfl
  · intro a w hk
    have s32 := hk.eq_ 0 32 (by kernel_rfl) rfl
    have s33 := hk.eq_ 1 33 (by kernel_rfl) rfl
    have s34 := hk.eq_ 2 34 (by kernel_rfl) rfl
    exact step_call rfl rfl (by simp only [List.map_toArray, List.map_cons, List.map_nil, Act.eval, s32, s33, s34] <;> rfl) cf20 (aff_any x c r w hr8 hx hc (hO.out.later hk.ext)) (fun e w' h => retX e w' h)
  · intro a w hk
    have s0 : a.tmps.getD 0 undef = .int .u8 x := hk.was 0 (by kernel_rfl) rfl
    exact step_move rfl rfl s0 rfl
  · intro a w hk
    have s13 : a.tmps.getD 13 undef = .pointer (some ⟨H, 0, none⟩) := hk.was 13 (by kernel_rfl) rfl
    exact step_val (v := .agg (cellsOf s).toArray) (w' := w) rfl (exec_load33 rfl s13 (HS.out.later hk.ext) hs8) (Ext.refl w) rfl
  · intro a w hk
    have s2 : a.tmps.getD 2 undef = .int .u8 c := hk.was 2 (by kernel_rfl) rfl
    exact step_move rfl rfl s2 rfl
  · intro a w hk
    have s36 := hk.eq_ 4 36 (by kernel_rfl) rfl
    have s37 := hk.eq_ 5 37 (by kernel_rfl) rfl
    have s38 := hk.eq_ 6 38 (by kernel_rfl) rfl
    exact step_call rfl rfl (by simp only [List.map_toArray, List.map_cons, List.map_nil, Act.eval, s36, s37, s38] <;> rfl) cf20 (aff_any x c s w hs8 hx hc (hO.out.later hk.ext)) (fun e w' h => retX e w' h)
  · intro a w hk
    have s35 := hk.eq_ 3 35 (by kernel_rfl) rfl
    exact step_assign rfl rfl s35 rfl
  · intro a w hk
    have s39 := hk.eq_ 7 39 (by kernel_rfl) rfl
    exact step_assign rfl rfl s39 rfl
  · intro a w1 hf
    have s32 := hf.eq_ 0 32 (by kernel_rfl) rfl
    have s33 := hf.eq_ 1 33 (by kernel_rfl) rfl
    have s34 := hf.eq_ 2 34 (by kernel_rfl) rfl
    have s35 := hf.eq_ 3 35 (by kernel_rfl) rfl
    have s36 := hf.eq_ 4 36 (by kernel_rfl) rfl
    have s37 := hf.eq_ 5 37 (by kernel_rfl) rfl
    have s38 := hf.eq_ 6 38 (by kernel_rfl) rfl
    have s39 := hf.eq_ 7 39 (by kernel_rfl) rfl
    have s14 := hf.eq_ 8 14 (by kernel_rfl) rfl
    have s15 := hf.eq_ 9 15 (by kernel_rfl) rfl
    have hx := hf.ext
    have e := hf.frame
    clear hf
    simp only [regFrame, Act.put, List.setIfInBounds_toArray, List.set_cons_zero, List.set_cons_succ, s32, s33, s34, s35, s36, s37, s38, s39, s14, s15] at e
    clear s32 s33 s34 s35 s36 s37 s38 s39 s14 s15
    subst e
    have HX6 := hid (Ext.trans HX5.out hx)
    have HA6 := hid (HA.out.later hx)
    have hO6 := hid (hO.out.later hx)
    clear hx HA HS hO HX5
    have hx256 : x < 256 := by assumption
    have hBl := and_lt8 (b := b) hx256
    have hand := u8_and_i x b hx256 hb
    have hturn := HTURN.out x c
    obtain ⟨B, hB⟩ : ∃ B, x &&& b = B := ⟨_, rfl⟩
    rw [hB] at hBl hand hturn
    have hP := affN_lt (x := x) (rs := nb r) hc
    have hQ := affN_lt (x := x) (rs := nb s) hc
    have hxor := xor_ib _ _ hP hQ
    rw [hturn] at hxor
    have HXOR := hid hxor
    have hp1 := par_le B
    have hbl := bit_lt hp1 hk8
    clear hxor hturn HTURN hB
    go_wp2_with fail
    go_loop [16, 17] (fun v i => ∃ j : Nat, j ≤ 8 ∧ i = .int .u64 j ∧ v = .int .u8 (parK B j : Nat)) (fun _ i => 8 - (intOf i).toNat)
    case atStart => exact ⟨0, Nat.zero_le _, rfl, rfl⟩
    case round =>
      obtain ⟨j, hj, rfl, rfl⟩ := hrel
      by_cases hjt : j < 8
      · have hp := parK_le B j
        have hb1 : B / 2 ^ j % 2 ≤ 1 := by omega
        have hm := u8_and_one (B / 2 ^ j) (Nat.lt_of_le_of_lt (Nat.div_le_self _ _) hBl)
        have hst := one_xor hp hb1
        have hK : parK B (j + 1) = (parK B j + B / 2 ^ j % 2) % 2 := rfl
        rw [← hK] at hst
        have hxj := xor_ib (parK B j) (B / 2 ^ j % 2) (by omega) (by omega)
        rw [hst] at hxj
        obtain ⟨q, hq⟩ : ∃ q, B / 2 ^ j % 2 = q := ⟨_, rfl⟩
        rw [hq] at hm hxj hb1
        have hdv : ((B / 2 ^ j : Nat) : Int) = (B : Int) / 2 ^ j := by simp
        rw [hdv] at hm
        have HXJ := hid hxj
        clear hst hK hxj hq hdv
        go_wp2_with fail
        go_round
        case rel => exact ⟨j + 1, by omega, by go_num, by rw [HXJ.out]⟩
        case measure => simp [intOf]; omega
      · obtain rfl : j = 8 := by omega
        have hpe : parK B 8 = par B := rfl
        rw [hpe]
        have hpk : ((par B * 2 ^ k : Nat) : Int) = (par B : Int) * 2 ^ k := by push_cast; rfl
        have hxor := HXOR.out
        rw [hpk] at hxor
        have hsh : (par B : Int) * 2 ^ k % 256 = (par B : Int) * 2 ^ k := by rw [← hpk]; omega
        clear hpk hand hpe
        obtain ⟨p, hpe⟩ : ∃ p, par B = p := ⟨_, rfl⟩
        rw [hpe] at hxor hsh hp1 hbl ⊢
        clear hpe
        have g0 := HA6.out.cell 0 (by omega)
        have g1 := HA6.out.cell 1 (by omega)
        have g2 := HA6.out.cell 2 (by omega)
        have g3 := HA6.out.cell 3 (by omega)
        have g4 := HA6.out.cell 4 (by omega)
        have g5 := HA6.out.cell 5 (by omega)
        have g6 := HA6.out.cell 6 (by omega)
        have g7 := HA6.out.cell 7 (by omega)
        have hcall := raff_any x c r w1 hr8 hx256 hc
        rw [cells8 hr8] at hcall
        have HCALL := hid hcall
        clear hcall
        go_wp2_with fail
        refine HCALL.out.mono ?_
        rintro e w2 ⟨rfl, hx2⟩
        have HX7 := hid (Ext.trans HX6.out hx2)
        clear hx2 g0 g1 g2 g3 g4 g5 g6 g7 hxor hsh
        go_wp2_with fail
        go_ret
        exact ⟨rfl, HX7.out⟩
end Go.Proofs.YtcmhaomnabdopaaDoor
