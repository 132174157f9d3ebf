/- Walks over what F of the program calls; own lemmas of the verifier, no statement is proved here. -/
import Derived.Test.YthfcndaccfpnmaaDoorX5
namespace Go.Proofs.YthfcndaccfpnmaaDoor
open Go.RowKit
/-- The program's boxes. -/
def Boxes (w : World) : Prop := ∀ i, i < 8 → ∀ r, r < 4 → w.cell? ⟨0, i * 4 + r, none⟩ = some (.int .u64 (boxW i r : Nat))
theorem Boxes.later {w w' : World} (h : Boxes w) (hx : Ext w w') : Boxes w' := fun i hi r hr =>
  (Below.cell hx (p := ⟨0, i * 4 + r, none⟩) (World.block_lt_of_cell? w _ (h i hi r hr))).trans (h i hi r hr)
set_option maxRecDepth 100000 in
theorem boxW_lt : ∀ i, i < 8 → ∀ r, r < 4 → boxW i r < 18446744073709551616 := by decide +kernel
set_option maxHeartbeats 1000000 in
theorem look_any (i s : Nat) (w : World) (hi : i < 8) (hs : s < 64) (hB : Boxes w) :
    Calls Tryd.prog 34 #[.int .i64 i, .int .u32 s] w fun e w' => e = .returned (.int .u32 (sN i s : Nat)) ∧ w = w' := by
  have hr : 2 * (s / 32) + s % 2 < 4 := by omega
  have hcell := hB i hi _ hr
  have hw := boxW_lt i hi _ hr
  have b1 : bits .and .u32 (s : Int) 1 = ((s % 2 : Nat) : Int) := by
    rw [show (1 : Int) = ((1 : Nat) : Int) from rfl, u32_and_nat _ _ (by omega) (by omega), nat_mask1]
  have b2 : bits .or .u32 ((s : Int) / 32 * 2) ((s % 2 : Nat) : Int) = ((2 * (s / 32) + s % 2 : Nat) : Int) := by
    rw [show (s : Int) / 32 * 2 = ((2 * (s / 32) : Nat) : Int) by omega, u32_or_nat _ _ (by omega) (by omega), or_bit _ _ (by omega)]
  have b3 : bits .and .u32 ((s : Int) / 2) 15 = ((s / 2 % 16 : Nat) : Int) := by
    rw [show (15 : Int) = ((15 : Nat) : Int) from rfl, show (s : Int) / 2 = ((s / 2 : Nat) : Int) by omega, u32_and_nat _ _ (by omega) (by omega), nat_mask4]
  have hS : sN i s = boxW i (2 * (s / 32) + s % 2) / 2 ^ (60 - 4 * (s / 2 % 16)) % 16 := rfl
  obtain ⟨R, hR⟩ : ∃ R, 2 * (s / 32) + s % 2 = R := ⟨_, rfl⟩
  obtain ⟨a, ha⟩ : ∃ a, s % 2 = a := ⟨_, rfl⟩
  obtain ⟨B, hBB⟩ : ∃ B, s / 2 % 16 = B := ⟨_, rfl⟩
  rw [hR] at hr hcell hw b2 hS
  rw [ha] at b1 b2
  rw [hBB] at b3 hS
  obtain ⟨X, hX⟩ : ∃ X, boxW i R = X := ⟨_, rfl⟩
  rw [hX] at hcell hw hS
  have hB16 : B ≤ 15 := by omega
  have hX2 : (X : Int) < 18446744073709551616 := by omega
  have HS := hid hS
  clear hB hR ha hBB hX hS
  go_enter Tryd.func34, Tryd.ntmps34
  go_wp2_with fail
  go_ret
  refine ⟨ret_int ?_, rfl⟩
  rw [HS.out]
  have hq : (X : Int) / 2 ^ (60 - 4 * B) % 4294967296 = ((X / 2 ^ (60 - 4 * B) % 4294967296 : Nat) : Int) := by rw [natdiv_cast]; omega
  rw [hq, show (15 : Int) = ((15 : Nat) : Int) from rfl, u32_and_nat _ _ (by omega) (by omega), nat_mask4]
  omega
/-- Bytes as a number. -/
def beN (bs : List UInt8) : Nat → Nat
  | 0 => 0
  | k + 1 => beN bs k * 256 + (bs.getD k 0).toNat
theorem be8_beN (bs : List UInt8) : be bs 8 = (beN bs 8 : Nat) := by
  rw [be8]
  simp only [beN, byteAt]
  omega
theorem be4_beN (bs : List UInt8) : be bs 4 = (beN bs 4 : Nat) := by
  rw [be4]
  simp only [beN, byteAt]
  omega
set_option maxHeartbeats 1000000 in
theorem number_any (A : Option Addr) (c : Nat) (k : List UInt8) (w : World) (h : Rd w w.heap.size A 6 k) :
    Calls Tryd.prog 32 #[.slice A 6 c] w fun e w' => e = .returned (.int .u64 (beN (0 :: 0 :: k) 8 : Nat)) ∧ Ext w w' := by
  have hl := h.len
  have hx1 : Ext w (w.alloc (.cells #[.int .u8 0, .int .u8 0, .int .u8 0, .int .u8 0, .int .u8 0, .int .u8 0, .int .u8 0, .int .u8 0] 82)) := Ext.alloc _ _
  have hr1 := h.later hx1
  have hz1 : (w.alloc (.cells #[.int .u8 0, .int .u8 0, .int .u8 0, .int .u8 0, .int .u8 0, .int .u8 0, .int .u8 0, .int .u8 0] 82)).heap[w.heap.size]? = some (.cells (List.replicate 8 (Value.int .u8 0)).toArray 82 (0, 0)) := heap_alloc_new w _
  have hcl : (cellsOf k).length = 6 := by rw [cellsOf_length]; exact hl
  have hpos : 0 < (cellsOf k).length → ∃ ad, A = some ad ∧ ∀ j v, (cellsOf k)[j]? = some v → (w.alloc (.cells #[.int .u8 0, .int .u8 0, .int .u8 0, .int .u8 0, .int .u8 0, .int .u8 0, .int .u8 0, .int .u8 0] 82)).cell? (ad.add j) = some v := by
    intro _
    obtain ⟨b, off, rfl, _, hc⟩ := hr1.at_ (by omega)
    refine ⟨_, rfl, fun j v hv => ?_⟩
    have hj : j < 6 := by
      rcases Nat.lt_or_ge j 6 with hj | hj
      · exact hj
      · rw [List.getElem?_eq_none (by omega)] at hv; cases hv
    rw [cellsOf_get k j (by omega)] at hv
    cases hv
    rw [add_off]; exact hc j hj
  have hsp : splice (List.replicate 8 (Value.int .u8 0)) 2 (cellsOf k) = cellsOf (0 :: 0 :: k) := by
    unfold splice
    rw [hcl]
    simp [cellsOf]
  have HP := hid hpos
  have HSP := hid hsp
  have HX1 := hid (show Below w.heap.size w (w.alloc (.cells #[.int .u8 0, .int .u8 0, .int .u8 0, .int .u8 0, .int .u8 0, .int .u8 0, .int .u8 0, .int .u8 0] 82)) from hx1)
  have HZ1 := hid hz1
  have HCL := hid (show (cellsOf k).length = Nat.min 6 6 by rw [hcl]; rfl)
  have HFT := hid (show 2 + (cellsOf k).length ≤ (List.replicate 8 (Value.int .u8 0)).length by rw [hcl]; simp)
  clear hpos hsp hx1 hz1 hcl hr1
  go_enter Tryd.func32, Tryd.ntmps32
  go_wp2_with (with_reducible refine wpList_copy_splice rfl (.tmp 6) (.tmp 7) 22 22 rfl 5 Tryd.underlying22 (by kernel_rfl) (some ⟨w.heap.size, 2, none⟩) A 6 6 6 c rfl rfl w.heap.size 2 (List.replicate 8 (.int .u8 0)) 82 HZ1.out (cellsOf k) HCL.out (fun h0 => ⟨rfl, HP.out h0⟩) HFT.out (cellsOf_one k) w.heap.size w HX1.out (Nat.le_refl _) ?_; intro w2 hz2 hb2)
  rw [HSP.out] at hz2
  have hr2 : Rd w2 w2.heap.size (some ⟨w.heap.size, 0, none⟩) 8 (0 :: 0 :: k) := by
    refine ⟨by simp [hl], fun _ => ⟨w.heap.size, 0, rfl, (Array.getElem?_eq_some_iff.1 hz2.out).1, fun j hj => ?_⟩⟩
    rw [Nat.zero_add, cell_of_heap hz2.out]
    simpa using cellsOf_get (0 :: 0 :: k) j (by simp [hl]; omega)
  have HR2 := hid hr2
  have HB2 := hid (show Ext w w2 from hb2)
  clear hz2 hr2 hb2 HP HSP HX1 HZ1 HCL HFT h
  go_wp2_with fail
  refine (be64_any _ 8 _ _ _ _ HR2.out (by omega)).mono ?_
  rintro e w3 ⟨rfl, rfl⟩
  have he : be64N (0 :: 0 :: k) 8 = (beN (0 :: 0 :: k) 8 : Nat) := by unfold be64N; rw [if_pos rfl]; exact be8_beN _
  rw [he]
  clear he
  go_wp2_with fail
  go_ret
  exact ⟨rfl, HB2.out⟩
end Go.Proofs.YthfcndaccfpnmaaDoor
