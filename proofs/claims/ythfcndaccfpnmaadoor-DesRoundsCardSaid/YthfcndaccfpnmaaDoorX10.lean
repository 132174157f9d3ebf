/- Walks over what F of the reference calls; own lemmas of the verifier, no statement is proved here. -/
import Derived.Test.YthfcndaccfpnmaaDoorX9
namespace Go.Proofs.YthfcndaccfpnmaaDoor
open Go.RowKit
/-- A sign's number. -/
def dig (c : Nat) : Nat := if 65 ≤ c then c - 65 + 10 else c - 48
def isSign (c : Nat) : Bool := (decide (48 ≤ c) && decide (c ≤ 57)) || (decide (65 ≤ c) && decide (c ≤ 70))
def goodS (d : ByteArray) (i r : Nat) : Bool := decide (d.size = 16) && (List.range 16).all fun p => isSign (d.data.getD p 0).toNat && decide (dig (d.data.getD p 0).toNat = boxW i r / 2 ^ (60 - 4 * p) % 16)
set_option maxHeartbeats 400000 in
theorem digit_any (c : Nat) (w : World) (hc : isSign c = true) : Calls Tryd.prog 56 #[.int .u8 c] w fun e w' => e = .returned (.int .i64 (dig c : Nat)) ∧ w = w' := by
  unfold isSign at hc
  simp only [Bool.or_eq_true, Bool.and_eq_true, decide_eq_true_eq] at hc
  by_cases h : 65 ≤ c
  · have hd : dig c = c - 65 + 10 := by unfold dig; rw [if_pos h]
    have hc2 : c ≤ 70 := by omega
    rw [hd]
    clear hd hc
    go_enter Tryd.func56, Tryd.ntmps56
    go_wp2
    go_ret
    exact ⟨ret_int (by omega), rfl⟩
  · have hd : dig c = c - 48 := by unfold dig; rw [if_neg h]
    have hc2 : 48 ≤ c := by omega
    rw [hd]
    clear hd hc
    go_enter Tryd.func56, Tryd.ntmps56
    go_wp2
    go_ret
    exact ⟨ret_int (by omega), rfl⟩
theorem good_at {d : ByteArray} {i r p : Nat} (h : goodS d i r = true) (hp : p < 16) : ∃ hs : p < d.size, isSign (d[p]'hs).toNat = true ∧ dig (d[p]'hs).toNat = boxW i r / 2 ^ (60 - 4 * p) % 16 := by
  unfold goodS at h
  simp only [Bool.and_eq_true, decide_eq_true_eq] at h
  obtain ⟨h1, h2⟩ := h
  have hs : p < d.size := by omega
  have h3 := List.all_eq_true.1 h2 p (List.mem_range.2 hp)
  simp only [Bool.and_eq_true, decide_eq_true_eq] at h3
  have e : d.data.getD p 0 = d[p]'hs := by
    rw [Array.getD_eq_getD_getElem?, Array.getElem?_eq_getElem (show p < d.data.size from hs)]; rfl
  rw [e] at h3
  exact ⟨hs, h3⟩
set_option maxHeartbeats 400000 in
theorem at_any (d : ByteArray) (i r p : Nat) (w : World) (hp : p < 16) (h : goodS d i r = true) :
    Calls Tryd.prog 39 #[.string d, .int .i64 p] w fun e w' => e = .returned (.int .i64 (boxW i r / 2 ^ (60 - 4 * p) % 16 : Nat)) ∧ w = w' := by
  obtain ⟨hs, h1, h2⟩ := good_at h hp
  have HG := hid h2
  clear h2 h
  go_enter Tryd.func39, Tryd.ntmps39
  go_wp2_with (go_at_call 56; refine (digit_any _ _ h1).mono ?_; rintro e w' ⟨rfl, rfl⟩)
  go_ret
  exact ⟨ret_int (by rw [HG.out]), rfl⟩
/-- Four strings, in a row. -/
def RowsRet (i : Nat) (w : World) (e : Ending) (w' : World) : Prop :=
  ∃ b, e = .returned (.slice (some ⟨b, 0, none⟩) 4 4) ∧ (∀ r, r < 4 → ∃ d, w'.cell? ⟨b, r, none⟩ = some (.string d) ∧ goodS d i r = true) ∧ Ext w w'
theorem rows_lit (i : Nat) (w : World) (d0 d1 d2 d3 : ByteArray) (h0 : goodS d0 i 0 = true) (h1 : goodS d1 i 1 = true) (h2 : goodS d2 i 2 = true) (h3 : goodS d3 i 3 = true) :
    RowsRet i w (.returned (.slice (some ⟨w.heap.size, 0, none⟩) 4 4)) (w.alloc (.cells #[.string d0, .string d1, .string d2, .string d3] 9)) := by
  refine ⟨_, rfl, fun r hr => ?_, Ext.alloc _ _⟩
  rw [cell_of_heap (heap_alloc_new w _)]
  match r, hr with
  | 0, _ => exact ⟨d0, rfl, h0⟩
  | 1, _ => exact ⟨d1, rfl, h1⟩
  | 2, _ => exact ⟨d2, rfl, h2⟩
  | 3, _ => exact ⟨d3, rfl, h3⟩
set_option maxRecDepth 100000
set_option maxHeartbeats 4000000 in
theorem rows_any (i : Nat) (w : World) (hi : i < 8) : Calls Tryd.prog 40 #[.int .i64 i] w (RowsRet i w) := by
  rcases (show i = 0 ∨ i = 1 ∨ i = 2 ∨ i = 3 ∨ i = 4 ∨ i = 5 ∨ i = 6 ∨ i = 7 by omega) with rfl | rfl | rfl | rfl | rfl | rfl | rfl | rfl
  all_goals
    go_enter Tryd.func40, Tryd.ntmps40
    go_wp2
    go_ret
    exact rows_lit _ _ _ _ _ _ (by decide +kernel) (by decide +kernel) (by decide +kernel) (by decide +kernel)
end Go.Proofs.YthfcndaccfpnmaaDoor
