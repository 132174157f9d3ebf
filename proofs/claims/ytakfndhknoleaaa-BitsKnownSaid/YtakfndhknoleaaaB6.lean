/- Walk over the chapter's example; own lemmas of the verifier, no statement is proved here. -/
import Derived.Test.YtakfndhknoleaaaB5
namespace Go.Proofs.Ytakfndhknoleaaa
open Go.RowKit
theorem perm_known : permR [128] [8, 7, 6, 5, 4, 3, 2, 1] = some [1] := by decide +kernel
theorem wf_list {ts : List Int} {m : Nat} (hm : ts.length = m) (h : (ts.all fun t => (Lit.int .i64 t).wf) = true) : ∀ j, j < m → (Lit.int .i64 (ts.getD j 0)).wf = true := by
  intro j hj
  rw [List.all_eq_true] at h
  have h1 : j < ts.length := by omega
  apply h
  simp [List.getD, List.getElem?_eq_getElem h1]
def RetTrue (w : World) (e : Ending) (w' : World) : Prop := e = .returned (.bool true) ∧ Below w.heap.size w w'
set_option maxHeartbeats 1000000 in
theorem known_any (w : World) : Calls Try.prog 11 #[] w (RetTrue w) := by
  have hL1 := Own.lit w [128] #[.int .u8 128] 1 w.heap.size rfl rfl (by unfold maxLen; omega) (Nat.le_refl _)
  obtain ⟨W1, hW1⟩ : ∃ W1, w.alloc (.cells #[.int .u8 128] 5) = W1 := ⟨_, rfl⟩
  have hz1 : W1.heap.size = w.heap.size + 1 := by rw [← hW1]; simp
  have hx1 : Ext w W1 := by rw [← hW1]; exact Ext.alloc _ _
  rw [hW1] at hL1
  have hL2 := OwnN.lit (e := 3) W1 [8, 7, 6, 5, 4, 3, 2, 1] #[.int .i64 8, .int .i64 7, .int .i64 6, .int .i64 5, .int .i64 4, .int .i64 3, .int .i64 2, .int .i64 1] 8 W1.heap.size rfl rfl (by unfold maxLen; omega) (Nat.le_refl _)
  obtain ⟨W2, hW2⟩ : ∃ W2, W1.alloc (.cells #[.int .i64 8, .int .i64 7, .int .i64 6, .int .i64 5, .int .i64 4, .int .i64 3, .int .i64 2, .int .i64 1] 3) = W2 := ⟨_, rfl⟩
  have hx2 : Ext W1 W2 := by rw [← hW2]; exact Ext.alloc _ _
  rw [hW2] at hL2
  obtain ⟨A1, c1, e1, hr1, _⟩ := hL1.rd
  cases e1
  obtain ⟨A2, c2, e2, hr2, _⟩ := hL2.rd
  cases e2
  have hp := perm_any _ _ 1 8 1 8 [128] [8, 7, 6, 5, 4, 3, 2, 1] W2 (hr1.later hx2) hr2 (by omega) (by omega) (wf_list rfl (by decide +kernel))
  rw [perm_known] at hp
  have HP := hid hp
  have HX := hid (hx1.trans hx2)
  have HW1 := hid hW1
  have HW2 := hid hW2
  have HZ1 := hid hz1.symm
  clear hp hW1 hW2 hL1 hL2 hr1 hr2 hx1 hx2 hz1
  go_enter Try.func11, Try.ntmps11
  go_wp2_with fail
  rw [HW1.out, HW2.out, HZ1.out]
  refine HP.out.mono ?_
  rintro e w3 ⟨v, rfl, hown, hb3⟩
  obtain ⟨A, c, rfl, hr3, _⟩ := hown.rd
  obtain ⟨b, o, rfl, _, hc3⟩ := hr3.at_ (by decide)
  have hc30 := hc3 0 (by decide)
  rw [show byteAt [1] 0 = 1 from rfl, Nat.add_zero] at hc30
  have hL4 := Own.lit w3 [128] #[.int .u8 128] 1 w3.heap.size rfl rfl (by unfold maxLen; omega) (Nat.le_refl _)
  obtain ⟨A4, c4, e4, hr4, _⟩ := hL4.rd
  cases e4
  have HR4 := hid hr4
  have HX3 := hid (Ext.trans HX.out hb3)
  have HX4 := hid (Ext.trans HX3.out (Ext.alloc w3 (.cells #[.int .u8 128] 5)))
  clear hown hb3 hr3 hc3 hL4 hr4
  go_wp2_with (go_at_call 12; refine (bit_any _ _ _ _ _ _ HR4.out (by omega) (by omega)).mono ?_; rintro e w' ⟨rfl, rfl⟩; rw [show bitN [128] 1 = 1 by decide +kernel])
  go_ret
  exact ⟨rfl, HX4.out⟩
end Go.Proofs.Ytakfndhknoleaaa
