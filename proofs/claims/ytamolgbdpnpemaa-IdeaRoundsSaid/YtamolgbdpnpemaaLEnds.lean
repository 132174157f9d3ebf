/- The law on products at the ends, walked; own text of the verifier. -/
import Derived.Test.YtamolgbdpnpemaaLMul
namespace Go.Proofs.Ytamolgbdpnpemaa
open Go.RowKit
theorem quietSame {P : Program} {f : FuncId} {args : Array Value} {w : World} {n : Nat} {v : Value}
    (h : Calls P f args (w.drewN n) fun e w' => e = .returned v ∧ w.drewN n = w') : Calls P f args (w.drewN n) fun e w'' => e = .returned v ∧ ∃ m, w'' = w.drewN m :=
  h.mono fun _ _ ⟨he, hm⟩ => ⟨he, n, hm.symm⟩
theorem mul_is (a b v : Nat) (w : World) (ha : a < 65536) (hb : b < 65536) (hv : mulF a b = v) :
    Calls Try.prog 13 #[.int .i64 a, .int .i64 b] w fun e w' => e = .returned (.int .i64 v) ∧ w = w' := by
  subst hv
  exact mul_any a b w ha hb
/-- The rows of the law's table, one behind the other. -/
def rowsT : List Nat := [0, 0, 1, 0, 1, 0, 1, 1, 1, 2, 32768, 0, 2, 32769, 1, 0, 2, 65535, 65535, 65535, 4, 3, 21846, 1, 256, 256, 0, 0, 65535, 2]
theorem rows_ok : ∀ k, k < 10 → rowsT.getD (k * 3) 0 < 65536 ∧ rowsT.getD (k * 3 + 1) 0 < 65536 ∧ mulF (rowsT.getD (k * 3) 0) (rowsT.getD (k * 3 + 1) 0) = rowsT.getD (k * 3 + 2) 0 := by decide +kernel
theorem rows_cell (w : World) (j : Nat) (h : j < 30) : (w.alloc (.cells #[.int .i64 0, .int .i64 0, .int .i64 1, .int .i64 0, .int .i64 1, .int .i64 0, .int .i64 1, .int .i64 1, .int .i64 1, .int .i64 2, .int .i64 32768, .int .i64 0, .int .i64 2, .int .i64 32769, .int .i64 1, .int .i64 0, .int .i64 2, .int .i64 65535, .int .i64 65535, .int .i64 65535, .int .i64 4, .int .i64 3, .int .i64 21846, .int .i64 1, .int .i64 256, .int .i64 256, .int .i64 0, .int .i64 0, .int .i64 65535, .int .i64 2] 35)).cell? ⟨w.heap.size, j, none⟩ = some (.int .i64 (rowsT.getD j 0 : Nat)) := by
  have e2 : (#[.int .i64 0, .int .i64 0, .int .i64 1, .int .i64 0, .int .i64 1, .int .i64 0, .int .i64 1, .int .i64 1, .int .i64 1, .int .i64 2, .int .i64 32768, .int .i64 0, .int .i64 2, .int .i64 32769, .int .i64 1, .int .i64 0, .int .i64 2, .int .i64 65535, .int .i64 65535, .int .i64 65535, .int .i64 4, .int .i64 3, .int .i64 21846, .int .i64 1, .int .i64 256, .int .i64 256, .int .i64 0, .int .i64 0, .int .i64 65535, .int .i64 2] : Array Value) = (rowsT.map fun x => Value.int .i64 (x : Nat)).toArray := rfl
  have hl : j < rowsT.length := h
  rw [cell_of_row _ _ j _ _ _ (heap_alloc_new w (.cells #[.int .i64 0, .int .i64 0, .int .i64 1, .int .i64 0, .int .i64 1, .int .i64 0, .int .i64 1, .int .i64 1, .int .i64 1, .int .i64 2, .int .i64 32768, .int .i64 0, .int .i64 2, .int .i64 32769, .int .i64 1, .int .i64 0, .int .i64 2, .int .i64 65535, .int .i64 65535, .int .i64 65535, .int .i64 4, .int .i64 3, .int .i64 21846, .int .i64 1, .int .i64 256, .int .i64 256, .int .i64 0, .int .i64 0, .int .i64 65535, .int .i64 2] 35)), e2]
  simp [List.getD, hl]
set_option maxRecDepth 100000 in
set_option maxHeartbeats 4000000 in
theorem ends_walk (a0 : Int) (a1 : Int) (_w0 : (Lit.int .i64 a0).wf = true) (_w1 : (Lit.int .i64 a1).wf = true) (w : World) :
    Calls Try.prog 5 #[.int .i64 a0, .int .i64 a1] w fun e w' => e = .returned (.bool true) ∧ Below w.heap.size w w' := by
  go_enter Try.func5, Try.ntmps5
  go_wp2_with fail
  refine (known_any _).mono ?_
  rintro e wk ⟨rfl, hxk⟩
  have HXK := hid hxk
  clear hxk
  obtain ⟨k, hk⟩ : ∃ k : Nat, a0 % 10 = k := ⟨(a0 % 10).toNat, by omega⟩
  have hk10 : k < 10 := by omega
  have hk10i : (k : Int) < 10 := by omega
  have HK := hid hk
  obtain ⟨x, hx, _, cx⟩ := within16 a1 wk
  have CX := hid cx
  have C5 := hid (fun w => mul_any 0 x w (by omega) hx)
  have hz := mulF_zero hx
  obtain ⟨M, hM⟩ : ∃ M, mulF 0 x = M := ⟨_, rfl⟩
  rw [hM] at C5 hz
  clear hk cx hM
  go_wp2_with fail
  refine CX.out.mono ?_
  rintro e w' ⟨rfl, rfl⟩
  go_wp2_with fail
  refine (within_any _ _ _ (by omega) (by omega)).mono ?_
  rintro e w' ⟨rfl, rfl⟩
  rw [HK.out]
  obtain ⟨W1, hW1⟩ : ∃ W1, wk.alloc (.cells #[.int .i64 0, .int .i64 0, .int .i64 1, .int .i64 0, .int .i64 1, .int .i64 0, .int .i64 1, .int .i64 1, .int .i64 1, .int .i64 2, .int .i64 32768, .int .i64 0, .int .i64 2, .int .i64 32769, .int .i64 1, .int .i64 0, .int .i64 2, .int .i64 65535, .int .i64 65535, .int .i64 65535, .int .i64 4, .int .i64 3, .int .i64 21846, .int .i64 1, .int .i64 256, .int .i64 256, .int .i64 0, .int .i64 0, .int .i64 65535, .int .i64 2] 35) = W1 := ⟨_, rfl⟩
  have c0 := rows_cell wk (k * 3) (by omega)
  have c1 := rows_cell wk (k * 3 + 1) (by omega)
  have c2 := rows_cell wk (k * 3 + 2) (by omega)
  obtain ⟨ha, hb, hv⟩ := rows_ok k hk10
  have hx1 : Ext w W1 := HXK.out.trans (hW1 ▸ Ext.alloc _ _)
  rw [hW1] at c0 c1 c2 ⊢
  have HX := hid hx1
  obtain ⟨A, hA⟩ : ∃ A, rowsT.getD (k * 3) 0 = A := ⟨_, rfl⟩
  obtain ⟨B, hB⟩ : ∃ B, rowsT.getD (k * 3 + 1) 0 = B := ⟨_, rfl⟩
  obtain ⟨V, hV⟩ : ∃ V, rowsT.getD (k * 3 + 2) 0 = V := ⟨_, rfl⟩
  rw [hA] at c0 ha hv
  rw [hB] at c1 hb hv
  rw [hV] at c2 hv
  have HV := hid hv
  obtain ⟨G, hG⟩ : ∃ G, wk.heap.size = G := ⟨_, rfl⟩
  rw [hG] at c0 c1 c2 ⊢
  clear hx1 hW1 hA hB hV hv hG
  go_wp2_with fail
  refine (C5.out _).mono ?_
  rintro e w' ⟨rfl, rfl⟩
  by_cases h0 : x = 0
  · rw [if_pos h0] at hz
    subst h0
    subst hz
    go_wp2_with fail
    go_quiet ((go_at_call 13; exact quietSame (mul_is A B V _ ha hb HV.out)))
    go_wp2_with fail
    go_ret
    exact ⟨rfl, below_drewN' HX.out nq⟩
  · rw [if_neg h0] at hz
    have hw : (65537 - (x : Int)) % 65536 = (M : Int) := by omega
    have hx0 : ((x : Int) == 0) = false := by simp; omega
    clear hz
    go_wp2_with fail
    go_quiet ((go_at_call 13; exact quietSame (mul_is A B V _ ha hb HV.out)))
    go_wp2_with fail
    go_ret
    exact ⟨rfl, below_drewN' HX.out nq⟩
end Go.Proofs.Ytamolgbdpnpemaa
