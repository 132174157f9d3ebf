/- The law on known products, walked; own text of the verifier. -/
import Derived.Test.YtgdhbnnjafoifaaF3
import Derived.BigQuiet
namespace Go.Proofs.Ytgdhbnnjafoifaa
open Go.RowKit
theorem quietSame {P : Program} {f : FuncId} {args : Array Value} {w : World} {n : Nat} {v : Value}
    (h : Calls P f args (w.drewN n) fun e w' => e = .returned v ∧ w.drewN n = w') : Calls P f args (w.drewN n) fun e w'' => e = .returned v ∧ ∃ m, w'' = w.drewN m :=
  h.mono fun _ _ ⟨he, hm⟩ => ⟨he, n, hm.symm⟩
theorem below_drewN' {B : Nat} {a w : World} (h : Below B a w) (n : Nat) : Below B a (w.drewN n) := ⟨h.os, h.tape, h.output, h.size, h.block⟩
theorem mul_is (a b m v : Nat) (w : World) (hm : IsRest m) (ha : a < 256) (hb : b < 256) (hv : gm m a b = v) :
    Calls Try.prog 15 #[.int .u8 a, .int .u8 b, .int .i64 m] w fun e w' => e = .returned (.int .u8 v) ∧ w = w' := by
  subst hv
  exact mul_any a b m w hm ha hb
/-- The rows of the law's table, one behind the other. -/
def rowsT : List Nat := [87, 131, 283, 193, 87, 19, 283, 254, 2, 128, 283, 27, 2, 128, 361, 105, 2, 128, 333, 77, 83, 202, 283, 1, 16, 16, 256, 0, 15, 15, 256, 85, 255, 1, 511, 255, 128, 2, 285, 29]
theorem rows_ok (k : Nat) (h : k < 10) : IsRest (rowsT.getD (k * 4 + 2) 0) ∧ rowsT.getD (k * 4) 0 < 256 ∧ rowsT.getD (k * 4 + 1) 0 < 256 ∧
    gm (rowsT.getD (k * 4 + 2) 0) (rowsT.getD (k * 4) 0) (rowsT.getD (k * 4 + 1) 0) = rowsT.getD (k * 4 + 3) 0 := by
  have key : ∀ k < 10, (256 ≤ rowsT.getD (k * 4 + 2) 0 ∧ rowsT.getD (k * 4 + 2) 0 < 512) ∧ rowsT.getD (k * 4) 0 < 256 ∧ rowsT.getD (k * 4 + 1) 0 < 256 ∧
    gm (rowsT.getD (k * 4 + 2) 0) (rowsT.getD (k * 4) 0) (rowsT.getD (k * 4 + 1) 0) = rowsT.getD (k * 4 + 3) 0 := by decide +kernel
  obtain ⟨⟨h1, h2⟩, h3⟩ := key k h
  exact ⟨⟨h1, h2⟩, h3⟩
theorem rows_cell (w : World) (j : Nat) (h : j < 40) : (w.alloc (.cells #[.int .i64 87, .int .i64 131, .int .i64 283, .int .i64 193, .int .i64 87, .int .i64 19, .int .i64 283, .int .i64 254, .int .i64 2, .int .i64 128, .int .i64 283, .int .i64 27, .int .i64 2, .int .i64 128, .int .i64 361, .int .i64 105, .int .i64 2, .int .i64 128, .int .i64 333, .int .i64 77, .int .i64 83, .int .i64 202, .int .i64 283, .int .i64 1, .int .i64 16, .int .i64 16, .int .i64 256, .int .i64 0, .int .i64 15, .int .i64 15, .int .i64 256, .int .i64 85, .int .i64 255, .int .i64 1, .int .i64 511, .int .i64 255, .int .i64 128, .int .i64 2, .int .i64 285, .int .i64 29] 34)).cell? ⟨w.heap.size, j, none⟩ = some (.int .i64 (rowsT.getD j 0 : Nat)) := by
  have e : (w.alloc (.cells #[.int .i64 87, .int .i64 131, .int .i64 283, .int .i64 193, .int .i64 87, .int .i64 19, .int .i64 283, .int .i64 254, .int .i64 2, .int .i64 128, .int .i64 283, .int .i64 27, .int .i64 2, .int .i64 128, .int .i64 361, .int .i64 105, .int .i64 2, .int .i64 128, .int .i64 333, .int .i64 77, .int .i64 83, .int .i64 202, .int .i64 283, .int .i64 1, .int .i64 16, .int .i64 16, .int .i64 256, .int .i64 0, .int .i64 15, .int .i64 15, .int .i64 256, .int .i64 85, .int .i64 255, .int .i64 1, .int .i64 511, .int .i64 255, .int .i64 128, .int .i64 2, .int .i64 285, .int .i64 29] 34)).cell? ⟨w.heap.size, j, none⟩ = (#[.int .i64 87, .int .i64 131, .int .i64 283, .int .i64 193, .int .i64 87, .int .i64 19, .int .i64 283, .int .i64 254, .int .i64 2, .int .i64 128, .int .i64 283, .int .i64 27, .int .i64 2, .int .i64 128, .int .i64 361, .int .i64 105, .int .i64 2, .int .i64 128, .int .i64 333, .int .i64 77, .int .i64 83, .int .i64 202, .int .i64 283, .int .i64 1, .int .i64 16, .int .i64 16, .int .i64 256, .int .i64 0, .int .i64 15, .int .i64 15, .int .i64 256, .int .i64 85, .int .i64 255, .int .i64 1, .int .i64 511, .int .i64 255, .int .i64 128, .int .i64 2, .int .i64 285, .int .i64 29] : Array Value)[j]? := by
    go_simp
  have e2 : (#[.int .i64 87, .int .i64 131, .int .i64 283, .int .i64 193, .int .i64 87, .int .i64 19, .int .i64 283, .int .i64 254, .int .i64 2, .int .i64 128, .int .i64 283, .int .i64 27, .int .i64 2, .int .i64 128, .int .i64 361, .int .i64 105, .int .i64 2, .int .i64 128, .int .i64 333, .int .i64 77, .int .i64 83, .int .i64 202, .int .i64 283, .int .i64 1, .int .i64 16, .int .i64 16, .int .i64 256, .int .i64 0, .int .i64 15, .int .i64 15, .int .i64 256, .int .i64 85, .int .i64 255, .int .i64 1, .int .i64 511, .int .i64 255, .int .i64 128, .int .i64 2, .int .i64 285, .int .i64 29] : Array Value) = (rowsT.map fun x => Value.int .i64 (x : Nat)).toArray := rfl
  have hl : j < rowsT.length := h
  rw [e, e2]
  simp [List.getD, hl]
set_option maxRecDepth 100000 in
set_option maxHeartbeats 4000000 in
theorem known_walk (a0 : Int) (_w0 : (Lit.int .i64 a0).wf = true) (w : World) :
    Calls Try.prog 9 #[.int .i64 a0] w fun e w' => e = .returned (.bool true) ∧ Below w.heap.size w w' := by
  go_enter Try.func9, Try.ntmps9
  go_wp2_with fail
  refine (known_any _).mono ?_
  rintro e wk ⟨rfl, rfl⟩
  obtain ⟨k, hk⟩ : ∃ k : Nat, a0 % 10 = k := ⟨(a0 % 10).toNat, by omega⟩
  have hk10 : k < 10 := by omega
  have hk10i : (k : Int) < 10 := by omega
  have HK := hid hk
  clear hk
  go_wp2_with fail
  refine (within_any _ _ _ (by omega) (by omega)).mono ?_
  rintro e w' ⟨rfl, rfl⟩
  rw [HK.out]
  obtain ⟨W1, hW1⟩ : ∃ W1, w.alloc (.cells #[.int .i64 87, .int .i64 131, .int .i64 283, .int .i64 193, .int .i64 87, .int .i64 19, .int .i64 283, .int .i64 254, .int .i64 2, .int .i64 128, .int .i64 283, .int .i64 27, .int .i64 2, .int .i64 128, .int .i64 361, .int .i64 105, .int .i64 2, .int .i64 128, .int .i64 333, .int .i64 77, .int .i64 83, .int .i64 202, .int .i64 283, .int .i64 1, .int .i64 16, .int .i64 16, .int .i64 256, .int .i64 0, .int .i64 15, .int .i64 15, .int .i64 256, .int .i64 85, .int .i64 255, .int .i64 1, .int .i64 511, .int .i64 255, .int .i64 128, .int .i64 2, .int .i64 285, .int .i64 29] 34) = W1 := ⟨_, rfl⟩
  have c0 := rows_cell w (k * 4) (by omega)
  have c1 := rows_cell w (k * 4 + 1) (by omega)
  have c2 := rows_cell w (k * 4 + 2) (by omega)
  have c3 := rows_cell w (k * 4 + 3) (by omega)
  obtain ⟨hm, ha, hb, hv⟩ := rows_ok k hk10
  have hx : Ext w W1 := hW1 ▸ Ext.alloc _ _
  rw [hW1] at c0 c1 c2 c3 ⊢
  have HX := hid hx
  have hl := hm.lo
  have hh := hm.hi
  have hvl := gm_lt hm ha (rowsT.getD (k * 4 + 1) 0)
  rw [hv] at hvl
  obtain ⟨A, hA⟩ : ∃ A, rowsT.getD (k * 4) 0 = A := ⟨_, rfl⟩
  obtain ⟨B, hB⟩ : ∃ B, rowsT.getD (k * 4 + 1) 0 = B := ⟨_, rfl⟩
  obtain ⟨M, hM⟩ : ∃ M, rowsT.getD (k * 4 + 2) 0 = M := ⟨_, rfl⟩
  obtain ⟨V, hV⟩ : ∃ V, rowsT.getD (k * 4 + 3) 0 = V := ⟨_, rfl⟩
  rw [hA] at c0 ha hv
  rw [hB] at c1 hb hv
  rw [hM] at c2 hm hv hl hh
  rw [hV] at c3 hv hvl
  have HM := hid hm
  have HV := hid hv
  obtain ⟨G, hG⟩ : ∃ G, w.heap.size = G := ⟨_, rfl⟩
  rw [hG] at c0 c1 c2 c3 ⊢
  clear hx hW1 hA hB hM hV hm hv
  go_wp2_with fail
  go_quiet ((go_at_call 15; exact quietSame (mul_is A B M V _ HM.out ha hb HV.out)))
  go_wp2_with fail
  go_ret
  exact ⟨rfl, below_drewN' HX.out nq⟩
end Go.Proofs.Ytgdhbnnjafoifaa
