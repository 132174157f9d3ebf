/- Walks over the words' functions of the program: what each call returns; own lemmas of the verifier, no statement is proved here. -/
import Derived.Test.YtgkfohgeelfceaaDoorP1
namespace Go.Proofs.YtgkfohgeelfceaaDoor
open Go.RowKit
theorem w_xor (a b : UInt32) : bits .xor .u32 (a.toNat : Int) (b.toNat : Int) = ((a ^^^ b).toNat : Int) := by
  rw [u32_xor_nat _ _ (wlt a) (wlt b), UInt32.toNat_xor]
theorem w_add (a b : UInt32) : ((a.toNat : Int) + (b.toNat : Int)) % 4294967296 = ((a + b).toNat : Int) := by
  rw [UInt32.toNat_add]; omega
theorem w_sub (a b : UInt32) : ((a.toNat : Int) - (b.toNat : Int)) % 4294967296 = ((a - b).toNat : Int) := by
  have h1 := wlt a
  have h2 := wlt b
  rw [UInt32.toNat_sub]; omega
theorem w_shl4 (a : UInt32) : (a.toNat : Int) * (16 : Int) % (4294967296 : Int) = (((a <<< 4 : UInt32).toNat : Nat) : Int) := by
  rw [UInt32.toNat_shiftLeft, show (4 : UInt32).toNat % 32 = 4 from rfl, Nat.shiftLeft_eq]; omega
theorem w_shr5 (a : UInt32) : (a.toNat : Int) / (32 : Int) = (((a >>> 5 : UInt32).toNat : Nat) : Int) := by
  rw [UInt32.toNat_shiftRight, show (5 : UInt32).toNat % 32 = 5 from rfl, Nat.shiftRight_eq_div_pow]; omega
theorem w_mix (v k : UInt32) : bits .xor .u32 ((bits .xor .u32 ((v.toNat : Int) * 16 % 4294967296) ((v.toNat : Int) / 32) + v.toNat) % 4294967296) (k.toNat : Int) = ((mixW v k).toNat : Int) := by
  rw [w_shl4, w_shr5, w_xor, w_add, w_xor]; rfl
theorem rol_w (x : UInt32) (n : Int) (w : World) :
    Calls Tryd.prog 42 #[.int .u32 (x.toNat : Nat), .int .i64 n] w fun e w' => e = .returned (.int .u32 ((rolI x n).toNat : Nat)) ∧ w = w' := by
  refine (rol_any _ _ _).mono ?_
  rintro e w' ⟨rfl, rfl⟩
  exact ⟨ret_int (rol32_w _ _ (by omega)), rfl⟩
theorem rrol_w (x : UInt32) (n : Int) (w : World) :
    Calls Tryd.prog 25 #[.int .u32 (x.toNat : Nat), .int .i64 n] w fun e w' => e = .returned (.int .u32 ((rolI x n).toNat : Nat)) ∧ w = w' := by
  refine (rrl32 _ _ _).mono ?_
  rintro e w' ⟨rfl, rfl⟩
  exact ⟨ret_int (rol32_w _ _ (by omega)), rfl⟩
set_option maxHeartbeats 400000 in
theorem mix_any (v k : UInt32) (w : World) :
    Calls Tryd.prog 61 #[.int .u32 (v.toNat : Nat), .int .u32 (k.toNat : Nat)] w fun e w' => e = .returned (.int .u32 ((mixW v k).toNat : Nat)) ∧ w = w' := by
  have h1 := wlt v
  have h2 := wlt k
  go_enter Tryd.func61, Tryd.ntmps61
  go_wp2
  go_ret
  exact ⟨ret_int (w_mix v k), rfl⟩
set_option maxHeartbeats 400000 in
theorem turnOf_any (v : UInt32) (w : World) :
    Calls Tryd.prog 48 #[.int .u32 (v.toNat : Nat)] w fun e w' => e = .returned (.int .i64 (v.toNat % 32 : Nat)) ∧ w = w' := by
  have h1 := wlt v
  go_enter Tryd.func48, Tryd.ntmps48
  go_wp2
  go_ret
  exact ⟨ret_int (by omega), rfl⟩
/-- The program's rows. -/
def GRows (w : World) : Prop := ∀ j, j < 8 → w.cell? ⟨0, j, none⟩ = some (.int .u64 (rowsN.getD j 0 : Nat))
theorem GRows.later {w w' : World} (h : GRows w) (hx : Ext w w') : GRows w' := fun j hj =>
  (Below.cell hx (p := ⟨0, j, none⟩) (World.block_lt_of_cell? w _ (h j hj))).trans (h j hj)
def rowsC : List Value := rowsN.map fun n => .int .u64 (n : Nat)
theorem rowsC_get (j : Nat) (h : j < 8) : rowsC[j]? = some (.int .u64 (rowsN.getD j 0 : Nat)) := by
  have hl : j < rowsN.length := h
  unfold rowsC
  rw [List.getElem?_map, List.getElem?_eq_getElem hl]
  simp [List.getD, hl]
theorem size72 : ∀ w, (sizeOf 72).run Tryd.prog w = .ok 8 w := by intro w; kernel_rfl
theorem agg72 : ∀ w, (isAgg 72).run Tryd.prog w = .ok true w := by intro w; kernel_rfl
theorem size50 : ∀ w, (sizeOf 50).run Tryd.prog w = .ok 1 w := by intro w; kernel_rfl
theorem agg50 : ∀ w, (isAgg 50).run Tryd.prog w = .ok false w := by intro w; kernel_rfl
theorem load_rows {w : World} (h : GRows w) : (loadVar 72 ⟨0, 0, none⟩).run Tryd.prog w = .ok (.agg rowsC.toArray) w := by
  have hl : (loadCells ⟨0, 0, none⟩ rowsC.length).run Tryd.prog w = .ok rowsC.toArray w :=
    run_loadCells_list (P := Tryd.prog) w ⟨0, 0, none⟩ rowsC (fun j v hv => by
      have hj : j < 8 := by
        rcases Nat.lt_or_ge j 8 with hj | hj
        · exact hj
        · rw [List.getElem?_eq_none (by simpa [rowsC, rowsN] using hj)] at hv; cases hv
      rw [rowsC_get j hj] at hv
      rw [add_off, Nat.zero_add, h j hj]; exact hv)
  unfold loadVar
  simp only [Sem.run_bind, agg72, size72, Result.andThen_ok, if_true]
  have e : rowsC.length = 8 := rfl
  rw [e] at hl
  simp only [hl, Result.andThen_ok, Sem.run_pure]
theorem exec_rows {o : Oper} {a : Act} {w : World} (ho : o.op = .load 72 (.global 0)) (h : GRows w) :
    (execOp a.eval o).run Tryd.prog w = .ok (.value (.agg rowsC.toArray)) w := by
  have h1 := load_rows h
  unfold execOp
  simp only [ho, Act.eval, Instr.loadAt, Instr.sureAddr, Sem.run_bind, Sem.run_pure, Result.andThen_ok, h1]
theorem run_index72 (w : World) (k : Nat) (hk : k < 8) :
    (Instr.index 72 (.agg rowsC.toArray) (.int .i64 k)).run Tryd.prog w = .ok (.int .u64 (rowsN.getD k 0 : Nat)) w := by
  have hc := rowsC_get k hk
  simp only [Instr.index, asIntOf, Sem.run_bind, Sem.run_pure, Result.andThen_ok, run_underlying Tryd.underlying72]
  rw [if_pos ⟨by omega, by omega⟩]
  simp [Go.part, hc]
theorem wpList_rows {ops : Array Oper} {rest : List Oper} {o : Oper} {a : Act} {w : World} {Q : Exit → Act → World → Prop} (hgd : o.guard = none) (ho : o.op = .load 72 (.global 0)) (h : GRows w)
    (hk : wpList Tryd.prog ops Q rest (a.put o.dst (.agg rowsC.toArray)) w) : wpList Tryd.prog ops Q (o :: rest) a w := by
  refine wpList_plain hgd fun K hK' => ?_
  unfold Oper.wp
  rw [exec_rows ho h]
  exact hK' _ _ hk
set_option maxRecDepth 100000 in
set_option maxHeartbeats 1000000 in
theorem g_any (x k : UInt32) (w : World) (hG : GRows w) :
    Calls Tryd.prog 21 #[.int .u32 (x.toNat : Nat), .int .u32 (k.toNat : Nat)] w fun e w' => e = .returned (.int .u32 ((gW x k).toNat : Nat)) ∧ w = w' := by
  have h1 := wlt x
  have h2 := wlt k
  have hs := w_add x k
  obtain ⟨S, hS⟩ : ∃ S, x + k = S := ⟨_, rfl⟩
  rw [hS] at hs
  have hS2 := wlt S
  have HS := hid hS
  clear hS
  have HG := hid hG
  clear hG
  go_enter Tryd.func21, Tryd.ntmps21
  go_wp2_with (refine wpList_rows rfl rfl HG.out ?_)
  go_loop [6, 14] (fun v i => ∃ j : Nat, j ≤ 8 ∧ i = .int .i64 j ∧ v = .int .u32 (gS S.toNat j : Nat)) (fun _ i => 8 - (intOf i).toNat)
  case atStart => exact ⟨0, Nat.zero_le _, rfl, rfl⟩
  case round =>
    obtain ⟨j, hj, rfl, rfl⟩ := hrel
    by_cases hlt : j < 8
    · have hI := fun w => run_index72 w j hlt
      have hR := rows_lt j hlt
      obtain ⟨R, hRe⟩ : ∃ R, rowsN.getD j 0 = R := ⟨_, rfl⟩
      have hst : gS S.toNat (j + 1) = gS S.toNat j + R / 2 ^ (60 - 4 * (S.toNat / 16 ^ j % 16)) % 16 * 16 ^ j := by rw [← hRe]; rfl
      have ho := gS_lt S.toNat j
      have hn := gS_lt S.toNat (j + 1)
      have hd : bits .and .u32 ((S.toNat : Int) / 2 ^ (4 * j)) 15 = ((S.toNat / 16 ^ j % 16 : Nat) : Int) := by
        rw [← cast_div, Nat.pow_mul, show (15 : Int) = ((15 : Nat) : Int) from rfl, u32_and_nat _ _ (Nat.lt_of_le_of_lt (Nat.div_le_self _ _) hS2) (by omega), nat_mask4]
      obtain ⟨f, hf⟩ : ∃ f, S.toNat / 16 ^ j % 16 = f := ⟨_, rfl⟩
      have hf16 : f ≤ 15 := by omega
      rw [hf] at hd hst
      rw [hRe] at hI hR
      have hR2 : (R : Int) < 18446744073709551616 := by omega
      have hq : bits .and .u32 ((R : Int) / 2 ^ (60 - 4 * f) % 4294967296) 15 = ((R / 2 ^ (60 - 4 * f) % 16 : Nat) : Int) := by
        have e : (R : Int) / 2 ^ (60 - 4 * f) % 4294967296 = ((R / 2 ^ (60 - 4 * f) % 4294967296 : Nat) : Int) := by rw [← cast_div]; omega
        rw [e, show (15 : Int) = ((15 : Nat) : Int) from rfl, u32_and_nat _ _ (by omega) (by omega), nat_mask4]
        omega
      obtain ⟨q, hqe⟩ : ∃ q, R / 2 ^ (60 - 4 * f) % 16 = q := ⟨_, rfl⟩
      have hq16 : q ≤ 15 := by omega
      rw [hqe] at hq hst
      have hor : bits .or .u32 ((gS S.toNat j : Nat) : Int) ((q : Int) * 2 ^ (4 * j) % 4294967296) = ((gS S.toNat (j + 1) : Nat) : Int) := by
        have e2 : 16 ^ (j + 1) ≤ 16 ^ 8 := Nat.pow_le_pow_right (by omega) (by omega)
        have e0 : q * 16 ^ j < 4294967296 := by omega
        have e1 : (q : Int) * 2 ^ (4 * j) % 4294967296 = ((16 ^ j * q : Nat) : Int) := by
          have : (q : Int) * 2 ^ (4 * j) = ((q * 16 ^ j : Nat) : Int) := by
            rw [Int.natCast_mul, Int.natCast_pow, Int.pow_mul]; rfl
          rw [this, Nat.mul_comm]
          rw [Nat.mul_comm] at e0
          omega
        have e3 : gS S.toNat j ||| 16 ^ j * q = gS S.toNat (j + 1) := by
          have h4 : (16 : Nat) ^ j = 2 ^ (4 * j) := by rw [Nat.pow_mul]
          rw [hst, Nat.mul_comm q, h4, Nat.or_comm, Nat.add_comm]
          rw [h4] at ho
          exact (Nat.two_pow_add_eq_or_of_lt ho q).symm
        rw [e1, u32_or_nat _ _ (by omega) (by rw [Nat.mul_comm]; exact e0), e3]
      have HO := hid hor
      clear hs hRe hst hf hqe hn hor hR2
      obtain ⟨g, hg⟩ : ∃ g, gS S.toNat j = g := ⟨_, rfl⟩
      obtain ⟨g1, hg1⟩ : ∃ g1, gS S.toNat (j + 1) = g1 := ⟨_, rfl⟩
      have HG1 := hid hg1
      rw [hg, hg1] at HO
      have e9 : (16 : Nat) ^ j ≤ 16 ^ 8 := Nat.pow_le_pow_right (by omega) (by omega)
      have hgl : g < 4294967296 := by rw [← hg]; omega
      rw [hg]
      clear hg hg1 ho e9
      go_wp2_with (rw [hI]; simp only [Result.andThen]; rw [Oper.upon_value])
      go_round
      case rel => exact ⟨j + 1, by omega, by go_num, by rw [HO.out, HG1.out]⟩
      case measure => simp [intOf]; omega
    · obtain rfl : j = 8 := by omega
      rw [← gU_toNat]
      go_wp2_with (go_at_call 42; refine (rol_w (gU S) 11 _).mono ?_; rintro e w' ⟨rfl, rfl⟩)
      go_ret
      exact ⟨ret_int (by rw [← HS.out]; rfl), rfl⟩
end Go.Proofs.YtgkfohgeelfceaaDoor
