/- Walks over Affine of the program and of the reference, and over the law's rows; own lemmas of the verifier, no statement is proved here. -/
import Derived.Test.YtpfkcplldhdipaaDoorB1
import Derived.Test.YtpfkcplldhdipaaDoorW2
import Derived.Test.YtpfkcplldhdipaaDoorB2
import Derived.Deep.WholeRow
import Derived.BigQuiet
namespace Go.Proofs.YtpfkcplldhdipaaDoor
open Go.RowKit
theorem size33 : (Tryd.prog.info? 71).map (·.size) = some 8 := by kernel_rfl
theorem size33' {bs : List UInt8} (h : bs.length = 8) : (Tryd.prog.info? 71).map (·.size) = some (cellsOf bs).toArray.size := by rw [size33]; simp [cellsOf, h]
theorem size5 : ∀ w, (sizeOf 5).run Tryd.prog w = .ok 1 w := by intro w; kernel_rfl
theorem agg5 : ∀ w, (isAgg 5).run Tryd.prog w = .ok false w := by intro w; kernel_rfl
theorem run_index33 (w : World) (bs : List UInt8) (k : Nat) (h : bs.length = 8) (hk : k < 8) :
    (Instr.index 71 (.agg (cellsOf bs).toArray) (.int .i64 k)).run Tryd.prog w = .ok (.int .u8 (nb bs k : Nat)) w := by
  have hc : (cellsOf bs)[k]? = some (.int .u8 (byteAt bs k)) := cellsOf_get bs k (by omega)
  simp only [Instr.index, asIntOf, Sem.run_bind, Sem.run_pure, Result.andThen_ok, run_underlying Tryd.underlying71]
  rw [if_pos ⟨by omega, by omega⟩]
  simp [part, hc, byteAt_nb]
/-- The program's short table. -/
def Odd (w : World) : Prop := ∀ j, j < 16 → w.cell? ⟨4, j, none⟩ = some (.int .u8 (oddT.getD j 0 : Nat))
theorem Odd.later {w w' : World} (h : Odd w) (hx : Ext w w') : Odd w' := fun j hj =>
  (Below.cell hx (p := ⟨4, j, none⟩) (World.block_lt_of_cell? w _ (h j hj))).trans (h j hj)
theorem u8_and_i (a b : Nat) (ha : a < 256) (hb : b < 256) : bits .and .u8 (a : Int) (b : Int) = ((a &&& b : Nat) : Int) := u8_and_nat a b ha hb
theorem and_lt8 {a b : Nat} (ha : a < 256) : a &&& b < 256 := Nat.lt_of_le_of_lt Nat.and_le_left ha
set_option maxRecDepth 100000 in
set_option maxHeartbeats 1000000 in
theorem aff_any (x c : Nat) (bs : List UInt8) (w : World) (hb : bs.length = 8) (hx : x < 256) (hc : c < 256) (ho : Odd w) :
    Calls Tryd.prog 47 #[.int .u8 x, .agg (cellsOf bs).toArray, .int .u8 c] w fun e w' => e = .returned (.int .u8 (affN x (nb bs) c : Nat)) ∧ Ext w w' := by
  go_enter Tryd.func47, Tryd.ntmps47
  go_wp2_with (refine wpList_load_row rfl 71 (.tmp 4) rfl w.heap.size rfl 71 (cellsOf bs).toArray (0,0) _ (heap_alloc_new w _) Tryd.underlying71 rfl (size33' hb) ?_)
  go_loopw [2, 11] (fun v i wr => ∃ k : Nat, k ≤ 8 ∧ i = .int .i64 k ∧ v = .int .u8 (affG x (nb bs) c k : Nat) ∧ Ext w wr) (fun _ i _ => 8 - (intOf i).toNat)
  case atStart => exact ⟨0, Nat.zero_le _, rfl, rfl, Ext.alloc _ _⟩
  case round =>
    obtain ⟨k, hk, rfl, rfl, hxt⟩ := hrel
    have HX := hid hxt
    by_cases hlt : k < 8
    · have hR := nb_lt bs k
      have hA := affG_lt (x := x) (rs := nb bs) hc k hk
      obtain ⟨R, hRe⟩ : ∃ R, nb bs k = R := ⟨_, rfl⟩
      obtain ⟨B, hB⟩ : ∃ B, x &&& R = B := ⟨_, rfl⟩
      have hBl : B < 256 := by rw [← hB]; exact and_lt8 hx
      have hand := u8_and_i x R hx (by omega)
      rw [hB] at hand
      have hS : affG x (nb bs) c (k + 1) = affG x (nb bs) c k ^^^ (par B * 2 ^ k) := by rw [affG, hRe, hB]
      obtain ⟨C, hC⟩ : ∃ C, affG x (nb bs) c k = C := ⟨_, rfl⟩
      rw [hC] at hA hS ⊢
      have h1 := (ho.later hxt) (B / 16) (by omega)
      have h2 := (ho.later hxt) (B % 16) (by omega)
      rw [oddT_par _ (by omega)] at h1 h2
      have hp1 := par_le (B / 16)
      have hp2 := par_le (B % 16)
      have hph := par_half B hBl
      have hp3 := par_le B
      have hbl := bit_lt hp3 hlt
      obtain ⟨p1, hp1e⟩ : ∃ p, par (B / 16) = p := ⟨_, rfl⟩
      obtain ⟨p2, hp2e⟩ : ∃ p, par (B % 16) = p := ⟨_, rfl⟩
      obtain ⟨p, hpe⟩ : ∃ p, par B = p := ⟨_, rfl⟩
      rw [hp1e] at h1 hp1 hph
      rw [hp2e] at h2 hp2 hph
      rw [hpe] at hph hp3 hbl hS
      have hx1 := u8_xor_nat p1 p2 (by omega) (by omega)
      rw [hph] at hx1
      have hx2 := u8_xor_nat C (p * 2 ^ k) hA hbl
      rw [← hS] at hx2
      have hm : bits .and .u8 (B : Int) 15 = ((B % 16 : Nat) : Int) := by
        rw [show (15 : Int) = ((15 : Nat) : Int) from rfl, u8_and_nat _ _ hBl (by omega)]
        rw [show (15 : Nat) = 2 ^ 4 - 1 from rfl, Nat.and_two_pow_sub_one_eq_mod]
      have hpk : ((p * 2 ^ k : Nat) : Int) = (p : Int) * 2 ^ k := by push_cast; rfl
      have hsh : (p : Int) * 2 ^ k % 256 = ((p * 2 ^ k : Nat) : Int) := by rw [← hpk]; omega
      rw [hpk] at hx2
      have HX2 := hid hx2
      have HRE := hid hRe
      clear hC hS hRe hB hp1e hp2e hpe hph hxt ho hx2 hpk
      go_wp2_with fail
      rw [run_index33 _ _ _ hb hlt]
      simp only [Result.andThen]
      rw [Oper.upon_value]
      rw [HRE.out]
      go_wp2_with fail
      go_quiet (fail)
      go_wp2_with fail
      go_roundw
      case rel => exact ⟨k + 1, by omega, by go_num, by rw [HX2.out], below_drewN' HX.out nq⟩
      case measure => simp [intOf]; omega
    · obtain rfl : k = 8 := by omega
      clear hxt ho
      have hl := affG_lt (x := x) (rs := nb bs) hc 8 hk
      go_wp2_with fail
      go_ret
      exact ⟨rfl, HX.out⟩
/-- A block that holds an array of bytes. -/
def Arr8 (w : World) (G : Nat) (bs : List UInt8) : Prop := w.heap[G]? = some (.cells (cellsOf bs).toArray 71 (0, 0))
theorem Arr8.lt {w : World} {G : Nat} {bs : List UInt8} (h : Arr8 w G bs) : G < w.heap.size := (Array.getElem?_eq_some_iff.1 h).1
theorem Arr8.later {w w' : World} {G : Nat} {bs : List UInt8} (h : Arr8 w G bs) (hx : Ext w w') : Arr8 w' G bs := (hx.block G h.lt).trans h
theorem Arr8.cell {w : World} {G : Nat} {bs : List UInt8} (h : Arr8 w G bs) (k : Nat) (hk : k < bs.length) : w.cell? ⟨G, k, none⟩ = some (.int .u8 (nb bs k : Nat)) := by
  rw [cell_of_row w G k _ _ _ h]
  simpa [byteAt_nb] using cellsOf_get bs k hk
theorem inner_step {C p b i : Nat} (hp : p ≤ 1) (hb : b ≤ 1) : (C ^^^ (p * 2 ^ i)) ^^^ (b * 2 ^ i) = C ^^^ (((p + b) % 2) * 2 ^ i) := by
  rw [Nat.xor_assoc, one_mul_xor hp hb]
set_option maxRecDepth 100000 in
set_option maxHeartbeats 1000000 in
theorem raff_any (x c : Nat) (bs : List UInt8) (w : World) (hb : bs.length = 8) (hx : x < 256) (hc : c < 256) :
    Calls Tryd.prog 53 #[.int .u8 x, .agg (cellsOf bs).toArray, .int .u8 c] w fun e w' => e = .returned (.int .u8 (affN x (nb bs) c : Nat)) ∧ Ext w w' := by
  have hA0 : Arr8 (w.alloc (.cells (cellsOf bs).toArray 71)) w.heap.size bs := heap_alloc_new w _
  have hE0 := Ext.alloc w (.cells (cellsOf bs).toArray 71)
  go_enter Tryd.func53, Tryd.ntmps53
  go_wp2_with fail
  obtain ⟨W1, hW1⟩ : ∃ W1, w.alloc (.cells (cellsOf bs).toArray 71) = W1 := ⟨_, rfl⟩
  rw [hW1] at hA0 hE0 ⊢
  obtain ⟨G, hG⟩ : ∃ G, w.heap.size = G := ⟨_, rfl⟩
  rw [hG] at hA0 ⊢
  have HE := hid hE0
  clear hW1 hE0 hG
  go_loop [2, 7] (fun v i => ∃ k : Nat, k ≤ 8 ∧ i = .int .i64 k ∧ v = .int .u8 (affG x (nb bs) c k : Nat)) (fun _ i => 8 - (intOf i).toNat)
  case atStart => exact ⟨0, Nat.zero_le _, rfl, rfl⟩
  case round =>
    obtain ⟨k, hk, rfl, rfl⟩ := hrel
    by_cases hlt : k < 8
    · have hcell := hA0.cell k (by omega)
      have hR := nb_lt bs k
      have hA := affG_lt (x := x) (rs := nb bs) hc k hk
      have hS : affG x (nb bs) c (k + 1) = affG x (nb bs) c k ^^^ (par (x &&& nb bs k) * 2 ^ k) := rfl
      obtain ⟨R, hRe⟩ : ∃ R, nb bs k = R := ⟨_, rfl⟩
      obtain ⟨B, hB⟩ : ∃ B, x &&& R = B := ⟨_, rfl⟩
      have hBl : B < 256 := by rw [← hB]; exact and_lt8 hx
      have hand := u8_and_i R x (by omega) hx
      rw [Nat.and_comm, hB] at hand
      rw [hRe, hB] at hS
      rw [hRe] at hcell hR
      obtain ⟨C, hC⟩ : ∃ C, affG x (nb bs) c k = C := ⟨_, rfl⟩
      rw [hC] at hA hS ⊢
      have HS := hid hS
      clear hS hC hB hRe
      go_wp2_with fail
      clear hcell hand
      go_loop [2, 9] (fun v i => ∃ j : Nat, j ≤ 8 ∧ i = .int .u64 j ∧ v = .int .u8 (C ^^^ (parK B j * 2 ^ k) : Nat)) (fun _ i => 8 - (intOf i).toNat)
      case atStart => exact ⟨0, Nat.zero_le _, rfl, by simp [parK]⟩
      case round =>
        obtain ⟨j, hj, rfl, rfl⟩ := hrel
        by_cases hjt : j < 8
        · have hp := parK_le B j
          have hb1 : B / 2 ^ j % 2 ≤ 1 := by omega
          have hst := inner_step (C := C) (i := k) hp hb1
          have hl1 := xor_lt8 hA (bit_lt hp hlt)
          have hl2 := bit_lt hb1 hlt
          have hm := u8_and_one (B / 2 ^ j) (Nat.lt_of_le_of_lt (Nat.div_le_self _ _) hBl)
          obtain ⟨b, hbe⟩ : ∃ b, B / 2 ^ j % 2 = b := ⟨_, rfl⟩
          rw [hbe] at hm hst hb1 hl2
          have hK : parK B (j + 1) = (parK B j + b) % 2 := by rw [parK, hbe]
          obtain ⟨Y, hY⟩ : ∃ Y, C ^^^ (parK B j * 2 ^ k) = Y := ⟨_, rfl⟩
          rw [hY] at hst hl1 ⊢
          rw [← hK] at hst
          have hx2 := u8_xor_nat Y (b * 2 ^ k) hl1 hl2
          have hpk : ((b * 2 ^ k : Nat) : Int) = (b : Int) * 2 ^ k := by push_cast; rfl
          have hsh : (b : Int) * 2 ^ k % 256 = (b : Int) * 2 ^ k := by rw [← hpk]; omega
          have hdv : ((B / 2 ^ j : Nat) : Int) = (B : Int) / 2 ^ j := by simp
          rw [hdv] at hm
          rw [hst, hpk] at hx2
          have HX2 := hid hx2
          clear hY hK hbe hst hx2 hpk hdv
          go_wp2_with fail
          go_round
          case rel => exact ⟨j + 1, by omega, by go_num, by rw [HX2.out]⟩
          case measure => simp [intOf]; omega
        · obtain rfl : j = 8 := by omega
          have hB2 := xor_lt8 hA (bit_lt (par_le B) hlt)
          go_wp2_with fail
          go_round
          case rel => exact ⟨k + 1, by omega, by go_num, by rw [HS.out]; rfl⟩
          case measure => simp [intOf]; omega
    · obtain rfl : k = 8 := by omega
      have hl := affG_lt (x := x) (rs := nb bs) hc 8 hk
      go_wp2_with fail
      go_ret
      exact ⟨rfl, HE.out⟩
theorem below_setRow {B g : Nat} {a w : World} (h : Below B a w) (hg : B ≤ g) (cs : Array Value) : Below B a (w.setRow g cs) :=
  ⟨h.os, h.tape, h.output, by rw [setRow_size]; exact h.size, fun i hi => (setRow_other w g i cs (by omega)).trans (h.block i hi)⟩
theorem cells_set (bs : List UInt8) (k : Nat) (x : UInt8) : (cellsOf bs).toArray.setIfInBounds k (.int .u8 (x.toNat : Int)) = (cellsOf (bs.set k x)).toArray := by
  simp [cellsOf, List.map_set]
theorem cells_all (bs : List UInt8) : (cellsOf bs).toArray.all (·.oneCell') = true := by
  rw [Array.all_eq_true_iff_forall_mem]
  intro v hv
  exact cellsOf_one bs v (by simpa using hv)
theorem ret_cell {fn : Func} {R : Ending → World → Prop} {a : Act} {w : World} {p : Tmp} {ty e : TypeId} {N : Nat} (hres : fn.results = #[.cell p ty]) (hd : a.defers = []) (g : Nat) (t : TypeId) (cs : Array Value) (fr : Nat × Nat)
    (hp : a.tmps.getD p undef = .pointer (some ⟨g, 0, none⟩)) (hg : w.heap[g]? = some (.cells cs t fr)) (hu : Tryd.prog.underlying ty = some (.array N e))
    (hi : (Tryd.prog.info? ty).map (·.size) = some cs.size) (h : R (.returned (.agg cs)) w) :
    bodyPost Tryd.prog fn R .ret a w := bodyPost_ret (results_cell_row hres _ _ g t cs fr _ hp hg hu rfl hi) hd h
end Go.Proofs.YtpfkcplldhdipaaDoor
