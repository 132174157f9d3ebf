/- Walk over the reference's word of eight bytes of a key; own lemmas of the verifier, no statement is proved here. -/
import Derived.Test.YtbdncalllfpodaaDoorX7
namespace Go.Proofs.YtbdncalllfpodaaDoor
open Go.RowKit
theorem shrR_lt : ∀ i, i < 4 → ∀ j, j < 8 → shrR i j < 256 := by decide
theorem shift_x (L a b t : Nat) (h : L < 2 ^ t) : (L + a * 2 ^ t) ^^^ (b * 2 ^ t) = L + (a ^^^ b) * 2 ^ t := by
  have e : ∀ c, L + c * 2 ^ t = c * 2 ^ t ||| L := fun c => by
    rw [Nat.mul_comm, Nat.add_comm]; exact Nat.two_pow_add_eq_or_of_lt h c
  rw [e, e]
  apply Nat.eq_of_testBit_eq
  intro k
  simp only [Nat.testBit_xor, Nat.testBit_or, Nat.testBit_mul_two_pow]
  by_cases hk : t ≤ k
  · rw [Nat.testBit_lt_two_pow (Nat.lt_of_lt_of_le h (Nat.pow_le_pow_right (by omega) hk))]; simp [hk]
  · simp [hk]
def zS (m : List UInt8) (i k : Nat) : Nat := wdN (shrB m) i + sumG 333 (shrR i) (bl m) k * 256 ^ i
theorem zS_zero (m : List UInt8) (i : Nat) : zS m i 0 = wdN (shrB m) i := by simp [zS, sumG]
theorem zS_eight (m : List UInt8) (i : Nat) : zS m i 8 = wdN (shrB m) (i + 1) := rfl
theorem zS_lt (m : List UInt8) (i k : Nat) : zS m i k < 256 ^ (i + 1) := by
  have h1 := wdN_lt (shrB_lt m) i
  have h2 := sumG_lt r333 (row := shrR i) (bl_lt m) k
  have h3 : sumG 333 (shrR i) (bl m) k * 256 ^ i ≤ 255 * 256 ^ i := Nat.mul_le_mul_right _ (by omega)
  unfold zS
  rw [Nat.pow_succ]; omega
theorem zS_step (m : List UInt8) (i k : Nat) (hi : i < 4) (hk : k < 8) : bits .xor .u32 ((zS m i k : Nat) : Int) ((gm 333 (shrR i k) (bl m k) : Int) * 2 ^ (8 * i) % 4294967296) = ((zS m i (k + 1) : Nat) : Int) := by
  have hg := gm_lt r333 (shrR_lt i hi k hk) (bl m k)
  have hz := zS_lt m i k
  have hL := wdN_lt (shrB_lt m) i
  have h3 : (256 : Nat) ^ (i + 1) ≤ 256 ^ 4 := Nat.pow_le_pow_right (by omega) (by omega)
  have h4 : gm 333 (shrR i k) (bl m k) * 256 ^ i < 256 ^ (i + 1) := by rw [Nat.pow_succ, Nat.mul_comm]; exact Nat.mul_lt_mul_of_pos_left hg (Nat.pow_pos (by omega))
  have e : (gm 333 (shrR i k) (bl m k) : Int) * 2 ^ (8 * i) % 4294967296 = ((gm 333 (shrR i k) (bl m k) * 256 ^ i : Nat) : Int) := by
    have : (gm 333 (shrR i k) (bl m k) : Int) * 2 ^ (8 * i) = ((gm 333 (shrR i k) (bl m k) * 256 ^ i : Nat) : Int) := by
      rw [Int.natCast_mul, Int.natCast_pow, Int.pow_mul]; rfl
    rw [this]; omega
  rw [e, u32_xor_nat _ _ (by omega) (by omega)]
  congr 1
  unfold zS
  rw [pow8] at hL ⊢
  rw [shift_x _ _ _ _ hL, sumG, gm_comm r333 (shrR_lt i hi k hk) (bl_lt m k)]
theorem wpList_run {ops : Array Oper} {rest : List Oper} {o : Oper} {a : Act} {w : World} {Q : Exit → Act → World → Prop} (op : Op) (v : Value) (hgd : o.guard = none) (_ho : o.op = op) (he : (execOp a.eval o).run Tryd.prog w = .ok (.value v) w)
    (hk : wpList Tryd.prog ops Q rest (a.put o.dst v) w) : wpList Tryd.prog ops Q (o :: rest) a w := by
  refine wpList_plain hgd fun K hK' => ?_
  unfold Oper.wp
  rw [he]
  exact hK' _ _ hk
theorem shrC_all : shrC.toArray.all (·.oneCell') = true := by decide +kernel
theorem shrC_size : shrC.toArray.size = 32 := rfl
set_option maxRecDepth 100000 in
set_option maxHeartbeats 4000000 in
theorem told_any (m : List UInt8) (A : Option Addr) (c : Nat) (w : World) (hr : Rd w w.heap.size A 8 m) :
    Calls Tryd.prog 29 #[.slice A 8 c] w fun e w' => e = .returned (.int .u32 ((shrW m).toNat : Nat)) ∧ Ext w w' := by
  obtain ⟨b, o, rfl, hb, hc⟩ := hr.at_ (by omega)
  have HCB := hid (show ∀ k, k < 8 → w.cell? ⟨b, o + k, none⟩ = some (.int .u8 (bl m k : Nat)) from hc)
  clear hc hr hb
  go_enter Tryd.func29, Tryd.ntmps29
  go_wp2_with (first
    | (refine wpList_run (.build 83 #[(0, .tmp 7), (1, .tmp 8), (2, .tmp 9), (3, .tmp 10)]) (.agg shrC.toArray) rfl rfl (by kernel_rfl) ?_)
    | (refine wpList_store_row rfl 83 (.tmp 3) (.tmp 11) rfl w.heap.size shrC.toArray rfl rfl 83 _ (heap_alloc_new _ _) (by rw [shrC_size]; kernel_rfl) (by rw [shrC_size]; rfl) shrC_all ?_))
  have hm := new_row w #[.int .u8 0, .int .u8 0, .int .u8 0, .int .u8 0, .int .u8 0, .int .u8 0, .int .u8 0, .int .u8 0, .int .u8 0, .int .u8 0, .int .u8 0, .int .u8 0, .int .u8 0, .int .u8 0, .int .u8 0, .int .u8 0, .int .u8 0, .int .u8 0, .int .u8 0, .int .u8 0, .int .u8 0, .int .u8 0, .int .u8 0, .int .u8 0, .int .u8 0, .int .u8 0, .int .u8 0, .int .u8 0, .int .u8 0, .int .u8 0, .int .u8 0, .int .u8 0] shrC.toArray 83
  obtain ⟨W5, h5⟩ : ∃ W5, (w.alloc (Obj.cells #[.int .u8 0, .int .u8 0, .int .u8 0, .int .u8 0, .int .u8 0, .int .u8 0, .int .u8 0, .int .u8 0, .int .u8 0, .int .u8 0, .int .u8 0, .int .u8 0, .int .u8 0, .int .u8 0, .int .u8 0, .int .u8 0, .int .u8 0, .int .u8 0, .int .u8 0, .int .u8 0, .int .u8 0, .int .u8 0, .int .u8 0, .int .u8 0, .int .u8 0, .int .u8 0, .int .u8 0, .int .u8 0, .int .u8 0, .int .u8 0, .int .u8 0, .int .u8 0] 83)).setRow w.heap.size shrC.toArray = W5 := ⟨_, rfl⟩
  rw [h5] at hm ⊢
  obtain ⟨hm, hmx⟩ := hm
  obtain ⟨M, hM⟩ : ∃ M, w.heap.size = M := ⟨_, rfl⟩
  rw [hM] at hm ⊢
  have HMT := hid (show ∀ i, i < 4 → ∀ k, k < 8 → W5.cell? ⟨M, i * 8 + k, none⟩ = some (.int .u8 (shrR i k : Nat)) from fun i hi k hk => by
    rw [cell_of_row W5 M _ _ _ _ hm]
    have hj : i * 8 + k < 32 := by omega
    have e : shrC[i * 8 + k]? = some (.int .u8 (shrR ((i * 8 + k) / 8) ((i * 8 + k) % 8) : Nat)) := by simp [shrC, hj]
    rw [show (i * 8 + k) / 8 = i by omega, show (i * 8 + k) % 8 = k by omega] at e
    simpa using e)
  have HBY := hid (show ∀ k, k < 8 → W5.cell? ⟨b, o + k, none⟩ = some (.int .u8 (bl m k : Nat)) from fun k hk => cell_at hmx (HCB.out k hk))
  have HX := hid hmx
  clear hm hmx h5 hM HCB
  go_loopw [4, 5] (fun z i wr => ∃ I : Nat, I ≤ 4 ∧ i = .int .i64 I ∧ z = .int .u32 (wdN (shrB m) I : Nat) ∧ ∃ nd, wr = W5.drewN nd) (fun _ i _ => 4 - (intOf i).toNat)
  case atStart => exact ⟨0, by omega, rfl, rfl, 0, rfl⟩
  case round =>
    obtain ⟨I, hI, rfl, rfl, nd, hnd⟩ := hrel
    by_cases hIl : I < 4
    · have hIl2 : (I : Int) < 4 := by omega
      go_wp2_with fail
      have HND := hid hnd
      have HIL := hid hIl
      clear hnd hIl hI
      go_loopw [4, 6] (fun z k wr => ∃ K : Nat, K ≤ 8 ∧ k = .int .i64 K ∧ z = .int .u32 (zS m I K : Nat) ∧ ∃ nd, wr = W5.drewN nd) (fun _ k _ => 8 - (intOf k).toNat)
      case atStart => exact ⟨0, by omega, rfl, by rw [zS_zero], nd, by first | rfl | exact HND.out⟩
      case round =>
        obtain ⟨K, hK, rfl, rfl, nd2, hnd2⟩ := hrel
        by_cases hKl : K < 8
        · have hmc : wr.cell? ⟨M, I * 8 + K, none⟩ = some (.int .u8 (shrR I K : Nat)) := by rw [hnd2]; exact HMT.out I HIL.out K hKl
          have hbc : wr.cell? ⟨b, o + K, none⟩ = some (.int .u8 (bl m K : Nat)) := by rw [hnd2]; exact HBY.out K hKl
          have l1 := shrR_lt I HIL.out K hKl
          have l2 := bl_lt m K
          have hz := zS_step m I K HIL.out hKl
          have hg := gm_lt r333 l1 (bl m K)
          have hzl := zS_lt m I K
          have h3 : (256 : Nat) ^ (I + 1) ≤ 256 ^ 4 := Nat.pow_le_pow_right (by omega) (by have := HIL.out; omega)
          have HC := hid (fun w => rmul_any (shrR I K) (bl m K) 333 w r333 l1 l2)
          obtain ⟨m1, hm1⟩ : ∃ m1, shrR I K = m1 := ⟨_, rfl⟩
          obtain ⟨b2, hb2⟩ : ∃ b2, bl m K = b2 := ⟨_, rfl⟩
          rw [hm1, hb2] at hz hg HC
          rw [hm1] at hmc l1
          rw [hb2] at hbc l2
          obtain ⟨g, hge⟩ : ∃ g, gm 333 m1 b2 = g := ⟨_, rfl⟩
          rw [hge] at hz hg HC
          obtain ⟨z, hze⟩ : ∃ z, zS m I K = z := ⟨_, rfl⟩
          have hz32 : z < 4294967296 := by omega
          rw [hze] at hz ⊢
          have HZ := hid hz
          have HN2 := hid hnd2
          have hIl3 : I < 4 := HIL.out
          clear hm1 hb2 hge hze hzl h3 hz hnd2
          go_wp2_with fail
          go_quiet ((go_at_call 37; exact quietSame (HC.out _)))
          go_wp2_with fail
          rw [HZ.out]
          exact ⟨⟨K + 1, by omega, by go_num, rfl, nd2 + nq, by rw [HN2.out]; exact drewN_add W5 nd2 nq⟩, by simp [intOf]; omega⟩
        · obtain rfl : K = 8 := by omega
          have HN2 := hid hnd2
          rw [zS_eight]
          clear hnd2
          go_wp2_with fail
          exact ⟨⟨I + 1, by have := HIL.out; omega, by go_num, rfl, nd2, by first | rfl | exact HN2.out⟩, by have := HIL.out; simp [intOf]; omega⟩
    · obtain rfl : I = 4 := by omega
      have e1 := wd4_toNat (shrB_lt m)
      have HX3 := hid (show Ext w wr by rw [hnd]; exact HX.out.drewN nd)
      rw [← e1]
      clear e1 hnd
      go_wp2_with fail
      go_ret
      exact ⟨rfl, HX3.out⟩
end Go.Proofs.YtbdncalllfpodaaDoor
