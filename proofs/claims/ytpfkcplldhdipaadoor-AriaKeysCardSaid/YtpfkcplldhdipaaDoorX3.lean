/- Walk over mixed of the program; own lemmas of the verifier, no statement is proved here. -/
import Derived.Test.YtpfkcplldhdipaaDoorX2
namespace Go.Proofs.YtpfkcplldhdipaaDoor
open Go.RowKit
theorem run_index82 (w : World) (bs : List UInt8) (k : Nat) (h : bs.length = 7) (hk : k < 7) :
    (Instr.index 82 (.agg (cellsOf bs).toArray) (.int .i64 k)).run Tryd.prog w = .ok (.int .u8 (nb bs k : Nat)) w := by
  have hc : (cellsOf bs)[k]? = some (.int .u8 (byteAt bs k)) := cellsOf_get bs k (by omega)
  simp only [Instr.index, asIntOf, Sem.run_bind, Sem.run_pure, Result.andThen_ok, run_underlying Tryd.underlying82]
  rw [if_pos ⟨by omega, by omega⟩]
  simp [part, hc, byteAt_nb]
theorem run_index55 (w : World) (bs : List UInt8) (k : Nat) (h : bs.length = 16) (hk : k < 16) :
    (Instr.index 55 (.agg (cellsOf bs).toArray) (.int .i64 k)).run Tryd.prog w = .ok (.int .u8 (nb bs k : Nat)) w := by
  have hc : (cellsOf bs)[k]? = some (.int .u8 (byteAt bs k)) := cellsOf_get bs k (by omega)
  simp only [Instr.index, asIntOf, Sem.run_bind, Sem.run_pure, Result.andThen_ok, run_underlying Tryd.underlying55]
  rw [if_pos ⟨by omega, by omega⟩]
  simp [part, hc, byteAt_nb]
theorem sizeOf82' (w : World) : (sizeOf 82).run Tryd.prog w = .ok 7 w := by kernel_rfl
theorem run_index83 (w : World) (bs : List UInt8) (k : Nat) (_h : bs.length = 112) (hk : k < 16) :
    (Instr.index 83 (.agg (cellsOf bs).toArray) (.int .i64 k)).run Tryd.prog w = .ok (.agg (cellsOf ((bs.drop (k * 7)).take 7)).toArray) w := by
  simp only [Instr.index, asIntOf, Sem.run_bind, Sem.run_pure, Result.andThen_ok, run_underlying Tryd.underlying83]
  rw [if_pos ⟨by omega, by omega⟩]
  simp only [part, Sem.run_bind, Tryd.isAgg82, sizeOf82', Result.andThen_ok, Sem.run_pure, Int.toNat_natCast, if_true]
  congr 2
  apply Array.toList_inj.1
  simp [cellsOf, List.map_drop, List.map_take, List.extract_eq_take_drop]
/-- The program's table of sevens, as bytes. -/
def sevB : List UInt8 := sevT.flatten.map UInt8.ofNat
theorem sevB_length : sevB.length = 112 := by decide +kernel
def sevR (i : Nat) : List UInt8 := (sevB.drop (i * 7)).take 7
theorem sevR_length : ∀ i < 16, (sevR i).length = 7 := by decide +kernel
theorem sevR_nb : ∀ i < 16, ∀ k < 7, nb (sevR i) k = sevN i k := by decide +kernel
/-- The table's cells. -/
def Sev (w : World) : Prop := w.rangeAt 3 0 (cellsOf sevB)
theorem rangeAt_later {w w' : World} {g o : Nat} {cs : List Value} (h : w.rangeAt g o cs) (hx : Ext w w') : w'.rangeAt g o cs := fun j v hv => by
  have h1 := h j v hv
  exact (Below.cell hx (p := ⟨g, o + j, none⟩) (World.block_lt_of_cell? w _ h1)).trans h1
theorem Sev.later {w w' : World} (h : Sev w) (hx : Ext w w') : Sev w' := rangeAt_later h hx
def z7 : List UInt8 := List.replicate 7 0
theorem cells_z7 : (cellsOf z7).toArray = #[.int .u8 0, .int .u8 0, .int .u8 0, .int .u8 0, .int .u8 0, .int .u8 0, .int .u8 0] := rfl
/-- Mix, under way. -/
def mixS (b : List UInt8) (i k : Nat) : List UInt8 := (List.range 16).map fun j => if j < i then mixF b j else if j = i then mixK b i k else 0
theorem mixS_length (b : List UInt8) (i k : Nat) : (mixS b i k).length = 16 := by simp [mixS]
theorem mixS_zero (b : List UInt8) : mixS b 0 0 = z16 := by
  apply List.ext_getElem
  · simp [mixS, z16]
  · intro j h1 h2
    simp only [mixS, z16, List.getElem_map, List.getElem_range, List.getElem_replicate, Nat.not_lt_zero, if_false]
    split <;> rfl
theorem mixS_next (b : List UInt8) (i : Nat) : mixS b i 7 = mixS b (i + 1) 0 := by
  refine List.map_congr_left fun j _ => ?_
  by_cases h1 : j < i
  · rw [if_pos h1, if_pos (by omega)]
  · by_cases h2 : j = i
    · subst h2; rw [if_neg h1, if_pos rfl, if_pos (by omega)]; rfl
    · rw [if_neg h1, if_neg h2, if_neg (by omega)]; split <;> rfl
theorem mixS_full (b : List UInt8) : mixS b 16 0 = mixL b := by
  refine List.map_congr_left fun j hj => ?_
  rw [if_pos (List.mem_range.1 hj)]
theorem mixS_at (b : List UInt8) (i k : Nat) (hi : i < 16) : (mixS b i k).getD i 0 = mixK b i k := by
  simp [mixS, List.getD_eq_getElem?_getD, hi]
theorem mixS_set (b : List UInt8) (i k : Nat) (_hi : i < 16) : (mixS b i k).set i (mixK b i (k + 1)) = mixS b i (k + 1) := by
  apply List.ext_getElem
  · simp [mixS]
  · intro j h1 h2
    simp only [List.getElem_set, mixS, List.getElem_map, List.getElem_range]
    by_cases e : i = j
    · subst e; simp
    · rw [if_neg e]
      by_cases h3 : j < i
      · rw [if_pos h3, if_pos h3]
      · rw [if_neg h3, if_neg h3, if_neg (Ne.symm e), if_neg (Ne.symm e)]
theorem u8_xor_val (x y : UInt8) : bits .xor .u8 (x.toNat : Int) (y.toNat : Int) = ((x ^^^ y).toNat : Int) := by
  rw [UInt8.toNat_xor, u8_xor_nat _ _ (UInt8.toNat_lt _) (UInt8.toNat_lt _)]
set_option maxRecDepth 100000 in
set_option maxHeartbeats 4000000 in
theorem mixed_any (bs : List UInt8) (w : World) (hb : bs.length = 16) (hs : Sev w) :
    Calls Tryd.prog 27 #[bv bs] w fun e w' => e = .returned (bv (mixL bs)) ∧ Ext w w' := by
  unfold bv
  have hlt3 : 3 < w.heap.size := World.block_lt_of_cell? w _ (hs 0 _ (cellsOf_get sevB 0 (by rw [sevB_length]; omega)))
  have HS83 := hid (size83' sevB_length)
  have h1 := RW.new w 55 bs
  have x1 := Ext.alloc w (.cells (cellsOf bs).toArray 55)
  obtain ⟨W1, hW1⟩ : ∃ W1, w.alloc (.cells (cellsOf bs).toArray 55) = W1 := ⟨_, rfl⟩
  have z1 : W1.heap.size = w.heap.size + 1 := by rw [← hW1]; simp
  have h2 := RW.new W1 55 z16
  have x2 := Ext.alloc W1 (.cells (cellsOf z16).toArray 55)
  obtain ⟨W2, hW2⟩ : ∃ W2, W1.alloc (.cells (cellsOf z16).toArray 55) = W2 := ⟨_, rfl⟩
  have z2 : W2.heap.size = w.heap.size + 1 + 1 := by rw [← hW2, ← z1]; simp
  have h3 := RW.new W2 55 z16
  have x3 := Ext.alloc W2 (.cells (cellsOf z16).toArray 55)
  obtain ⟨W3, hW3⟩ : ∃ W3, W2.alloc (.cells (cellsOf z16).toArray 55) = W3 := ⟨_, rfl⟩
  rw [hW1] at h1 x1
  rw [hW2] at h2 x2
  rw [hW3] at h3 x3
  have h1 := (h1.later (by omega) x2).later (by omega) x3
  have h2 := h2.later (by rw [z16_length]; omega) x3
  have hs3 := ((hs.later x1).later x2).later x3
  obtain ⟨G, hG⟩ : ∃ G, w.heap.size = G := ⟨_, rfl⟩
  rw [z1] at h2
  rw [z2] at h3
  have HXT := hid ((x1.trans x2).trans x3)
  rw [hG] at h1 h2 h3
  have HX := hid h1
  have HR := hid h2
  have HO := hid h3
  have HSV := hid hs3
  have HG := hid hG
  have HW := hid (And.intro hW1 (And.intro hW2 hW3))
  clear hW1 hW2 hW3 z1 z2 x1 x2 x3 h1 h2 h3 hs3 hs hG
  go_enter Tryd.func27, Tryd.ntmps27
  go_wp2_with (first
    | (rw [← cells_z16, HW.out.1, HW.out.2.1, HW.out.2.2, HG.out]; clear HW; refine wpList_ld rfl 83 (.global 3) rfl 3 0 rfl sevB HSV.out Tryd.underlying83 HS83.out ?_))
  go_loopw [9] (fun v wr => ∃ i : Nat, i ≤ 16 ∧ v = .int .i64 i ∧ RW wr G 0 bs ∧ RW wr (G + 1) 0 z16 ∧ RW wr (G + 1 + 1) 0 (mixS bs i 0) ∧ Ext w wr) (fun v _ => 16 - (intOf v).toNat)
  case atStart => exact ⟨0, by omega, rfl, HX.out, HR.out, by rw [mixS_zero]; exact HO.out, HXT.out⟩
  case round =>
    clear HX HR HO HXT HSV
    obtain ⟨i, hi, rfl, hX, hR, hO, hx⟩ := hrel
    by_cases hlt : i < 16
    · have HI := hid hlt
      have HL7 := hid (sevR_length i hlt)
      have h5 := RW.new wr 82 z7
      have x5 := Ext.alloc wr (.cells (cellsOf z7).toArray 82)
      obtain ⟨W5, hW5⟩ : ∃ W5, wr.alloc (.cells (cellsOf z7).toArray 82) = W5 := ⟨_, rfl⟩
      rw [hW5] at h5 x5
      obtain ⟨S, hS⟩ : ∃ S, wr.heap.size = S := ⟨_, rfl⟩
      rw [hS] at h5
      have gx := hX.lt (by omega)
      have gr := hR.lt (by rw [z16_length]; omega)
      have go := hO.lt (by rw [mixS_length]; omega)
      rw [hS] at gx gr go
      have hX := (hX.later (by omega) x5).apart S 0 (cellsOf (sevR i)) (by omega)
      have hR := (hR.later (by rw [z16_length]; omega) x5).apart S 0 (cellsOf (sevR i)) (by omega)
      have hO := (hO.later (by rw [mixS_length]; omega) x5).apart S 0 (cellsOf (sevR i)) (by omega)
      have h6 := h5.store0 (sevR i) (by rw [HL7.out]; rfl)
      have hx5 := hx.trans x5
      have hx6 := below_setCells (B := w.heap.size) (b := S) (a := w) (by have := HG.out; omega) (cellsOf (sevR i)) 0 W5 hx5
      have HTH := hid (show W5.there S 0 (sevR i).length by rw [HL7.out]; exact h5.wr)
      obtain ⟨W6, hW6⟩ : ∃ W6, W5.setCells S 0 (cellsOf (sevR i)) = W6 := ⟨_, rfl⟩
      rw [hW6] at hX hR hO h6 hx6
      have HQ := hid (And.intro hX (And.intro hR (And.intro hO hx6)))
      have H6 := hid h6
      have HW := hid (And.intro hW5 (And.intro hS hW6))
      have HSZ := hid (size82' HL7.out)
      clear hX hR hO hx6 hx h6 h5 hx5 x5 hW5 hW6 hS gx gr go
      go_wp2_with fail
      rw [run_index83 _ _ i sevB_length hlt]
      simp only [Result.andThen]
      rw [Oper.upon_value]
      rw [show (sevB.drop (i * 7)).take 7 = sevR i from rfl]
      go_wp2_with (first
        | (rw [← cells_z7, HW.out.1, HW.out.2.1]; refine wpList_st rfl 82 (.tmp 5) (.tmp 12) rfl S 0 (sevR i) rfl rfl HTH.out HSZ.out ?_; rw [HW.out.2.2]; clear HW HTH)
        | (refine wpList_ld rfl 82 (.tmp 5) rfl S 0 rfl (sevR i) H6.out.rd Tryd.underlying82 HSZ.out ?_))
      clear H6
      go_loopw [14] (fun v wr => ∃ k : Nat, k ≤ 7 ∧ v = .int .i64 k ∧ RW wr G 0 bs ∧ RW wr (G + 1) 0 z16 ∧ RW wr (G + 1 + 1) 0 (mixS bs i k) ∧ Ext w wr) (fun v _ => 7 - (intOf v).toNat)
      case atStart => exact ⟨0, by omega, rfl, HQ.out⟩
      case round =>
        clear HQ
        obtain ⟨k, hk, rfl, hX, hR, hO, hx⟩ := hrel
        by_cases hkt : k < 7
        · have hv := sevN_lt i hlt k hkt
          have hc1 := hX.cell (sevN i k) (by omega)
          have hc2 := hO.cell i (by rw [mixS_length]; exact hlt)
          have hf2 := hO.free i (by rw [mixS_length]; exact hlt)
          rw [Nat.zero_add] at hc1 hc2 hf2
          have e2 : byteAt (mixS bs i k) i = ((mixK bs i k).toNat : Int) := by unfold byteAt; rw [mixS_at bs i k hlt]
          have hset := hO.set_ i (by rw [mixS_length]; exact hlt) (mixK bs i (k + 1))
          rw [mixS_set bs i k hlt, Nat.zero_add] at hset
          have e3 : ((mixK bs i (k + 1)).toNat : Int) = bits .xor .u8 ((mixK bs i k).toNat : Int) (byteAt bs (sevN i k)) := by
            rw [show byteAt bs (sevN i k) = ((bs.getD (sevN i k) 0).toNat : Int) from rfl, u8_xor_val]; rfl
          rw [e3] at hset
          rw [e2] at hc2
          have hX2 := hX.apart1 ⟨G + 1 + 1, i, none⟩ (.int .u8 (bits .xor .u8 ((mixK bs i k).toNat : Int) (byteAt bs (sevN i k)))) (by simp; omega)
          have hR2 := hR.apart1 ⟨G + 1 + 1, i, none⟩ (.int .u8 (bits .xor .u8 ((mixK bs i k).toNat : Int) (byteAt bs (sevN i k)))) (by simp)
          have hx2 := hx.setCell (p := ⟨G + 1 + 1, i, none⟩) (by have := HG.out; simp; omega) (.int .u8 (bits .xor .u8 ((mixK bs i k).toNat : Int) (byteAt bs (sevN i k))))
          have b1 := byteAt_lo bs (sevN i k)
          have b2 := byteAt_hi bs (sevN i k)
          have b3 := (mixK bs i k).toNat_lt
          obtain ⟨M, hM⟩ : ∃ M : Nat, (mixK bs i k).toNat = M := ⟨_, rfl⟩
          obtain ⟨V, hV⟩ : ∃ V, sevN i k = V := ⟨_, rfl⟩
          have HN := hid (show nb (sevR i) k = V by rw [sevR_nb i hlt k hkt, hV])
          rw [hM] at hc2 hset hX2 hR2 hx2 b3
          rw [hV] at hc1 hset hX2 hR2 hx2 b1 b2 hv
          have HQ := hid (And.intro hX2 (And.intro hR2 (And.intro hset hx2)))
          clear hX hR hO hx hset hX2 hR2 hx2 e2 e3 hM hV
          go_wp2_with fail
          rw [run_index82 _ _ k HL7.out hkt, HN.out]
          simp only [Result.andThen]
          rw [Oper.upon_value]
          go_wp2_with fail
          go_region
          go_wp2_with fail
          go_roundw
          case rel => exact ⟨k + 1, by omega, by go_num, HQ.out.1.drew, HQ.out.2.1.drew, HQ.out.2.2.1.drew, HQ.out.2.2.2.drew⟩
          case measure => simp [intOf]; omega
        · obtain rfl : k = 7 := by omega
          rw [mixS_next] at hO
          have HQ := hid (And.intro hX (And.intro hR (And.intro hO hx)))
          clear hX hR hO hx
          go_wp2_with fail
          go_roundw
          case rel => exact ⟨i + 1, by omega, by go_num, HQ.out⟩
          case measure => simp [intOf]; omega
    · obtain rfl : i = 16 := by omega
      rw [mixS_full] at hO
      have hS := hR.store0 (mixL bs) (by rw [mixL_length, z16_length])
      have hx2 := below_setCells (B := w.heap.size) (b := G + 1) (a := w) (by have := HG.out; omega) (cellsOf (mixL bs)) 0 wr hx
      have HO := hid hO.rd
      have HS := hid hS.rd
      have HX2 := hid hx2
      have HSZ := hid (size55' (mixL_length bs))
      have HTH := hid (show wr.there (G + 1) 0 (mixL bs).length by rw [mixL_length]; exact hR.wr)
      clear hX hR hO hx hS hx2
      go_wp2_with (first
        | (refine wpList_ld rfl 55 (.tmp 3) rfl (G + 1 + 1) 0 rfl (mixL bs) HO.out Tryd.underlying55 HSZ.out ?_)
        | (refine wpList_st rfl 55 (.tmp 2) (.tmp 27) rfl (G + 1) 0 (mixL bs) rfl rfl HTH.out HSZ.out ?_))
      refine ret_mid rfl rfl (G + 1) (mixL bs) rfl HS.out Tryd.underlying55 HSZ.out ⟨rfl, HX2.out⟩
end Go.Proofs.YtpfkcplldhdipaaDoor
