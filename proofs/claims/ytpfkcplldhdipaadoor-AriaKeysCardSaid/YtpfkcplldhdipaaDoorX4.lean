/- Walk over layer of the program; own lemmas of the verifier, no statement is proved here. -/
import Derived.Test.YtpfkcplldhdipaaDoorX3
namespace Go.Proofs.YtpfkcplldhdipaaDoor
open Go.RowKit
/-- The four tables, one behind the other. -/
def tabB : List UInt8 := S1 ++ S2 ++ X1 ++ X2
theorem tabB_length : tabB.length = 1024 := by decide +kernel
theorem tabB_at : ∀ q < 4, ∀ x < 256, nb tabB (q * 256 + x) = nb (tabT q) x := by decide +kernel
/-- The program's tables in memory. -/
def TB (w : World) (g : Nat) : Prop := w.rangeAt g 0 (cellsOf tabB)
theorem TB.later {w w' : World} {g : Nat} (h : TB w g) (hx : Ext w w') : TB w' g := rangeAt_later h hx
theorem TB.lt {w : World} {g : Nat} (h : TB w g) : g < w.heap.size := World.block_lt_of_cell? w _ (h 0 _ (cellsOf_get tabB 0 (by rw [tabB_length]; omega)))
/-- A layer, under way. -/
def layS (which : Nat) (b : List UInt8) (i : Nat) : List UInt8 := (List.range 16).map fun j => if j < i then layF which b j else b.getD j 0
theorem layS_length (which : Nat) (b : List UInt8) (i : Nat) : (layS which b i).length = 16 := by simp [layS]
theorem layS_zero (which : Nat) (b : List UInt8) (h : b.length = 16) : layS which b 0 = b := by
  apply List.ext_getElem
  · simp [layS, h]
  · intro j h1 h2
    simp [layS, h2]
theorem layS_full (which : Nat) (b : List UInt8) : layS which b 16 = layL which b := by
  refine List.map_congr_left fun j hj => ?_
  rw [if_pos (List.mem_range.1 hj)]
theorem layS_set (which : Nat) (b : List UInt8) (i : Nat) (_hi : i < 16) : (layS which b i).set i (layF which b i) = layS which b (i + 1) := by
  apply List.ext_getElem
  · simp [layS]
  · intro j h1 h2
    simp only [List.getElem_set, layS, List.getElem_map, List.getElem_range]
    by_cases e : i = j
    · subst e; simp
    · rw [if_neg e]
      by_cases h3 : j < i
      · rw [if_pos h3, if_pos (by omega)]
      · rw [if_neg h3, if_neg (by omega)]
set_option maxRecDepth 100000 in
set_option maxHeartbeats 4000000 in
theorem layer_any (g which : Nat) (bs : List UInt8) (w : World) (hw : which = 1 ∨ which = 2) (hb : bs.length = 16) (ht : TB w g) :
    Calls Tryd.prog 29 #[.pointer (some ⟨g, 0, none⟩), .int .i64 which, bv bs] w fun e w' => e = .returned (bv (layL which bs)) ∧ Ext w w' := by
  unfold bv
  have HT := hid ht
  have h1 := RW.new w 55 bs
  have x1 := Ext.alloc w (.cells (cellsOf bs).toArray 55)
  obtain ⟨W1, hW1⟩ : ∃ W1, w.alloc (.cells (cellsOf bs).toArray 55) = W1 := ⟨_, rfl⟩
  have z1 : W1.heap.size = w.heap.size + 1 := by rw [← hW1]; simp
  have h2 := RW.new W1 55 z16
  have x2 := Ext.alloc W1 (.cells (cellsOf z16).toArray 55)
  obtain ⟨W2, hW2⟩ : ∃ W2, W1.alloc (.cells (cellsOf z16).toArray 55) = W2 := ⟨_, rfl⟩
  rw [hW1] at h1 x1
  rw [hW2] at h2 x2
  have h1 := h1.later (by omega) x2
  obtain ⟨G, hG⟩ : ∃ G, w.heap.size = G := ⟨_, rfl⟩
  rw [z1] at h2
  have HXT := hid (x1.trans x2)
  rw [hG] at h1 h2
  have HX := hid h1
  have HR := hid h2
  have HG := hid hG
  have HW := hid (And.intro hW1 hW2)
  have HSZ := hid (size55' hb)
  clear hW1 hW2 z1 x1 x2 h1 h2 ht hG
  rcases hw with rfl | rfl
  · go_enter Tryd.func29, Tryd.ntmps29
    go_wp2_with (first
      | (refine wpList_ld rfl 55 (.tmp 5) rfl G 0 rfl bs HX.out.rd Tryd.underlying55 HSZ.out ?_)
      | (rw [← cells_z16, HW.out.1, HW.out.2, HG.out]; clear HW))
    go_loopw [14] (fun v wr => ∃ i : Nat, i ≤ 16 ∧ v = .int .i64 i ∧ RW wr G 0 (layS 1 bs i) ∧ RW wr (G + 1) 0 z16 ∧ Ext w wr) (fun v _ => 16 - (intOf v).toNat)
    case atStart => exact ⟨0, by omega, rfl, by rw [layS_zero _ _ hb]; exact HX.out, HR.out, HXT.out⟩
    case round =>
      clear HX HR HXT
      obtain ⟨i, hi, rfl, hX, hR, hx⟩ := hrel
      by_cases hlt : i < 16
      · have ht := rangeAt_later HT.out hx
        obtain ⟨q, hq⟩ : ∃ q, (0 + i) % 4 = q := ⟨_, rfl⟩
        have hq4 : q < 4 := by omega
        have htm : (i : Int).tmod 4 = (q : Int) := by rw [Int.tmod_eq_emod_of_nonneg (by omega)]; omega
        have hvl := nb_lt bs i
        have hcT : wr.cell? ⟨g, q * 256 + nb bs i, none⟩ = some (.int .u8 ((layF 1 bs i).toNat : Int)) := by
          have h1 := ht (q * 256 + nb bs i) _ (cellsOf_get tabB _ (by rw [tabB_length]; omega))
          rw [Nat.zero_add] at h1
          rw [h1, byteAt_nb, tabB_at q hq4 _ hvl]
          unfold layF nb
          rw [show (2 * (1 - 1) + i) % 4 = q from hq]
        have hset := hX.set_ i (by rw [layS_length]; exact hlt) (layF 1 bs i)
        rw [layS_set 1 bs i hlt, Nat.zero_add] at hset
        have hcX := hX.cell i (by rw [layS_length]; exact hlt)
        have hfX := hX.free i (by rw [layS_length]; exact hlt)
        rw [Nat.zero_add] at hcX hfX
        have hR2 := hR.apart1 ⟨G, i, none⟩ (.int .u8 ((layF 1 bs i).toNat : Int)) (by simp)
        have hx2 := hx.setCell (p := ⟨G, i, none⟩) (by have := HG.out; simp; omega) (.int .u8 ((layF 1 bs i).toNat : Int))
        obtain ⟨V, hV⟩ : ∃ V, nb bs i = V := ⟨_, rfl⟩
        have HN := hid hV
        rw [hV] at hcT hvl
        have hL := (layF 1 bs i).toNat_lt
        obtain ⟨M, hM⟩ : ∃ M : Nat, (layF 1 bs i).toNat = M := ⟨_, rfl⟩
        rw [hM] at hcT hset hR2 hx2 hL
        have HQ := hid (And.intro hset (And.intro hR2 hx2))
        clear hX hR hx hset hR2 hx2 ht hV hM hq
        go_wp2_with fail
        rw [run_index55 _ _ i hb hlt, HN.out]
        simp only [Result.andThen]
        rw [Oper.upon_value]
        go_wp2_with fail
        go_roundw
        case rel => exact ⟨i + 1, by omega, by go_num, HQ.out⟩
        case measure => simp [intOf]; omega
      · obtain rfl : i = 16 := by omega
        rw [layS_full] at hX
        have hS := hR.store0 (layL 1 bs) (by rw [layL_length, z16_length])
        have hx2 := below_setCells (B := w.heap.size) (b := G + 1) (a := w) (by have := HG.out; omega) (cellsOf (layL 1 bs)) 0 wr hx
        have HO := hid hX.rd
        have HS := hid hS.rd
        have HX2 := hid hx2
        have HSZ := hid (size55' (layL_length 1 bs))
        have HTH := hid (show wr.there (G + 1) 0 (layL 1 bs).length by rw [layL_length]; exact hR.wr)
        clear hX hR hx hS hx2
        go_wp2_with (first
          | (refine wpList_ld rfl 55 (.tmp 5) rfl G 0 rfl (layL 1 bs) HO.out Tryd.underlying55 HSZ.out ?_)
          | (refine wpList_st rfl 55 (.tmp 6) (.tmp 31) rfl (G + 1) 0 (layL 1 bs) rfl rfl HTH.out HSZ.out ?_))
        refine ret_mid rfl rfl (G + 1) (layL 1 bs) rfl HS.out Tryd.underlying55 HSZ.out ⟨rfl, HX2.out⟩
  · go_enter Tryd.func29, Tryd.ntmps29
    go_wp2_with (first
      | (refine wpList_ld rfl 55 (.tmp 5) rfl G 0 rfl bs HX.out.rd Tryd.underlying55 HSZ.out ?_)
      | (rw [← cells_z16, HW.out.1, HW.out.2, HG.out]; clear HW))
    go_loopw [14] (fun v wr => ∃ i : Nat, i ≤ 16 ∧ v = .int .i64 i ∧ RW wr G 0 (layS 2 bs i) ∧ RW wr (G + 1) 0 z16 ∧ Ext w wr) (fun v _ => 16 - (intOf v).toNat)
    case atStart => exact ⟨0, by omega, rfl, by rw [layS_zero _ _ hb]; exact HX.out, HR.out, HXT.out⟩
    case round =>
      clear HX HR HXT
      obtain ⟨i, hi, rfl, hX, hR, hx⟩ := hrel
      by_cases hlt : i < 16
      · have ht := rangeAt_later HT.out hx
        obtain ⟨q, hq⟩ : ∃ q, (2 + i) % 4 = q := ⟨_, rfl⟩
        have hq4 : q < 4 := by omega
        have htm : (2 + (i : Int)).tmod 4 = (q : Int) := by rw [Int.tmod_eq_emod_of_nonneg (by omega)]; omega
        have hvl := nb_lt bs i
        have hcT : wr.cell? ⟨g, q * 256 + nb bs i, none⟩ = some (.int .u8 ((layF 2 bs i).toNat : Int)) := by
          have h1 := ht (q * 256 + nb bs i) _ (cellsOf_get tabB _ (by rw [tabB_length]; omega))
          rw [Nat.zero_add] at h1
          rw [h1, byteAt_nb, tabB_at q hq4 _ hvl]
          unfold layF nb
          rw [show (2 * (2 - 1) + i) % 4 = q from hq]
        have hset := hX.set_ i (by rw [layS_length]; exact hlt) (layF 2 bs i)
        rw [layS_set 2 bs i hlt, Nat.zero_add] at hset
        have hcX := hX.cell i (by rw [layS_length]; exact hlt)
        have hfX := hX.free i (by rw [layS_length]; exact hlt)
        rw [Nat.zero_add] at hcX hfX
        have hR2 := hR.apart1 ⟨G, i, none⟩ (.int .u8 ((layF 2 bs i).toNat : Int)) (by simp)
        have hx2 := hx.setCell (p := ⟨G, i, none⟩) (by have := HG.out; simp; omega) (.int .u8 ((layF 2 bs i).toNat : Int))
        obtain ⟨V, hV⟩ : ∃ V, nb bs i = V := ⟨_, rfl⟩
        have HN := hid hV
        rw [hV] at hcT hvl
        have hL := (layF 2 bs i).toNat_lt
        obtain ⟨M, hM⟩ : ∃ M : Nat, (layF 2 bs i).toNat = M := ⟨_, rfl⟩
        rw [hM] at hcT hset hR2 hx2 hL
        have HQ := hid (And.intro hset (And.intro hR2 hx2))
        clear hX hR hx hset hR2 hx2 ht hV hM hq
        go_wp2_with fail
        rw [run_index55 _ _ i hb hlt, HN.out]
        simp only [Result.andThen]
        rw [Oper.upon_value]
        go_wp2_with fail
        go_roundw
        case rel => exact ⟨i + 1, by omega, by go_num, HQ.out⟩
        case measure => simp [intOf]; omega
      · obtain rfl : i = 16 := by omega
        rw [layS_full] at hX
        have hS := hR.store0 (layL 2 bs) (by rw [layL_length, z16_length])
        have hx2 := below_setCells (B := w.heap.size) (b := G + 1) (a := w) (by have := HG.out; omega) (cellsOf (layL 2 bs)) 0 wr hx
        have HO := hid hX.rd
        have HS := hid hS.rd
        have HX2 := hid hx2
        have HSZ := hid (size55' (layL_length 2 bs))
        have HTH := hid (show wr.there (G + 1) 0 (layL 2 bs).length by rw [layL_length]; exact hR.wr)
        clear hX hR hx hS hx2
        go_wp2_with (first
          | (refine wpList_ld rfl 55 (.tmp 5) rfl G 0 rfl (layL 2 bs) HO.out Tryd.underlying55 HSZ.out ?_)
          | (refine wpList_st rfl 55 (.tmp 6) (.tmp 31) rfl (G + 1) 0 (layL 2 bs) rfl rfl HTH.out HSZ.out ?_))
        refine ret_mid rfl rfl (G + 1) (layL 2 bs) rfl HS.out Tryd.underlying55 HSZ.out ⟨rfl, HX2.out⟩
end Go.Proofs.YtpfkcplldhdipaaDoor
