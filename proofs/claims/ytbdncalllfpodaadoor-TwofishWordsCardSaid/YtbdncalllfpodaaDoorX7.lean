/- Walks over the reference's stages, and H of the reference; own lemmas of the verifier, no statement is proved here. -/
import Derived.Test.YtbdncalllfpodaaDoorX6
namespace Go.Proofs.YtbdncalllfpodaaDoor
open Go.RowKit
theorem cf15 (vs : Array Value) (w : World) : (callFunc 15 vs).run Tryd.prog w = .ok (.enter 15 vs) w := by go_simp
def stK (k G q b : Nat) : List K := [.eq (.int .i64 k), .eq (.int .i64 k), .eq (.pointer (some ⟨G + 1, k, none⟩)), .eq (.int .i64 q), .eq (.int .i64 k), .eq (.pointer (some ⟨G, k, none⟩)), .eq (.int .u8 b), .eq (.int .u8 (qF q b : Nat)), .any, .any]
theorem replB_toNat (x : UInt32) (left i : Nat) : (UInt8.ofNat (replB x left i)).toNat = replB x left i := by
  have := replB_lt x left i
  rw [UInt8.toNat_ofNat']; omega
theorem byB_repl (x : UInt32) (left : Nat) : (List.range 4).map (fun i => UInt8.ofNat (replB x left i)) = byB (replW x left) := by
  unfold byB
  apply List.map_congr_left
  intro i hi
  unfold byF
  rw [show bw (replW x left) i = replB x left i from bw_wd4 (replB_lt x left) i (List.mem_range.1 hi)]
set_option maxRecDepth 100000 in
set_option maxHeartbeats 4000000 in
theorem stage_any (x : UInt32) (left : Nat) (q0 q1 q2 q3 : Int) (w : World) (hl : left < 5) (e0 : q0 = (ordN left 0 : Nat)) (e1 : q1 = (ordN left 1 : Nat)) (e2 : q2 = (ordN left 2 : Nat)) (e3 : q3 = (ordN left 3 : Nat)) :
    Calls Tryd.prog 36 #[.agg (cellsOf (byB x)).toArray, .agg #[.int .i64 q0, .int .i64 q1, .int .i64 q2, .int .i64 q3]] w (Ret4 w (replW x left)) := by
  have h1 := heap_alloc2_old w (.cells (cellsOf (byB x)).toArray 68) (.cells #[.int .i64 q0, .int .i64 q1, .int .i64 q2, .int .i64 q3] 71)
  have h1b := heap_alloc2_new w (.cells (cellsOf (byB x)).toArray 68) (.cells #[.int .i64 q0, .int .i64 q1, .int .i64 q2, .int .i64 q3] 71)
  have h3 := (Ext.alloc w (.cells (cellsOf (byB x)).toArray 68)).trans (Ext.alloc _ (.cells #[.int .i64 q0, .int .i64 q1, .int .i64 q2, .int .i64 q3] 71))
  have HE := hid (And.intro e0 (And.intro e1 (And.intro e2 e3)))
  clear e0 e1 e2 e3
  go_enter Tryd.func36, Tryd.ntmps36
  go_wp2_with fail
  obtain ⟨W1, hW1⟩ : ∃ W1, (w.alloc (.cells (cellsOf (byB x)).toArray 68)).alloc (.cells #[.int .i64 q0, .int .i64 q1, .int .i64 q2, .int .i64 q3] 71) = W1 := ⟨_, rfl⟩
  have hs1 : W1.heap.size = w.heap.size + 1 + 1 := by rw [← hW1]; simp
  rw [hW1] at h1 h1b h3 ⊢
  have h2 := heap_alloc_new W1 (.cells #[.int .u8 0, .int .u8 0, .int .u8 0, .int .u8 0] 68)
  have h4 := Ext.alloc W1 (.cells #[.int .u8 0, .int .u8 0, .int .u8 0, .int .u8 0] 68)
  rw [hs1] at h2
  obtain ⟨W2, hW2⟩ : ∃ W2, W1.alloc (.cells #[.int .u8 0, .int .u8 0, .int .u8 0, .int .u8 0] 68) = W2 := ⟨_, rfl⟩
  rw [hW2] at h2 h4 ⊢
  have HB := hid (show BB W2 w.heap.size 68 (mixTo (fun i => UInt8.ofNat (replB x left i)) (byF x) 0) by rw [mixTo_zero]; exact BB.later (e := 68) (L := byB x) h1 h4)
  have HQ4 := hid (show ∀ i, i < 4 → W2.cell? ⟨w.heap.size + 1, i, none⟩ = some (.int .i64 (ordN left i : Nat)) from fun i hi => by
    refine cell_at h4 ?_
    rw [cell_of_row W1 _ i _ _ _ h1b]
    obtain ⟨e0, e1, e2, e3⟩ := HE.out
    subst e0 e1 e2 e3
    rcases (show i = 0 ∨ i = 1 ∨ i = 2 ∨ i = 3 by omega) with rfl | rfl | rfl | rfl <;> rfl)
  have HR := hid (show BB W2 (w.heap.size + 1 + 1) 68 [0, 0, 0, 0] from h2)
  have HX := hid (h3.trans h4)
  clear h1 h1b h2 h3 h4 hW1 hW2
  obtain ⟨G, hG⟩ : ∃ G, w.heap.size = G := ⟨_, rfl⟩
  rw [hG]
  rw [hG] at HB HR HQ4
  have HGE := hid hG
  clear hG hs1
  go_loopw [5] (fun i wr => ∃ k : Nat, k ≤ 4 ∧ i = .int .i64 k ∧ BB wr G 68 (mixTo (fun i => UInt8.ofNat (replB x left i)) (byF x) k) ∧ (∀ i, i < 4 → wr.cell? ⟨G + 1, i, none⟩ = some (.int .i64 (ordN left i : Nat))) ∧ BB wr (G + 1 + 1) 68 [0, 0, 0, 0] ∧ Ext w wr) (fun i _ => 4 - (intOf i).toNat)
  case atStart => exact ⟨0, by omega, rfl, HB.out, HQ4.out, HR.out, HX.out⟩
  case round =>
    obtain ⟨k, hk, rfl, hb, hq4, hr, hx⟩ := hrel
    by_cases hlt : k < 4
    · have hc := hb.cell k (by rw [mixTo_length]; exact hlt)
      have hv : bl (mixTo (fun i => UInt8.ofNat (replB x left i)) (byF x) k) k = bw x k := by
        unfold bl; rw [mixTo_get _ _ _ hlt, byF_toNat]
      rw [hv] at hc
      have hqk := hq4 k hlt
      have hO := ordN_lt left hl k hlt
      have hrb := hid (show qF (ordN left k) (bw x k) = replB x left k from rfl)
      have l1 := bw_lt x k
      obtain ⟨q, hq⟩ : ∃ q, ordN left k = q := ⟨_, rfl⟩
      obtain ⟨b, hb1⟩ : ∃ b, bw x k = b := ⟨_, rfl⟩
      rw [hq] at hqk hO hrb
      rw [hb1] at hc l1 hrb
      have HQ := hid (fun w => rq_any q b w hO l1)
      have HCQ := hid hqk
      have HCB := hid hc
      have HK := hid hlt
      have HBB := hid hb
      have HQQ := hid hq4
      have HRR := hid hr
      have HXX := hid hx
      clear hb hq4 hr hx hc hqk hO l1 hq hb1 hv
      go_wp2_with fail
      refine region_upto 8 mixed rfl (by kernel_rfl) (by kernel_rfl) (by kernel_rfl) (kV (stK k G q b)) (kV_keep _) (forall_ops ⟨?_, ?_, ?_, ?_, ?_, ?_, ?_, ?_, trivial⟩) ?_
      · intro a w hk
        have s5 : a.tmps.getD 5 undef = .int .i64 k := hk.was 5 (by kernel_rfl) rfl
        exact step_move rfl rfl s5 rfl
      · intro a w hk
        have s5 : a.tmps.getD 5 undef = .int .i64 k := hk.was 5 (by kernel_rfl) rfl
        exact step_move rfl rfl s5 rfl
      · intro a w hk
        have s3 : a.tmps.getD 3 undef = .pointer (some ⟨G + 1, 0, none⟩) := hk.was 3 (by kernel_rfl) rfl
        have s11 := hk.eq_ 1 11 (by kernel_rfl) rfl
        refine step_val (v := .pointer (some ⟨G + 1, k, none⟩)) (w' := w) rfl ?_ (Ext.refl w) rfl
        have hk4 : (k : Int) < 4 := by have := HK.out; omega
        go_simp
      · intro a w hk
        have s12 := hk.eq_ 2 12 (by kernel_rfl) rfl
        refine step_val (v := .int .i64 q) (w' := w) rfl ?_ (Ext.refl w) rfl
        have hc := cell_at hk.ext HCQ.out
        go_simp
      · intro a w hk
        have s5 : a.tmps.getD 5 undef = .int .i64 k := hk.was 5 (by kernel_rfl) rfl
        exact step_move rfl rfl s5 rfl
      · intro a w hk
        have s2 : a.tmps.getD 2 undef = .pointer (some ⟨G, 0, none⟩) := hk.was 2 (by kernel_rfl) rfl
        have s14 := hk.eq_ 4 14 (by kernel_rfl) rfl
        refine step_val (v := .pointer (some ⟨G, k, none⟩)) (w' := w) rfl ?_ (Ext.refl w) rfl
        have hk4 : (k : Int) < 4 := by have := HK.out; omega
        go_simp
      · intro a w hk
        have s15 := hk.eq_ 5 15 (by kernel_rfl) rfl
        refine step_val (v := .int .u8 b) (w' := w) rfl ?_ (Ext.refl w) rfl
        have hc := cell_at hk.ext HCB.out
        go_simp
      · intro a w hk
        have s13 := hk.eq_ 3 13 (by kernel_rfl) rfl
        have s16 := hk.eq_ 6 16 (by kernel_rfl) rfl
        exact step_call rfl rfl (by simp only [List.map_toArray, List.map_cons, List.map_nil, Act.eval, s13, s16] <;> rfl) cf15 (HQ.out w) (fun e w1 h => by obtain ⟨rfl, hx⟩ := h; exact ⟨_, rfl, hx, rfl⟩)
      · intro a w1 hf
        have s10 := hf.eq_ 0 10 (by kernel_rfl) rfl
        have s11 := hf.eq_ 1 11 (by kernel_rfl) rfl
        have s12 := hf.eq_ 2 12 (by kernel_rfl) rfl
        have s13 := hf.eq_ 3 13 (by kernel_rfl) rfl
        have s14 := hf.eq_ 4 14 (by kernel_rfl) rfl
        have s15 := hf.eq_ 5 15 (by kernel_rfl) rfl
        have s16 := hf.eq_ 6 16 (by kernel_rfl) rfl
        have s17 := hf.eq_ 7 17 (by kernel_rfl) rfl
        have hx := hf.ext
        have e := hf.frame
        clear hf
        simp only [List.take_succ_cons, List.take_zero, regFrame, Act.put, List.setIfInBounds_toArray, List.set_cons_zero, List.set_cons_succ, s10, s11, s12, s13, s14, s15, s16, s17] at e
        clear s10 s11 s12 s13 s14 s15 s16 s17
        subst e
        simp only [List.drop_succ_cons, List.drop_zero]
        have hB := HBB.out.later hx
        have hf := hB.frozen k
        have hc := cell_at hx HCB.out
        have HS := hid (hB.set_ k (UInt8.ofNat (replB x left k)))
        rw [mixTo_set, replB_toNat] at HS
        have HQ2 := hid (show ∀ v, ∀ i, i < 4 → (w1.setCell ⟨G, k, none⟩ v).cell? ⟨G + 1, i, none⟩ = some (.int .i64 (ordN left i : Nat)) from fun v i hi => by rw [World.cell?_setCell_other _ _ _ _ (by intro h; simp only [Addr.mk.injEq] at h; omega)]; exact cell_at hx (HQQ.out i hi))
        have HR2 := hid (fun v => (HRR.out.later hx).setne ⟨G, k, none⟩ v (by simp; omega))
        have HX2 := hid (fun v => (HXX.out.trans hx).setCell (p := ⟨G, k, none⟩) (by have := HGE.out; simp; omega) v)
        rw [hrb.out]
        clear hx hB
        go_wp2_with fail
        go_roundw
        case rel => exact ⟨k + 1, by omega, by go_num, HS.out, HQ2.out _, HR2.out _, HX2.out _⟩
        case measure => simp [intOf]; omega
    · obtain rfl : k = 4 := by omega
      rw [mixTo_full, byB_repl] at hb
      have HBB := hid hb
      have HRR := hid hr
      have HL := hid (show (byB (replW x left)).length = 4 by simp [byB])
      have HXX := hid (Below.setRow_ hx (show w.heap.size ≤ G + 1 + 1 by have := HGE.out; omega) (cellsOf (byB (replW x left))).toArray)
      have HFI := hid (hr.put (byB (replW x left)))
      obtain ⟨Y, hY⟩ : ∃ Y, byB (replW x left) = Y := ⟨_, rfl⟩
      have HY := hid hY
      rw [hY] at HBB HXX HFI HL
      clear hb hr hx hY hq4
      go_wp2_with (first
        | (refine wpList_load_row rfl 68 (.tmp 2) rfl G rfl 68 _ (0, 0) _ HBB.out Tryd.underlying68 rfl (in68 _ HL.out) ?_)
        | (refine wpList_store_row rfl 68 (.tmp 4) (.tmp 19) rfl (G + 1 + 1) (cellsOf Y).toArray rfl rfl 68 _ HRR.out (in68 _ HL.out) (by simp [cellsOf, HL.out]) (cells_all Y) ?_))
      (try simp only [Exit.jump])
      exact ret_cell rfl rfl (G + 1 + 1) 68 _ (0, 0) rfl HFI.out Tryd.underlying68 (in68 _ HL.out) ⟨by rw [HY.out], HXX.out⟩
end Go.Proofs.YtbdncalllfpodaaDoor
