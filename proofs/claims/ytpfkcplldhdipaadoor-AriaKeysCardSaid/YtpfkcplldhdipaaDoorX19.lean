/- Walks over of and mix of the reference; own lemmas of the verifier, no statement is proved here. -/
import Derived.Test.YtpfkcplldhdipaaDoorX18
namespace Go.Proofs.YtpfkcplldhdipaaDoor
open Go.RowKit
/-- A row of whole numbers. -/
def NumR (w : World) (v : Value) (i : Nat) : Prop := ∃ b, v = .slice (some ⟨b, 0, none⟩) 7 7 ∧ b < w.heap.size ∧ ∀ k, k < 7 → w.cell? ⟨b, k, none⟩ = some (.int .i64 (sevN i k : Nat))
theorem numR_new (w : World) (i : Nat) (cs : List Value) (hl : ∀ k, k < 7 → cs[k]? = some (.int .i64 (sevN i k : Nat))) : NumR (w.alloc (.cells cs.toArray 3)) (.slice (some ⟨w.heap.size, 0, none⟩) 7 7) i :=
  ⟨w.heap.size, rfl, by simp, fun k hk => by rw [cell_of_row _ _ _ _ _ _ (heap_alloc_new w _), List.getElem?_toArray]; exact hl k hk⟩
theorem of_0 (w : World) : Calls Tryd.prog 43 #[.int .i64 0] w fun e w' => ∃ v, e = .returned v ∧ NumR w' v 0 ∧ Ext w w' := by
  have hn := numR_new w 0 [.int .i64 3, .int .i64 4, .int .i64 6, .int .i64 8, .int .i64 9, .int .i64 13, .int .i64 14] (fun k hk => match k, hk with
    | 0, _ => rfl
    | 1, _ => rfl
    | 2, _ => rfl
    | 3, _ => rfl
    | 4, _ => rfl
    | 5, _ => rfl
    | 6, _ => rfl)
  have HN := hid hn
  clear hn
  go_enter Tryd.func43, Tryd.ntmps43
  go_wp2
  go_ret
  exact ⟨_, rfl, HN.out, Ext.alloc _ _⟩
theorem of_1 (w : World) : Calls Tryd.prog 43 #[.int .i64 1] w fun e w' => ∃ v, e = .returned v ∧ NumR w' v 1 ∧ Ext w w' := by
  have hn := numR_new w 1 [.int .i64 2, .int .i64 5, .int .i64 7, .int .i64 8, .int .i64 9, .int .i64 12, .int .i64 15] (fun k hk => match k, hk with
    | 0, _ => rfl
    | 1, _ => rfl
    | 2, _ => rfl
    | 3, _ => rfl
    | 4, _ => rfl
    | 5, _ => rfl
    | 6, _ => rfl)
  have HN := hid hn
  clear hn
  go_enter Tryd.func43, Tryd.ntmps43
  go_wp2
  go_ret
  exact ⟨_, rfl, HN.out, Ext.alloc _ _⟩
theorem of_2 (w : World) : Calls Tryd.prog 43 #[.int .i64 2] w fun e w' => ∃ v, e = .returned v ∧ NumR w' v 2 ∧ Ext w w' := by
  have hn := numR_new w 2 [.int .i64 1, .int .i64 4, .int .i64 6, .int .i64 10, .int .i64 11, .int .i64 12, .int .i64 15] (fun k hk => match k, hk with
    | 0, _ => rfl
    | 1, _ => rfl
    | 2, _ => rfl
    | 3, _ => rfl
    | 4, _ => rfl
    | 5, _ => rfl
    | 6, _ => rfl)
  have HN := hid hn
  clear hn
  go_enter Tryd.func43, Tryd.ntmps43
  go_wp2
  go_ret
  exact ⟨_, rfl, HN.out, Ext.alloc _ _⟩
theorem of_3 (w : World) : Calls Tryd.prog 43 #[.int .i64 3] w fun e w' => ∃ v, e = .returned v ∧ NumR w' v 3 ∧ Ext w w' := by
  have hn := numR_new w 3 [.int .i64 0, .int .i64 5, .int .i64 7, .int .i64 10, .int .i64 11, .int .i64 13, .int .i64 14] (fun k hk => match k, hk with
    | 0, _ => rfl
    | 1, _ => rfl
    | 2, _ => rfl
    | 3, _ => rfl
    | 4, _ => rfl
    | 5, _ => rfl
    | 6, _ => rfl)
  have HN := hid hn
  clear hn
  go_enter Tryd.func43, Tryd.ntmps43
  go_wp2
  go_ret
  exact ⟨_, rfl, HN.out, Ext.alloc _ _⟩
theorem of_4 (w : World) : Calls Tryd.prog 43 #[.int .i64 4] w fun e w' => ∃ v, e = .returned v ∧ NumR w' v 4 ∧ Ext w w' := by
  have hn := numR_new w 4 [.int .i64 0, .int .i64 2, .int .i64 5, .int .i64 8, .int .i64 11, .int .i64 14, .int .i64 15] (fun k hk => match k, hk with
    | 0, _ => rfl
    | 1, _ => rfl
    | 2, _ => rfl
    | 3, _ => rfl
    | 4, _ => rfl
    | 5, _ => rfl
    | 6, _ => rfl)
  have HN := hid hn
  clear hn
  go_enter Tryd.func43, Tryd.ntmps43
  go_wp2
  go_ret
  exact ⟨_, rfl, HN.out, Ext.alloc _ _⟩
theorem of_5 (w : World) : Calls Tryd.prog 43 #[.int .i64 5] w fun e w' => ∃ v, e = .returned v ∧ NumR w' v 5 ∧ Ext w w' := by
  have hn := numR_new w 5 [.int .i64 1, .int .i64 3, .int .i64 4, .int .i64 9, .int .i64 10, .int .i64 14, .int .i64 15] (fun k hk => match k, hk with
    | 0, _ => rfl
    | 1, _ => rfl
    | 2, _ => rfl
    | 3, _ => rfl
    | 4, _ => rfl
    | 5, _ => rfl
    | 6, _ => rfl)
  have HN := hid hn
  clear hn
  go_enter Tryd.func43, Tryd.ntmps43
  go_wp2
  go_ret
  exact ⟨_, rfl, HN.out, Ext.alloc _ _⟩
theorem of_6 (w : World) : Calls Tryd.prog 43 #[.int .i64 6] w fun e w' => ∃ v, e = .returned v ∧ NumR w' v 6 ∧ Ext w w' := by
  have hn := numR_new w 6 [.int .i64 0, .int .i64 2, .int .i64 7, .int .i64 9, .int .i64 10, .int .i64 12, .int .i64 13] (fun k hk => match k, hk with
    | 0, _ => rfl
    | 1, _ => rfl
    | 2, _ => rfl
    | 3, _ => rfl
    | 4, _ => rfl
    | 5, _ => rfl
    | 6, _ => rfl)
  have HN := hid hn
  clear hn
  go_enter Tryd.func43, Tryd.ntmps43
  go_wp2
  go_ret
  exact ⟨_, rfl, HN.out, Ext.alloc _ _⟩
theorem of_7 (w : World) : Calls Tryd.prog 43 #[.int .i64 7] w fun e w' => ∃ v, e = .returned v ∧ NumR w' v 7 ∧ Ext w w' := by
  have hn := numR_new w 7 [.int .i64 1, .int .i64 3, .int .i64 6, .int .i64 8, .int .i64 11, .int .i64 12, .int .i64 13] (fun k hk => match k, hk with
    | 0, _ => rfl
    | 1, _ => rfl
    | 2, _ => rfl
    | 3, _ => rfl
    | 4, _ => rfl
    | 5, _ => rfl
    | 6, _ => rfl)
  have HN := hid hn
  clear hn
  go_enter Tryd.func43, Tryd.ntmps43
  go_wp2
  go_ret
  exact ⟨_, rfl, HN.out, Ext.alloc _ _⟩
theorem of_8 (w : World) : Calls Tryd.prog 43 #[.int .i64 8] w fun e w' => ∃ v, e = .returned v ∧ NumR w' v 8 ∧ Ext w w' := by
  have hn := numR_new w 8 [.int .i64 0, .int .i64 1, .int .i64 4, .int .i64 7, .int .i64 10, .int .i64 13, .int .i64 15] (fun k hk => match k, hk with
    | 0, _ => rfl
    | 1, _ => rfl
    | 2, _ => rfl
    | 3, _ => rfl
    | 4, _ => rfl
    | 5, _ => rfl
    | 6, _ => rfl)
  have HN := hid hn
  clear hn
  go_enter Tryd.func43, Tryd.ntmps43
  go_wp2
  go_ret
  exact ⟨_, rfl, HN.out, Ext.alloc _ _⟩
theorem of_9 (w : World) : Calls Tryd.prog 43 #[.int .i64 9] w fun e w' => ∃ v, e = .returned v ∧ NumR w' v 9 ∧ Ext w w' := by
  have hn := numR_new w 9 [.int .i64 0, .int .i64 1, .int .i64 5, .int .i64 6, .int .i64 11, .int .i64 12, .int .i64 14] (fun k hk => match k, hk with
    | 0, _ => rfl
    | 1, _ => rfl
    | 2, _ => rfl
    | 3, _ => rfl
    | 4, _ => rfl
    | 5, _ => rfl
    | 6, _ => rfl)
  have HN := hid hn
  clear hn
  go_enter Tryd.func43, Tryd.ntmps43
  go_wp2
  go_ret
  exact ⟨_, rfl, HN.out, Ext.alloc _ _⟩
theorem of_10 (w : World) : Calls Tryd.prog 43 #[.int .i64 10] w fun e w' => ∃ v, e = .returned v ∧ NumR w' v 10 ∧ Ext w w' := by
  have hn := numR_new w 10 [.int .i64 2, .int .i64 3, .int .i64 5, .int .i64 6, .int .i64 8, .int .i64 13, .int .i64 15] (fun k hk => match k, hk with
    | 0, _ => rfl
    | 1, _ => rfl
    | 2, _ => rfl
    | 3, _ => rfl
    | 4, _ => rfl
    | 5, _ => rfl
    | 6, _ => rfl)
  have HN := hid hn
  clear hn
  go_enter Tryd.func43, Tryd.ntmps43
  go_wp2
  go_ret
  exact ⟨_, rfl, HN.out, Ext.alloc _ _⟩
theorem of_11 (w : World) : Calls Tryd.prog 43 #[.int .i64 11] w fun e w' => ∃ v, e = .returned v ∧ NumR w' v 11 ∧ Ext w w' := by
  have hn := numR_new w 11 [.int .i64 2, .int .i64 3, .int .i64 4, .int .i64 7, .int .i64 9, .int .i64 12, .int .i64 14] (fun k hk => match k, hk with
    | 0, _ => rfl
    | 1, _ => rfl
    | 2, _ => rfl
    | 3, _ => rfl
    | 4, _ => rfl
    | 5, _ => rfl
    | 6, _ => rfl)
  have HN := hid hn
  clear hn
  go_enter Tryd.func43, Tryd.ntmps43
  go_wp2
  go_ret
  exact ⟨_, rfl, HN.out, Ext.alloc _ _⟩
theorem of_12 (w : World) : Calls Tryd.prog 43 #[.int .i64 12] w fun e w' => ∃ v, e = .returned v ∧ NumR w' v 12 ∧ Ext w w' := by
  have hn := numR_new w 12 [.int .i64 1, .int .i64 2, .int .i64 6, .int .i64 7, .int .i64 9, .int .i64 11, .int .i64 12] (fun k hk => match k, hk with
    | 0, _ => rfl
    | 1, _ => rfl
    | 2, _ => rfl
    | 3, _ => rfl
    | 4, _ => rfl
    | 5, _ => rfl
    | 6, _ => rfl)
  have HN := hid hn
  clear hn
  go_enter Tryd.func43, Tryd.ntmps43
  go_wp2
  go_ret
  exact ⟨_, rfl, HN.out, Ext.alloc _ _⟩
theorem of_13 (w : World) : Calls Tryd.prog 43 #[.int .i64 13] w fun e w' => ∃ v, e = .returned v ∧ NumR w' v 13 ∧ Ext w w' := by
  have hn := numR_new w 13 [.int .i64 0, .int .i64 3, .int .i64 6, .int .i64 7, .int .i64 8, .int .i64 10, .int .i64 13] (fun k hk => match k, hk with
    | 0, _ => rfl
    | 1, _ => rfl
    | 2, _ => rfl
    | 3, _ => rfl
    | 4, _ => rfl
    | 5, _ => rfl
    | 6, _ => rfl)
  have HN := hid hn
  clear hn
  go_enter Tryd.func43, Tryd.ntmps43
  go_wp2
  go_ret
  exact ⟨_, rfl, HN.out, Ext.alloc _ _⟩
theorem of_14 (w : World) : Calls Tryd.prog 43 #[.int .i64 14] w fun e w' => ∃ v, e = .returned v ∧ NumR w' v 14 ∧ Ext w w' := by
  have hn := numR_new w 14 [.int .i64 0, .int .i64 3, .int .i64 4, .int .i64 5, .int .i64 9, .int .i64 11, .int .i64 14] (fun k hk => match k, hk with
    | 0, _ => rfl
    | 1, _ => rfl
    | 2, _ => rfl
    | 3, _ => rfl
    | 4, _ => rfl
    | 5, _ => rfl
    | 6, _ => rfl)
  have HN := hid hn
  clear hn
  go_enter Tryd.func43, Tryd.ntmps43
  go_wp2
  go_ret
  exact ⟨_, rfl, HN.out, Ext.alloc _ _⟩
theorem of_15 (w : World) : Calls Tryd.prog 43 #[.int .i64 15] w fun e w' => ∃ v, e = .returned v ∧ NumR w' v 15 ∧ Ext w w' := by
  have hn := numR_new w 15 [.int .i64 1, .int .i64 2, .int .i64 4, .int .i64 5, .int .i64 8, .int .i64 10, .int .i64 15] (fun k hk => match k, hk with
    | 0, _ => rfl
    | 1, _ => rfl
    | 2, _ => rfl
    | 3, _ => rfl
    | 4, _ => rfl
    | 5, _ => rfl
    | 6, _ => rfl)
  have HN := hid hn
  clear hn
  go_enter Tryd.func43, Tryd.ntmps43
  go_wp2
  go_ret
  exact ⟨_, rfl, HN.out, Ext.alloc _ _⟩
theorem of_any (i : Nat) (w : World) (hi : i < 16) : Calls Tryd.prog 43 #[.int .i64 i] w fun e w' => ∃ v, e = .returned v ∧ NumR w' v i ∧ Ext w w' := by
  match i, hi with
  | 0, _ => exact of_0 w
  | 1, _ => exact of_1 w
  | 2, _ => exact of_2 w
  | 3, _ => exact of_3 w
  | 4, _ => exact of_4 w
  | 5, _ => exact of_5 w
  | 6, _ => exact of_6 w
  | 7, _ => exact of_7 w
  | 8, _ => exact of_8 w
  | 9, _ => exact of_9 w
  | 10, _ => exact of_10 w
  | 11, _ => exact of_11 w
  | 12, _ => exact of_12 w
  | 13, _ => exact of_13 w
  | 14, _ => exact of_14 w
  | 15, _ => exact of_15 w
  | i + 16, h => exact absurd h (by omega)
set_option maxRecDepth 100000 in
set_option maxHeartbeats 4000000 in
theorem rmix_any (A : Option Addr) (c : Nat) (bs : List UInt8) (w : World) (h : Rd w w.heap.size A 16 bs) : Calls Tryd.prog 28 #[.slice A 16 c] w (RetB w (mixL bs)) := by
  have HR := hid h
  clear h
  go_enter Tryd.func28, Tryd.ntmps28
  go_wp2_with (at_make; refine wpL_make rfl (.const (.int .i64 16)) (.const (.int .i64 16)) 22 rfl Tryd.underlying22 Tryd.info5 .i64 _ 16 rfl rfl rfl (by omega) w.heap.size (Nat.le_refl _) ?_; intro w1 hown1 hb1 _)
  obtain ⟨G, hG⟩ : ∃ G, w.heap.size = G := ⟨_, rfl⟩
  have HG := hid hG
  have HO1 := hid (show Own w1 G (.slice (some ⟨G, 0, none⟩) 16 16) (mixS bs 0 0) by rw [mixS_zero, ← hG]; exact hown1)
  have HB1 := hid (show Ext w w1 from hb1)
  rw [hG]
  clear hown1 hb1 hG
  go_loopw [4] (fun v wr => ∃ i : Nat, i ≤ 16 ∧ v = .int .i64 i ∧ Own wr G (.slice (some ⟨G, 0, none⟩) 16 16) (mixS bs i 0) ∧ Ext w wr) (fun v _ => 16 - (intOf v).toNat)
  case atStart => exact ⟨0, by omega, rfl, HO1.out, HB1.out⟩
  case round =>
    clear HO1 HB1
    obtain ⟨i, hi, rfl, hO, hx⟩ := hrel
    by_cases hlt : i < 16
    · have HC := hid (of_any i wr hlt)
      have HO := hid hO
      have HX := hid hx
      clear hO hx
      go_wp2_with fail
      refine HC.out.mono ?_
      rintro e w3 ⟨v, rfl, ⟨b3, rfl, hb3, hn3⟩, hx3⟩
      have HN := hid (show ∀ k, k < 7 → w3.cell? ⟨b3, k, none⟩ = some (.int .i64 (sevN i k : Nat)) from hn3)
      have HX3 := hid (Ext.trans HX.out hx3)
      have HO3 := hid (HO.out.kept hx3)
      have hbG : b3 ≠ G := by
        rintro rfl
        have h1 := hn3 0 (by omega)
        have h2 := Own.celln HO3.out (mixS_length _ _ _) 0 (by omega)
        rw [h2] at h1
        cases h1
      have HBG := hid hbG
      clear HC HX HO hx3 hn3 hb3 hbG
      go_wp2_with fail
      go_loopw [6] (fun v wr => ∃ k : Nat, k ≤ 7 ∧ v = .int .i64 k ∧ Own wr G (.slice (some ⟨G, 0, none⟩) 16 16) (mixS bs i k) ∧ wr.heap[b3]? = w3.heap[b3]? ∧ Ext w wr) (fun v _ => 7 - (intOf v).toNat)
      case atStart => exact ⟨0, by omega, rfl, HO3.out, rfl, HX3.out⟩
      case round =>
        clear HO3 HX3
        obtain ⟨k, hk, rfl, hO, hh, hx⟩ := hrel
        by_cases hkt : k < 7
        · have hv := sevN_lt i hlt k hkt
          have hcn : wr.cell? ⟨b3, k, none⟩ = some (.int .i64 (sevN i k : Nat)) := by
            have := HN.out k hkt
            simpa [World.cell?, hh] using this
          obtain ⟨b1, o1, rfl, _, hcb⟩ := (HR.out.later hx).at_ (by omega)
          have hc1 := hcb (sevN i k) hv
          have hc2 := Own.celln hO (mixS_length _ _ _) i hlt
          have hf2 := Own.freen hO i
          have e2 : nb (mixS bs i k) i = (mixK bs i k).toNat := by unfold nb; rw [mixS_at bs i k hlt]
          have hset := Own.setn hO i (mixK bs i (k + 1))
          rw [mixS_set bs i k hlt] at hset
          have e3 : ((mixK bs i (k + 1)).toNat : Int) = bits .xor .u8 ((mixK bs i k).toNat : Int) (byteAt bs (sevN i k)) := by
            rw [show byteAt bs (sevN i k) = ((bs.getD (sevN i k) 0).toNat : Int) from rfl, u8_xor_val]; rfl
          rw [e3] at hset
          rw [e2] at hc2
          have hx2 := Below.setCell hx (p := ⟨G, i, none⟩) (by have := HG.out; simp; omega) (.int .u8 (bits .xor .u8 ((mixK bs i k).toNat : Int) (byteAt bs (sevN i k))))
          have hh2 : (wr.setCell ⟨G, i, none⟩ (.int .u8 (bits .xor .u8 ((mixK bs i k).toNat : Int) (byteAt bs (sevN i k))))).heap[b3]? = w3.heap[b3]? := (heap_setCell_other wr ⟨G, i, none⟩ b3 _ HBG.out).trans hh
          have r1 := byteAt_lo bs (sevN i k)
          have r2 := byteAt_hi bs (sevN i k)
          have r3 := (mixK bs i k).toNat_lt
          obtain ⟨M, hM⟩ : ∃ M : Nat, (mixK bs i k).toNat = M := ⟨_, rfl⟩
          obtain ⟨V, hV⟩ : ∃ V, sevN i k = V := ⟨_, rfl⟩
          rw [hM] at hc2 hset hx2 hh2 r3
          rw [hV] at hc1 hcn hset hx2 hh2 r1 r2 hv
          have hvi : (V : Int) < 16 := by omega
          have HQ := hid (And.intro hset (And.intro hh2 hx2))
          clear hO hh hx hset hh2 hx2 e2 e3 hM hV hcb
          go_wp2_with fail
          go_region
          go_wp2_with fail
          go_roundw
          case rel => exact ⟨k + 1, by omega, by go_num, HQ.out.1, HQ.out.2.1, HQ.out.2.2.drew⟩
          case measure => simp [intOf]; omega
        · obtain rfl : k = 7 := by omega
          rw [mixS_next] at hO
          have HQ := hid (And.intro hO hx)
          clear hO hh hx
          go_wp2_with fail
          go_roundw
          case rel => exact ⟨i + 1, by omega, by go_num, HQ.out⟩
          case measure => simp [intOf]; omega
    · obtain rfl : i = 16 := by omega
      rw [mixS_full] at hO
      have HQ := hid (And.intro hO hx)
      clear hO hx
      go_wp2_with fail
      go_ret
      exact ⟨.slice (some ⟨G, 0, none⟩) 16 16, rfl, by rw [HG.out]; exact HQ.out.1, HQ.out.2⟩
end Go.Proofs.YtpfkcplldhdipaaDoor
