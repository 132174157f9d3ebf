/- Walks over Q of the reference; own lemmas of the verifier, no statement is proved here. -/
import Derived.Test.YtbdncalllfpodaaDoorX4
namespace Go.Proofs.YtbdncalllfpodaaDoor
open Go.RowKit
/-- A sign's number. -/
def dig (c : Nat) : Nat := if 65 ≤ c then c - 65 + 10 else c - 48
def isSign (c : Nat) : Bool := (decide (48 ≤ c) && decide (c ≤ 57)) || (decide (65 ≤ c) && decide (c ≤ 70))
def goodS (d : ByteArray) (q i : Nat) : Bool := decide (d.size = 16) && (List.range 16).all fun p => isSign (d.data.getD p 0).toNat && decide (dig (d.data.getD p 0).toNat = nibQ q i p)
set_option maxHeartbeats 400000 in
theorem digit_any (c : Nat) (w : World) (hc : isSign c = true) : Calls Tryd.prog 46 #[.int .u8 c] w fun e w' => e = .returned (.int .i64 (dig c : Nat)) ∧ w = w' := by
  unfold isSign at hc
  simp only [Bool.or_eq_true, Bool.and_eq_true, decide_eq_true_eq] at hc
  by_cases h : 65 ≤ c
  · have hd : dig c = c - 65 + 10 := by unfold dig; rw [if_pos h]
    have hc2 : c ≤ 70 := by omega
    rw [hd]
    clear hd hc
    go_enter Tryd.func46, Tryd.ntmps46
    go_wp2
    go_ret
    exact ⟨ret_int (by omega), rfl⟩
  · have hd : dig c = c - 48 := by unfold dig; rw [if_neg h]
    have hc2 : 48 ≤ c := by omega
    rw [hd]
    clear hd hc
    go_enter Tryd.func46, Tryd.ntmps46
    go_wp2
    go_ret
    exact ⟨ret_int (by omega), rfl⟩
theorem good_at {d : ByteArray} {q i p : Nat} (h : goodS d q i = true) (hp : p < 16) : ∃ hs : p < d.size, isSign (d[p]'hs).toNat = true ∧ dig (d[p]'hs).toNat = nibQ q i p := by
  unfold goodS at h
  simp only [Bool.and_eq_true, decide_eq_true_eq] at h
  obtain ⟨h1, h2⟩ := h
  have hs : p < d.size := by omega
  have h3 := List.all_eq_true.1 h2 p (List.mem_range.2 hp)
  simp only [Bool.and_eq_true, decide_eq_true_eq] at h3
  have e : d.data.getD p 0 = d[p]'hs := by
    rw [Array.getD_eq_getD_getElem?, Array.getElem?_eq_getElem (show p < d.data.size from hs)]; rfl
  rw [e] at h3
  exact ⟨hs, h3⟩
set_option maxHeartbeats 400000 in
theorem at_any (d : ByteArray) (q i p : Nat) (w : World) (h : goodS d q i = true) (hp : p < 16) :
    Calls Tryd.prog 32 #[.string d, .int .i64 p] w fun e w' => e = .returned (.int .i64 (nibQ q i p : Nat)) ∧ w = w' := by
  obtain ⟨hs, h1, h2⟩ := good_at h hp
  have HG := hid h2
  clear h2 h
  go_enter Tryd.func32, Tryd.ntmps32
  go_wp2_with (go_at_call 46; refine (digit_any _ _ h1).mono ?_; rintro e w' ⟨rfl, rfl⟩)
  go_ret
  exact ⟨ret_int (by rw [HG.out]), rfl⟩
/-- Four strings are handed back. -/
structure Four (q b : Nat) (w : World) : Prop where
  at_ : ∀ i, i < 4 → ∃ d, w.cell? ⟨b, i, none⟩ = some (.string d) ∧ goodS d q i = true
theorem Four.later {q b : Nat} {w w' : World} (h : Four q b w) (hx : Ext w w') : Four q b w' := ⟨fun i hi => let ⟨d, h1, h2⟩ := h.at_ i hi; ⟨d, cell_at hx h1, h2⟩⟩
def FourRet (q : Nat) (w : World) (e : Ending) (w' : World) : Prop := ∃ b, e = .returned (.slice (some ⟨b, 0, none⟩) 4 4) ∧ Four q b w' ∧ Ext w w'
set_option maxRecDepth 100000 in
set_option maxHeartbeats 4000000 in
theorem rrows_any (q : Nat) (w : World) (hq : q < 2) : Calls Tryd.prog 31 #[.int .i64 q] w (FourRet q w) := by
  rcases (show q = 0 ∨ q = 1 by omega) with rfl | rfl
  all_goals
    go_enter Tryd.func31, Tryd.ntmps31
    go_wp2
    go_ret
    refine ⟨_, rfl, ⟨fun i hi => ?_⟩, Ext.alloc _ _⟩
    rcases (show i = 0 ∨ i = 1 ∨ i = 2 ∨ i = 3 by omega) with rfl | rfl | rfl | rfl
    all_goals exact ⟨_, by rw [cell_of_row _ _ _ _ _ _ (heap_alloc_new _ _)]; rfl, by decide +kernel⟩
theorem rq_f : ∀ a : Nat, a < 16 → ∀ c : Nat, c < 16 → bits .xor .i64 (bits .xor .i64 (a : Int) (bits .or .i64 ((c : Int) / 2) (bits .and .i64 ((c : Int) * 8) 8))) (8 * (a : Int) % 16) = (fQ a c : Nat) := by
  decide +kernel
set_option maxRecDepth 100000 in
set_option maxHeartbeats 2000000 in
theorem rq_any (q x : Nat) (w : World) (hq : q < 2) (hx : x < 256) :
    Calls Tryd.prog 15 #[.int .i64 q, .int .u8 x] w fun e w' => e = .returned (.int .u8 (qF q x : Nat)) ∧ Ext w w' := by
  go_enter Tryd.func15, Tryd.ntmps15
  go_wp2_with (go_at_call 31; refine (rrows_any q _ hq).mono ?_; rintro e w1 ⟨b, rfl, h4, hx1⟩; have HF := hid h4; have HX1 := hid hx1; clear h4 hx1)
  go_loopw [6, 7, 8] (fun a c i wr => ∃ (k A C : Nat), k ≤ 2 ∧ i = .int .i64 k ∧ a = .int .i64 A ∧ c = .int .i64 C ∧ A = (qAC q x k).1 ∧ C = (qAC q x k).2 ∧ ∃ n, wr = w1.drewN n) (fun _ _ i _ => 2 - (intOf i).toNat)
  case atStart => exact ⟨0, x / 16, x % 16, by omega, rfl, by go_num, by go_num, rfl, rfl, 0, rfl⟩
  case round =>
    obtain ⟨k, A, C, hk, rfl, rfl, rfl, hA, hC, n, hw⟩ := hrel
    have hl := qAC_lt (q := q) hx k
    rw [← hA, ← hC] at hl
    obtain ⟨hA16, hC16⟩ := hl
    have HW := hid hw
    by_cases hlt : k < 2
    · obtain ⟨d1, c1, g1⟩ := HF.out.at_ (2 * k) (by omega)
      obtain ⟨d2, c2, g2⟩ := HF.out.at_ (2 * k + 1) (by omega)
      have k1 : wr.cell? ⟨b, 2 * k, none⟩ = some (.string d1) := by rw [hw]; exact c1
      have k2 : wr.cell? ⟨b, 2 * k + 1, none⟩ = some (.string d2) := by rw [hw]; exact c2
      have l1 := eQ_lt hA16 hC16
      have l2 := fQ_lt hA16 hC16
      have HST := hid (show qAC q x (k + 1) = (nibQ q (2 * k) (eQ A C), nibQ q (2 * k + 1) (fQ A C)) by rw [hA, hC]; rfl)
      clear hA hC hw c1 c2
      have e1 : bits .xor .i64 (A : Int) (C : Int) = (eQ A C : Nat) := i64_xor_nat _ _ (by omega) (by omega)
      have e2 := rq_f A hA16 C hC16
      obtain ⟨E, hE⟩ : ∃ E, eQ A C = E := ⟨_, rfl⟩
      obtain ⟨F, hF⟩ : ∃ F, fQ A C = F := ⟨_, rfl⟩
      rw [hE] at e1 l1 HST
      rw [hF] at e2 l2 HST
      have HE2 := hid hE
      have HF2 := hid hF
      clear hE hF
      go_wp2_with fail
      go_quiet (exact quietSame (at_any _ _ _ _ _ (by assumption) (by assumption)))
      go_wp2_with fail
      go_roundw
      case rel => exact ⟨k + 1, _, _, by omega, by go_num, rfl, rfl, (by rw [HST.out]), (by rw [HST.out]), n + nq, by rw [HW.out]; exact drewN_add w1 n nq⟩
      case measure => simp [intOf]; omega
    · obtain rfl : k = 2 := by omega
      have hr : qF q x = C * 16 + A := by rw [hA, hC]; rfl
      have HR := hid hr
      have HX := hid (show Ext w wr by rw [hw]; exact HX1.out.drewN n)
      clear hA hC hw hr
      go_wp2_with fail
      go_ret
      exact ⟨ret_int (by rw [HR.out]; omega), HX.out⟩
end Go.Proofs.YtbdncalllfpodaaDoor
