/- Walks over Q and its helpers, and what the program's tables hold; own lemmas of the verifier, no statement is proved here. -/
import Derived.Test.YtbdncalllfpodaaDoorP2
namespace Go.Proofs.YtbdncalllfpodaaDoor
open Go.RowKit
theorem nat_mask4' (x : Nat) : x &&& 15 = x % 16 := Nat.and_two_pow_sub_one_eq_mod x 4
set_option maxHeartbeats 400000 in
theorem sign_any (R f : Nat) (w : World) (_hR : R < 18446744073709551616) (hf : f < 16) :
    Calls Tryd.prog 30 #[.int .u64 R, .int .u8 f] w fun e w' => e = .returned (.int .u8 (R / 2 ^ (60 - 4 * f) % 16 : Nat)) ∧ w = w' := by
  go_enter Tryd.func30, Tryd.ntmps30
  go_wp2
  go_ret
  refine ⟨ret_int ?_, rfl⟩
  have e : (R : Int) / 2 ^ (60 - 4 * f) = ((R / 2 ^ (60 - 4 * f) : Nat) : Int) := by rw [cast_div]
  rw [e]
  omega
/-- The program's tables. -/
structure GT (w : World) : Prop where
  rows : ∀ q, q < 2 → ∀ i, i < 4 → w.cell? ⟨0, q * 4 + i, none⟩ = some (.int .u64 (rowQ q i : Nat))
  shrs : ∀ j, j < 32 → w.cell? ⟨1, j, none⟩ = some (.int .u8 (shrR (j / 8) (j % 8) : Nat))
  ords : ∀ l, l < 5 → ∀ i, i < 4 → w.cell? ⟨2, l * 4 + i, none⟩ = some (.int .i64 (ordN l i : Nat))
  mixs : ∀ j, j < 16 → w.cell? ⟨3, j, none⟩ = some (.int .u8 (mixR (j / 4) (j % 4) : Nat))
theorem cell_at {w w' : World} {p : Addr} {v : Value} (hx : Ext w w') (h : w.cell? p = some v) : w'.cell? p = some v := (Below.cell hx (World.block_lt_of_cell? w _ h)).trans h
theorem GT.later {w w' : World} (h : GT w) (hx : Ext w w') : GT w' :=
  ⟨fun q hq i hi => cell_at hx (h.rows q hq i hi), fun j hj => cell_at hx (h.shrs j hj), fun l hl i hi => cell_at hx (h.ords l hl i hi), fun j hj => cell_at hx (h.mixs j hj)⟩
theorem Ext.drewN {w w' : World} (h : Ext w w') (n : Nat) : Ext w (w'.drewN n) := ⟨h.os, h.tape, h.output, h.size, h.block⟩
theorem quietSame {P : Program} {f : FuncId} {args : Array Value} {w : World} {n : Nat} {v : Value}
    (h : Calls P f args (w.drewN n) fun e w' => e = .returned v ∧ w.drewN n = w') : Calls P f args (w.drewN n) fun e w'' => e = .returned v ∧ ∃ m, w'' = w.drewN m :=
  h.mono fun _ _ ⟨he, hm⟩ => ⟨he, n, hm.symm⟩
theorem drewN_add (w : World) (a b : Nat) : (w.drewN a).drewN b = w.drewN (a + b) := by
  unfold World.drewN; simp [Nat.add_assoc]
theorem q_e : ∀ a : Nat, a < 16 → ∀ c : Nat, c < 16 → bits .xor .u8 (a : Int) (c : Int) = (eQ a c : Nat) := by
  intro a ha c hc
  rw [u8_xor_nat _ _ (by omega) (by omega)]; rfl
theorem q_f : ∀ a : Nat, a < 16 → ∀ c : Nat, c < 16 → bits .xor .u8 (bits .xor .u8 (a : Int) (bits .and .u8 (bits .or .u8 ((c : Int) / 2) ((c : Int) * 8)) 15)) ((a : Int) * 8 % 16) = (fQ a c : Nat) := by
  decide +kernel
set_option maxRecDepth 100000 in
set_option maxHeartbeats 2000000 in
theorem q0_any (x : Nat) (w : World) (hx : x < 256) (hG : GT w) :
    Calls Tryd.prog 14 #[.int .i64 0, .int .u8 x] w fun e w' => e = .returned (.int .u8 (qF 0 x : Nat)) ∧ ∃ n, w' = w.drewN n := by
  have HG := hid hG
  clear hG
  go_enter Tryd.func14, Tryd.ntmps14
  go_wp2_with fail
  go_loopw [5, 6, 7] (fun a c i wr => ∃ (k A C : Nat), k ≤ 2 ∧ i = .int .i64 (2 * k : Nat) ∧ a = .int .u8 A ∧ c = .int .u8 C ∧ A = (qAC 0 x k).1 ∧ C = (qAC 0 x k).2 ∧ ∃ n, wr = w.drewN n) (fun _ _ i _ => 4 - (intOf i).toNat)
  case atStart => exact ⟨0, x / 16, x % 16, by omega, rfl, by simp, by simp, rfl, rfl, 0, rfl⟩
  case round =>
    obtain ⟨k, A, C, hk, rfl, rfl, rfl, hA, hC, n, hw⟩ := hrel
    have hl := qAC_lt (q := 0) hx k
    rw [← hA, ← hC] at hl
    obtain ⟨hA16, hC16⟩ := hl
    have HW := hid hw
    have HG2 := hid (show GT wr by rw [hw]; exact HG.out.later ((Ext.refl w).drewN n))
    rcases (show k = 0 ∨ k = 1 ∨ k = 2 by omega) with h | h | h
    · subst h
      have h1 : wr.cell? ⟨0, 0 * 4 + 0, none⟩ = _ := HG2.out.rows 0 (by omega) 0 (by omega)
      have h2 : wr.cell? ⟨0, 0 * 4 + 1, none⟩ = _ := HG2.out.rows 0 (by omega) 1 (by omega)
      have e1 := q_e A hA16 C hC16
      have e2 := q_f A hA16 C hC16
      have l1 := eQ_lt hA16 hC16
      have l2 := fQ_lt hA16 hC16
      have R1 := rowQ_lt 0 (by omega) 0 (by omega)
      have R2 := rowQ_lt 0 (by omega) 1 (by omega)
      have HST := hid (show qAC 0 x 1 = (rowQ 0 0 / 2 ^ (60 - 4 * eQ A C) % 16, rowQ 0 1 / 2 ^ (60 - 4 * fQ A C) % 16) by rw [hA, hC]; rfl)
      clear hA hC hw
      generalize rowQ 0 0 = r1 at *
      generalize rowQ 0 1 = r2 at *
      generalize eQ A C = E at *
      generalize fQ A C = F at *
      go_wp2_with fail
      go_quiet (exact quietSame (sign_any _ _ _ (by assumption) (by assumption)))
      go_wp2_with fail
      go_roundw
      case rel => exact ⟨1, _, _, by omega, by go_num, by go_num, by go_num, (by rw [HST.out]), (by rw [HST.out]), n + nq, by rw [HW.out]; exact drewN_add w n nq⟩
      case measure => simp [intOf]
    · subst h
      have h1 : wr.cell? ⟨0, 0 * 4 + 2, none⟩ = _ := HG2.out.rows 0 (by omega) 2 (by omega)
      have h2 : wr.cell? ⟨0, 0 * 4 + 3, none⟩ = _ := HG2.out.rows 0 (by omega) 3 (by omega)
      have e1 := q_e A hA16 C hC16
      have e2 := q_f A hA16 C hC16
      have l1 := eQ_lt hA16 hC16
      have l2 := fQ_lt hA16 hC16
      have R1 := rowQ_lt 0 (by omega) 2 (by omega)
      have R2 := rowQ_lt 0 (by omega) 3 (by omega)
      have HST := hid (show qAC 0 x 2 = (rowQ 0 2 / 2 ^ (60 - 4 * eQ A C) % 16, rowQ 0 3 / 2 ^ (60 - 4 * fQ A C) % 16) by rw [hA, hC]; rfl)
      clear hA hC hw
      generalize rowQ 0 2 = r1 at *
      generalize rowQ 0 3 = r2 at *
      generalize eQ A C = E at *
      generalize fQ A C = F at *
      go_wp2_with fail
      go_quiet (exact quietSame (sign_any _ _ _ (by assumption) (by assumption)))
      go_wp2_with fail
      go_roundw
      case rel => exact ⟨2, _, _, by omega, by go_num, by go_num, by go_num, (by rw [HST.out]), (by rw [HST.out]), n + nq, by rw [HW.out]; exact drewN_add w n nq⟩
      case measure => simp [intOf]
    · subst h
      have e1 : bits .or .u8 ((C : Int) * 16) (A : Int) = (qF 0 x : Nat) := by
        have : qF 0 x = C * 16 + A := by rw [hA, hC]; rfl
        rw [this, show (C : Int) * 16 = ((C * 16 : Nat) : Int) by omega, u8_or_nat _ _ (by omega) (by omega)]
        have h3 := Nat.two_pow_add_eq_or_of_lt (i := 4) (b := A) hA16 C
        rw [Nat.mul_comm C 16, show (16 : Nat) = 2 ^ 4 from rfl, ← h3]
      clear hA hC hw
      obtain ⟨r, hr⟩ : ∃ r, qF 0 x = r := ⟨_, rfl⟩
      rw [hr] at e1
      have HR := hid hr
      clear hr
      go_wp2_with fail
      go_ret
      exact ⟨ret_int (by rw [HR.out]), n, HW.out⟩
set_option maxRecDepth 100000 in
set_option maxHeartbeats 2000000 in
theorem q1_any (x : Nat) (w : World) (hx : x < 256) (hG : GT w) :
    Calls Tryd.prog 14 #[.int .i64 1, .int .u8 x] w fun e w' => e = .returned (.int .u8 (qF 1 x : Nat)) ∧ ∃ n, w' = w.drewN n := by
  have HG := hid hG
  clear hG
  go_enter Tryd.func14, Tryd.ntmps14
  go_wp2_with fail
  go_loopw [5, 6, 7] (fun a c i wr => ∃ (k A C : Nat), k ≤ 2 ∧ i = .int .i64 (2 * k : Nat) ∧ a = .int .u8 A ∧ c = .int .u8 C ∧ A = (qAC 1 x k).1 ∧ C = (qAC 1 x k).2 ∧ ∃ n, wr = w.drewN n) (fun _ _ i _ => 4 - (intOf i).toNat)
  case atStart => exact ⟨0, x / 16, x % 16, by omega, rfl, by simp, by simp, rfl, rfl, 0, rfl⟩
  case round =>
    obtain ⟨k, A, C, hk, rfl, rfl, rfl, hA, hC, n, hw⟩ := hrel
    have hl := qAC_lt (q := 1) hx k
    rw [← hA, ← hC] at hl
    obtain ⟨hA16, hC16⟩ := hl
    have HW := hid hw
    have HG2 := hid (show GT wr by rw [hw]; exact HG.out.later ((Ext.refl w).drewN n))
    rcases (show k = 0 ∨ k = 1 ∨ k = 2 by omega) with h | h | h
    · subst h
      have h1 : wr.cell? ⟨0, 1 * 4 + 0, none⟩ = _ := HG2.out.rows 1 (by omega) 0 (by omega)
      have h2 : wr.cell? ⟨0, 1 * 4 + 1, none⟩ = _ := HG2.out.rows 1 (by omega) 1 (by omega)
      have e1 := q_e A hA16 C hC16
      have e2 := q_f A hA16 C hC16
      have l1 := eQ_lt hA16 hC16
      have l2 := fQ_lt hA16 hC16
      have R1 := rowQ_lt 1 (by omega) 0 (by omega)
      have R2 := rowQ_lt 1 (by omega) 1 (by omega)
      have HST := hid (show qAC 1 x 1 = (rowQ 1 0 / 2 ^ (60 - 4 * eQ A C) % 16, rowQ 1 1 / 2 ^ (60 - 4 * fQ A C) % 16) by rw [hA, hC]; rfl)
      clear hA hC hw
      generalize rowQ 1 0 = r1 at *
      generalize rowQ 1 1 = r2 at *
      generalize eQ A C = E at *
      generalize fQ A C = F at *
      go_wp2_with fail
      go_quiet (exact quietSame (sign_any _ _ _ (by assumption) (by assumption)))
      go_wp2_with fail
      go_roundw
      case rel => exact ⟨1, _, _, by omega, by go_num, by go_num, by go_num, (by rw [HST.out]), (by rw [HST.out]), n + nq, by rw [HW.out]; exact drewN_add w n nq⟩
      case measure => simp [intOf]
    · subst h
      have h1 : wr.cell? ⟨0, 1 * 4 + 2, none⟩ = _ := HG2.out.rows 1 (by omega) 2 (by omega)
      have h2 : wr.cell? ⟨0, 1 * 4 + 3, none⟩ = _ := HG2.out.rows 1 (by omega) 3 (by omega)
      have e1 := q_e A hA16 C hC16
      have e2 := q_f A hA16 C hC16
      have l1 := eQ_lt hA16 hC16
      have l2 := fQ_lt hA16 hC16
      have R1 := rowQ_lt 1 (by omega) 2 (by omega)
      have R2 := rowQ_lt 1 (by omega) 3 (by omega)
      have HST := hid (show qAC 1 x 2 = (rowQ 1 2 / 2 ^ (60 - 4 * eQ A C) % 16, rowQ 1 3 / 2 ^ (60 - 4 * fQ A C) % 16) by rw [hA, hC]; rfl)
      clear hA hC hw
      generalize rowQ 1 2 = r1 at *
      generalize rowQ 1 3 = r2 at *
      generalize eQ A C = E at *
      generalize fQ A C = F at *
      go_wp2_with fail
      go_quiet (exact quietSame (sign_any _ _ _ (by assumption) (by assumption)))
      go_wp2_with fail
      go_roundw
      case rel => exact ⟨2, _, _, by omega, by go_num, by go_num, by go_num, (by rw [HST.out]), (by rw [HST.out]), n + nq, by rw [HW.out]; exact drewN_add w n nq⟩
      case measure => simp [intOf]
    · subst h
      have e1 : bits .or .u8 ((C : Int) * 16) (A : Int) = (qF 1 x : Nat) := by
        have : qF 1 x = C * 16 + A := by rw [hA, hC]; rfl
        rw [this, show (C : Int) * 16 = ((C * 16 : Nat) : Int) by omega, u8_or_nat _ _ (by omega) (by omega)]
        have h3 := Nat.two_pow_add_eq_or_of_lt (i := 4) (b := A) hA16 C
        rw [Nat.mul_comm C 16, show (16 : Nat) = 2 ^ 4 from rfl, ← h3]
      clear hA hC hw
      obtain ⟨r, hr⟩ : ∃ r, qF 1 x = r := ⟨_, rfl⟩
      rw [hr] at e1
      have HR := hid hr
      clear hr
      go_wp2_with fail
      go_ret
      exact ⟨ret_int (by rw [HR.out]), n, HW.out⟩
theorem q_any (q x : Nat) (w : World) (hq : q < 2) (hx : x < 256) (hG : GT w) :
    Calls Tryd.prog 14 #[.int .i64 q, .int .u8 x] w fun e w' => e = .returned (.int .u8 (qF q x : Nat)) ∧ ∃ n, w' = w.drewN n := by
  rcases (show q = 0 ∨ q = 1 by omega) with rfl | rfl
  · exact q0_any x w hx hG
  · exact q1_any x w hx hG
end Go.Proofs.YtbdncalllfpodaaDoor
