/- Walks over G of the reference; own lemmas of the verifier, no statement is proved here. -/
import Derived.Test.YtgkfohgeelfceaaDoorX1
namespace Go.Proofs.YtgkfohgeelfceaaDoor
open Go.RowKit
/-- A sign's number. -/
def dig (c : Nat) : Nat := if 65 ≤ c then c - 65 + 10 else c - 48
def isSign (c : Nat) : Bool := (decide (48 ≤ c) && decide (c ≤ 57)) || (decide (65 ≤ c) && decide (c ≤ 70))
def goodS (d : ByteArray) (i : Nat) : Bool := decide (d.size = 16) && (List.range 16).all fun p => isSign (d.data.getD p 0).toNat && decide (dig (d.data.getD p 0).toNat = nib i p)
set_option maxHeartbeats 400000 in
theorem digit_any (c : Nat) (w : World) (hc : isSign c = true) : Calls Tryd.prog 58 #[.int .u8 c] w fun e w' => e = .returned (.int .i64 (dig c : Nat)) ∧ w = w' := by
  unfold isSign at hc
  simp only [Bool.or_eq_true, Bool.and_eq_true, decide_eq_true_eq] at hc
  by_cases h : 65 ≤ c
  · have hd : dig c = c - 65 + 10 := by unfold dig; rw [if_pos h]
    have hc2 : c ≤ 70 := by omega
    rw [hd]
    clear hd hc
    go_enter Tryd.func58, Tryd.ntmps58
    go_wp2
    go_ret
    exact ⟨ret_int (by omega), rfl⟩
  · have hd : dig c = c - 48 := by unfold dig; rw [if_neg h]
    have hc2 : 48 ≤ c := by omega
    rw [hd]
    clear hd hc
    go_enter Tryd.func58, Tryd.ntmps58
    go_wp2
    go_ret
    exact ⟨ret_int (by omega), rfl⟩
theorem good_at {d : ByteArray} {i p : Nat} (h : goodS d i = true) (hp : p < 16) : ∃ hs : p < d.size, isSign (d[p]'hs).toNat = true ∧ dig (d[p]'hs).toNat = nib i p := by
  unfold goodS at h
  simp only [Bool.and_eq_true, decide_eq_true_eq] at h
  obtain ⟨h1, h2⟩ := h
  have hs : p < d.size := by omega
  have h3 := List.all_eq_true.1 h2 p (List.mem_range.2 hp)
  simp only [Bool.and_eq_true, decide_eq_true_eq] at h3
  have e : d.data.getD p 0 = d[p]'hs := by
    rw [Array.getD_eq_getD_getElem?, Array.getElem?_eq_getElem (show p < d.data.size from hs)]; rfl
  rw [e] at h3
  exact ⟨hs, h3⟩
set_option maxHeartbeats 400000 in
theorem at_any (d : ByteArray) (i p : Nat) (w : World) (hp : p < 16) (h : goodS d i = true) :
    Calls Tryd.prog 43 #[.string d, .int .i64 p] w fun e w' => e = .returned (.int .i64 (nib i p : Nat)) ∧ w = w' := by
  obtain ⟨hs, h1, h2⟩ := good_at h hp
  have HG := hid h2
  clear h2 h
  go_enter Tryd.func43, Tryd.ntmps43
  go_wp2_with (go_at_call 58; refine (digit_any _ _ h1).mono ?_; rintro e w' ⟨rfl, rfl⟩)
  go_ret
  exact ⟨ret_int (by rw [HG.out]), rfl⟩
/-- A string is handed back. -/
def RowRet (i : Nat) (w : World) (e : Ending) (w' : World) : Prop := ∃ d, e = .returned (.string d) ∧ goodS d i = true ∧ Ext w w'
set_option maxRecDepth 100000 in
set_option maxHeartbeats 4000000 in
theorem row_any (i : Nat) (w : World) (hi : i < 8) : Calls Tryd.prog 44 #[.int .i64 i] w (RowRet i w) := by
  rcases (show i = 0 ∨ i = 1 ∨ i = 2 ∨ i = 3 ∨ i = 4 ∨ i = 5 ∨ i = 6 ∨ i = 7 by omega) with rfl | rfl | rfl | rfl | rfl | rfl | rfl | rfl
  all_goals
    go_enter Tryd.func44, Tryd.ntmps44
    go_wp2
    go_ret
    exact ⟨_, rfl, by decide +kernel, Ext.alloc _ _⟩
set_option maxRecDepth 100000 in
set_option maxHeartbeats 1000000 in
theorem rg_any (x k : UInt32) (w : World) :
    Calls Tryd.prog 22 #[.int .u32 (x.toNat : Nat), .int .u32 (k.toNat : Nat)] w fun e w' => e = .returned (.int .u32 ((gW x k).toNat : Nat)) ∧ Ext w w' := by
  have h1 := wlt x
  have h2 := wlt k
  have hs := w_add x k
  obtain ⟨S, hS⟩ : ∃ S, x + k = S := ⟨_, rfl⟩
  rw [hS] at hs
  have hS2 := wlt S
  have HS := hid hS
  clear hS
  go_enter Tryd.func22, Tryd.ntmps22
  go_wp2_with fail
  rw [hs]
  go_loopw [5, 6] (fun v i wr => ∃ j : Nat, j ≤ 8 ∧ i = .int .i64 j ∧ v = .int .u32 (gS S.toNat j : Nat) ∧ Ext w wr) (fun _ i _ => 8 - (intOf i).toNat)
  case atStart => exact ⟨0, Nat.zero_le _, rfl, rfl, Ext.refl _⟩
  case round =>
    obtain ⟨j, hj, rfl, rfl, hx⟩ := hrel
    have HX := hid hx
    clear hx
    by_cases hlt : j < 8
    · have hst : gS S.toNat (j + 1) = gS S.toNat j + nib j (S.toNat / 16 ^ j % 16) * 16 ^ j := rfl
      have ho := gS_lt S.toNat j
      have hn := gS_lt S.toNat (j + 1)
      have hd : bits .and .u32 ((S.toNat : Int) / 2 ^ (4 * j)) 15 = ((S.toNat / 16 ^ j % 16 : Nat) : Int) := by
        rw [← cast_div, Nat.pow_mul, show (15 : Int) = ((15 : Nat) : Int) from rfl, u32_and_nat _ _ (Nat.lt_of_le_of_lt (Nat.div_le_self _ _) hS2) (by omega), nat_mask4]
      obtain ⟨f, hf⟩ : ∃ f, S.toNat / 16 ^ j % 16 = f := ⟨_, rfl⟩
      have hf16 : f ≤ 15 := by omega
      rw [hf] at hd hst
      have hq16 := nib_lt j f
      obtain ⟨q, hqe⟩ : ∃ q, nib j f = q := ⟨_, rfl⟩
      rw [hqe] at hq16 hst
      have hor : bits .or .u32 ((gS S.toNat j : Nat) : Int) ((q : Int) * 2 ^ (4 * j) % 4294967296) = ((gS S.toNat (j + 1) : Nat) : Int) := by
        have e2 : 16 ^ (j + 1) ≤ 16 ^ 8 := Nat.pow_le_pow_right (by omega) (by omega)
        have e0 : q * 16 ^ j < 4294967296 := by omega
        have e1 : (q : Int) * 2 ^ (4 * j) % 4294967296 = ((16 ^ j * q : Nat) : Int) := by
          have : (q : Int) * 2 ^ (4 * j) = ((q * 16 ^ j : Nat) : Int) := by
            rw [Int.natCast_mul, Int.natCast_pow, Int.pow_mul]; rfl
          rw [this, Nat.mul_comm]
          rw [Nat.mul_comm] at e0
          omega
        have e3 : gS S.toNat j ||| 16 ^ j * q = gS S.toNat (j + 1) := by
          have h4 : (16 : Nat) ^ j = 2 ^ (4 * j) := by rw [Nat.pow_mul]
          rw [hst, Nat.mul_comm q, h4, Nat.or_comm, Nat.add_comm]
          rw [h4] at ho
          exact (Nat.two_pow_add_eq_or_of_lt ho q).symm
        rw [e1, u32_or_nat _ _ (by omega) (by rw [Nat.mul_comm]; exact e0), e3]
      have HO := hid hor
      have HQE := hid hqe
      clear hs hst hf hqe hn hor
      obtain ⟨g, hg⟩ : ∃ g, gS S.toNat j = g := ⟨_, rfl⟩
      obtain ⟨g1, hg1⟩ : ∃ g1, gS S.toNat (j + 1) = g1 := ⟨_, rfl⟩
      have HG1 := hid hg1
      rw [hg, hg1] at HO
      have e9 : (16 : Nat) ^ j ≤ 16 ^ 8 := Nat.pow_le_pow_right (by omega) (by omega)
      have hgl : g < 4294967296 := by rw [← hg]; omega
      rw [hg]
      clear hg hg1 ho e9
      go_wp2_with (go_at_call 44; refine (row_any j _ hlt).mono ?_; rintro e w' ⟨d, rfl, hgood, hxw⟩; have HGD := hid hgood; have HXW := hid hxw; clear hgood hxw)
      go_wp2_with (go_at_call 43; refine (at_any d j f _ (by omega) HGD.out).mono ?_; rintro e w' ⟨rfl, rfl⟩; rw [HQE.out])
      go_roundw
      case rel => exact ⟨j + 1, by omega, by go_num, by rw [HO.out, HG1.out], Ext.trans HX.out HXW.out⟩
      case measure => simp [intOf]; omega
    · obtain rfl : j = 8 := by omega
      rw [← gU_toNat]
      go_wp2_with (go_at_call 25; refine (rrol_w (gU S) 11 _).mono ?_; rintro e w' ⟨rfl, rfl⟩)
      go_ret
      exact ⟨ret_int (by rw [← HS.out]; rfl), HX.out⟩
end Go.Proofs.YtgkfohgeelfceaaDoor
