/- Walks over the law's own helpers; own lemmas of the verifier, no statement is proved here. -/
import Derived.Test.YtcmhaomnabdopaaDoorF2
namespace Go.Proofs.YtcmhaomnabdopaaDoor
open Go.RowKit
theorem tmod_neg (a n : Int) (hn : 0 < n) (h : a.tmod n < 0) : a.tmod n + n = a % n := by
  have h := @Int.tmod_eq_emod a n
  have h1 := Int.emod_nonneg a (Int.ne_of_gt hn)
  have h2 := Int.emod_lt_of_pos a hn
  split at h <;> omega
theorem tmod_pos (a n : Int) (hn : 0 < n) (h : ¬ a.tmod n < 0) : a.tmod n = a % n := by
  have h := @Int.tmod_eq_emod a n
  have h1 := Int.emod_nonneg a (Int.ne_of_gt hn)
  have h2 := Int.emod_lt_of_pos a hn
  split at h <;> omega
set_option maxHeartbeats 400000 in
theorem within3_any (a n : Int) (w : World) (h0 : 0 < n) (h1 : n ≤ 9223372036854775807) :
    Calls Tryd.prog 27 #[.int .i64 a, .int .i64 n] w fun e w' => e = .returned (.int .i64 (a % n)) ∧ w = w' := by
  have b1 := Int.tmod_lt_of_pos a h0
  by_cases hc : a.tmod n < 0
  · have hf := tmod_neg a n h0 hc
    have b2 := Int.emod_nonneg a (Int.ne_of_gt h0)
    have b3 : 0 ≤ a.tmod n + n := by omega
    have HF := hid hf; clear hf b2
    go_enter Tryd.func27, Tryd.ntmps27
    go_wp2
    go_ret
    exact ⟨ret_int HF.out, rfl⟩
  · have hf := tmod_pos a n h0 hc
    have HF := hid hf; clear hf
    go_enter Tryd.func27, Tryd.ntmps27
    go_wp2
    go_ret
    exact ⟨ret_int HF.out, rfl⟩
/-- The rest that the law takes. -/
def modF (a : Int) : Nat := [283, 361, 333, 285, 299].getD (a % 5).toNat 0
theorem modF_field (a : Int) : IsField (modF a) := by
  unfold modF
  obtain ⟨k, hk⟩ : ∃ k : Nat, (a % 5).toNat = k := ⟨_, rfl⟩
  have hk5 : k < 5 := by omega
  rw [hk]
  match k, hk5 with
  | 0, _ => exact isField_of (by decide) (by decide) field283
  | 1, _ => exact isField_of (by decide) (by decide) field361
  | 2, _ => exact isField_of (by decide) (by decide) field333
  | 3, _ => exact isField_of (by decide) (by decide) field285
  | 4, _ => exact isField_of (by decide) (by decide) field299
set_option maxHeartbeats 1000000 in
theorem mod_any (a : Int) (w : World) : Calls Tryd.prog 22 #[.int .i64 a] w fun e w' => e = .returned (.int .i64 (modF a : Nat)) ∧ Below w.heap.size w w' := by
  obtain ⟨k, hk⟩ : ∃ k : Nat, a % 5 = k := ⟨(a % 5).toNat, by omega⟩
  have hk5 : k < 5 := by omega
  have HF := hid (show modF a = [283, 361, 333, 285, 299].getD k 0 by unfold modF; rw [hk]; rfl)
  have HK := hid hk
  clear hk
  go_enter Tryd.func22, Tryd.ntmps22
  go_wp2_with fail
  refine (within3_any _ _ _ (by omega) (by omega)).mono ?_
  rintro e w' ⟨rfl, rfl⟩
  rw [HK.out]
  have hcell : (w.alloc (.cells #[.int .i64 283, .int .i64 361, .int .i64 333, .int .i64 285, .int .i64 299] 3)).cell? ⟨w.heap.size, k, none⟩ = some (.int .i64 (modF a : Nat)) := by
    rw [HF.out]
    match k, hk5 with
    | 0, _ | 1, _ | 2, _ | 3, _ | 4, _ => go_simp
  have HB := hid (Ext.alloc w (.cells #[.int .i64 283, .int .i64 361, .int .i64 333, .int .i64 285, .int .i64 299] 3))
  obtain ⟨G, hG⟩ : ∃ G : Nat, modF a = G := ⟨_, rfl⟩
  rw [hG] at hcell
  have HG := hid hG
  clear hG
  go_wp2_with fail
  go_ret
  exact ⟨ret_int (by rw [HG.out]), HB.out⟩
theorem rest283 : IsRest 283 := ⟨by decide, by decide⟩
/-- A byte that came in. -/
theorem byte_arg {a : Int} (h : (Lit.int .u8 a).wf = true) : ∃ n : Nat, a = n ∧ n < 256 := by
  simp only [Lit.wf, IntKind.min, IntKind.max, IntKind.bits, IntKind.signed] at h
  simp at h
  exact ⟨a.toNat, by omega, by omega⟩
theorem rest_arg (a : Int) : ∃ n : Nat, 256 + a % 256 = n ∧ IsRest n := ⟨(256 + a % 256).toNat, by omega, by constructor <;> omega⟩
end Go.Proofs.YtcmhaomnabdopaaDoor
