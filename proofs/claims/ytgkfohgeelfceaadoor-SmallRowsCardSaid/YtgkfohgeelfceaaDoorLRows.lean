/- The law on G's rows, walked; own text of the verifier. -/
import Derived.Test.YtgkfohgeelfceaaDoorR1
namespace Go.Proofs.YtgkfohgeelfceaaDoor
open Go.RowKit
theorem and15 (n : Int) (h : 0 ≤ n ∧ n < 4294967296) : bits .and .u32 n 15 = n % 16 := by
  obtain ⟨N, rfl⟩ := Int.eq_ofNat_of_zero_le h.1
  rw [show (15 : Int) = ((15 : Nat) : Int) from rfl, u32_and_nat N 15 (by omega) (by omega), show (15 : Nat) = 2 ^ 4 - 1 from rfl, Nat.and_two_pow_sub_one_eq_mod]
  omega
set_option maxRecDepth 100000 in
set_option maxHeartbeats 4000000 in
theorem rows_0 (x : UInt32) (a1 a2 : Int) (hat : a1 % 8 = 0) (w : World) (hG : GRows w) :
    Calls Tryd.prog 10 #[.int .u32 (x.toNat : Nat), .int .i64 a1, .int .i64 a2] w fun e w' => e = .returned (.bool true) ∧ Below w.heap.size w w' := by
  have HG := hid hG
  have HAT := hid hat
  obtain ⟨v, hv⟩ : ∃ v : Nat, a2 % 16 = (v : Int) := ⟨(a2 % 16).toNat, by omega⟩
  have hv16 : (v : Int) < 16 := by omega
  have hvn : v < 16 := by omega
  have HV := hid hv
  have hp : ((putU 0 v).toNat : Int) = (v : Int) := by rw [putU_nat 0 v (by omega) hvn]; omega
  have hm : ((maskU 0).toNat : Int) = 15 := by rw [maskU_nat 0 (by omega)]; rfl
  have hy : bits .or .u32 (bits .andNot .u32 (x.toNat : Int) 15) ((v : Int)) = ((yU x 0 v).toNat : Int) := by
    rw [← hp, ← hm, w_andn, w_or]; rfl
  have hn : bits .andNot .u32 (bits .xor .u32 ((gU x).toNat : Int) ((gU (yU x 0 v)).toNat : Int)) 15 = 0 := by
    rw [← hm, w_xor, w_andn, rest_same x 0 v (by omega) hvn]; rfl
  have hi := same_iff x 0 v (by omega) hvn
  obtain ⟨y, hye⟩ : ∃ y, yU x 0 v = y := ⟨_, rfl⟩
  rw [hye] at hy hn hi
  have hxm : bits .and .u32 ((x.toNat : Int)) 15 = (x.toNat : Int) % 16 := and15 _ (by have := wlt x; omega)
  have hs : (((gU x).toNat : Int) == ((gU y).toNat : Int)) = ((x.toNat : Int) % 16 == (v : Int)) := by
    by_cases h : gU x = gU y
    · have h2 : (x.toNat : Int) % 16 = (v : Int) := by have := hi.1 h; simp only [Nat.reducePow] at this; omega
      rw [h, h2]; simp
    · have h1 : ¬ ((gU x).toNat : Int) = ((gU y).toNat : Int) := fun e => h (UInt32.toNat_inj.1 (by omega))
      have h2 : ¬ (x.toNat : Int) % 16 = (v : Int) := fun e => h (hi.2 (by simp only [Nat.reducePow]; omega))
      rw [beq_false_of_ne h1, beq_false_of_ne h2]
  have HY := hid hy
  have HN := hid hn
  have HS := hid hs
  have HXM := hid hxm
  clear hG hat hv hy hn hi hp hm hye hs hvn hxm
  go_enter Tryd.func10, Tryd.ntmps10
  go_wp2_with fail
  refine (known_any _ HG.out).mono ?_
  rintro e w1 ⟨rfl, hx1⟩
  have HX1 := hid hx1
  have HG1 := hid (HG.out.later hx1)
  clear hx1
  go_wp2_with fail
  refine (within_any _ _ _ (by omega) (by omega)).mono ?_
  rintro e w2 ⟨rfl, rfl⟩
  rw [HAT.out]
  go_wp2_with fail
  refine (within_any _ _ _ (by omega) (by omega)).mono ?_
  rintro e w2 ⟨rfl, rfl⟩
  rw [HV.out]
  go_wp2_with fail
  refine (g_any x 0 _ HG1.out).mono ?_
  rintro e w2 ⟨rfl, rfl⟩
  go_wp2_with fail
  refine (rrol_w _ _ _).mono ?_
  rintro e w2 ⟨rfl, rfl⟩
  rw [gback]
  go_wp2_with fail
  rw [HY.out]
  refine (g_any y 0 _ HG1.out).mono ?_
  rintro e w2 ⟨rfl, rfl⟩
  go_wp2_with fail
  refine (rrol_w _ _ _).mono ?_
  rintro e w2 ⟨rfl, rfl⟩
  rw [gback]
  have hn := HN.out
  have hxm := HXM.out
  have hs := HS.out
  go_wp2_with fail
  go_ret
  exact ⟨by simp, HX1.out⟩
set_option maxRecDepth 100000 in
set_option maxHeartbeats 4000000 in
theorem rows_1 (x : UInt32) (a1 a2 : Int) (hat : a1 % 8 = 1) (w : World) (hG : GRows w) :
    Calls Tryd.prog 10 #[.int .u32 (x.toNat : Nat), .int .i64 a1, .int .i64 a2] w fun e w' => e = .returned (.bool true) ∧ Below w.heap.size w w' := by
  have HG := hid hG
  have HAT := hid hat
  obtain ⟨v, hv⟩ : ∃ v : Nat, a2 % 16 = (v : Int) := ⟨(a2 % 16).toNat, by omega⟩
  have hv16 : (v : Int) < 16 := by omega
  have hvn : v < 16 := by omega
  have HV := hid hv
  have hp : ((putU 1 v).toNat : Int) = (v : Int) * 16 := by rw [putU_nat 1 v (by omega) hvn]; omega
  have hm : ((maskU 1).toNat : Int) = 240 := by rw [maskU_nat 1 (by omega)]; rfl
  have hy : bits .or .u32 (bits .andNot .u32 (x.toNat : Int) 240) ((v : Int) * 16) = ((yU x 1 v).toNat : Int) := by
    rw [← hp, ← hm, w_andn, w_or]; rfl
  have hn : bits .andNot .u32 (bits .xor .u32 ((gU x).toNat : Int) ((gU (yU x 1 v)).toNat : Int)) 240 = 0 := by
    rw [← hm, w_xor, w_andn, rest_same x 1 v (by omega) hvn]; rfl
  have hi := same_iff x 1 v (by omega) hvn
  obtain ⟨y, hye⟩ : ∃ y, yU x 1 v = y := ⟨_, rfl⟩
  rw [hye] at hy hn hi
  have hxm : bits .and .u32 ((x.toNat : Int) / 16) 15 = (x.toNat : Int) / 16 % 16 := and15 _ (by have := wlt x; omega)
  have hs : (((gU x).toNat : Int) == ((gU y).toNat : Int)) = ((x.toNat : Int) / 16 % 16 == (v : Int)) := by
    by_cases h : gU x = gU y
    · have h2 : (x.toNat : Int) / 16 % 16 = (v : Int) := by have := hi.1 h; simp only [Nat.reducePow] at this; omega
      rw [h, h2]; simp
    · have h1 : ¬ ((gU x).toNat : Int) = ((gU y).toNat : Int) := fun e => h (UInt32.toNat_inj.1 (by omega))
      have h2 : ¬ (x.toNat : Int) / 16 % 16 = (v : Int) := fun e => h (hi.2 (by simp only [Nat.reducePow]; omega))
      rw [beq_false_of_ne h1, beq_false_of_ne h2]
  have hd : (v : Int) * 16 / 16 = (v : Int) := by omega
  have HY := hid hy
  have HN := hid hn
  have HS := hid hs
  have HXM := hid hxm
  clear hG hat hv hy hn hi hp hm hye hs hvn hxm
  go_enter Tryd.func10, Tryd.ntmps10
  go_wp2_with fail
  refine (known_any _ HG.out).mono ?_
  rintro e w1 ⟨rfl, hx1⟩
  have HX1 := hid hx1
  have HG1 := hid (HG.out.later hx1)
  clear hx1
  go_wp2_with fail
  refine (within_any _ _ _ (by omega) (by omega)).mono ?_
  rintro e w2 ⟨rfl, rfl⟩
  rw [HAT.out]
  go_wp2_with fail
  refine (within_any _ _ _ (by omega) (by omega)).mono ?_
  rintro e w2 ⟨rfl, rfl⟩
  rw [HV.out]
  go_wp2_with fail
  refine (g_any x 0 _ HG1.out).mono ?_
  rintro e w2 ⟨rfl, rfl⟩
  go_wp2_with fail
  refine (rrol_w _ _ _).mono ?_
  rintro e w2 ⟨rfl, rfl⟩
  rw [gback]
  go_wp2_with fail
  rw [HY.out]
  refine (g_any y 0 _ HG1.out).mono ?_
  rintro e w2 ⟨rfl, rfl⟩
  go_wp2_with fail
  refine (rrol_w _ _ _).mono ?_
  rintro e w2 ⟨rfl, rfl⟩
  rw [gback]
  have hn := HN.out
  have hxm := HXM.out
  have hs := HS.out
  go_wp2_with fail
  go_ret
  exact ⟨by simp, HX1.out⟩
set_option maxRecDepth 100000 in
set_option maxHeartbeats 4000000 in
theorem rows_2 (x : UInt32) (a1 a2 : Int) (hat : a1 % 8 = 2) (w : World) (hG : GRows w) :
    Calls Tryd.prog 10 #[.int .u32 (x.toNat : Nat), .int .i64 a1, .int .i64 a2] w fun e w' => e = .returned (.bool true) ∧ Below w.heap.size w w' := by
  have HG := hid hG
  have HAT := hid hat
  obtain ⟨v, hv⟩ : ∃ v : Nat, a2 % 16 = (v : Int) := ⟨(a2 % 16).toNat, by omega⟩
  have hv16 : (v : Int) < 16 := by omega
  have hvn : v < 16 := by omega
  have HV := hid hv
  have hp : ((putU 2 v).toNat : Int) = (v : Int) * 256 := by rw [putU_nat 2 v (by omega) hvn]; omega
  have hm : ((maskU 2).toNat : Int) = 3840 := by rw [maskU_nat 2 (by omega)]; rfl
  have hy : bits .or .u32 (bits .andNot .u32 (x.toNat : Int) 3840) ((v : Int) * 256) = ((yU x 2 v).toNat : Int) := by
    rw [← hp, ← hm, w_andn, w_or]; rfl
  have hn : bits .andNot .u32 (bits .xor .u32 ((gU x).toNat : Int) ((gU (yU x 2 v)).toNat : Int)) 3840 = 0 := by
    rw [← hm, w_xor, w_andn, rest_same x 2 v (by omega) hvn]; rfl
  have hi := same_iff x 2 v (by omega) hvn
  obtain ⟨y, hye⟩ : ∃ y, yU x 2 v = y := ⟨_, rfl⟩
  rw [hye] at hy hn hi
  have hxm : bits .and .u32 ((x.toNat : Int) / 256) 15 = (x.toNat : Int) / 256 % 16 := and15 _ (by have := wlt x; omega)
  have hs : (((gU x).toNat : Int) == ((gU y).toNat : Int)) = ((x.toNat : Int) / 256 % 16 == (v : Int)) := by
    by_cases h : gU x = gU y
    · have h2 : (x.toNat : Int) / 256 % 16 = (v : Int) := by have := hi.1 h; simp only [Nat.reducePow] at this; omega
      rw [h, h2]; simp
    · have h1 : ¬ ((gU x).toNat : Int) = ((gU y).toNat : Int) := fun e => h (UInt32.toNat_inj.1 (by omega))
      have h2 : ¬ (x.toNat : Int) / 256 % 16 = (v : Int) := fun e => h (hi.2 (by simp only [Nat.reducePow]; omega))
      rw [beq_false_of_ne h1, beq_false_of_ne h2]
  have hd : (v : Int) * 256 / 256 = (v : Int) := by omega
  have HY := hid hy
  have HN := hid hn
  have HS := hid hs
  have HXM := hid hxm
  clear hG hat hv hy hn hi hp hm hye hs hvn hxm
  go_enter Tryd.func10, Tryd.ntmps10
  go_wp2_with fail
  refine (known_any _ HG.out).mono ?_
  rintro e w1 ⟨rfl, hx1⟩
  have HX1 := hid hx1
  have HG1 := hid (HG.out.later hx1)
  clear hx1
  go_wp2_with fail
  refine (within_any _ _ _ (by omega) (by omega)).mono ?_
  rintro e w2 ⟨rfl, rfl⟩
  rw [HAT.out]
  go_wp2_with fail
  refine (within_any _ _ _ (by omega) (by omega)).mono ?_
  rintro e w2 ⟨rfl, rfl⟩
  rw [HV.out]
  go_wp2_with fail
  refine (g_any x 0 _ HG1.out).mono ?_
  rintro e w2 ⟨rfl, rfl⟩
  go_wp2_with fail
  refine (rrol_w _ _ _).mono ?_
  rintro e w2 ⟨rfl, rfl⟩
  rw [gback]
  go_wp2_with fail
  rw [HY.out]
  refine (g_any y 0 _ HG1.out).mono ?_
  rintro e w2 ⟨rfl, rfl⟩
  go_wp2_with fail
  refine (rrol_w _ _ _).mono ?_
  rintro e w2 ⟨rfl, rfl⟩
  rw [gback]
  have hn := HN.out
  have hxm := HXM.out
  have hs := HS.out
  go_wp2_with fail
  go_ret
  exact ⟨by simp, HX1.out⟩
set_option maxRecDepth 100000 in
set_option maxHeartbeats 4000000 in
theorem rows_3 (x : UInt32) (a1 a2 : Int) (hat : a1 % 8 = 3) (w : World) (hG : GRows w) :
    Calls Tryd.prog 10 #[.int .u32 (x.toNat : Nat), .int .i64 a1, .int .i64 a2] w fun e w' => e = .returned (.bool true) ∧ Below w.heap.size w w' := by
  have HG := hid hG
  have HAT := hid hat
  obtain ⟨v, hv⟩ : ∃ v : Nat, a2 % 16 = (v : Int) := ⟨(a2 % 16).toNat, by omega⟩
  have hv16 : (v : Int) < 16 := by omega
  have hvn : v < 16 := by omega
  have HV := hid hv
  have hp : ((putU 3 v).toNat : Int) = (v : Int) * 4096 := by rw [putU_nat 3 v (by omega) hvn]; omega
  have hm : ((maskU 3).toNat : Int) = 61440 := by rw [maskU_nat 3 (by omega)]; rfl
  have hy : bits .or .u32 (bits .andNot .u32 (x.toNat : Int) 61440) ((v : Int) * 4096) = ((yU x 3 v).toNat : Int) := by
    rw [← hp, ← hm, w_andn, w_or]; rfl
  have hn : bits .andNot .u32 (bits .xor .u32 ((gU x).toNat : Int) ((gU (yU x 3 v)).toNat : Int)) 61440 = 0 := by
    rw [← hm, w_xor, w_andn, rest_same x 3 v (by omega) hvn]; rfl
  have hi := same_iff x 3 v (by omega) hvn
  obtain ⟨y, hye⟩ : ∃ y, yU x 3 v = y := ⟨_, rfl⟩
  rw [hye] at hy hn hi
  have hxm : bits .and .u32 ((x.toNat : Int) / 4096) 15 = (x.toNat : Int) / 4096 % 16 := and15 _ (by have := wlt x; omega)
  have hs : (((gU x).toNat : Int) == ((gU y).toNat : Int)) = ((x.toNat : Int) / 4096 % 16 == (v : Int)) := by
    by_cases h : gU x = gU y
    · have h2 : (x.toNat : Int) / 4096 % 16 = (v : Int) := by have := hi.1 h; simp only [Nat.reducePow] at this; omega
      rw [h, h2]; simp
    · have h1 : ¬ ((gU x).toNat : Int) = ((gU y).toNat : Int) := fun e => h (UInt32.toNat_inj.1 (by omega))
      have h2 : ¬ (x.toNat : Int) / 4096 % 16 = (v : Int) := fun e => h (hi.2 (by simp only [Nat.reducePow]; omega))
      rw [beq_false_of_ne h1, beq_false_of_ne h2]
  have hd : (v : Int) * 4096 / 4096 = (v : Int) := by omega
  have HY := hid hy
  have HN := hid hn
  have HS := hid hs
  have HXM := hid hxm
  clear hG hat hv hy hn hi hp hm hye hs hvn hxm
  go_enter Tryd.func10, Tryd.ntmps10
  go_wp2_with fail
  refine (known_any _ HG.out).mono ?_
  rintro e w1 ⟨rfl, hx1⟩
  have HX1 := hid hx1
  have HG1 := hid (HG.out.later hx1)
  clear hx1
  go_wp2_with fail
  refine (within_any _ _ _ (by omega) (by omega)).mono ?_
  rintro e w2 ⟨rfl, rfl⟩
  rw [HAT.out]
  go_wp2_with fail
  refine (within_any _ _ _ (by omega) (by omega)).mono ?_
  rintro e w2 ⟨rfl, rfl⟩
  rw [HV.out]
  go_wp2_with fail
  refine (g_any x 0 _ HG1.out).mono ?_
  rintro e w2 ⟨rfl, rfl⟩
  go_wp2_with fail
  refine (rrol_w _ _ _).mono ?_
  rintro e w2 ⟨rfl, rfl⟩
  rw [gback]
  go_wp2_with fail
  rw [HY.out]
  refine (g_any y 0 _ HG1.out).mono ?_
  rintro e w2 ⟨rfl, rfl⟩
  go_wp2_with fail
  refine (rrol_w _ _ _).mono ?_
  rintro e w2 ⟨rfl, rfl⟩
  rw [gback]
  have hn := HN.out
  have hxm := HXM.out
  have hs := HS.out
  go_wp2_with fail
  go_ret
  exact ⟨by simp, HX1.out⟩
set_option maxRecDepth 100000 in
set_option maxHeartbeats 4000000 in
theorem rows_4 (x : UInt32) (a1 a2 : Int) (hat : a1 % 8 = 4) (w : World) (hG : GRows w) :
    Calls Tryd.prog 10 #[.int .u32 (x.toNat : Nat), .int .i64 a1, .int .i64 a2] w fun e w' => e = .returned (.bool true) ∧ Below w.heap.size w w' := by
  have HG := hid hG
  have HAT := hid hat
  obtain ⟨v, hv⟩ : ∃ v : Nat, a2 % 16 = (v : Int) := ⟨(a2 % 16).toNat, by omega⟩
  have hv16 : (v : Int) < 16 := by omega
  have hvn : v < 16 := by omega
  have HV := hid hv
  have hp : ((putU 4 v).toNat : Int) = (v : Int) * 65536 := by rw [putU_nat 4 v (by omega) hvn]; omega
  have hm : ((maskU 4).toNat : Int) = 983040 := by rw [maskU_nat 4 (by omega)]; rfl
  have hy : bits .or .u32 (bits .andNot .u32 (x.toNat : Int) 983040) ((v : Int) * 65536) = ((yU x 4 v).toNat : Int) := by
    rw [← hp, ← hm, w_andn, w_or]; rfl
  have hn : bits .andNot .u32 (bits .xor .u32 ((gU x).toNat : Int) ((gU (yU x 4 v)).toNat : Int)) 983040 = 0 := by
    rw [← hm, w_xor, w_andn, rest_same x 4 v (by omega) hvn]; rfl
  have hi := same_iff x 4 v (by omega) hvn
  obtain ⟨y, hye⟩ : ∃ y, yU x 4 v = y := ⟨_, rfl⟩
  rw [hye] at hy hn hi
  have hxm : bits .and .u32 ((x.toNat : Int) / 65536) 15 = (x.toNat : Int) / 65536 % 16 := and15 _ (by have := wlt x; omega)
  have hs : (((gU x).toNat : Int) == ((gU y).toNat : Int)) = ((x.toNat : Int) / 65536 % 16 == (v : Int)) := by
    by_cases h : gU x = gU y
    · have h2 : (x.toNat : Int) / 65536 % 16 = (v : Int) := by have := hi.1 h; simp only [Nat.reducePow] at this; omega
      rw [h, h2]; simp
    · have h1 : ¬ ((gU x).toNat : Int) = ((gU y).toNat : Int) := fun e => h (UInt32.toNat_inj.1 (by omega))
      have h2 : ¬ (x.toNat : Int) / 65536 % 16 = (v : Int) := fun e => h (hi.2 (by simp only [Nat.reducePow]; omega))
      rw [beq_false_of_ne h1, beq_false_of_ne h2]
  have hd : (v : Int) * 65536 / 65536 = (v : Int) := by omega
  have HY := hid hy
  have HN := hid hn
  have HS := hid hs
  have HXM := hid hxm
  clear hG hat hv hy hn hi hp hm hye hs hvn hxm
  go_enter Tryd.func10, Tryd.ntmps10
  go_wp2_with fail
  refine (known_any _ HG.out).mono ?_
  rintro e w1 ⟨rfl, hx1⟩
  have HX1 := hid hx1
  have HG1 := hid (HG.out.later hx1)
  clear hx1
  go_wp2_with fail
  refine (within_any _ _ _ (by omega) (by omega)).mono ?_
  rintro e w2 ⟨rfl, rfl⟩
  rw [HAT.out]
  go_wp2_with fail
  refine (within_any _ _ _ (by omega) (by omega)).mono ?_
  rintro e w2 ⟨rfl, rfl⟩
  rw [HV.out]
  go_wp2_with fail
  refine (g_any x 0 _ HG1.out).mono ?_
  rintro e w2 ⟨rfl, rfl⟩
  go_wp2_with fail
  refine (rrol_w _ _ _).mono ?_
  rintro e w2 ⟨rfl, rfl⟩
  rw [gback]
  go_wp2_with fail
  rw [HY.out]
  refine (g_any y 0 _ HG1.out).mono ?_
  rintro e w2 ⟨rfl, rfl⟩
  go_wp2_with fail
  refine (rrol_w _ _ _).mono ?_
  rintro e w2 ⟨rfl, rfl⟩
  rw [gback]
  have hn := HN.out
  have hxm := HXM.out
  have hs := HS.out
  go_wp2_with fail
  go_ret
  exact ⟨by simp, HX1.out⟩
set_option maxRecDepth 100000 in
set_option maxHeartbeats 4000000 in
theorem rows_5 (x : UInt32) (a1 a2 : Int) (hat : a1 % 8 = 5) (w : World) (hG : GRows w) :
    Calls Tryd.prog 10 #[.int .u32 (x.toNat : Nat), .int .i64 a1, .int .i64 a2] w fun e w' => e = .returned (.bool true) ∧ Below w.heap.size w w' := by
  have HG := hid hG
  have HAT := hid hat
  obtain ⟨v, hv⟩ : ∃ v : Nat, a2 % 16 = (v : Int) := ⟨(a2 % 16).toNat, by omega⟩
  have hv16 : (v : Int) < 16 := by omega
  have hvn : v < 16 := by omega
  have HV := hid hv
  have hp : ((putU 5 v).toNat : Int) = (v : Int) * 1048576 := by rw [putU_nat 5 v (by omega) hvn]; omega
  have hm : ((maskU 5).toNat : Int) = 15728640 := by rw [maskU_nat 5 (by omega)]; rfl
  have hy : bits .or .u32 (bits .andNot .u32 (x.toNat : Int) 15728640) ((v : Int) * 1048576) = ((yU x 5 v).toNat : Int) := by
    rw [← hp, ← hm, w_andn, w_or]; rfl
  have hn : bits .andNot .u32 (bits .xor .u32 ((gU x).toNat : Int) ((gU (yU x 5 v)).toNat : Int)) 15728640 = 0 := by
    rw [← hm, w_xor, w_andn, rest_same x 5 v (by omega) hvn]; rfl
  have hi := same_iff x 5 v (by omega) hvn
  obtain ⟨y, hye⟩ : ∃ y, yU x 5 v = y := ⟨_, rfl⟩
  rw [hye] at hy hn hi
  have hxm : bits .and .u32 ((x.toNat : Int) / 1048576) 15 = (x.toNat : Int) / 1048576 % 16 := and15 _ (by have := wlt x; omega)
  have hs : (((gU x).toNat : Int) == ((gU y).toNat : Int)) = ((x.toNat : Int) / 1048576 % 16 == (v : Int)) := by
    by_cases h : gU x = gU y
    · have h2 : (x.toNat : Int) / 1048576 % 16 = (v : Int) := by have := hi.1 h; simp only [Nat.reducePow] at this; omega
      rw [h, h2]; simp
    · have h1 : ¬ ((gU x).toNat : Int) = ((gU y).toNat : Int) := fun e => h (UInt32.toNat_inj.1 (by omega))
      have h2 : ¬ (x.toNat : Int) / 1048576 % 16 = (v : Int) := fun e => h (hi.2 (by simp only [Nat.reducePow]; omega))
      rw [beq_false_of_ne h1, beq_false_of_ne h2]
  have hd : (v : Int) * 1048576 / 1048576 = (v : Int) := by omega
  have HY := hid hy
  have HN := hid hn
  have HS := hid hs
  have HXM := hid hxm
  clear hG hat hv hy hn hi hp hm hye hs hvn hxm
  go_enter Tryd.func10, Tryd.ntmps10
  go_wp2_with fail
  refine (known_any _ HG.out).mono ?_
  rintro e w1 ⟨rfl, hx1⟩
  have HX1 := hid hx1
  have HG1 := hid (HG.out.later hx1)
  clear hx1
  go_wp2_with fail
  refine (within_any _ _ _ (by omega) (by omega)).mono ?_
  rintro e w2 ⟨rfl, rfl⟩
  rw [HAT.out]
  go_wp2_with fail
  refine (within_any _ _ _ (by omega) (by omega)).mono ?_
  rintro e w2 ⟨rfl, rfl⟩
  rw [HV.out]
  go_wp2_with fail
  refine (g_any x 0 _ HG1.out).mono ?_
  rintro e w2 ⟨rfl, rfl⟩
  go_wp2_with fail
  refine (rrol_w _ _ _).mono ?_
  rintro e w2 ⟨rfl, rfl⟩
  rw [gback]
  go_wp2_with fail
  rw [HY.out]
  refine (g_any y 0 _ HG1.out).mono ?_
  rintro e w2 ⟨rfl, rfl⟩
  go_wp2_with fail
  refine (rrol_w _ _ _).mono ?_
  rintro e w2 ⟨rfl, rfl⟩
  rw [gback]
  have hn := HN.out
  have hxm := HXM.out
  have hs := HS.out
  go_wp2_with fail
  go_ret
  exact ⟨by simp, HX1.out⟩
set_option maxRecDepth 100000 in
set_option maxHeartbeats 4000000 in
theorem rows_6 (x : UInt32) (a1 a2 : Int) (hat : a1 % 8 = 6) (w : World) (hG : GRows w) :
    Calls Tryd.prog 10 #[.int .u32 (x.toNat : Nat), .int .i64 a1, .int .i64 a2] w fun e w' => e = .returned (.bool true) ∧ Below w.heap.size w w' := by
  have HG := hid hG
  have HAT := hid hat
  obtain ⟨v, hv⟩ : ∃ v : Nat, a2 % 16 = (v : Int) := ⟨(a2 % 16).toNat, by omega⟩
  have hv16 : (v : Int) < 16 := by omega
  have hvn : v < 16 := by omega
  have HV := hid hv
  have hp : ((putU 6 v).toNat : Int) = (v : Int) * 16777216 := by rw [putU_nat 6 v (by omega) hvn]; omega
  have hm : ((maskU 6).toNat : Int) = 251658240 := by rw [maskU_nat 6 (by omega)]; rfl
  have hy : bits .or .u32 (bits .andNot .u32 (x.toNat : Int) 251658240) ((v : Int) * 16777216) = ((yU x 6 v).toNat : Int) := by
    rw [← hp, ← hm, w_andn, w_or]; rfl
  have hn : bits .andNot .u32 (bits .xor .u32 ((gU x).toNat : Int) ((gU (yU x 6 v)).toNat : Int)) 251658240 = 0 := by
    rw [← hm, w_xor, w_andn, rest_same x 6 v (by omega) hvn]; rfl
  have hi := same_iff x 6 v (by omega) hvn
  obtain ⟨y, hye⟩ : ∃ y, yU x 6 v = y := ⟨_, rfl⟩
  rw [hye] at hy hn hi
  have hxm : bits .and .u32 ((x.toNat : Int) / 16777216) 15 = (x.toNat : Int) / 16777216 % 16 := and15 _ (by have := wlt x; omega)
  have hs : (((gU x).toNat : Int) == ((gU y).toNat : Int)) = ((x.toNat : Int) / 16777216 % 16 == (v : Int)) := by
    by_cases h : gU x = gU y
    · have h2 : (x.toNat : Int) / 16777216 % 16 = (v : Int) := by have := hi.1 h; simp only [Nat.reducePow] at this; omega
      rw [h, h2]; simp
    · have h1 : ¬ ((gU x).toNat : Int) = ((gU y).toNat : Int) := fun e => h (UInt32.toNat_inj.1 (by omega))
      have h2 : ¬ (x.toNat : Int) / 16777216 % 16 = (v : Int) := fun e => h (hi.2 (by simp only [Nat.reducePow]; omega))
      rw [beq_false_of_ne h1, beq_false_of_ne h2]
  have hd : (v : Int) * 16777216 / 16777216 = (v : Int) := by omega
  have HY := hid hy
  have HN := hid hn
  have HS := hid hs
  have HXM := hid hxm
  clear hG hat hv hy hn hi hp hm hye hs hvn hxm
  go_enter Tryd.func10, Tryd.ntmps10
  go_wp2_with fail
  refine (known_any _ HG.out).mono ?_
  rintro e w1 ⟨rfl, hx1⟩
  have HX1 := hid hx1
  have HG1 := hid (HG.out.later hx1)
  clear hx1
  go_wp2_with fail
  refine (within_any _ _ _ (by omega) (by omega)).mono ?_
  rintro e w2 ⟨rfl, rfl⟩
  rw [HAT.out]
  go_wp2_with fail
  refine (within_any _ _ _ (by omega) (by omega)).mono ?_
  rintro e w2 ⟨rfl, rfl⟩
  rw [HV.out]
  go_wp2_with fail
  refine (g_any x 0 _ HG1.out).mono ?_
  rintro e w2 ⟨rfl, rfl⟩
  go_wp2_with fail
  refine (rrol_w _ _ _).mono ?_
  rintro e w2 ⟨rfl, rfl⟩
  rw [gback]
  go_wp2_with fail
  rw [HY.out]
  refine (g_any y 0 _ HG1.out).mono ?_
  rintro e w2 ⟨rfl, rfl⟩
  go_wp2_with fail
  refine (rrol_w _ _ _).mono ?_
  rintro e w2 ⟨rfl, rfl⟩
  rw [gback]
  have hn := HN.out
  have hxm := HXM.out
  have hs := HS.out
  go_wp2_with fail
  go_ret
  exact ⟨by simp, HX1.out⟩
set_option maxRecDepth 100000 in
set_option maxHeartbeats 4000000 in
theorem rows_7 (x : UInt32) (a1 a2 : Int) (hat : a1 % 8 = 7) (w : World) (hG : GRows w) :
    Calls Tryd.prog 10 #[.int .u32 (x.toNat : Nat), .int .i64 a1, .int .i64 a2] w fun e w' => e = .returned (.bool true) ∧ Below w.heap.size w w' := by
  have HG := hid hG
  have HAT := hid hat
  obtain ⟨v, hv⟩ : ∃ v : Nat, a2 % 16 = (v : Int) := ⟨(a2 % 16).toNat, by omega⟩
  have hv16 : (v : Int) < 16 := by omega
  have hvn : v < 16 := by omega
  have HV := hid hv
  have hp : ((putU 7 v).toNat : Int) = (v : Int) * 268435456 := by rw [putU_nat 7 v (by omega) hvn]; omega
  have hm : ((maskU 7).toNat : Int) = 4026531840 := by rw [maskU_nat 7 (by omega)]; rfl
  have hy : bits .or .u32 (bits .andNot .u32 (x.toNat : Int) 4026531840) ((v : Int) * 268435456) = ((yU x 7 v).toNat : Int) := by
    rw [← hp, ← hm, w_andn, w_or]; rfl
  have hn : bits .andNot .u32 (bits .xor .u32 ((gU x).toNat : Int) ((gU (yU x 7 v)).toNat : Int)) 4026531840 = 0 := by
    rw [← hm, w_xor, w_andn, rest_same x 7 v (by omega) hvn]; rfl
  have hi := same_iff x 7 v (by omega) hvn
  obtain ⟨y, hye⟩ : ∃ y, yU x 7 v = y := ⟨_, rfl⟩
  rw [hye] at hy hn hi
  have hxm : bits .and .u32 ((x.toNat : Int) / 268435456) 15 = (x.toNat : Int) / 268435456 % 16 := and15 _ (by have := wlt x; omega)
  have hs : (((gU x).toNat : Int) == ((gU y).toNat : Int)) = ((x.toNat : Int) / 268435456 % 16 == (v : Int)) := by
    by_cases h : gU x = gU y
    · have h2 : (x.toNat : Int) / 268435456 % 16 = (v : Int) := by have := hi.1 h; simp only [Nat.reducePow] at this; omega
      rw [h, h2]; simp
    · have h1 : ¬ ((gU x).toNat : Int) = ((gU y).toNat : Int) := fun e => h (UInt32.toNat_inj.1 (by omega))
      have h2 : ¬ (x.toNat : Int) / 268435456 % 16 = (v : Int) := fun e => h (hi.2 (by simp only [Nat.reducePow]; omega))
      rw [beq_false_of_ne h1, beq_false_of_ne h2]
  have hd : (v : Int) * 268435456 / 268435456 = (v : Int) := by omega
  have HY := hid hy
  have HN := hid hn
  have HS := hid hs
  have HXM := hid hxm
  clear hG hat hv hy hn hi hp hm hye hs hvn hxm
  go_enter Tryd.func10, Tryd.ntmps10
  go_wp2_with fail
  refine (known_any _ HG.out).mono ?_
  rintro e w1 ⟨rfl, hx1⟩
  have HX1 := hid hx1
  have HG1 := hid (HG.out.later hx1)
  clear hx1
  go_wp2_with fail
  refine (within_any _ _ _ (by omega) (by omega)).mono ?_
  rintro e w2 ⟨rfl, rfl⟩
  rw [HAT.out]
  go_wp2_with fail
  refine (within_any _ _ _ (by omega) (by omega)).mono ?_
  rintro e w2 ⟨rfl, rfl⟩
  rw [HV.out]
  go_wp2_with fail
  refine (g_any x 0 _ HG1.out).mono ?_
  rintro e w2 ⟨rfl, rfl⟩
  go_wp2_with fail
  refine (rrol_w _ _ _).mono ?_
  rintro e w2 ⟨rfl, rfl⟩
  rw [gback]
  go_wp2_with fail
  rw [HY.out]
  refine (g_any y 0 _ HG1.out).mono ?_
  rintro e w2 ⟨rfl, rfl⟩
  go_wp2_with fail
  refine (rrol_w _ _ _).mono ?_
  rintro e w2 ⟨rfl, rfl⟩
  rw [gback]
  have hn := HN.out
  have hxm := HXM.out
  have hs := HS.out
  go_wp2_with fail
  go_ret
  exact ⟨by simp, HX1.out⟩
theorem rows_walk (a0 a1 a2 : Int) (w0 : (Lit.int .u32 a0).wf = true) (_w1 : (Lit.int .i64 a1).wf = true) (_w2 : (Lit.int .i64 a2).wf = true) (w : World) (hG : GRows w) :
    Calls Tryd.prog 10 #[.int .u32 a0, .int .i64 a1, .int .i64 a2] w fun e w' => e = .returned (.bool true) ∧ Below w.heap.size w w' := by
  obtain ⟨x, rfl⟩ := of_wf32 w0
  rcases (show a1 % 8 = 0 ∨ a1 % 8 = 1 ∨ a1 % 8 = 2 ∨ a1 % 8 = 3 ∨ a1 % 8 = 4 ∨ a1 % 8 = 5 ∨ a1 % 8 = 6 ∨ a1 % 8 = 7 by omega) with h | h | h | h | h | h | h | h
  · exact rows_0 x a1 a2 h w hG
  · exact rows_1 x a1 a2 h w hG
  · exact rows_2 x a1 a2 h w hG
  · exact rows_3 x a1 a2 h w hG
  · exact rows_4 x a1 a2 h w hG
  · exact rows_5 x a1 a2 h w hG
  · exact rows_6 x a1 a2 h w hG
  · exact rows_7 x a1 a2 h w hG
end Go.Proofs.YtgkfohgeelfceaaDoor
