/- The law on G, walked; own text of the verifier. -/
import Derived.Test.YtgkfohgeelfceaaDoorX13
namespace Go.Proofs.YtgkfohgeelfceaaDoor
open Go.RowKit
theorem of_wf32 {a : Int} (h : (Lit.int .u32 a).wf = true) : ∃ x : UInt32, a = (x.toNat : Nat) := by
  have h1 := wf_u32 h
  refine ⟨UInt32.ofNat a.toNat, ?_⟩
  rw [UInt32.toNat_ofNat']
  omega
theorem g_dec (x y k : UInt32) : ((((gW x k).toNat : Nat) : Int) == (((gW y k).toNat : Nat) : Int)) = (((x.toNat : Nat) : Int) == ((y.toNat : Nat) : Int)) := by
  by_cases h : x = y
  · subst h; simp
  · have h1 : ¬ ((x.toNat : Nat) : Int) = ((y.toNat : Nat) : Int) := fun e => h (UInt32.toNat_inj.1 (by omega))
    have h2 : ¬ (((gW x k).toNat : Nat) : Int) = (((gW y k).toNat : Nat) : Int) := fun e => h (gW_inj (k := k) (UInt32.toNat_inj.1 (by omega)))
    rw [beq_false_of_ne h1, beq_false_of_ne h2]
set_option maxRecDepth 100000 in
set_option maxHeartbeats 4000000 in
theorem g_walk (a0 a1 a2 : Int) (w0 : (Lit.int .u32 a0).wf = true) (w1 : (Lit.int .u32 a1).wf = true) (w2 : (Lit.int .u32 a2).wf = true) (w : World) (hG : GRows w) :
    Calls Tryd.prog 5 #[.int .u32 a0, .int .u32 a1, .int .u32 a2] w fun e w' => e = .returned (.bool true) ∧ Below w.heap.size w w' := by
  obtain ⟨x, rfl⟩ := of_wf32 w0
  obtain ⟨k, rfl⟩ := of_wf32 w1
  obtain ⟨y, rfl⟩ := of_wf32 w2
  clear w0 w1 w2
  have HG := hid hG
  clear hG
  have HD := hid (g_dec x y k)
  obtain ⟨A, hA⟩ : ∃ A, gW x k = A := ⟨_, rfl⟩
  obtain ⟨B, hB⟩ : ∃ B, gW y k = B := ⟨_, rfl⟩
  have hC : gW k x = A := by rw [gW_comm]; exact hA
  rw [hA, hB] at HD
  have HA := hid hA
  have HB := hid hB
  have HC := hid hC
  clear hA hB hC
  go_enter Tryd.func5, Tryd.ntmps5
  go_wp2_with fail
  refine (known_any _ HG.out).mono ?_
  rintro e w1 ⟨rfl, hx1⟩
  have HX1 := hid hx1
  have HG1 := hid (HG.out.later hx1)
  clear hx1
  go_wp2_with fail
  refine (g_any x k _ HG1.out).mono ?_
  rintro e w2 ⟨rfl, rfl⟩
  rw [HA.out]
  go_wp2_with fail
  refine (g_any y k _ HG1.out).mono ?_
  rintro e w2 ⟨rfl, rfl⟩
  rw [HB.out]
  go_wp2_with fail
  refine (rg_any x k _).mono ?_
  rintro e w2 ⟨rfl, hx2⟩
  rw [HA.out]
  have HX2 := hid (Ext.trans HX1.out hx2)
  clear hx2
  go_wp2_with fail
  refine (rg_any y k _).mono ?_
  rintro e w3 ⟨rfl, hx3⟩
  rw [HB.out]
  have HX3 := hid (Ext.trans HX2.out hx3)
  clear hx3 HX1 HX2
  go_wp2_with fail
  refine (g_any k x _ (HG.out.later HX3.out)).mono ?_
  rintro e w4 ⟨rfl, rfl⟩
  rw [HC.out]
  go_wp2_with fail
  have h := HD.out
  go_ret
  exact ⟨by simp [h], HX3.out⟩
end Go.Proofs.YtgkfohgeelfceaaDoor
