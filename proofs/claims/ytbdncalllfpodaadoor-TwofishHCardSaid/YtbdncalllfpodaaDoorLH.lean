/- The law on H, walked; own text of the verifier. -/
import Derived.Test.YtbdncalllfpodaaDoorX23
namespace Go.Proofs.YtbdncalllfpodaaDoor
open Go.RowKit
def toW (ys : List Int) : List UInt32 := ys.map fun y => UInt32.ofNat y.toNat
theorem nW_toW (ys : List Int) (h : ∀ y ∈ ys, 0 ≤ y ∧ y < 4294967296) : nW (toW ys) = ys := by
  unfold nW toW
  rw [List.map_map]
  refine (List.map_congr_left (g := id) fun y hy => ?_).trans (List.map_id ys)
  obtain ⟨h0, h1⟩ := h y hy
  simp only [Function.comp_apply, id_eq, UInt32.toNat_ofNat']
  omega
theorem word_of {a : Int} (h : (Lit.int .u32 a).wf = true) : ∃ X : UInt32, a = ((X.toNat : Nat) : Int) := by
  obtain ⟨h0, h1⟩ := bounds_u32 h
  refine ⟨UInt32.ofNat a.toNat, ?_⟩
  rw [UInt32.toNat_ofNat']; omega
set_option maxRecDepth 100000 in
set_option maxHeartbeats 4000000 in
theorem h_walk (a0 : Int) (a1 : Int) (a2 : Option Addr) (len2 cap2 : Nat) (z2 : List Int) (a3 : Int) (a4 : Int) (w : World) (w0 : (Lit.int .u32 a0).wf = true) (w1 : (Lit.int .u32 a1).wf = true) (w2 : IsRow .u32 w a2 len2 cap2 z2) (w3 : (Lit.int .u32 a3).wf = true) (w4 : (Lit.int .u32 a4).wf = true) (hb : len2 * 4 ≤ reachBytes) (hG : GT w) :
    Calls Tryd.prog 5 #[.int .u32 a0, .int .u32 a1, .slice a2 len2 cap2, .int .u32 a3, .int .u32 a4] w fun e w' => e = .returned (.bool true) ∧ Below w.heap.size w w' := by
  obtain ⟨X0, rfl⟩ := word_of w0
  obtain ⟨X1, rfl⟩ := word_of w1
  obtain ⟨X3, rfl⟩ := word_of w3
  obtain ⟨X4, rfl⟩ := word_of w4
  obtain ⟨xs, hr, hm, _, hw⟩ := w2.rdN
  unfold reachBytes at hb
  have HR := hid hr
  have HG := hid hG
  have HBD := hid hb
  have hl := hr.len
  have hys : ∀ y ∈ nW [X3, X4] ++ xs, 0 ≤ y ∧ y < 4294967296 := by
    intro y hy
    rcases List.mem_append.1 hy with h | h
    · simp only [nW, List.map_cons, List.map_nil, List.mem_cons, List.not_mem_nil, or_false] at h
      have := wlt X3
      have := wlt X4
      rcases h with rfl | rfl <;> omega
    · obtain ⟨j, hj, rfl⟩ := List.getElem_of_mem h
      have := bounds_u32 (hw j (by omega))
      simp only [List.getD_eq_getElem?_getD, List.getElem?_eq_getElem hj, Option.getD_some] at this
      omega
  have HYS := hid hys
  have HL := hid hl
  clear w0 w1 w2 w3 w4 hr hG hys hw hl hb hm
  obtain ⟨N, hN⟩ : ∃ N, len2 + 2 = N := ⟨_, rfl⟩
  have HN := hid hN
  have hN2 : 2 ≤ N := by omega
  clear hN
  rcases (show N = 2 ∨ N = 3 ∨ N = 4 ∨ 5 ≤ N by omega) with rfl | rfl | rfl | h5
  · go_enter Tryd.func5, Tryd.ntmps5
    go_wp2_with fail
    refine (known_any _ HG.out).mono ?_
    rintro e w5 ⟨rfl, hx5⟩
    have HX5 := hid hx5
    have HLT := hid (OwnN.lit (kd := .u32) (e := 37) w5 (nW [X3, X4]) #[.int .u32 (X3.toNat : Nat), .int .u32 (X4.toNat : Nat)] 2 w5.heap.size rfl rfl (by unfold maxLen; omega) (Nat.le_refl _))
    have HRL := hid ((HR.out.later hx5).later (Ext.alloc w5 (.cells #[.int .u32 (X3.toNat : Nat), .int .u32 (X4.toNat : Nat)] 37)))
    clear hx5
    go_wp2_with (refine wpL_appendN _ rfl (.tmp 18) (.tmp 19) 24 rfl Tryd.underlying24 4 Tryd.info37 w5.heap.size _ _ rfl HLT.out _ a2 len2 cap2 _ rfl HRL.out (by have := HBD.out; simp [nW]; omega) (by have := HBD.out; simp [nW]; unfold maxLen; omega) (by simp) ?_; intro v' w6 hown6 hb6; obtain ⟨A6, c6, rfl, hc6, hr6, _⟩ := hown6.rdc (n := 2) (by rw [List.length_append, nW_length, HL.out]; have := HN.out; simp only [List.length_cons, List.length_nil]; omega); have hcm : 2 ≤ c6 := (by omega); clear hown6)
    have HX6 := hid (Ext.trans HX5.out (show Ext w5 w6 from ((Below.refl w5.heap.size w5).alloc (Nat.le_refl _) _).trans hb6))
    have hl6 := hr6.cuthi 2 (by omega)
    rw [← nW_toW ((nW [X3, X4] ++ xs).take 2) (fun y hy => HYS.out y (List.mem_of_mem_take hy))] at hl6
    have hll : (toW ((nW [X3, X4] ++ xs).take 2)).length ≤ 4 := by simp [toW]; omega
    obtain ⟨l, hle⟩ : ∃ l, toW ((nW [X3, X4] ++ xs).take 2) = l := ⟨_, rfl⟩
    rw [hle] at hl6 hll
    have HL6 := hid hl6
    have HLL := hid hll
    clear hl6 hr6 hb6 hle hll HLT HRL
    have HA0 := hid (fun w hG hl => h_any X0 l A6 2 c6 w hG hl (by omega) (by omega))
    have HA1 := hid (fun w hG hl => h_any X1 l A6 2 c6 w hG hl (by omega) (by omega))
    have HB0 := hid (fun w hl => rh_any X0 l A6 2 c6 w hl (by omega) (by omega))
    have HB1 := hid (fun w hl => rh_any X1 l A6 2 c6 w hl (by omega) (by omega))
    have HEQ := hid (show (((HW X0 l).toNat : Int) == ((HW X1 l).toNat : Int)) = ((X0.toNat : Int) == (X1.toNat : Int)) by
      by_cases hxy : X0 = X1
      · subst hxy; simp
      · have h1 : ¬ HW X0 l = HW X1 l := fun e => hxy (HW_inj l HLL.out e)
        have h2 : ¬ ((HW X0 l).toNat : Int) = ((HW X1 l).toNat : Int) := fun e => h1 (UInt32.toNat_inj.1 (by omega))
        have h3 : ¬ (X0.toNat : Int) = (X1.toNat : Int) := fun e => hxy (UInt32.toNat_inj.1 (by omega))
        simp only [beq_eq_false_iff_ne.2 h2, beq_eq_false_iff_ne.2 h3])
    obtain ⟨r0, hr0⟩ : ∃ r, HW X0 l = r := ⟨_, rfl⟩
    obtain ⟨r1, hr1⟩ : ∃ r, HW X1 l = r := ⟨_, rfl⟩
    rw [hr0] at HA0 HB0 HEQ
    rw [hr1] at HA1 HB1 HEQ
    clear hr0 hr1
    refine (HA0.out _ (HG.out.later HX6.out) HL6.out).mono ?_
    rintro e w7 ⟨rfl, hx7⟩
    have HX7 := hid (Ext.trans HX6.out hx7)
    have HL7 := hid (HL6.out.later hx7)
    clear hx7
    go_wp2_with fail
    refine (HA1.out _ (HG.out.later HX7.out) HL7.out).mono ?_
    rintro e w8 ⟨rfl, hx8⟩
    have HX8 := hid (Ext.trans HX7.out hx8)
    have HL8 := hid (HL7.out.later hx8)
    clear hx8
    go_wp2_with fail
    refine (HB0.out _ HL8.out).mono ?_
    rintro e w9 ⟨rfl, hx9⟩
    have HX9 := hid (Ext.trans HX8.out hx9)
    have HL9 := hid (HL8.out.later hx9)
    clear hx9
    go_wp2_with fail
    refine (HB1.out _ HL9.out).mono ?_
    rintro e w10 ⟨rfl, hx10⟩
    have HX10 := hid (Ext.trans HX9.out hx10)
    clear hx10
    go_wp2_with fail
    rw [HEQ.out]
    go_ret
    exact ⟨by simp, HX10.out⟩
  · go_enter Tryd.func5, Tryd.ntmps5
    go_wp2_with fail
    refine (known_any _ HG.out).mono ?_
    rintro e w5 ⟨rfl, hx5⟩
    have HX5 := hid hx5
    have HLT := hid (OwnN.lit (kd := .u32) (e := 37) w5 (nW [X3, X4]) #[.int .u32 (X3.toNat : Nat), .int .u32 (X4.toNat : Nat)] 2 w5.heap.size rfl rfl (by unfold maxLen; omega) (Nat.le_refl _))
    have HRL := hid ((HR.out.later hx5).later (Ext.alloc w5 (.cells #[.int .u32 (X3.toNat : Nat), .int .u32 (X4.toNat : Nat)] 37)))
    clear hx5
    go_wp2_with (refine wpL_appendN _ rfl (.tmp 18) (.tmp 19) 24 rfl Tryd.underlying24 4 Tryd.info37 w5.heap.size _ _ rfl HLT.out _ a2 len2 cap2 _ rfl HRL.out (by have := HBD.out; simp [nW]; omega) (by have := HBD.out; simp [nW]; unfold maxLen; omega) (by simp) ?_; intro v' w6 hown6 hb6; obtain ⟨A6, c6, rfl, hc6, hr6, _⟩ := hown6.rdc (n := 3) (by rw [List.length_append, nW_length, HL.out]; have := HN.out; simp only [List.length_cons, List.length_nil]; omega); have hcm : 3 ≤ c6 := (by omega); clear hown6)
    have HX6 := hid (Ext.trans HX5.out (show Ext w5 w6 from ((Below.refl w5.heap.size w5).alloc (Nat.le_refl _) _).trans hb6))
    have hl6 := hr6.cuthi 3 (by omega)
    rw [← nW_toW ((nW [X3, X4] ++ xs).take 3) (fun y hy => HYS.out y (List.mem_of_mem_take hy))] at hl6
    have hll : (toW ((nW [X3, X4] ++ xs).take 3)).length ≤ 4 := by simp [toW]; omega
    obtain ⟨l, hle⟩ : ∃ l, toW ((nW [X3, X4] ++ xs).take 3) = l := ⟨_, rfl⟩
    rw [hle] at hl6 hll
    have HL6 := hid hl6
    have HLL := hid hll
    clear hl6 hr6 hb6 hle hll HLT HRL
    have HA0 := hid (fun w hG hl => h_any X0 l A6 3 c6 w hG hl (by omega) (by omega))
    have HA1 := hid (fun w hG hl => h_any X1 l A6 3 c6 w hG hl (by omega) (by omega))
    have HB0 := hid (fun w hl => rh_any X0 l A6 3 c6 w hl (by omega) (by omega))
    have HB1 := hid (fun w hl => rh_any X1 l A6 3 c6 w hl (by omega) (by omega))
    have HEQ := hid (show (((HW X0 l).toNat : Int) == ((HW X1 l).toNat : Int)) = ((X0.toNat : Int) == (X1.toNat : Int)) by
      by_cases hxy : X0 = X1
      · subst hxy; simp
      · have h1 : ¬ HW X0 l = HW X1 l := fun e => hxy (HW_inj l HLL.out e)
        have h2 : ¬ ((HW X0 l).toNat : Int) = ((HW X1 l).toNat : Int) := fun e => h1 (UInt32.toNat_inj.1 (by omega))
        have h3 : ¬ (X0.toNat : Int) = (X1.toNat : Int) := fun e => hxy (UInt32.toNat_inj.1 (by omega))
        simp only [beq_eq_false_iff_ne.2 h2, beq_eq_false_iff_ne.2 h3])
    obtain ⟨r0, hr0⟩ : ∃ r, HW X0 l = r := ⟨_, rfl⟩
    obtain ⟨r1, hr1⟩ : ∃ r, HW X1 l = r := ⟨_, rfl⟩
    rw [hr0] at HA0 HB0 HEQ
    rw [hr1] at HA1 HB1 HEQ
    clear hr0 hr1
    refine (HA0.out _ (HG.out.later HX6.out) HL6.out).mono ?_
    rintro e w7 ⟨rfl, hx7⟩
    have HX7 := hid (Ext.trans HX6.out hx7)
    have HL7 := hid (HL6.out.later hx7)
    clear hx7
    go_wp2_with fail
    refine (HA1.out _ (HG.out.later HX7.out) HL7.out).mono ?_
    rintro e w8 ⟨rfl, hx8⟩
    have HX8 := hid (Ext.trans HX7.out hx8)
    have HL8 := hid (HL7.out.later hx8)
    clear hx8
    go_wp2_with fail
    refine (HB0.out _ HL8.out).mono ?_
    rintro e w9 ⟨rfl, hx9⟩
    have HX9 := hid (Ext.trans HX8.out hx9)
    have HL9 := hid (HL8.out.later hx9)
    clear hx9
    go_wp2_with fail
    refine (HB1.out _ HL9.out).mono ?_
    rintro e w10 ⟨rfl, hx10⟩
    have HX10 := hid (Ext.trans HX9.out hx10)
    clear hx10
    go_wp2_with fail
    rw [HEQ.out]
    go_ret
    exact ⟨by simp, HX10.out⟩
  · go_enter Tryd.func5, Tryd.ntmps5
    go_wp2_with fail
    refine (known_any _ HG.out).mono ?_
    rintro e w5 ⟨rfl, hx5⟩
    have HX5 := hid hx5
    have HLT := hid (OwnN.lit (kd := .u32) (e := 37) w5 (nW [X3, X4]) #[.int .u32 (X3.toNat : Nat), .int .u32 (X4.toNat : Nat)] 2 w5.heap.size rfl rfl (by unfold maxLen; omega) (Nat.le_refl _))
    have HRL := hid ((HR.out.later hx5).later (Ext.alloc w5 (.cells #[.int .u32 (X3.toNat : Nat), .int .u32 (X4.toNat : Nat)] 37)))
    clear hx5
    go_wp2_with (refine wpL_appendN _ rfl (.tmp 18) (.tmp 19) 24 rfl Tryd.underlying24 4 Tryd.info37 w5.heap.size _ _ rfl HLT.out _ a2 len2 cap2 _ rfl HRL.out (by have := HBD.out; simp [nW]; omega) (by have := HBD.out; simp [nW]; unfold maxLen; omega) (by simp) ?_; intro v' w6 hown6 hb6; obtain ⟨A6, c6, rfl, hc6, hr6, _⟩ := hown6.rdc (n := 4) (by rw [List.length_append, nW_length, HL.out]; have := HN.out; simp only [List.length_cons, List.length_nil]; omega); have hcm : 4 ≤ c6 := (by omega); clear hown6)
    have HX6 := hid (Ext.trans HX5.out (show Ext w5 w6 from ((Below.refl w5.heap.size w5).alloc (Nat.le_refl _) _).trans hb6))
    have hl6 := hr6.cuthi 4 (by omega)
    rw [← nW_toW ((nW [X3, X4] ++ xs).take 4) (fun y hy => HYS.out y (List.mem_of_mem_take hy))] at hl6
    have hll : (toW ((nW [X3, X4] ++ xs).take 4)).length ≤ 4 := by simp [toW]; omega
    obtain ⟨l, hle⟩ : ∃ l, toW ((nW [X3, X4] ++ xs).take 4) = l := ⟨_, rfl⟩
    rw [hle] at hl6 hll
    have HL6 := hid hl6
    have HLL := hid hll
    clear hl6 hr6 hb6 hle hll HLT HRL
    have HA0 := hid (fun w hG hl => h_any X0 l A6 4 c6 w hG hl (by omega) (by omega))
    have HA1 := hid (fun w hG hl => h_any X1 l A6 4 c6 w hG hl (by omega) (by omega))
    have HB0 := hid (fun w hl => rh_any X0 l A6 4 c6 w hl (by omega) (by omega))
    have HB1 := hid (fun w hl => rh_any X1 l A6 4 c6 w hl (by omega) (by omega))
    have HEQ := hid (show (((HW X0 l).toNat : Int) == ((HW X1 l).toNat : Int)) = ((X0.toNat : Int) == (X1.toNat : Int)) by
      by_cases hxy : X0 = X1
      · subst hxy; simp
      · have h1 : ¬ HW X0 l = HW X1 l := fun e => hxy (HW_inj l HLL.out e)
        have h2 : ¬ ((HW X0 l).toNat : Int) = ((HW X1 l).toNat : Int) := fun e => h1 (UInt32.toNat_inj.1 (by omega))
        have h3 : ¬ (X0.toNat : Int) = (X1.toNat : Int) := fun e => hxy (UInt32.toNat_inj.1 (by omega))
        simp only [beq_eq_false_iff_ne.2 h2, beq_eq_false_iff_ne.2 h3])
    obtain ⟨r0, hr0⟩ : ∃ r, HW X0 l = r := ⟨_, rfl⟩
    obtain ⟨r1, hr1⟩ : ∃ r, HW X1 l = r := ⟨_, rfl⟩
    rw [hr0] at HA0 HB0 HEQ
    rw [hr1] at HA1 HB1 HEQ
    clear hr0 hr1
    refine (HA0.out _ (HG.out.later HX6.out) HL6.out).mono ?_
    rintro e w7 ⟨rfl, hx7⟩
    have HX7 := hid (Ext.trans HX6.out hx7)
    have HL7 := hid (HL6.out.later hx7)
    clear hx7
    go_wp2_with fail
    refine (HA1.out _ (HG.out.later HX7.out) HL7.out).mono ?_
    rintro e w8 ⟨rfl, hx8⟩
    have HX8 := hid (Ext.trans HX7.out hx8)
    have HL8 := hid (HL7.out.later hx8)
    clear hx8
    go_wp2_with fail
    refine (HB0.out _ HL8.out).mono ?_
    rintro e w9 ⟨rfl, hx9⟩
    have HX9 := hid (Ext.trans HX8.out hx9)
    have HL9 := hid (HL8.out.later hx9)
    clear hx9
    go_wp2_with fail
    refine (HB1.out _ HL9.out).mono ?_
    rintro e w10 ⟨rfl, hx10⟩
    have HX10 := hid (Ext.trans HX9.out hx10)
    clear hx10
    go_wp2_with fail
    rw [HEQ.out]
    go_ret
    exact ⟨by simp, HX10.out⟩
  · have g1 : ¬ (N : Int) < 4 := by omega
    have g2 : (4 : Int) < (N : Int) := by omega
    have g3 : ¬ (N : Int) ≤ 4 := by omega
    have g4 : (4 : Int) ≤ (N : Int) := by omega
    go_enter Tryd.func5, Tryd.ntmps5
    go_wp2_with fail
    refine (known_any _ HG.out).mono ?_
    rintro e w5 ⟨rfl, hx5⟩
    have HX5 := hid hx5
    have HLT := hid (OwnN.lit (kd := .u32) (e := 37) w5 (nW [X3, X4]) #[.int .u32 (X3.toNat : Nat), .int .u32 (X4.toNat : Nat)] 2 w5.heap.size rfl rfl (by unfold maxLen; omega) (Nat.le_refl _))
    have HRL := hid ((HR.out.later hx5).later (Ext.alloc w5 (.cells #[.int .u32 (X3.toNat : Nat), .int .u32 (X4.toNat : Nat)] 37)))
    clear hx5
    go_wp2_with (refine wpL_appendN _ rfl (.tmp 18) (.tmp 19) 24 rfl Tryd.underlying24 4 Tryd.info37 w5.heap.size _ _ rfl HLT.out _ a2 len2 cap2 _ rfl HRL.out (by have := HBD.out; simp [nW]; omega) (by have := HBD.out; simp [nW]; unfold maxLen; omega) (by simp) ?_; intro v' w6 hown6 hb6; obtain ⟨A6, c6, rfl, hc6, hr6, _⟩ := hown6.rdc (n := N) (by rw [List.length_append, nW_length, HL.out]; have := HN.out; simp only [List.length_cons, List.length_nil]; omega); have hcm : 4 ≤ c6 := (by omega); clear hown6)
    have HX6 := hid (Ext.trans HX5.out (show Ext w5 w6 from ((Below.refl w5.heap.size w5).alloc (Nat.le_refl _) _).trans hb6))
    have hl6 := hr6.cuthi 4 (by omega)
    rw [← nW_toW ((nW [X3, X4] ++ xs).take 4) (fun y hy => HYS.out y (List.mem_of_mem_take hy))] at hl6
    have hll : (toW ((nW [X3, X4] ++ xs).take 4)).length ≤ 4 := by simp [toW]; omega
    obtain ⟨l, hle⟩ : ∃ l, toW ((nW [X3, X4] ++ xs).take 4) = l := ⟨_, rfl⟩
    rw [hle] at hl6 hll
    have HL6 := hid hl6
    have HLL := hid hll
    clear hl6 hr6 hb6 hle hll HLT HRL
    have HA0 := hid (fun w hG hl => h_any X0 l A6 4 c6 w hG hl (by omega) (by omega))
    have HA1 := hid (fun w hG hl => h_any X1 l A6 4 c6 w hG hl (by omega) (by omega))
    have HB0 := hid (fun w hl => rh_any X0 l A6 4 c6 w hl (by omega) (by omega))
    have HB1 := hid (fun w hl => rh_any X1 l A6 4 c6 w hl (by omega) (by omega))
    have HEQ := hid (show (((HW X0 l).toNat : Int) == ((HW X1 l).toNat : Int)) = ((X0.toNat : Int) == (X1.toNat : Int)) by
      by_cases hxy : X0 = X1
      · subst hxy; simp
      · have h1 : ¬ HW X0 l = HW X1 l := fun e => hxy (HW_inj l HLL.out e)
        have h2 : ¬ ((HW X0 l).toNat : Int) = ((HW X1 l).toNat : Int) := fun e => h1 (UInt32.toNat_inj.1 (by omega))
        have h3 : ¬ (X0.toNat : Int) = (X1.toNat : Int) := fun e => hxy (UInt32.toNat_inj.1 (by omega))
        simp only [beq_eq_false_iff_ne.2 h2, beq_eq_false_iff_ne.2 h3])
    obtain ⟨r0, hr0⟩ : ∃ r, HW X0 l = r := ⟨_, rfl⟩
    obtain ⟨r1, hr1⟩ : ∃ r, HW X1 l = r := ⟨_, rfl⟩
    rw [hr0] at HA0 HB0 HEQ
    rw [hr1] at HA1 HB1 HEQ
    clear hr0 hr1
    refine (HA0.out _ (HG.out.later HX6.out) HL6.out).mono ?_
    rintro e w7 ⟨rfl, hx7⟩
    have HX7 := hid (Ext.trans HX6.out hx7)
    have HL7 := hid (HL6.out.later hx7)
    clear hx7
    go_wp2_with fail
    refine (HA1.out _ (HG.out.later HX7.out) HL7.out).mono ?_
    rintro e w8 ⟨rfl, hx8⟩
    have HX8 := hid (Ext.trans HX7.out hx8)
    have HL8 := hid (HL7.out.later hx8)
    clear hx8
    go_wp2_with fail
    refine (HB0.out _ HL8.out).mono ?_
    rintro e w9 ⟨rfl, hx9⟩
    have HX9 := hid (Ext.trans HX8.out hx9)
    have HL9 := hid (HL8.out.later hx9)
    clear hx9
    go_wp2_with fail
    refine (HB1.out _ HL9.out).mono ?_
    rintro e w10 ⟨rfl, hx10⟩
    have HX10 := hid (Ext.trans HX9.out hx10)
    clear hx10
    go_wp2_with fail
    rw [HEQ.out]
    go_ret
    exact ⟨by simp, HX10.out⟩
end Go.Proofs.YtbdncalllfpodaaDoor
