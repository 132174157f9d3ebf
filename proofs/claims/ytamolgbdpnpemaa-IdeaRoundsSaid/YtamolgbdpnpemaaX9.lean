/- Walk over undoing of the program; own lemmas of the verifier, no statement is proved here. -/
import Derived.Test.YtamolgbdpnpemaaX8
namespace Go.Proofs.Ytamolgbdpnpemaa
open Go.RowKit
theorem arr53_l (g l : Nat) (w : World) (hl : l < 52) :
    (Instr.sliceAt 53 (.pointer (some ⟨g, 0, none⟩)) (some (.int .i64 (l : Int))) none none).run Try.prog w = .ok (.slice (some ⟨g, l, none⟩) (52 - l) (52 - l)) w := by
  have hN : Try.prog.arrayLen 53 = 52 := by kernel_rfl
  have hs : (sizeOf (Try.prog.elem 53)).run Try.prog w = .ok 1 w := by kernel_rfl
  rw [run_sliceAt_array_l w 53 ⟨g, 0, none⟩ (by kernel_rfl) .i64 l (by omega) (by rw [hN]; omega), hs, hN]
  simp only [Result.andThen, slicedAt, Int.toNat_natCast]
  rw [if_neg (by omega)]
  simp [add_off]
theorem arr53_lh (g l h : Nat) (w : World) (hl : l < 52) (hh : h ≤ 52) (hlh : l ≤ h) :
    (Instr.sliceAt 53 (.pointer (some ⟨g, 0, none⟩)) (some (.int .i64 (l : Int))) (some (.int .i64 (h : Int))) none).run Try.prog w = .ok (.slice (some ⟨g, l, none⟩) (h - l) (52 - l)) w := by
  have hN : Try.prog.arrayLen 53 = 52 := by kernel_rfl
  have hs : (sizeOf (Try.prog.elem 53)).run Try.prog w = .ok 1 w := by kernel_rfl
  rw [run_sliceAt_array_lh w 53 ⟨g, 0, none⟩ (by kernel_rfl) .i64 .i64 l h (by omega) (by omega) (by rw [hN]; omega), hs, hN]
  simp only [Result.andThen, slicedAt, Int.toNat_natCast]
  rw [if_neg (by omega)]
  simp [add_off]
theorem arr53_all (g : Nat) (w : World) :
    (Instr.sliceAt 53 (.pointer (some ⟨g, 0, none⟩)) none none none).run Try.prog w = .ok (.slice (some ⟨g, 0, none⟩) 52 52) w := by
  have hN : Try.prog.arrayLen 53 = 52 := by kernel_rfl
  have hs : (sizeOf (Try.prog.elem 53)).run Try.prog w = .ok 1 w := by kernel_rfl
  rw [run_sliceAt_array_all w 53 ⟨g, 0, none⟩ (by kernel_rfl), hs, hN]
  simp [Result.andThen, slicedAt, add_off]
theorem arr57_all (g : Nat) (w : World) :
    (Instr.sliceAt 57 (.pointer (some ⟨g, 0, none⟩)) none none none).run Try.prog w = .ok (.slice (some ⟨g, 0, none⟩) 4 4) w := by
  have hN : Try.prog.arrayLen 57 = 4 := by kernel_rfl
  have hs : (sizeOf (Try.prog.elem 57)).run Try.prog w = .ok 1 w := by kernel_rfl
  rw [run_sliceAt_array_all w 57 ⟨g, 0, none⟩ (by kernel_rfl), hs, hN]
  simp [Result.andThen, slicedAt, add_off]
theorem size53 (L : List Int) (h : L.length = 52) : (Try.prog.info? 53).map (·.size) = some (cN .i64 L).toArray.size := by
  have e : (Try.prog.info? 53).map (·.size) = some 52 := by kernel_rfl
  rw [e, cN_size, h]
theorem sizes (L M : List Int) (h : L.length = M.length) : (cN .i64 L).toArray.size = (cN .i64 M).toArray.size := by rw [cN_size, cN_size, h]
theorem fill_spl (F : Nat → Nat) (n o : Nat) (ys : List Int) (m : Nat) (hm : ys.length = m) (h : o + m ≤ n) (hy : ∀ j, j < m → ys.getD j 0 = (F (o + j) : Nat)) : spl (fillN F n o) o ys = fillN F n (o + m) := by
  subst hm
  refine int_ext (n := n) (by rw [spl_length (by rw [fillN_length]; omega), fillN_length]) (fillN_length _ _ _) fun j hj => ?_
  rw [spl_get (by rw [fillN_length]; omega)]
  have hg : ∀ k, (fillN F n k).getD j 0 = if j < k then ((F j : Nat) : Int) else 0 := fun k => by simp [fillN, List.getD, hj]
  rw [hg, hg]
  by_cases h1 : j < o
  · rw [if_pos h1, if_pos h1, if_pos (by omega)]
  · rw [if_neg h1, if_neg h1]
    by_cases h2 : j < o + ys.length
    · rw [if_pos h2, if_pos h2, hy (j - o) (by omega), show o + (j - o) = j by omega]
    · rw [if_neg h2, if_neg h2]
def undU (k : Nat → Nat) (f : Nat) : F4 := (F4.mk (invF (k f)) (negF (k (f + 1))) (negF (k (f + 2))) (invF (k (f + 3))))
theorem und_first (k : Nat → Nat) (r f : Nat) (hr : r ≤ 8) (hf : f = 48 - 6 * r) (x : F4) (hx : x = if 0 < r ∧ r < 8 then swF (undU k f) else undU k f) :
    spl (fillN (undF k) 52 (6 * r)) (6 * r) (((x.list.drop 0).take 4).take 4) = fillN (undF k) 52 (6 * r + 4) := by
  have e : ((x.list.drop 0).take 4).take 4 = x.list := rfl
  rw [e]
  refine fill_spl _ _ _ _ 4 rfl (by omega) fun j hj => ?_
  have hq : (6 * r + j) / 6 = r := by omega
  have hm : (6 * r + j) % 6 = j := by omega
  subst hf
  by_cases hc : 0 < r ∧ r < 8
  · rw [if_pos hc] at hx
    subst hx
    unfold undF
    simp only [hq, hm, if_pos hc]
    match j, hj with
    | 0, _ => rfl
    | 1, _ => rfl
    | 2, _ => rfl
    | 3, _ => rfl
  · rw [if_neg hc] at hx
    subst hx
    unfold undF
    simp only [hq, hm, if_neg hc]
    match j, hj with
    | 0, _ => rfl
    | 1, _ => rfl
    | 2, _ => rfl
    | 3, _ => rfl
theorem und_second (k : Nat → Nat) (r f : Nat) (hr : r < 8) (hf : f = 48 - 6 * r) :
    spl (fillN (undF k) 52 (6 * r + 4)) (6 * r + 4) ((((tabN k 52).drop (f - 2)).take 2).take 2) = fillN (undF k) 52 (6 * r + 6) := by
  refine fill_spl _ _ _ _ 2 (by simp [tabN_length]; omega) (by omega) fun j hj => ?_
  have e : ((((tabN k 52).drop (f - 2)).take 2).take 2).getD j 0 = (tabN k 52).getD (f - 2 + j) 0 := by simp [List.getD, hj]
  rw [e, tabN_get _ _ _ (by omega)]
  have hq : (6 * r + 4 + j) / 6 = r := by omega
  have hm : (6 * r + 4 + j) % 6 = 4 + j := by omega
  subst hf
  unfold undF
  simp only [hq, hm]
  match j, hj with
  | 0, _ => rfl
  | 1, _ =>
    rw [show 48 - 6 * r - 2 + 1 = 48 - 6 * r - 1 by omega]
    rfl
/-- copy into a block of numbers, as the end of a region. -/
theorem wpL_copy_blk {ops : Array Oper} {rest : List Oper} {o : Oper} {a : Act} {w : World} {Q : Exit → Act → World → Prop} {g : Nat} {e : TypeId} {L : List Int} (hgd : o.guard = none) (d s : Operand) (ho : o.op = .call { callee := .builtin .copy, args := #[d, s], argTypes := #[25, 25] })
    (off nd cap ns cs B q : Nat) (b0 o0 : Nat) (ys : List Int) (hd : a.eval d = .slice (some ⟨g, off, none⟩) nd cap) (hs : a.eval s = .slice (some ⟨b0, o0, none⟩) ns cs)
    (hb : Blk w g e L) (hq : q = min ns nd) (hfit : off + q ≤ L.length) (hr : RdN .i64 w B (some ⟨b0, o0, none⟩) ns ys)
    (h : ∀ w', Blk w' g e (spl L off (ys.take q)) → w.grownBy w' (some g) → wpList Try.prog ops Q rest (a.put o.dst (goInt q)) w') : wpList Try.prog ops Q (o :: rest) a w :=
  wpList_plain hgd fun _ hK => wp_copy_blk d s ho off nd cap ns cs B q b0 o0 ys hd hs hb hq hfit hr fun w' h1 h2 => hK _ _ (h w' h1 h2)
theorem step_build4 {ops : Array Oper} {V : Nat → World → Value → Prop} {i : Nat} {a : Act} {w : World} {Q : Exit → Act → World → Prop} {o : Oper} {x0 x1 x2 x3 : Operand} {n0 n1 n2 n3 : Int} (hw : Region.wanted o (yielded ops a.tmps) = true)
    (hop : o.op = .build 57 #[(0, x0), (1, x1), (2, x2), (3, x3)]) (h0 : a.eval x0 = .int .i64 n0) (h1 : a.eval x1 = .int .i64 n1) (h2 : a.eval x2 = .int .i64 n2) (h3 : a.eval x3 = .int .i64 n3)
    (hV : V i w (.agg #[.int .i64 n0, .int .i64 n1, .int .i64 n2, .int .i64 n3])) : Step Try.prog ops V Q i o a w := by
  have e : (Instr.build 57 #[(0, .int .i64 n0), (1, .int .i64 n1), (2, .int .i64 n2), (3, .int .i64 n3)]).run Try.prog w = .ok (.agg #[.int .i64 n0, .int .i64 n1, .int .i64 n2, .int .i64 n3]) w := by go_simp
  refine step_val hw ?_ (Ext.refl _) hV
  simp only [execOp, hop, List.map_toArray, List.map_cons, List.map_nil, h0, h1, h2, h3, Sem.run_bind, e, Sem.run_pure, Result.andThen]
def und7 (G f Hz v0 v1 v2 v3 : Nat) (k : Nat → Nat) : List K := [.eq (.slice (some ⟨G, f, none⟩) (52 - f) (52 - f)), .eq (.pointer (some ⟨G, f, none⟩)), .eq (.int .i64 (k (f) : Nat)), .eq (.int .i64 (v0 : Nat)), .eq (.slice (some ⟨G, f, none⟩) (52 - f) (52 - f)), .eq (.pointer (some ⟨G, f + 1, none⟩)), .eq (.int .i64 (k (f + 1) : Nat)), .eq (.int .i64 (v1 : Nat)), .eq (.slice (some ⟨G, f, none⟩) (52 - f) (52 - f)), .eq (.pointer (some ⟨G, f + 2, none⟩)), .eq (.int .i64 (k (f + 2) : Nat)), .eq (.int .i64 (v2 : Nat)), .eq (.slice (some ⟨G, f, none⟩) (52 - f) (52 - f)), .eq (.pointer (some ⟨G, f + 3, none⟩)), .eq (.int .i64 (k (f + 3) : Nat)), .eq (.int .i64 (v3 : Nat)), .eq (.agg (F4.mk v0 v1 v2 v3).cells), .new Hz (F4.mk 0 0 0 0).cells 57, .any]
def und10 (G r b7 : Nat) : List K := [.eq (.int .i64 (6 * r : Nat)), .eq (.slice (some ⟨G + 1 + 1, 6 * r, none⟩) (52 - 6 * r) (52 - 6 * r)), .eq (.slice (some ⟨b7, 0, none⟩) 4 4), .any]
def und12 (G r f : Nat) : List K := [.eq (.int .i64 (6 * r : Nat)), .eq (.int .i64 (6 * r + 4 : Nat)), .eq (.slice (some ⟨G + 1 + 1, 6 * r + 4, none⟩) (52 - (6 * r + 4)) (52 - (6 * r + 4))), .eq (.int .i64 f), .eq (.int .i64 (f - 2 : Nat)), .eq (.int .i64 f), .eq (.slice (some ⟨G, f - 2, none⟩) 2 (52 - (f - 2))), .any]
set_option maxRecDepth 100000 in
set_option maxHeartbeats 8000000 in
theorem undoing_any (k : Nat → Nat) (w : World) (hl : ∀ i, k i < 65536) :
    Calls Try.prog 25 #[.agg (cN .i64 (tabN k 52)).toArray] w fun e w' => e = .returned (.agg (cN .i64 (tabN (undF k) 52)).toArray) ∧ Ext w w' := by
  have HL := hid hl
  have a1 := Blk.alloc w 53 (tabN k 52)
  have x1 := Ext.alloc w (.cells (cN .i64 (tabN k 52)).toArray 53)
  obtain ⟨W2, hW2⟩ : ∃ W2, w.alloc (.cells (cN .i64 (tabN k 52)).toArray 53) = W2 := ⟨_, rfl⟩
  have z2 : W2.heap.size = w.heap.size + 1 := by rw [← hW2]; simp
  have a2 := Blk.alloc W2 53 (fillN (undF k) 52 0)
  have x2 := Ext.alloc W2 (.cells (cN .i64 (fillN (undF k) 52 0)).toArray 53)
  obtain ⟨W3, hW3⟩ : ∃ W3, W2.alloc (.cells (cN .i64 (fillN (undF k) 52 0)).toArray 53) = W3 := ⟨_, rfl⟩
  have z3 : W3.heap.size = w.heap.size + 1 + 1 := by rw [← hW3]; simp [z2]
  have a3 := Blk.alloc W3 53 (fillN (undF k) 52 0)
  have x3 := Ext.alloc W3 (.cells (cN .i64 (fillN (undF k) 52 0)).toArray 53)
  obtain ⟨W4, hW4⟩ : ∃ W4, W3.alloc (.cells (cN .i64 (fillN (undF k) 52 0)).toArray 53) = W4 := ⟨_, rfl⟩
  rw [hW2] at a1 x1
  rw [hW3] at a2 x2
  rw [hW4] at a3 x3
  rw [z2] at a2
  rw [z3] at a3
  have HALL := hid (show ((w.alloc (.cells (cN .i64 (tabN k 52)).toArray 53)).alloc (.cells #[.int .i64 0, .int .i64 0, .int .i64 0, .int .i64 0, .int .i64 0, .int .i64 0, .int .i64 0, .int .i64 0, .int .i64 0, .int .i64 0, .int .i64 0, .int .i64 0, .int .i64 0, .int .i64 0, .int .i64 0, .int .i64 0, .int .i64 0, .int .i64 0, .int .i64 0, .int .i64 0, .int .i64 0, .int .i64 0, .int .i64 0, .int .i64 0, .int .i64 0, .int .i64 0, .int .i64 0, .int .i64 0, .int .i64 0, .int .i64 0, .int .i64 0, .int .i64 0, .int .i64 0, .int .i64 0, .int .i64 0, .int .i64 0, .int .i64 0, .int .i64 0, .int .i64 0, .int .i64 0, .int .i64 0, .int .i64 0, .int .i64 0, .int .i64 0, .int .i64 0, .int .i64 0, .int .i64 0, .int .i64 0, .int .i64 0, .int .i64 0, .int .i64 0, .int .i64 0] 53)).alloc (.cells #[.int .i64 0, .int .i64 0, .int .i64 0, .int .i64 0, .int .i64 0, .int .i64 0, .int .i64 0, .int .i64 0, .int .i64 0, .int .i64 0, .int .i64 0, .int .i64 0, .int .i64 0, .int .i64 0, .int .i64 0, .int .i64 0, .int .i64 0, .int .i64 0, .int .i64 0, .int .i64 0, .int .i64 0, .int .i64 0, .int .i64 0, .int .i64 0, .int .i64 0, .int .i64 0, .int .i64 0, .int .i64 0, .int .i64 0, .int .i64 0, .int .i64 0, .int .i64 0, .int .i64 0, .int .i64 0, .int .i64 0, .int .i64 0, .int .i64 0, .int .i64 0, .int .i64 0, .int .i64 0, .int .i64 0, .int .i64 0, .int .i64 0, .int .i64 0, .int .i64 0, .int .i64 0, .int .i64 0, .int .i64 0, .int .i64 0, .int .i64 0, .int .i64 0, .int .i64 0] 53) = W4 by rw [← hW4, ← hW3, ← hW2, fillN_zero]; rfl)
  have HA0 := hid (a1.later (x2.trans x3))
  have HR0 := hid (a2.later x3)
  have HV0 := hid a3
  have HE0 := hid ((x1.trans x2).trans x3)
  clear hl a1 x1 hW2 z2 a2 x2 hW3 z3 a3 x3 hW4
  go_enter Try.func25, Try.ntmps25
  go_wp2_with fail
  rw [HALL.out]
  obtain ⟨G, hG⟩ : ∃ G, w.heap.size = G := ⟨_, rfl⟩
  rw [hG] at HA0 HR0 HV0 ⊢
  have HG := hid hG
  clear HALL hG
  go_loopw [4] (fun i wr => ∃ (r : Nat), r ≤ 9 ∧ i = .int .i64 (6 * r : Nat) ∧ Blk wr G 53 (tabN k 52) ∧ Blk wr (G + 1 + 1) 53 (fillN (undF k) 52 (min (6 * r) 52)) ∧ Blk wr (G + 1) 53 (fillN (undF k) 52 0) ∧ Ext w wr) (fun i _ => 60 - (intOf i).toNat)
  case atStart => exact ⟨0, by omega, rfl, HA0.out, HV0.out, HR0.out, HE0.out⟩
  case round =>
    clear HA0 HR0 HV0 HE0
    obtain ⟨r, hr, rfl, ha, hv, hrr, he⟩ := hrel
    by_cases hlt : r ≤ 8
    · obtain ⟨f, hf⟩ : ∃ f, f = 48 - 6 * r := ⟨_, rfl⟩
      have hfi : (48 : Int) - 6 * (r : Int) = (f : Int) := by omega
      have hwf : IntKind.i64.wrap ((48 : Int) - 6 * (r : Int)) = (f : Int) := by rw [wrap_i64 (by omega) (by omega)]; exact hfi
      have h52 : 6 * (r : Int) < 52 := by omega
      have HSL := hid (fun w => arr53_l G f w (by omega))
      have HKA := hid (ha.kat)
      have HN := hid (show ¬ 52 - f = 0 ∧ (1 : Int) < ((52 - f : Nat) : Int) ∧ (2 : Int) < ((52 - f : Nat) : Int) ∧ (3 : Int) < ((52 - f : Nat) : Int) from ⟨by omega, by omega, by omega, by omega⟩)
      obtain ⟨Hz, hHz⟩ : ∃ Hz, wr.heap.size = Hz := ⟨_, rfl⟩
      have HZ := hid hHz
      have hGz : G + 1 + 1 < Hz := by have := hv.lt; omega
      rw [show min (6 * r) 52 = 6 * r by omega] at hv
      have HA := hid ha
      have HV := hid hv
      have HRR := hid hrr
      have HE := hid he
      have HF := hid hf
      have HFI := hid hfi
      have hfb : f ≤ 48 := by omega
      clear ha hv hrr he hHz hfi hf
      go_wp2_with (rw [HSL.out]; simp only [Result.andThen]; rw [Oper.upon_value])
      obtain ⟨v0, hv0⟩ : ∃ v, invF (k f) = v := ⟨_, rfl⟩
      obtain ⟨v1, hv1⟩ : ∃ v, negF (k (f + 1)) = v := ⟨_, rfl⟩
      obtain ⟨v2, hv2⟩ : ∃ v, negF (k (f + 2)) = v := ⟨_, rfl⟩
      obtain ⟨v3, hv3⟩ : ∃ v, invF (k (f + 3)) = v := ⟨_, rfl⟩
      have C0 := hid (fun w => show Calls Try.prog 15 #[.int .i64 (k f : Nat)] w fun e w' => e = .returned (.int .i64 (v0 : Nat)) ∧ w = w' by rw [← hv0]; exact inv_any _ _ (HL.out _))
      have C1 := hid (fun w => show Calls Try.prog 29 #[.int .i64 (k (f + 1) : Nat)] w fun e w' => e = .returned (.int .i64 (v1 : Nat)) ∧ w = w' by rw [← hv1]; exact minus_any _ _ (HL.out _))
      have C2 := hid (fun w => show Calls Try.prog 29 #[.int .i64 (k (f + 2) : Nat)] w fun e w' => e = .returned (.int .i64 (v2 : Nat)) ∧ w = w' by rw [← hv2]; exact minus_any _ _ (HL.out _))
      have C3 := hid (fun w => show Calls Try.prog 15 #[.int .i64 (k (f + 3) : Nat)] w fun e w' => e = .returned (.int .i64 (v3 : Nat)) ∧ w = w' by rw [← hv3]; exact inv_any _ _ (HL.out _))
      have HUU := hid (show undU k f = (F4.mk v0 v1 v2 v3) by unfold undU; rw [hv0, hv1, hv2, hv3])
      clear hv0 hv1 hv2 hv3
      go_wp2_with fail
      refine region_upto 18 mixed rfl (by kernel_rfl) (by kernel_rfl) (by kernel_rfl) (kV (und7 G f Hz v0 v1 v2 v3 k)) (kV_keep _) (forall_ops ⟨?_, ?_, ?_, ?_, ?_, ?_, ?_, ?_, ?_, ?_, ?_, ?_, ?_, ?_, ?_, ?_, ?_, ?_, trivial⟩) ?_
      · intro a w hk
        have s6 : a.tmps.getD 6 undef = .slice (some ⟨G, f, none⟩) (52 - f) (52 - f) := hk.was 6 (by kernel_rfl) rfl
        exact step_move rfl rfl s6 rfl
      · intro a w hk
        have s16 := hk.eq_ 0 16 (by kernel_rfl) rfl
        refine step_val (v := .pointer (some ⟨G, f, none⟩)) (w' := w) rfl ?_ (Ext.refl w) rfl
        obtain ⟨hn0, hn1, hn2, hn3⟩ := HN.out
        go_simp
      · intro a w hk
        have s17 := hk.eq_ 1 17 (by kernel_rfl) rfl
        refine step_val (v := .int .i64 (k (f) : Nat)) (w' := w) rfl ?_ (Ext.refl w) rfl
        have hc := (HKA.out.later hk.ext).2 (f) (by omega)
        rw [Nat.zero_add] at hc
        go_simp
      · intro a w hk
        have s18 := hk.eq_ 2 18 (by kernel_rfl) rfl
        exact step_call rfl rfl (by simp only [List.map_toArray, List.map_cons, List.map_nil, Act.eval, s18] <;> rfl) cf15 (C0.out w) (fun e w1 h => retE e w1 h)
      · intro a w hk
        have s6 : a.tmps.getD 6 undef = .slice (some ⟨G, f, none⟩) (52 - f) (52 - f) := hk.was 6 (by kernel_rfl) rfl
        exact step_move rfl rfl s6 rfl
      · intro a w hk
        have s20 := hk.eq_ 4 20 (by kernel_rfl) rfl
        refine step_val (v := .pointer (some ⟨G, f + 1, none⟩)) (w' := w) rfl ?_ (Ext.refl w) rfl
        obtain ⟨hn0, hn1, hn2, hn3⟩ := HN.out
        go_simp
      · intro a w hk
        have s21 := hk.eq_ 5 21 (by kernel_rfl) rfl
        refine step_val (v := .int .i64 (k (f + 1) : Nat)) (w' := w) rfl ?_ (Ext.refl w) rfl
        have hc := (HKA.out.later hk.ext).2 (f + 1) (by omega)
        rw [Nat.zero_add] at hc
        go_simp
      · intro a w hk
        have s22 := hk.eq_ 6 22 (by kernel_rfl) rfl
        exact step_call rfl rfl (by simp only [List.map_toArray, List.map_cons, List.map_nil, Act.eval, s22] <;> rfl) cf29 (C1.out w) (fun e w1 h => retE e w1 h)
      · intro a w hk
        have s6 : a.tmps.getD 6 undef = .slice (some ⟨G, f, none⟩) (52 - f) (52 - f) := hk.was 6 (by kernel_rfl) rfl
        exact step_move rfl rfl s6 rfl
      · intro a w hk
        have s24 := hk.eq_ 8 24 (by kernel_rfl) rfl
        refine step_val (v := .pointer (some ⟨G, f + 2, none⟩)) (w' := w) rfl ?_ (Ext.refl w) rfl
        obtain ⟨hn0, hn1, hn2, hn3⟩ := HN.out
        go_simp
      · intro a w hk
        have s25 := hk.eq_ 9 25 (by kernel_rfl) rfl
        refine step_val (v := .int .i64 (k (f + 2) : Nat)) (w' := w) rfl ?_ (Ext.refl w) rfl
        have hc := (HKA.out.later hk.ext).2 (f + 2) (by omega)
        rw [Nat.zero_add] at hc
        go_simp
      · intro a w hk
        have s26 := hk.eq_ 10 26 (by kernel_rfl) rfl
        exact step_call rfl rfl (by simp only [List.map_toArray, List.map_cons, List.map_nil, Act.eval, s26] <;> rfl) cf29 (C2.out w) (fun e w1 h => retE e w1 h)
      · intro a w hk
        have s6 : a.tmps.getD 6 undef = .slice (some ⟨G, f, none⟩) (52 - f) (52 - f) := hk.was 6 (by kernel_rfl) rfl
        exact step_move rfl rfl s6 rfl
      · intro a w hk
        have s28 := hk.eq_ 12 28 (by kernel_rfl) rfl
        refine step_val (v := .pointer (some ⟨G, f + 3, none⟩)) (w' := w) rfl ?_ (Ext.refl w) rfl
        obtain ⟨hn0, hn1, hn2, hn3⟩ := HN.out
        go_simp
      · intro a w hk
        have s29 := hk.eq_ 13 29 (by kernel_rfl) rfl
        refine step_val (v := .int .i64 (k (f + 3) : Nat)) (w' := w) rfl ?_ (Ext.refl w) rfl
        have hc := (HKA.out.later hk.ext).2 (f + 3) (by omega)
        rw [Nat.zero_add] at hc
        go_simp
      · intro a w hk
        have s30 := hk.eq_ 14 30 (by kernel_rfl) rfl
        exact step_call rfl rfl (by simp only [List.map_toArray, List.map_cons, List.map_nil, Act.eval, s30] <;> rfl) cf15 (C3.out w) (fun e w1 h => retE e w1 h)
      · intro a w hk
        have s19 := hk.eq_ 3 19 (by kernel_rfl) rfl
        have s23 := hk.eq_ 7 23 (by kernel_rfl) rfl
        have s27 := hk.eq_ 11 27 (by kernel_rfl) rfl
        have s31 := hk.eq_ 15 31 (by kernel_rfl) rfl
        exact step_build4 rfl rfl s19 s23 s27 s31 rfl
      · intro a w hk
        refine step_val (v := .pointer (some ⟨w.heap.size, 0, none⟩)) (w' := w.alloc (.cells (F4.mk 0 0 0 0).cells 57)) rfl ?_ (Ext.alloc _ _) ⟨w.heap.size, rfl, by have := HZ.out; have := Below.size hk.ext; omega, heap_alloc_new w _⟩
        go_simp
        rfl
      · intro a w1 hf
        have s16 := hf.eq_ 0 16 (by kernel_rfl) rfl
        have s17 := hf.eq_ 1 17 (by kernel_rfl) rfl
        have s18 := hf.eq_ 2 18 (by kernel_rfl) rfl
        have s19 := hf.eq_ 3 19 (by kernel_rfl) rfl
        have s20 := hf.eq_ 4 20 (by kernel_rfl) rfl
        have s21 := hf.eq_ 5 21 (by kernel_rfl) rfl
        have s22 := hf.eq_ 6 22 (by kernel_rfl) rfl
        have s23 := hf.eq_ 7 23 (by kernel_rfl) rfl
        have s24 := hf.eq_ 8 24 (by kernel_rfl) rfl
        have s25 := hf.eq_ 9 25 (by kernel_rfl) rfl
        have s26 := hf.eq_ 10 26 (by kernel_rfl) rfl
        have s27 := hf.eq_ 11 27 (by kernel_rfl) rfl
        have s28 := hf.eq_ 12 28 (by kernel_rfl) rfl
        have s29 := hf.eq_ 13 29 (by kernel_rfl) rfl
        have s30 := hf.eq_ 14 30 (by kernel_rfl) rfl
        have s31 := hf.eq_ 15 31 (by kernel_rfl) rfl
        have s32 := hf.eq_ 16 32 (by kernel_rfl) rfl
        obtain ⟨b7, s7, h7, g7⟩ := hf.val 17 7 (by kernel_rfl) rfl
        have hx := hf.ext
        have e := hf.frame
        clear hf
        simp only [List.take_succ_cons, List.take_zero, regFrame, Act.put, List.setIfInBounds_toArray, List.set_cons_zero, List.set_cons_succ, s16, s17, s18, s19, s20, s21, s22, s23, s24, s25, s26, s27, s28, s29, s30, s31, s32, s7] at e
        clear s16 s17 s18 s19 s20 s21 s22 s23 s24 s25 s26 s27 s28 s29 s30 s31 s32 s7
        subst e
        simp only [List.drop_succ_cons, List.drop_zero]
        have HG7 := hid g7
        have ha1 := HA.out.later hx
        have hv1 := HV.out.later hx
        have hr1 := HRR.out.later hx
        have he1 := HE.out.trans hx
        have hu1 : B4 w1 b7 ⟨0, 0, 0, 0⟩ := g7
        obtain ⟨W2, hW2⟩ : ∃ W2, w1.setRow b7 (F4.mk v0 v1 v2 v3).cells = W2 := ⟨_, rfl⟩
        have HU2 := hid (show B4 W2 b7 (F4.mk v0 v1 v2 v3) by rw [← hW2]; exact hu1.put _)
        have HA2 := hid (show Blk W2 G 53 (tabN k 52) by rw [← hW2]; exact ha1.putne _ _ (by omega))
        have HV2 := hid (show Blk W2 (G + 1 + 1) 53 (fillN (undF k) 52 (6 * r)) by rw [← hW2]; exact hv1.putne _ _ (by omega))
        have HRR2 := hid (show Blk W2 (G + 1) 53 (fillN (undF k) 52 0) by rw [← hW2]; exact hr1.putne _ _ (by omega))
        have HE2 := hid (show Ext w W2 by rw [← hW2]; exact Below.setRow_ he1 (by have := HG.out; omega) _)
        have HW2 := hid hW2
        clear ha1 hv1 hr1 he1 hu1 g7 hx hW2
        have hcond : r = 0 ∨ (0 < r ∧ r < 8) ∨ r = 8 := by omega
        rcases hcond with hr0 | hrm | hr8
        · have hd1 : decide (0 < 6 * (r : Int)) = false := by simp; omega
          have hd2 : ¬ (0 < 6 * (r : Int)) := by omega
          have hd3 : (0 : Int) < (f : Int) := by have := HF.out; omega
          have HF1 := hid (und_first k r f hlt HF.out (F4.mk v0 v1 v2 v3) (by rw [if_neg (by omega), HUU.out]))
          have HF2 := hid (und_second k r f (by omega) HF.out)
          have hf2 : 2 ≤ f := by have := HF.out; omega
          have hrl : r < 8 := by omega
          clear hr0
          go_wp2_with (refine wpList_store_row rfl 57 (.tmp 7) (.tmp 32) rfl b7 (F4.mk v0 v1 v2 v3).cells rfl rfl 57 _ HG7.out (F4.size _) rfl (F4.all _) ?_)
          rw [HW2.out]
          refine region_upto 3 mixed rfl (by kernel_rfl) (by kernel_rfl) (by kernel_rfl) (kV (und10 G r b7)) (kV_keep _) (forall_ops ⟨?_, ?_, ?_, trivial⟩) ?_
          · intro a w hk
            have s4 : a.tmps.getD 4 undef = .int .i64 (6 * r : Nat) := hk.was 4 (by kernel_rfl) rfl
            exact step_move rfl rfl s4 rfl
          · intro a w hk
            have s3 : a.tmps.getD 3 undef = .pointer (some ⟨G + 1 + 1, 0, none⟩) := hk.was 3 (by kernel_rfl) rfl
            have s45 := hk.eq_ 0 45 (by kernel_rfl) rfl
            refine step_val (v := .slice (some ⟨G + 1 + 1, 6 * r, none⟩) (52 - 6 * r) (52 - 6 * r)) (w' := w) rfl ?_ (Ext.refl w) rfl
            have e := arr53_l (G + 1 + 1) (6 * r) w (by omega)
            simp only [execOp, Act.eval, Option.map_some, Option.map_none, s3, s45, Sem.run_bind, e, Sem.run_pure, Result.andThen]
          · intro a w hk
            have s7 : a.tmps.getD 7 undef = .pointer (some ⟨b7, 0, none⟩) := hk.was 7 (by kernel_rfl) rfl
            refine step_val (v := .slice (some ⟨b7, 0, none⟩) 4 4) (w' := w) rfl ?_ (Ext.refl w) rfl
            have e := arr57_all b7 w
            simp only [execOp, Act.eval, Option.map_none, s7, Sem.run_bind, e, Sem.run_pure, Result.andThen]
          · intro a w1 hf
            have s45 := hf.eq_ 0 45 (by kernel_rfl) rfl
            have s46 := hf.eq_ 1 46 (by kernel_rfl) rfl
            have s47 := hf.eq_ 2 47 (by kernel_rfl) rfl
            have hx := hf.ext
            have e := hf.frame
            clear hf
            simp only [List.take_succ_cons, List.take_zero, regFrame, Act.put, List.setIfInBounds_toArray, List.set_cons_zero, List.set_cons_succ, s45, s46, s47] at e
            clear s45 s46 s47
            subst e
            simp only [List.drop_succ_cons, List.drop_zero]
            have hv1 := HV2.out.later hx
            have hu1 := B4.later HU2.out hx
            have ha1 := HA2.out.later hx
            have hr1 := HRR2.out.later hx
            have he1 := HE2.out.trans hx
            clear hx
            refine wpL_copy_blk rfl (.tmp 46) (.tmp 47) rfl (6 * r) (52 - 6 * r) (52 - 6 * r) 4 4 _ 4 b7 0 _ rfl rfl hv1 (by omega) (by rw [fillN_length]; omega) (Blk.rd hu1 0 4 (by simp [F4.list])) ?_
            intro w5 hb5 hg5
            rw [HF1.out] at hb5
            have HV5 := hid hb5
            have HA5 := hid (ha1.grown hg5 (by omega))
            have HR5 := hid (hr1.grown hg5 (by omega))
            have HE5 := hid (he1.below hg5 (by have := HG.out; omega))
            clear hv1 hu1 ha1 hr1 he1 hb5 hg5 HV2 HU2 HA2 HRR2 HE2
            go_wp2_with fail
            refine region_upto 7 mixed rfl (by kernel_rfl) (by kernel_rfl) (by kernel_rfl) (kV (und12 G r f)) (kV_keep _) (forall_ops ⟨?_, ?_, ?_, ?_, ?_, ?_, ?_, trivial⟩) ?_
            · intro a w hk
              have s4 : a.tmps.getD 4 undef = .int .i64 (6 * r : Nat) := hk.was 4 (by kernel_rfl) rfl
              exact step_move rfl rfl s4 rfl
            · intro a w hk
              have s51 := hk.eq_ 0 51 (by kernel_rfl) rfl
              refine step_val (v := .int .i64 (6 * r + 4 : Nat)) (w' := w) rfl ?_ (Ext.refl w) rfl
              go_simp
              exact wrap_i64 (by omega) (by omega)
            · intro a w hk
              have s3 : a.tmps.getD 3 undef = .pointer (some ⟨G + 1 + 1, 0, none⟩) := hk.was 3 (by kernel_rfl) rfl
              have s52 := hk.eq_ 1 52 (by kernel_rfl) rfl
              refine step_val (v := .slice (some ⟨G + 1 + 1, 6 * r + 4, none⟩) (52 - (6 * r + 4)) (52 - (6 * r + 4))) (w' := w) rfl ?_ (Ext.refl w) rfl
              have e := arr53_l (G + 1 + 1) (6 * r + 4) w (by omega)
              simp only [execOp, Act.eval, Option.map_some, Option.map_none, s3, s52, Sem.run_bind, e, Sem.run_pure, Result.andThen]
            · intro a w hk
              have s5 : a.tmps.getD 5 undef = .int .i64 f := hk.was 5 (by kernel_rfl) rfl
              exact step_move rfl rfl s5 rfl
            · intro a w hk
              have s54 := hk.eq_ 3 54 (by kernel_rfl) rfl
              refine step_val (v := .int .i64 (f - 2 : Nat)) (w' := w) rfl ?_ (Ext.refl w) rfl
              have e2 : IntKind.i64.wrap ((f : Int) - 2) = ((f - 2 : Nat) : Int) := by rw [wrap_i64 (by omega) (by omega)]; omega
              go_simp
            · intro a w hk
              have s5 : a.tmps.getD 5 undef = .int .i64 f := hk.was 5 (by kernel_rfl) rfl
              exact step_move rfl rfl s5 rfl
            · intro a w hk
              have s1 : a.tmps.getD 1 undef = .pointer (some ⟨G, 0, none⟩) := hk.was 1 (by kernel_rfl) rfl
              have s55 := hk.eq_ 4 55 (by kernel_rfl) rfl
              have s56 := hk.eq_ 5 56 (by kernel_rfl) rfl
              refine step_val (v := .slice (some ⟨G, f - 2, none⟩) 2 (52 - (f - 2))) (w' := w) rfl ?_ (Ext.refl w) rfl
              have e := arr53_lh G (f - 2) f w (by omega) (by omega) (by omega)
              rw [show f - (f - 2) = 2 by omega] at e
              simp only [execOp, Act.eval, Option.map_some, Option.map_none, s1, s55, s56, Sem.run_bind, e, Sem.run_pure, Result.andThen]
            · intro a w1 hf
              have s51 := hf.eq_ 0 51 (by kernel_rfl) rfl
              have s52 := hf.eq_ 1 52 (by kernel_rfl) rfl
              have s53 := hf.eq_ 2 53 (by kernel_rfl) rfl
              have s54 := hf.eq_ 3 54 (by kernel_rfl) rfl
              have s55 := hf.eq_ 4 55 (by kernel_rfl) rfl
              have s56 := hf.eq_ 5 56 (by kernel_rfl) rfl
              have s57 := hf.eq_ 6 57 (by kernel_rfl) rfl
              have hx := hf.ext
              have e := hf.frame
              clear hf
              simp only [List.take_succ_cons, List.take_zero, regFrame, Act.put, List.setIfInBounds_toArray, List.set_cons_zero, List.set_cons_succ, s51, s52, s53, s54, s55, s56, s57] at e
              clear s51 s52 s53 s54 s55 s56 s57
              subst e
              simp only [List.drop_succ_cons, List.drop_zero]
              have hv1 := HV5.out.later hx
              have ha1 := HA5.out.later hx
              have hr1 := HR5.out.later hx
              have he1 := HE5.out.trans hx
              clear hx
              refine wpL_copy_blk rfl (.tmp 53) (.tmp 57) rfl (6 * r + 4) (52 - (6 * r + 4)) (52 - (6 * r + 4)) 2 (52 - (f - 2)) _ 2 G (f - 2) _ rfl rfl hv1 (by omega) (by rw [fillN_length]; omega) (ha1.rd (f - 2) 2 (by rw [tabN_length]; omega)) ?_
              intro w6 hb6 hg6
              rw [HF2.out] at hb6
              have HV6 := hid hb6
              have HA6 := hid (ha1.grown hg6 (by omega))
              have HR6 := hid (hr1.grown hg6 (by omega))
              have HE6 := hid (he1.below hg6 (by have := HG.out; omega))
              clear hv1 ha1 hr1 he1 hb6 hg6 HV5 HA5 HR5 HE5
              go_wp2_with fail
              go_roundw
              case rel => exact ⟨r + 1, by omega, by rw [show ((6 * (r + 1) : Nat) : Int) = 6 * (r : Int) + 6 by omega], HA6.out, by rw [show min (6 * (r + 1)) 52 = 6 * r + 6 by omega]; exact HV6.out, HR6.out, HE6.out⟩
              case measure => simp [intOf]; omega
        · have hd1 : (0 : Int) < 6 * (r : Int) := by omega
          have hd3 : (0 : Int) < (f : Int) := by have := HF.out; omega
          have HF1 := hid (und_first k r f hlt HF.out ⟨v0, v2, v1, v3⟩ (by rw [if_pos hrm, HUU.out]; rfl))
          have HF2 := hid (und_second k r f (by omega) HF.out)
          have hfl : 2 ≤ f := by have := HF.out; omega
          have hrl : r < 8 := by omega
          have hu2 := HU2.out
          have hcb := B4.cb hu2
          have hcc := B4.cc hu2
          have hf1 := Blk.frozen hu2 1
          have hf2 := Blk.frozen hu2 2
          have hsw := Blk.set_ (Blk.set_ hu2 1 (v2 : Nat)) 2 (v1 : Nat)
          have ha3 := Blk.setne (Blk.setne HA2.out ⟨b7, 1, none⟩ (.int .i64 (v2 : Nat)) (by simp; omega)) ⟨b7, 2, none⟩ (.int .i64 (v1 : Nat)) (by simp; omega)
          have hv3 := Blk.setne (Blk.setne HV2.out ⟨b7, 1, none⟩ (.int .i64 (v2 : Nat)) (by simp; omega)) ⟨b7, 2, none⟩ (.int .i64 (v1 : Nat)) (by simp; omega)
          have hr3 := Blk.setne (Blk.setne HRR2.out ⟨b7, 1, none⟩ (.int .i64 (v2 : Nat)) (by simp; omega)) ⟨b7, 2, none⟩ (.int .i64 (v1 : Nat)) (by simp; omega)
          have he3 := Below.setCell (Below.setCell HE2.out (p := ⟨b7, 1, none⟩) (by have := HG.out; simp; omega) (.int .i64 (v2 : Nat))) (p := ⟨b7, 2, none⟩) (by have := HG.out; simp; omega) (.int .i64 (v1 : Nat))
          have HSW := hid hsw
          have HA3 := hid ha3
          have HV3 := hid hv3
          have HR3 := hid hr3
          have HE3 := hid he3
          clear hsw ha3 hv3 hr3 he3 hu2 hrm
          go_wp2_with (refine wpList_store_row rfl 57 (.tmp 7) (.tmp 32) rfl b7 (F4.mk v0 v1 v2 v3).cells rfl rfl 57 _ HG7.out (F4.size _) rfl (F4.all _) ?_; rw [HW2.out])
          obtain ⟨W3, hW3⟩ : ∃ W3, (W2.setCell ⟨b7, 1, none⟩ (.int .i64 (v2 : Nat))).setCell ⟨b7, 2, none⟩ (.int .i64 (v1 : Nat)) = W3 := ⟨_, rfl⟩
          rw [hW3] at HSW HA3 HV3 HR3 HE3 ⊢
          have HU2 := hid (show B4 W3 b7 ⟨v0, v2, v1, v3⟩ from HSW.out)
          have HA2 := HA3
          have HV2 := HV3
          have HRR2 := HR3
          have HE2 := hid (show Ext w W3 from HE3.out)
          clear hW3 HSW HA3 HV3 HR3 HE3 hcb hcc hf1 hf2
          refine region_upto 3 mixed rfl (by kernel_rfl) (by kernel_rfl) (by kernel_rfl) (kV (und10 G r b7)) (kV_keep _) (forall_ops ⟨?_, ?_, ?_, trivial⟩) ?_
          · intro a w hk
            have s4 : a.tmps.getD 4 undef = .int .i64 (6 * r : Nat) := hk.was 4 (by kernel_rfl) rfl
            exact step_move rfl rfl s4 rfl
          · intro a w hk
            have s3 : a.tmps.getD 3 undef = .pointer (some ⟨G + 1 + 1, 0, none⟩) := hk.was 3 (by kernel_rfl) rfl
            have s45 := hk.eq_ 0 45 (by kernel_rfl) rfl
            refine step_val (v := .slice (some ⟨G + 1 + 1, 6 * r, none⟩) (52 - 6 * r) (52 - 6 * r)) (w' := w) rfl ?_ (Ext.refl w) rfl
            have e := arr53_l (G + 1 + 1) (6 * r) w (by omega)
            simp only [execOp, Act.eval, Option.map_some, Option.map_none, s3, s45, Sem.run_bind, e, Sem.run_pure, Result.andThen]
          · intro a w hk
            have s7 : a.tmps.getD 7 undef = .pointer (some ⟨b7, 0, none⟩) := hk.was 7 (by kernel_rfl) rfl
            refine step_val (v := .slice (some ⟨b7, 0, none⟩) 4 4) (w' := w) rfl ?_ (Ext.refl w) rfl
            have e := arr57_all b7 w
            simp only [execOp, Act.eval, Option.map_none, s7, Sem.run_bind, e, Sem.run_pure, Result.andThen]
          · intro a w1 hf
            have s45 := hf.eq_ 0 45 (by kernel_rfl) rfl
            have s46 := hf.eq_ 1 46 (by kernel_rfl) rfl
            have s47 := hf.eq_ 2 47 (by kernel_rfl) rfl
            have hx := hf.ext
            have e := hf.frame
            clear hf
            simp only [List.take_succ_cons, List.take_zero, regFrame, Act.put, List.setIfInBounds_toArray, List.set_cons_zero, List.set_cons_succ, s45, s46, s47] at e
            clear s45 s46 s47
            subst e
            simp only [List.drop_succ_cons, List.drop_zero]
            have hv1 := HV2.out.later hx
            have hu1 := B4.later HU2.out hx
            have ha1 := HA2.out.later hx
            have hr1 := HRR2.out.later hx
            have he1 := HE2.out.trans hx
            clear hx
            refine wpL_copy_blk rfl (.tmp 46) (.tmp 47) rfl (6 * r) (52 - 6 * r) (52 - 6 * r) 4 4 _ 4 b7 0 _ rfl rfl hv1 (by omega) (by rw [fillN_length]; omega) (Blk.rd hu1 0 4 (by simp [F4.list])) ?_
            intro w5 hb5 hg5
            rw [HF1.out] at hb5
            have HV5 := hid hb5
            have HA5 := hid (ha1.grown hg5 (by omega))
            have HR5 := hid (hr1.grown hg5 (by omega))
            have HE5 := hid (he1.below hg5 (by have := HG.out; omega))
            clear hv1 hu1 ha1 hr1 he1 hb5 hg5 HV2 HU2 HA2 HRR2 HE2
            go_wp2_with fail
            refine region_upto 7 mixed rfl (by kernel_rfl) (by kernel_rfl) (by kernel_rfl) (kV (und12 G r f)) (kV_keep _) (forall_ops ⟨?_, ?_, ?_, ?_, ?_, ?_, ?_, trivial⟩) ?_
            · intro a w hk
              have s4 : a.tmps.getD 4 undef = .int .i64 (6 * r : Nat) := hk.was 4 (by kernel_rfl) rfl
              exact step_move rfl rfl s4 rfl
            · intro a w hk
              have s51 := hk.eq_ 0 51 (by kernel_rfl) rfl
              refine step_val (v := .int .i64 (6 * r + 4 : Nat)) (w' := w) rfl ?_ (Ext.refl w) rfl
              go_simp
              exact wrap_i64 (by omega) (by omega)
            · intro a w hk
              have s3 : a.tmps.getD 3 undef = .pointer (some ⟨G + 1 + 1, 0, none⟩) := hk.was 3 (by kernel_rfl) rfl
              have s52 := hk.eq_ 1 52 (by kernel_rfl) rfl
              refine step_val (v := .slice (some ⟨G + 1 + 1, 6 * r + 4, none⟩) (52 - (6 * r + 4)) (52 - (6 * r + 4))) (w' := w) rfl ?_ (Ext.refl w) rfl
              have e := arr53_l (G + 1 + 1) (6 * r + 4) w (by omega)
              simp only [execOp, Act.eval, Option.map_some, Option.map_none, s3, s52, Sem.run_bind, e, Sem.run_pure, Result.andThen]
            · intro a w hk
              have s5 : a.tmps.getD 5 undef = .int .i64 f := hk.was 5 (by kernel_rfl) rfl
              exact step_move rfl rfl s5 rfl
            · intro a w hk
              have s54 := hk.eq_ 3 54 (by kernel_rfl) rfl
              refine step_val (v := .int .i64 (f - 2 : Nat)) (w' := w) rfl ?_ (Ext.refl w) rfl
              have e2 : IntKind.i64.wrap ((f : Int) - 2) = ((f - 2 : Nat) : Int) := by rw [wrap_i64 (by omega) (by omega)]; omega
              go_simp
            · intro a w hk
              have s5 : a.tmps.getD 5 undef = .int .i64 f := hk.was 5 (by kernel_rfl) rfl
              exact step_move rfl rfl s5 rfl
            · intro a w hk
              have s1 : a.tmps.getD 1 undef = .pointer (some ⟨G, 0, none⟩) := hk.was 1 (by kernel_rfl) rfl
              have s55 := hk.eq_ 4 55 (by kernel_rfl) rfl
              have s56 := hk.eq_ 5 56 (by kernel_rfl) rfl
              refine step_val (v := .slice (some ⟨G, f - 2, none⟩) 2 (52 - (f - 2))) (w' := w) rfl ?_ (Ext.refl w) rfl
              have e := arr53_lh G (f - 2) f w (by omega) (by omega) (by omega)
              rw [show f - (f - 2) = 2 by omega] at e
              simp only [execOp, Act.eval, Option.map_some, Option.map_none, s1, s55, s56, Sem.run_bind, e, Sem.run_pure, Result.andThen]
            · intro a w1 hf
              have s51 := hf.eq_ 0 51 (by kernel_rfl) rfl
              have s52 := hf.eq_ 1 52 (by kernel_rfl) rfl
              have s53 := hf.eq_ 2 53 (by kernel_rfl) rfl
              have s54 := hf.eq_ 3 54 (by kernel_rfl) rfl
              have s55 := hf.eq_ 4 55 (by kernel_rfl) rfl
              have s56 := hf.eq_ 5 56 (by kernel_rfl) rfl
              have s57 := hf.eq_ 6 57 (by kernel_rfl) rfl
              have hx := hf.ext
              have e := hf.frame
              clear hf
              simp only [List.take_succ_cons, List.take_zero, regFrame, Act.put, List.setIfInBounds_toArray, List.set_cons_zero, List.set_cons_succ, s51, s52, s53, s54, s55, s56, s57] at e
              clear s51 s52 s53 s54 s55 s56 s57
              subst e
              simp only [List.drop_succ_cons, List.drop_zero]
              have hv1 := HV5.out.later hx
              have ha1 := HA5.out.later hx
              have hr1 := HR5.out.later hx
              have he1 := HE5.out.trans hx
              clear hx
              refine wpL_copy_blk rfl (.tmp 53) (.tmp 57) rfl (6 * r + 4) (52 - (6 * r + 4)) (52 - (6 * r + 4)) 2 (52 - (f - 2)) _ 2 G (f - 2) _ rfl rfl hv1 (by omega) (by rw [fillN_length]; omega) (ha1.rd (f - 2) 2 (by rw [tabN_length]; omega)) ?_
              intro w6 hb6 hg6
              rw [HF2.out] at hb6
              have HV6 := hid hb6
              have HA6 := hid (ha1.grown hg6 (by omega))
              have HR6 := hid (hr1.grown hg6 (by omega))
              have HE6 := hid (he1.below hg6 (by have := HG.out; omega))
              clear hv1 ha1 hr1 he1 hb6 hg6 HV5 HA5 HR5 HE5
              go_wp2_with fail
              go_roundw
              case rel => exact ⟨r + 1, by omega, by rw [show ((6 * (r + 1) : Nat) : Int) = 6 * (r : Int) + 6 by omega], HA6.out, by rw [show min (6 * (r + 1)) 52 = 6 * r + 6 by omega]; exact HV6.out, HR6.out, HE6.out⟩
              case measure => simp [intOf]; omega
        · have hd1 : (0 : Int) < 6 * (r : Int) := by omega
          have hd2 : decide ((0 : Int) < (f : Int)) = false := by have := HF.out; simp; omega
          have hd3 : ¬ ((0 : Int) < (f : Int)) := by have := HF.out; omega
          have HF1 := hid (und_first k r f hlt HF.out (F4.mk v0 v1 v2 v3) (by rw [if_neg (by omega), HUU.out]))
          have hre : 8 ≤ r := by omega
          clear hr8
          go_wp2_with (refine wpList_store_row rfl 57 (.tmp 7) (.tmp 32) rfl b7 (F4.mk v0 v1 v2 v3).cells rfl rfl 57 _ HG7.out (F4.size _) rfl (F4.all _) ?_)
          rw [HW2.out]
          refine region_upto 3 mixed rfl (by kernel_rfl) (by kernel_rfl) (by kernel_rfl) (kV (und10 G r b7)) (kV_keep _) (forall_ops ⟨?_, ?_, ?_, trivial⟩) ?_
          · intro a w hk
            have s4 : a.tmps.getD 4 undef = .int .i64 (6 * r : Nat) := hk.was 4 (by kernel_rfl) rfl
            exact step_move rfl rfl s4 rfl
          · intro a w hk
            have s3 : a.tmps.getD 3 undef = .pointer (some ⟨G + 1 + 1, 0, none⟩) := hk.was 3 (by kernel_rfl) rfl
            have s45 := hk.eq_ 0 45 (by kernel_rfl) rfl
            refine step_val (v := .slice (some ⟨G + 1 + 1, 6 * r, none⟩) (52 - 6 * r) (52 - 6 * r)) (w' := w) rfl ?_ (Ext.refl w) rfl
            have e := arr53_l (G + 1 + 1) (6 * r) w (by omega)
            simp only [execOp, Act.eval, Option.map_some, Option.map_none, s3, s45, Sem.run_bind, e, Sem.run_pure, Result.andThen]
          · intro a w hk
            have s7 : a.tmps.getD 7 undef = .pointer (some ⟨b7, 0, none⟩) := hk.was 7 (by kernel_rfl) rfl
            refine step_val (v := .slice (some ⟨b7, 0, none⟩) 4 4) (w' := w) rfl ?_ (Ext.refl w) rfl
            have e := arr57_all b7 w
            simp only [execOp, Act.eval, Option.map_none, s7, Sem.run_bind, e, Sem.run_pure, Result.andThen]
          · intro a w1 hf
            have s45 := hf.eq_ 0 45 (by kernel_rfl) rfl
            have s46 := hf.eq_ 1 46 (by kernel_rfl) rfl
            have s47 := hf.eq_ 2 47 (by kernel_rfl) rfl
            have hx := hf.ext
            have e := hf.frame
            clear hf
            simp only [List.take_succ_cons, List.take_zero, regFrame, Act.put, List.setIfInBounds_toArray, List.set_cons_zero, List.set_cons_succ, s45, s46, s47] at e
            clear s45 s46 s47
            subst e
            simp only [List.drop_succ_cons, List.drop_zero]
            have hv1 := HV2.out.later hx
            have hu1 := B4.later HU2.out hx
            have ha1 := HA2.out.later hx
            have hr1 := HRR2.out.later hx
            have he1 := HE2.out.trans hx
            clear hx
            refine wpL_copy_blk rfl (.tmp 46) (.tmp 47) rfl (6 * r) (52 - 6 * r) (52 - 6 * r) 4 4 _ 4 b7 0 _ rfl rfl hv1 (by omega) (by rw [fillN_length]; omega) (Blk.rd hu1 0 4 (by simp [F4.list])) ?_
            intro w5 hb5 hg5
            rw [HF1.out] at hb5
            have HV5 := hid hb5
            have HA5 := hid (ha1.grown hg5 (by omega))
            have HR5 := hid (hr1.grown hg5 (by omega))
            have HE5 := hid (he1.below hg5 (by have := HG.out; omega))
            clear hv1 hu1 ha1 hr1 he1 hb5 hg5 HV2 HU2 HA2 HRR2 HE2
            go_wp2_with fail
            go_roundw
            case rel => exact ⟨r + 1, by omega, by rw [show ((6 * (r + 1) : Nat) : Int) = 6 * (r : Int) + 6 by omega], HA5.out, by rw [show min (6 * (r + 1)) 52 = 6 * r + 4 by omega]; exact HV5.out, HR5.out, HE5.out⟩
            case measure => simp [intOf]; omega
    · obtain rfl : r = 9 := by omega
      rw [show min (6 * 9) 52 = 52 from rfl, fillN_full] at hv
      have h53 := size53 (tabN (undF k) 52) (tabN_length _ _)
      have hss := sizes (fillN (undF k) 52 0) (tabN (undF k) 52) (by rw [fillN_length, tabN_length])
      have HV := hid hv
      have HRR := hid hrr
      have HR2 := hid (hrr.put (tabN (undF k) 52))
      have HE2 := hid (Below.setRow_ he (g := G + 1) (by have := HG.out; omega) (cN .i64 (tabN (undF k) 52)).toArray)
      have HS53 := hid (And.intro h53 hss)
      clear ha hv hrr he h53 hss
      go_wp2_with (first
        | (refine wpList_load_row rfl 53 (.tmp 3) rfl (G + 1 + 1) rfl 53 (cN .i64 (tabN (undF k) 52)).toArray (0, 0) _ HV.out Try.underlying53 rfl HS53.out.1 ?_)
        | (refine wpList_store_row rfl 53 (.tmp 2) (.tmp 59) rfl (G + 1) (cN .i64 (tabN (undF k) 52)).toArray rfl rfl 53 _ HRR.out HS53.out.1 HS53.out.2 (cN_all _) ?_))
      refine ret_cell rfl rfl (G + 1) 53 _ (0, 0) rfl HR2.out Try.underlying53 HS53.out.1 ⟨rfl, HE2.out⟩
end Go.Proofs.Ytamolgbdpnpemaa
