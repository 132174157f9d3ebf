/- Walk over xored of the program; own lemmas of the verifier, no statement is proved here. -/
import Derived.Test.YtpfkcplldhdipaaDoorX1
import Derived.Deep.QuietTactic
namespace Go.Proofs.YtpfkcplldhdipaaDoor
open Go.RowKit
theorem cf51 (vs : Array Value) (w : World) : (callFunc 51 vs).run Tryd.prog w = .ok (.enter 51 vs) w := by go_simp
theorem retXor {w : World} {xs ys : List UInt8} (e : Ending) (w' : World) (h : ∃ v, e = .returned (.tuple #[v, .bool true]) ∧ Own w' w.heap.size v (xorL xs ys 16) ∧ Below w.heap.size w w') :
    ∃ u, e = .returned u ∧ Ext w w' ∧ K.holds (.bytb 16 (xorL xs ys 16) true) w' u := by
  obtain ⟨v, rfl, ho, hb⟩ := h
  obtain ⟨A, c, rfl, hr, _⟩ := ho.rdn (xorL_length xs ys 16)
  exact ⟨_, rfl, hb, A, c, rfl, hr⟩
/-- Sixteen noughts. -/
def z16 : List UInt8 := List.replicate 16 0
theorem z16_length : z16.length = 16 := by simp [z16]
theorem cells_z16 : (cellsOf z16).toArray = #[.int .u8 0, .int .u8 0, .int .u8 0, .int .u8 0, .int .u8 0, .int .u8 0, .int .u8 0, .int .u8 0, .int .u8 0, .int .u8 0, .int .u8 0, .int .u8 0, .int .u8 0, .int .u8 0, .int .u8 0, .int .u8 0] := rfl
def xorKs (xs ys : List UInt8) : List K := [.byt 16 (xs), .byt 16 (ys), .bytb 16 (xorL xs ys 16) true, .bytb 16 (xorL xs ys 16) true, .byt 16 (xorL xs ys 16), .eq (.bool true), .byt 16 (xorL xs ys 16), .eq (.bool true)]
set_option maxRecDepth 100000 in
set_option maxHeartbeats 4000000 in
theorem xored_any (xs ys : List UInt8) (w : World) (hx : xs.length = 16) (hy : ys.length = 16) :
    Calls Tryd.prog 36 #[bv xs, bv ys] w fun e w' => e = .returned (bv (xorL xs ys 16)) ∧ Ext w w' := by
  unfold bv
  go_enter Tryd.func36, Tryd.ntmps36
  go_wp2_with fail
  rw [← cells_z16]
  have h1 := RW.new w 55 xs
  have x1 := Ext.alloc w (.cells (cellsOf xs).toArray 55)
  obtain ⟨W1, hW1⟩ : ∃ W1, w.alloc (.cells (cellsOf xs).toArray 55) = W1 := ⟨_, rfl⟩
  have z1 : W1.heap.size = w.heap.size + 1 := by rw [← hW1]; simp
  rw [hW1] at h1 x1 ⊢
  have h2 := RW.new W1 55 ys
  have x2 := Ext.alloc W1 (.cells (cellsOf ys).toArray 55)
  obtain ⟨W2, hW2⟩ : ∃ W2, W1.alloc (.cells (cellsOf ys).toArray 55) = W2 := ⟨_, rfl⟩
  have z2 : W2.heap.size = w.heap.size + 1 + 1 := by rw [← hW2, ← z1]; simp
  rw [hW2] at h2 x2 ⊢
  have h3 := RW.new W2 55 z16
  have x3 := Ext.alloc W2 (.cells (cellsOf z16).toArray 55)
  obtain ⟨W3, hW3⟩ : ∃ W3, W2.alloc (.cells (cellsOf z16).toArray 55) = W3 := ⟨_, rfl⟩
  rw [hW3] at h3 x3 ⊢
  have h1 := (h1.later (by omega) x2).later (by omega) x3
  have h2 := h2.later (by omega) x3
  obtain ⟨G, hG⟩ : ∃ G, w.heap.size = G := ⟨_, rfl⟩
  rw [z1] at h2
  rw [z2] at h3
  have HXT := hid ((x1.trans x2).trans x3)
  rw [hG] at h1 h2 h3 ⊢
  have HX := hid h1
  have HY := hid h2
  have HZ := hid h3
  have HG := hid hG
  clear hW1 hW2 hW3 z1 z2 x1 x2 x3 h1 h2 h3 hG
  refine region_inv mixed rfl (by kernel_rfl) (kV (xorKs xs ys)) (kV_keep _) (forall_ops ⟨?_, ?_, ?_, ?_, ?_, ?_, ?_, ?_, trivial⟩) ?_
  · intro a w hk
    have s2 : a.tmps.getD 2 undef = .pointer (some ⟨G, 0, none⟩) := hk.was 2 (by kernel_rfl) rfl
    refine step_val (v := .slice (some ⟨G, 0, none⟩) 16 16) (w' := w) rfl ?_ (Ext.refl w) ⟨_, _, rfl, ((HX.out.later (by simp [*]) hk.ext).slice hx ((HX.out.later (by simp [*]) hk.ext).lt (by simp [*])))⟩
    go_simp
  · intro a w hk
    have s3 : a.tmps.getD 3 undef = .pointer (some ⟨G + 1, 0, none⟩) := hk.was 3 (by kernel_rfl) rfl
    refine step_val (v := .slice (some ⟨G + 1, 0, none⟩) 16 16) (w' := w) rfl ?_ (Ext.refl w) ⟨_, _, rfl, ((HY.out.later (by simp [*]) hk.ext).slice hy ((HY.out.later (by simp [*]) hk.ext).lt (by simp [*])))⟩
    go_simp
  · intro a w hk
    obtain ⟨A8, c8, s8, r8⟩ := hk.byt_ 0 8 (by kernel_rfl) rfl
    obtain ⟨A9, c9, s9, r9⟩ := hk.byt_ 1 9 (by kernel_rfl) rfl
    exact step_call rfl rfl (by simp only [List.map_toArray, List.map_cons, List.map_nil, Act.eval, s8, s9] <;> rfl) cf51 (xor_eq A8 A9 16 c8 c9 xs ys w r8 r9 (by omega)) (fun e w1 h => retXor e w1 h)
  · intro a w hk
    obtain ⟨A10, c10, s10, r10⟩ := hk.val 2 10 (by kernel_rfl) rfl
    exact step_move rfl rfl s10 ⟨A10, c10, rfl, r10⟩
  · intro a w hk
    obtain ⟨A7, c7, s7, r7⟩ := hk.val 3 7 (by kernel_rfl) rfl
    exact step_extract rfl rfl s7 rfl ⟨_, _, rfl, r7⟩
  · intro a w hk
    obtain ⟨A7, c7, s7, r7⟩ := hk.val 3 7 (by kernel_rfl) rfl
    exact step_extract rfl rfl s7 rfl rfl
  · intro a w hk
    obtain ⟨A11, c11, s11, r11⟩ := hk.byt_ 4 11 (by kernel_rfl) rfl
    exact step_assign rfl rfl s11 ⟨_, _, rfl, r11⟩
  · intro a w hk
    have s12 := hk.eq_ 5 12 (by kernel_rfl) rfl
    exact step_assign rfl rfl s12 rfl
  · intro a w1 hf
    obtain ⟨A8, c8, s8, r8⟩ := hf.val 0 8 (by kernel_rfl) rfl
    obtain ⟨A9, c9, s9, r9⟩ := hf.val 1 9 (by kernel_rfl) rfl
    obtain ⟨A10, c10, s10, r10⟩ := hf.val 2 10 (by kernel_rfl) rfl
    obtain ⟨A7, c7, s7, r7⟩ := hf.val 3 7 (by kernel_rfl) rfl
    obtain ⟨A11, c11, s11, r11⟩ := hf.val 4 11 (by kernel_rfl) rfl
    have s12 := hf.eq_ 5 12 (by kernel_rfl) rfl
    obtain ⟨A5, c5, s5, r5⟩ := hf.val 6 5 (by kernel_rfl) rfl
    have s6 := hf.eq_ 7 6 (by kernel_rfl) rfl
    have hx := hf.ext
    have e := hf.frame
    clear hf
    simp only [regFrame, Act.put, List.setIfInBounds_toArray, List.set_cons_zero, List.set_cons_succ, s8, s9, s10, s7, s11, s12, s5, s6] at e
    clear s8 s9 s10 s7 s11 s12 s5 s6
    subst e
    have HO := hid (HZ.out.later (by simp [z16]) hx)
    obtain ⟨b, o, rfl, _, _⟩ := r5.at_ (by omega)
    have HR := hid (rangeAt_of_rd r5)
    have HX1 := hid (Ext.trans HXT.out hx)
    have HZB := hid (below_setCells (B := w.heap.size) (b := G + 1 + 1) (a := w) (by have := HG.out; omega) (cellsOf (xorL xs ys 16)) 0 w1 HX1.out)
    have HST := hid (HO.out.store0 (xorL xs ys 16) (by rw [xorL_length, z16_length]))
    have HSZ := hid (size55' (xorL_length xs ys 16))
    have HTH := hid (show w1.there (G + 1 + 1) 0 (xorL xs ys 16).length by rw [xorL_length]; exact HO.out.wr)
    clear hx r8 r9 r10 r7 r11 r5 HO
    go_wp2_with (first
      | (refine wpList_atp rfl 55 5 16 (.tmp 13) rfl (some ⟨b, o, none⟩) 16 c5 rfl Tryd.underlying55 (Nat.le_refl _) ?_)
      | (refine wpList_ld rfl 55 (.tmp 14) rfl b o rfl (xorL xs ys 16) HR.out Tryd.underlying55 HSZ.out ?_)
      | (refine wpList_st rfl 55 (.tmp 4) (.tmp 15) rfl (G + 1 + 1) 0 (xorL xs ys 16) rfl rfl HTH.out HSZ.out ?_))
    refine ret_mid rfl rfl (G + 1 + 1) (xorL xs ys 16) rfl HST.out.rd Tryd.underlying55 HSZ.out ⟨rfl, HZB.out⟩
end Go.Proofs.YtpfkcplldhdipaaDoor
