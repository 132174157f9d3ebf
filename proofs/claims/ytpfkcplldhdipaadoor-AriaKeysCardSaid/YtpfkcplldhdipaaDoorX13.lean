/- Walks over slices.Clone, slices.Reverse and undoing of the program; own lemmas of the verifier, no statement is proved here. -/
import Derived.Test.YtpfkcplldhdipaaDoorX12
import Derived.Test.YtpfkcplldhdipaaDoorRG
import Derived.RegionTactic
namespace Go.Proofs.YtpfkcplldhdipaaDoor
open Go.RowKit
/-- An own row of blocks may be read and written. -/
theorem rw_of_owns {w : World} {base g n c : Nat} {bs : List UInt8} (h : w.ownsRow base 55 16 (.slice (some ⟨g, 0, none⟩) n c) n (cellsOf bs)) : RW w g 0 bs := by
  rcases h.2 with ⟨h1, _⟩ | ⟨g', cap, cur, h1, _, hh, hnc, _, hsz, htk⟩
  · cases h1
  · simp only [Value.slice.injEq, Option.some.injEq, Addr.mk.injEq, and_true] at h1
    obtain ⟨rfl, _, rfl⟩ := h1
    have hl : (cellsOf bs).length = n * 16 := h.1
    have hc : ∀ k v, (cellsOf bs)[k]? = some v → w.cell? ⟨g, 0 + k, none⟩ = some v := fun k v hv => by
      rw [Nat.zero_add, cell_of_row w g k _ 55 _ hh, ← Array.getElem?_toList]
      rw [← htk, List.getElem?_take] at hv
      split at hv
      · exact hv
      · cases hv
    refine ⟨hc, fun j hj => ⟨?_, frozen_of_row w g _ _ 55 hh⟩⟩
    rw [hc j _ (cellsOf_get bs j hj)]; rfl
theorem eq_nil52 (K n c : Nat) (w : World) : (binOp .eql 52 (.slice (some ⟨K, 0, none⟩) n c) (.slice none 0 0)).run Tryd.prog w = .ok (.bool false) w := by
  simp [binOp, run_equal_slice_nil w 52 55 (some ⟨K, 0, none⟩) n c Tryd.underlying52]
set_option maxRecDepth 100000 in
set_option maxHeartbeats 1000000 in
theorem clone_blk (K n c : Nat) (bs : List UInt8) (w : World) (h : RW w K 0 bs) (hl : bs.length = n * 16) (h0 : 0 < n) (hn : n ≤ 1000) :
    Calls Tryd.prog 44 #[.slice (some ⟨K, 0, none⟩) n c] w fun e w' => ∃ g cap, e = .returned (.slice (some ⟨g, 0, none⟩) n cap) ∧ w.heap.size ≤ g ∧ RW w' g 0 bs ∧ Ext w w' := by
  have HOP := hid (eq_nil52 K n c)
  obtain ⟨i0, hi0, hz0, hz1, hz2⟩ := info_parts inf55
  have HI := hid hi0
  have HZ := hid (And.intro hz0 (And.intro hz1 hz2))
  have hx := Ext.alloc w (.cells #[] 55)
  have hr := (h.later (by omega) hx).rd
  have hown : (w.alloc (.cells #[] 55)).ownsRow w.heap.size 55 16 (.slice (some ⟨w.heap.size, 0, none⟩) 0 0) 0 [] :=
    ⟨rfl, .inr ⟨w.heap.size, 0, #[], rfl, Nat.le_refl _, heap_alloc_new w _, Nat.le_refl _, by unfold maxLen; omega, rfl, rfl⟩⟩
  have HR := hid hr
  have HO := hid hown
  have HX := hid hx
  have HL := hid hl
  have HB := hid hx.size
  clear h hi0 hz0 hz1 hz2 hx hr hown hl
  go_enter Tryd.func44, Tryd.ntmps44
  go_wp2_with fail
  rw [HOP.out]
  simp only [Result.andThen]
  rw [Oper.upon_value]
  go_wp2_with (at_builtin; refine wpList_append_own _ rfl (.tmp 5) (.tmp 6) 52 rfl w.heap.size 55 i0 _ 16 16 Tryd.underlying52 HI.out HZ.out.1 HZ.out.2.1 HZ.out.2.2 rfl (by omega) _ 0 [] rfl HO.out ⟨K, 0, none⟩ n c (cellsOf bs) rfl (by rw [cellsOf_length]; exact HL.out) (fun j u hu => by rw [Addr.add_mid]; exact HR.out j u hu) (cellsOf_one bs) (by unfold maxLen; omega) (by omega) HB.out ?_; intro v2 w2 hown2 hg2 hnil)
  have hb2 : Below w.heap.size w w2 := Below.grown HX.out hg2 HX.out.size fun k e => by
    have e2 : some w.heap.size = some k := e
    cases e2; exact Nat.le_refl _
  go_ret
  rw [Nat.zero_add, List.nil_append] at hown2
  rcases hown2.2 with ⟨_, h1⟩ | ⟨g, cap, cur, rfl, hg, _⟩
  · omega
  · exact ⟨g, cap, rfl, hg, rw_of_owns hown2, hb2⟩
/-- Blocks turned about, so far. -/
def revF (f : Nat → List UInt8) (n k j : Nat) : List UInt8 := if j < k ∨ n - k ≤ j then f (n - 1 - j) else f j
theorem revF_zero (f : Nat → List UInt8) (n : Nat) : FL (revF f n 0) n = FL f n := FL_congr fun j hj => by
  unfold revF; rw [if_neg (by omega)]
theorem revF_next (f : Nat → List UInt8) (n k m : Nat) (h : m + k + 1 = n) (hkm : k < m) : FL (fun j => if j = m then f k else (if j = k then f m else revF f n k j)) n = FL (revF f n (k + 1)) n := FL_congr fun j hj => by
  unfold revF
  by_cases h1 : j = m
  · subst h1; rw [if_pos rfl, if_pos (by omega), show n - 1 - j = k by omega]
  · by_cases h2 : j = k
    · subst h2; rw [if_neg h1, if_pos rfl, if_pos (by omega), show n - 1 - j = m by omega]
    · rw [if_neg h1, if_neg h2]
      by_cases h3 : j < k ∨ n - k ≤ j
      · rw [if_pos h3, if_pos (by omega)]
      · rw [if_neg h3, if_neg (by omega)]
theorem revF_full (f : Nat → List UInt8) (n k m : Nat) (h : m + k + 1 = n) (hkm : ¬ k < m) : FL (revF f n k) n = FL (fun j => f (n - 1 - j)) n := FL_congr fun j hj => by
  unfold revF
  by_cases h3 : j < k ∨ n - k ≤ j
  · rw [if_pos h3]
  · rw [if_neg h3, show n - 1 - j = j by omega]
/-- Within a round: ahead of the first store. -/
structure RV (w0 : World) (K n k m : Nat) (f : Nat → List UInt8) (FK FM : List UInt8) (w : World) : Prop where
  rw : RW w K 0 (FL (revF f n k) n)
  fk : w.rangeAt K (k * 16) (cellsOf FK)
  fm : w.rangeAt K (m * 16) (cellsOf FM)
  b : Below K w0 w
theorem RV.ext {w0 w w' : World} {K n k m : Nat} {f : Nat → List UInt8} {FK FM : List UInt8} (hx : Ext w w') (hn : 0 < n) (h : RV w0 K n k m f FK FM w) : RV w0 K n k m f FK FM w' :=
  have hK := h.rw.lt (by rw [FL_length]; omega)
  ⟨h.rw.later (by rw [FL_length]; omega) hx, rangeAt_later h.fk hx, rangeAt_later h.fm hx, h.b.trans (hx.mono (Nat.le_of_lt hK))⟩
/-- Behind it. -/
structure RV2 (w0 : World) (K n k m : Nat) (f : Nat → List UInt8) (FM : List UInt8) (w : World) : Prop where
  rw : RW w K 0 (FL (fun j => if j = k then FM else revF f n k j) n)
  b : Below K w0 w
theorem RV2.ext {w0 w w' : World} {K n k m : Nat} {f : Nat → List UInt8} {FM : List UInt8} (hx : Ext w w') (hn : 0 < n) (h : RV2 w0 K n k m f FM w) : RV2 w0 K n k m f FM w' :=
  have hK := h.rw.lt (by rw [FL_length]; omega)
  ⟨h.rw.later (by rw [FL_length]; omega) hx, h.b.trans (hx.mono (Nat.le_of_lt hK))⟩
def revKs (K n c k m : Nat) (FK FM : List UInt8) : List Go.Proofs.YtpfkcplldhdipaaDoor.K := [.eq (.slice (some ⟨K, 0, none⟩) n c), .eq (.int .i64 k), .eq (.slice (some ⟨K, 0, none⟩) n c), .eq (.int .i64 m), .eq (.slice (some ⟨K, 0, none⟩) n c), .eq (.int .i64 m), .eq (.pointer (some ⟨K, m * 16, none⟩)), .eq (bv FM), .eq (.slice (some ⟨K, 0, none⟩) n c), .eq (.int .i64 k), .eq (.pointer (some ⟨K, k * 16, none⟩)), .eq (bv FK), .eq (.pointer (some ⟨K, k * 16, none⟩)), .any, .eq (.pointer (some ⟨K, m * 16, none⟩)), .any]
theorem kV_free {ks : List Go.Proofs.YtpfkcplldhdipaaDoor.K} (h : ks.all (fun k => match k with | .eq _ => true | .any => true | _ => false) = true) {w w' : World} (i : Nat) (v : Value) (hv : kV ks i w v) : kV ks i w' v := by
  unfold kV at hv ⊢
  by_cases hi : i < ks.length
  · have h1 := List.all_eq_true.1 h _ (List.getElem_mem hi)
    have e : ks.getD i .any = ks[i] := by simp [List.getD_eq_getElem?_getD, hi]
    rw [e] at hv ⊢
    cases hk : ks[i] <;> rw [hk] at h1 hv <;> first | exact hv | trivial | cases h1
  · have e : ks.getD i .any = .any := by simp [List.getD_eq_getElem?_getD, List.getElem?_eq_none (show ks.length ≤ i by omega)]
    rw [e]; trivial
set_option maxRecDepth 100000 in
set_option maxHeartbeats 4000000 in
theorem reverse_blk (K n c : Nat) (f : Nat → List UInt8) (w : World) (h : RW w K 0 (FL f n)) (hf : ∀ j, j < n → (f j).length = 16) (h0 : 2 ≤ n) (hn : n ≤ 1000) :
    Calls Tryd.prog 45 #[.slice (some ⟨K, 0, none⟩) n c] w fun e w' => e = .returned (.tuple #[]) ∧ RW w' K 0 (FL (fun j => f (n - 1 - j)) n) ∧ Below K w w' := by
  have HR := hid h
  have HF := hid hf
  have HN0 := hid (show 0 < n by omega)
  have HN1 := hid hn
  have hn1 : (n : Int) - 1 = ((n - 1 : Nat) : Int) := by omega
  have hni : (n : Int) ≤ 1000 := by omega
  obtain ⟨n1, hn2⟩ : ∃ n1, n - 1 = n1 := ⟨_, rfl⟩
  rw [hn2] at hn1
  have HN2 := hid hn2
  clear h hf hn2
  go_enter Tryd.func45, Tryd.ntmps45
  go_wp2_with fail
  go_loopw [2, 3] (fun i j wr => ∃ k m : Nat, k ≤ n / 2 ∧ m + k + 1 = n ∧ i = .int .i64 k ∧ j = .int .i64 m ∧ RW wr K 0 (FL (revF f n k) n) ∧ Below K w wr) (fun _ j _ => (intOf j).toNat)
  case atStart => exact ⟨0, n1, by omega, by have := HN2.out; omega, rfl, rfl, by rw [revF_zero]; exact HR.out, Below.refl _ _⟩
  case round =>
    obtain ⟨k, m, hk, hkm, rfl, rfl, hr, hb⟩ := hrel
    clear hn1 hni
    by_cases hlt : k < m
    · have HKM := hid (And.intro hkm hlt)
      have hkl := HF.out k (by omega)
      have hml := HF.out m (by omega)
      have hbk := hr.blk k (by omega) (by unfold revF; rw [if_neg (by omega)]; exact hkl)
      have hbm := hr.blk m (by omega) (by unfold revF; rw [if_neg (by omega)]; exact hml)
      rw [show revF f n k k = f k by unfold revF; rw [if_neg (by omega)]] at hbk
      rw [show revF f n k m = f m by unfold revF; rw [if_neg (by omega)]] at hbm
      obtain ⟨FK, hFK⟩ : ∃ FK, f k = FK := ⟨_, rfl⟩
      obtain ⟨FM, hFM⟩ : ∃ FM, f m = FM := ⟨_, rfl⟩
      rw [hFK] at hbk hkl
      rw [hFM] at hbm hml
      have HFL := hid (And.intro hkl hml)
      have HFE := hid (And.intro hFK hFM)
      have HRV := hid (show RV w K n k m f FK FM wr from ⟨hr, hbk.rd, hbm.rd, hb⟩)
      have HK2 := hid (show k + 1 ≤ n / 2 by omega)
      have hlti : (k : Int) < (m : Int) := by omega
      clear hr hb hbk hbm hFK hFM hkl hml hkm hk
      go_wp2_with fail
      refine region_ou 15 13 _ (RV w K n k m f FK FM) (RV2 w K n k m f FM) mixed rfl (by kernel_rfl) (by kernel_rfl) (by kernel_rfl) (by omega) rfl rfl (kV (revKs K n c k m FK FM)) (kV_keep _) (fun _ _ hx h => h.ext hx HN0.out) (fun _ _ hx h => h.ext hx HN0.out) HRV.out (forall_ops ⟨?_, ?_, ?_, ?_, ?_, ?_, ?_, ?_, ?_, ?_, ?_, ?_, ?_, ?_, ?_, trivial⟩) ?_ ?_
      · intro _ a w hk hI hq
        have s0 : a.tmps.getD 0 undef = .slice (some ⟨K, 0, none⟩) n c := hk.was 0 (by kernel_rfl) rfl
        exact step_move rfl rfl s0 rfl
      · intro _ a w hk hI hq
        have s2 : a.tmps.getD 2 undef = .int .i64 k := hk.was 2 (by kernel_rfl) rfl
        exact step_move rfl rfl s2 rfl
      · intro _ a w hk hI hq
        have s0 : a.tmps.getD 0 undef = .slice (some ⟨K, 0, none⟩) n c := hk.was 0 (by kernel_rfl) rfl
        exact step_move rfl rfl s0 rfl
      · intro _ a w hk hI hq
        have s3 : a.tmps.getD 3 undef = .int .i64 m := hk.was 3 (by kernel_rfl) rfl
        exact step_move rfl rfl s3 rfl
      · intro _ a w hk hI hq
        have s0 : a.tmps.getD 0 undef = .slice (some ⟨K, 0, none⟩) n c := hk.was 0 (by kernel_rfl) rfl
        exact step_move rfl rfl s0 rfl
      · intro _ a w hk hI hq
        have s3 : a.tmps.getD 3 undef = .int .i64 m := hk.was 3 (by kernel_rfl) rfl
        exact step_move rfl rfl s3 rfl
      · intro _ a w hk hI hq
        have s18 := hk.eq_ 4 18 (by kernel_rfl) rfl
        have s19 := hk.eq_ 5 19 (by kernel_rfl) rfl
        refine step_val (v := .pointer (some ⟨K, m * 16, none⟩)) (w' := w) rfl ?_ (Ext.refl w) rfl
        have hi3 : (m : Int) < n := by have := HKM.out; omega
        go_simp
      · intro _ a w hk hI hq
        have s20 := hk.eq_ 6 20 (by kernel_rfl) rfl
        exact step_val (v := bv FM) (w' := w) rfl (exec_load_mid rfl s20 (hq (by kernel_rfl)).fm Tryd.underlying55 (size55' HFL.out.2)) (Ext.refl w) rfl
      · intro _ a w hk hI hq
        have s0 : a.tmps.getD 0 undef = .slice (some ⟨K, 0, none⟩) n c := hk.was 0 (by kernel_rfl) rfl
        exact step_move rfl rfl s0 rfl
      · intro _ a w hk hI hq
        have s2 : a.tmps.getD 2 undef = .int .i64 k := hk.was 2 (by kernel_rfl) rfl
        exact step_move rfl rfl s2 rfl
      · intro _ a w hk hI hq
        have s22 := hk.eq_ 8 22 (by kernel_rfl) rfl
        have s23 := hk.eq_ 9 23 (by kernel_rfl) rfl
        refine step_val (v := .pointer (some ⟨K, k * 16, none⟩)) (w' := w) rfl ?_ (Ext.refl w) rfl
        have hi3 : (k : Int) < n := by have := HKM.out; omega
        go_simp
      · intro _ a w hk hI hq
        have s24 := hk.eq_ 10 24 (by kernel_rfl) rfl
        exact step_val (v := bv FK) (w' := w) rfl (exec_load_mid rfl s24 (hq (by kernel_rfl)).fk Tryd.underlying55 (size55' HFL.out.1)) (Ext.refl w) rfl
      · intro _ a w hk hI hq
        have s14 := hk.eq_ 0 14 (by kernel_rfl) rfl
        have s15 := hk.eq_ 1 15 (by kernel_rfl) rfl
        refine step_val (v := .pointer (some ⟨K, k * 16, none⟩)) (w' := w) rfl ?_ (Ext.refl w) rfl
        have hi3 : (k : Int) < n := by have := HKM.out; omega
        go_simp
      · intro h; exact absurd rfl h
      · intro _ a w hk hI hq
        have s16 := hk.eq_ 2 16 (by kernel_rfl) rfl
        have s17 := hk.eq_ 3 17 (by kernel_rfl) rfl
        refine step_val (v := .pointer (some ⟨K, m * 16, none⟩)) (w' := w) rfl ?_ (Ext.refl w) rfl
        have hi3 : (m : Int) < n := by have := HKM.out; omega
        go_simp
      · intro a w1 hk hI
        have s26 := hk.eq_ 12 26 (by kernel_rfl) rfl
        have s21 := hk.eq_ 7 21 (by kernel_rfl) rfl
        refine wp_store_arr 55 (.tmp 26) (.tmp 21) rfl rfl K (k * 16) FM s26 s21 (fun j hj => by
          have h2 := hI.rw.wr (k * 16 + j) (by rw [FL_length]; rw [HFL.out.2] at hj; have := HKM.out; omega)
          rwa [Nat.zero_add] at h2) (size55' HFL.out.2) ?_
        refine ⟨undef, rfl, ⟨?_, below_setCells (Nat.le_refl _) _ _ _ hI.b⟩, trivial, fun i v _ hv => kV_free (by kernel_rfl) i v hv⟩
        exact hI.rw.setBlk k FM (by have := HKM.out; omega) HFL.out.2
      · intro a w1 hf hI2
        have s14 := hf.eq_ 0 14 (by kernel_rfl) rfl
        have s15 := hf.eq_ 1 15 (by kernel_rfl) rfl
        have s16 := hf.eq_ 2 16 (by kernel_rfl) rfl
        have s17 := hf.eq_ 3 17 (by kernel_rfl) rfl
        have s18 := hf.eq_ 4 18 (by kernel_rfl) rfl
        have s19 := hf.eq_ 5 19 (by kernel_rfl) rfl
        have s20 := hf.eq_ 6 20 (by kernel_rfl) rfl
        have s21 := hf.eq_ 7 21 (by kernel_rfl) rfl
        have s22 := hf.eq_ 8 22 (by kernel_rfl) rfl
        have s23 := hf.eq_ 9 23 (by kernel_rfl) rfl
        have s24 := hf.eq_ 10 24 (by kernel_rfl) rfl
        have s25 := hf.eq_ 11 25 (by kernel_rfl) rfl
        have s26 := hf.eq_ 12 26 (by kernel_rfl) rfl
        have s27 := hf.eq_ 14 27 (by kernel_rfl) rfl
        have hx := hf.ext
        have e := hf.frame
        clear hf
        simp only [List.take_succ_cons, List.take_zero, regFrame, Act.put, List.setIfInBounds_toArray, List.set_cons_zero, List.set_cons_succ, s14, s15, s16, s17, s18, s19, s20, s21, s22, s23, s24, s25, s26, s27] at e
        clear s14 s15 s16 s17 s18 s19 s20 s21 s22 s23 s24 s25 s26 s27
        subst e
        simp only [List.drop_succ_cons, List.drop_zero]
        have hz := hI2.rw.setBlk m FK (by have := HKM.out; omega) HFL.out.1
        rw [← HFE.out.1, ← HFE.out.2, revF_next f n k m HKM.out.1 HKM.out.2, HFE.out.1] at hz
        have hzb := below_setCells (B := K) (b := K) (a := w) (Nat.le_refl _) (cellsOf FK) (m * 16) w1 hI2.b
        have HTH := hid (show w1.there K (m * 16) FK.length from fun j hj => by
          have h2 := hI2.rw.wr (m * 16 + j) (by rw [FL_length]; rw [HFL.out.1] at hj; have := HKM.out; omega)
          rwa [Nat.zero_add] at h2)
        have HSZ := hid (size55' HFL.out.1)
        have HZ := hid (And.intro hz hzb)
        clear hz hzb hI2 hx
        obtain ⟨W7, hW7⟩ : ∃ W7, w1.setCells K (m * 16) (cellsOf FK) = W7 := ⟨_, rfl⟩
        rw [hW7] at HZ
        have HW7 := hid hW7
        clear hW7
        obtain ⟨m1, hm1⟩ : ∃ m1, m = m1 + 1 := ⟨m - 1, by have := HKM.out; have := HK2.out; omega⟩
        have HM1 := hid hm1
        have hmi : (m : Int) - 1 = (m1 : Int) := by omega
        have hmr : (m : Int) ≤ 1000 := by have := HKM.out; have := HN1.out; omega
        clear hm1
        go_wp2_with (refine wpList_st rfl 55 (.tmp 27) (.tmp 25) rfl K (m * 16) FK rfl rfl HTH.out HSZ.out ?_; rw [HW7.out]; clear HTH HW7)
        go_roundw
        case rel => exact ⟨k + 1, m1, by have := HKM.out; have := HK2.out; omega, by have := HKM.out; have := HM1.out; omega, by go_num, rfl, HZ.out⟩
        case measure => simp [intOf]; have := HKM.out; have := HM1.out; omega
    · rw [revF_full f n k m hkm hlt] at hr
      have HH := hid (And.intro hr hb)
      have hnk : ¬ ((k : Int) < (m : Int)) := by omega
      clear hr hb
      go_wp2_with fail
      exact bodyPost_end (results_none rfl _ _ _) rfl ⟨rfl, HH.out.1, HH.out.2⟩
end Go.Proofs.YtpfkcplldhdipaaDoor
