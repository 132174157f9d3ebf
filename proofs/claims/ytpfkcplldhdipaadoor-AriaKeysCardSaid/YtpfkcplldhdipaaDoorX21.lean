/- Walks over round and constant of the reference; appends of noughts; own lemmas of the verifier, no statement is proved here. -/
import Derived.Test.YtpfkcplldhdipaaDoorX20
import Derived.Lib.AppendZerosOnto
import Derived.Laws.CopyRow
namespace Go.Proofs.YtpfkcplldhdipaaDoor
open Go.RowKit
theorem zeroCells_u8 (k : Nat) : (Builtin.zeroCells (Value.int .u8 0).cells k).toList = cellsOf (List.replicate k 0) := by
  apply List.ext_getElem
  · simp [Builtin.zeroCells, cellsOf, Value.cells]
  · intro i h1 h2
    simp [Builtin.zeroCells, cellsOf, Value.cells, Nat.mod_one]
theorem append_zeros (w : World) (base g sLen cap k : Nat) (xs : List UInt8) (ty : TypeId) (ho : Own w base (.slice (some ⟨g, 0, none⟩) sLen cap) xs) (hl : xs.length = sLen) (hs : sLen ≤ 1000) (hk : k ≤ 1000) (hb : base ≤ w.heap.size) :
    ∃ v' w', (Builtin.append_ #[22, 3] ty #[.slice (some ⟨g, 0, none⟩) sLen cap, .int .i64 k]).run Tryd.prog w = .ok v' w' ∧ Own w' base v' (xs ++ List.replicate k 0) ∧ Below base w w' := by
  obtain ⟨i0, hi0, hz0, hz1, hz2⟩ := info_parts Tryd.info5
  have hcl : (cellsOf xs).length = sLen := by rw [cellsOf_length]; exact hl
  have hw : IntKind.i64.wrap (k : Int) = k := by rw [IntKind.wrap_i64]; omega
  have hneg : ¬ ((k : Int) < 0) := by omega
  have h48i : ¬ (281474976710656 < (k : Int) * (i0.bytes : Int)) := by rw [hz2]; omega
  have hcells : ∀ j v, (cellsOf xs)[j]? = some v → w.cell? ⟨g, j, none⟩ = some v := fun j v hv => by
    have hj : j < xs.length := by
      have := (List.getElem?_eq_some_iff.1 hv).1
      rwa [cellsOf_length] at this
    have ho' : Own w base (.slice (some ⟨g, 0, none⟩) xs.length cap) xs := by rw [hl]; exact ho
    rw [ho'.cell j hj, ← hv, cellsOf_get xs j hj]
  rcases ho.2 with ⟨h1, _⟩ | ⟨g', cap', cur, h1, hbg, hh, hnc, hcm, hsz, htk⟩
  · cases h1
  simp only [Value.slice.injEq, Option.some.injEq, Addr.mk.injEq, and_true] at h1
  obtain ⟨rfl, hsl, rfl⟩ := h1
  by_cases hk0 : k = 0
  · subst hk0
    refine ⟨.slice (some ⟨g, 0, none⟩) sLen cap, w, ?_, by simpa using ho, Below.refl _ _⟩
    have hfit : sLen ≤ cap := by omega
    have hw0 : IntKind.i64.wrap 0 = 0 := by rw [IntKind.wrap_i64]; omega
    simp [Builtin.append_, run_underlying Tryd.underlying22, run_underlying Tryd.underlying3, sizeOf, typeInfo, hi0, asInt, asIntOf, hw0, hfit, storeCells]
  · have hns : ¬ (k * i0.size = 0) := by rw [hz1]; omega
    by_cases hfit : sLen + k ≤ cap
    · have hst := run_storeCells_at Tryd.prog g sLen 5 (cellsOf (List.replicate k 0)) 0 cur w hh (by rw [cellsOf_length]; simp; omega) (cellsOf_one _)
      refine ⟨.slice (some ⟨g, 0, none⟩) (sLen + k) cap, w.setRow g (cur.toList.take (sLen + 0) ++ cellsOf (List.replicate k 0) ++ cur.toList.drop (sLen + 0 + (cellsOf (List.replicate k 0)).length)).toArray, ?_, ?_, below_setRow (Below.refl _ _) hbg _⟩
      · have hadd : (⟨g, 0, none⟩ : Addr).add (sLen * i0.size) = ⟨g, sLen, none⟩ := by rw [hz1, Nat.mul_one, add_at]
        have hzc := zeroCells_u8 k
        simp [Builtin.append_, run_underlying Tryd.underlying22, run_underlying Tryd.underlying3, sizeOf, typeInfo, zeroValue, hi0, hz0, asInt, asIntOf, hw, hneg, h48i, hns, hfit, hadd, hzc, hst]
      · have hrow := setRow_heap w g cur (cur.toList.take (sLen + 0) ++ cellsOf (List.replicate k 0) ++ cur.toList.drop (sLen + 0 + (cellsOf (List.replicate k 0)).length)).toArray 5 (0, 0) hh
        refine ⟨by rw [cellsOf_length, Nat.mul_one], .inr ⟨g, cap, _, by rw [List.length_append, List.length_replicate, hl], hbg, hrow, by simp; omega, hcm, ?_, ?_⟩⟩
        · simp [cellsOf_length]; omega
        · rw [List.toList_toArray]
          rw [Nat.add_zero]
          have ht : cur.toList.take sLen = cellsOf xs := by rw [← htk, hl, Nat.mul_one]
          rw [ht, cellsOf_append]
          exact List.take_left' (by rw [List.length_append, cellsOf_length, cellsOf_length, List.length_append, Nat.mul_one])
    · have hold : (Builtin.firstCells i0.size sLen (.slice (some ⟨g, 0, none⟩) sLen cap)).run Tryd.prog w.drew = .ok (cellsOf xs).toArray w.drew := by
        have hld := run_loadCells_list (P := Tryd.prog) w.drew ⟨g, 0, none⟩ (cellsOf xs) (fun j v hv => by rw [add_at]; exact hcells j v hv)
        rw [hcl] at hld
        simp [Builtin.firstCells, hz1, hld]
      have hcap : Builtin.nextslicecap (sLen + k) cap ≤ 281474976710656 := by
        have := nextslicecap_le (need := sLen + k) (old := cap) (by omega)
        omega
      have hr := Lib.run_append_grow_zeros (P := Tryd.prog) w 22 3 ty 5 i0 (.int .u8 0) .i64 .i64 Tryd.underlying22 Tryd.underlying3 hi0 hz0 (some ⟨g, 0, none⟩) sLen cap (cellsOf xs) hold k (by omega) (by omega) (by omega) (by omega) (by rw [hz2]; omega) (by rw [hz2]; omega)
      refine ⟨_, _, hr, ?_, ?_⟩
      · have hge := grownCap_ge w (sLen + k) cap 5
        have hlm := grownCap_le_maxLen w (sLen + k) cap 5 (by unfold maxLen; omega)
        obtain ⟨C, hC⟩ : ∃ C, grownCap w (sLen + k) cap 5 = C := ⟨_, rfl⟩
        rw [hC] at hge hlm ⊢
        have hsz1 : ∀ n, (Builtin.zeroCells (Value.int .u8 0).cells n).size = n := fun n => by simp [Builtin.zeroCells, Value.cells]
        refine ⟨by rw [cellsOf_length, Nat.mul_one], .inr ⟨w.heap.size, C, _, by rw [List.length_append, List.length_replicate, hl], hb, heap_alloc_new _ _, by simp; omega, hlm, ?_, ?_⟩⟩
        · rw [Array.size_append, Array.size_append, hsz1, hsz1, List.size_toArray, hcl]; omega
        · rw [Array.toList_append, Array.toList_append, zeroCells_u8, ← cellsOf_append]
          exact List.take_left' (by rw [cellsOf_length, Nat.mul_one])
      · exact (show Below base w w.drew from ⟨rfl, rfl, rfl, Nat.le_refl _, fun _ _ => rfl⟩).alloc hb _
theorem cf56 (vs : Array Value) (w : World) : (callFunc 56 vs).run Tryd.prog w = .ok (.enter 56 vs) w := by go_simp
/-- Own bytes in a slot. -/
def OwnP (base : Nat) (bs : List UInt8) (w : World) (v : Value) : Prop := ∃ u, v = u ∧ Own w base u bs
theorem OwnP.keep (base : Nat) (bs : List UInt8) : ∀ w w' v, Ext w w' → OwnP base bs w v → OwnP base bs w' v := fun _ _ _ hx ⟨u, h1, h2⟩ => ⟨u, h1, h2.kept hx⟩
theorem retOwn {w : World} {bs : List UInt8} {H : Nat} (hH : H ≤ w.heap.size) (e : Ending) (w' : World) (h : RetB w bs e w') : ∃ v, e = .returned v ∧ Ext w w' ∧ Go.Proofs.YtpfkcplldhdipaaDoor.K.holds (.gen (OwnP H bs) (OwnP.keep _ _)) w' v := by
  obtain ⟨v, rfl, ho, hb⟩ := h
  exact ⟨v, rfl, hb, v, rfl, ho.base_mono hH⟩
theorem rround_any (p which : Nat) (A A' : Option Addr) (c c' : Nat) (b k : List UInt8) (w : World) (hw : which = 1 ∨ which = 2) (hb : RBx w p) (h : Rd w w.heap.size A 16 b) (h' : Rd w w.heap.size A' 16 k) :
    Calls Tryd.prog 40 #[.pointer (some ⟨p, 0, none⟩), .int .i64 which, .slice A 16 c, .slice A' 16 c'] w (RetB w (mixL (layL which (xorL b k 16)))) := by
  have HC := hid (both_any A A' 16 c c' b k w h h' (by omega))
  have HL := hid (show ∀ A c bs w, RBx w p → Rd w w.heap.size A 16 bs → Calls Tryd.prog 30 #[.pointer (some ⟨p, 0, none⟩), .int .i64 which, .slice A 16 c] w (RetB w (layL which bs)) from fun A c bs w h1 h2 => by
    rcases hw with rfl | rfl
    · exact rlayer_1 p A c bs w h1 h2
    · exact rlayer_2 p A c bs w h1 h2)
  have HB := hid hb
  clear hw hb h h'
  go_enter Tryd.func40, Tryd.ntmps40
  go_wp2_with fail
  refine HC.out.mono ?_
  rintro e w1 ⟨v1, rfl, ho1, hx1⟩
  obtain ⟨A1, c1, rfl, hr1, _⟩ := ho1.rdn (n := 16) (xorL_length b k 16)
  have HX1 := hid (show Ext w w1 from hx1)
  have HR1 := hid hr1
  clear ho1 hx1 hr1 HC
  go_wp2_with fail
  refine (HL.out A1 c1 (xorL b k 16) _ (HB.out.later HX1.out) HR1.out).mono ?_
  rintro e w2 ⟨v2, rfl, ho2, hx2⟩
  obtain ⟨A2, c2, rfl, hr2, _⟩ := ho2.rdn (n := 16) (layL_length _ _)
  have HX2 := hid (Ext.trans HX1.out (show Ext w1 w2 from hx2))
  have HR2 := hid hr2
  clear ho2 hx2 hr2 HX1 HR1
  go_wp2_with fail
  refine (rmix_any A2 c2 _ _ HR2.out).mono ?_
  rintro e w3 ⟨v3, rfl, ho3, hx3⟩
  have HH := hid (And.intro (ho3.base_mono HX2.out.size) (Ext.trans HX2.out (show Ext w2 w3 from hx3)))
  clear ho3 hx3 HR2 HX2
  go_wp2_with fail
  go_ret
  exact ⟨_, rfl, HH.out.1, HH.out.2⟩
/-- The constants of the reference, in two rows. -/
def RCn (w : World) (H r : Nat) : Prop := w.cell? ⟨H, r, none⟩ = some (.int .u64 (chi r)) ∧ w.cell? ⟨H + 1, r, none⟩ = some (.int .u64 (clo r))
theorem RCn.later {w w' : World} {H r : Nat} (h : RCn w H r) (hx : Ext w w') : RCn w' H r :=
  ⟨(Below.cell hx (p := ⟨H, r, none⟩) (World.block_lt_of_cell? w _ h.1)).trans h.1, (Below.cell hx (p := ⟨H + 1, r, none⟩) (World.block_lt_of_cell? w _ h.2)).trans h.2⟩
def rcKs (H i r : Nat) : List Go.Proofs.YtpfkcplldhdipaaDoor.K := [.eq (.slice (some ⟨H, 0, none⟩) 3 3), .eq (.int .i64 i), .eq (.int .i64 r), .eq (.pointer (some ⟨H, r, none⟩)), .eq (.int .u64 (chi r)), .gen (OwnP H (spreadL (chi r) 8)) (OwnP.keep _ _), .eq (.slice (some ⟨H + 1, 0, none⟩) 3 3), .eq (.int .i64 i), .eq (.int .i64 r), .eq (.pointer (some ⟨H + 1, r, none⟩)), .eq (.int .u64 (clo r)), .byt 8 (spreadL (clo r) 8), .any, .any]
set_option maxRecDepth 100000 in
set_option maxHeartbeats 4000000 in
theorem rconst_any (i : Nat) (w : World) (hi : i ≤ 1000) : Calls Tryd.prog 41 #[.int .i64 i] w (RetB w (constL i)) := by
  obtain ⟨r, hr⟩ : ∃ r, i % 3 = r := ⟨_, rfl⟩
  have HTM := hid (show (i : Int).tmod 3 = (r : Int) ∧ (r : Int) < 3 from ⟨by rw [Int.tmod_eq_emod_of_nonneg (by omega)]; omega, by omega⟩)
  have HCL := hid (show spreadL (chi r) 8 ++ spreadL (clo r) 8 = constL i by rw [constL, hr])
  have h1 := heap_alloc2_old w (.cells #[.int .u64 5871781006564002452, .int .u64 7904181063698728992, .int .u64 15821769039155751280] 92) (.cells #[.int .u64 18308165927316385504, .int .u64 18386141011142107824, .int .u64 226472410124699918] 92)
  have h2 := heap_alloc2_new w (.cells #[.int .u64 5871781006564002452, .int .u64 7904181063698728992, .int .u64 15821769039155751280] 92) (.cells #[.int .u64 18308165927316385504, .int .u64 18386141011142107824, .int .u64 226472410124699918] 92)
  have hx := (Ext.alloc w (.cells #[.int .u64 5871781006564002452, .int .u64 7904181063698728992, .int .u64 15821769039155751280] 92)).trans (Ext.alloc _ (.cells #[.int .u64 18308165927316385504, .int .u64 18386141011142107824, .int .u64 226472410124699918] 92))
  obtain ⟨W, hW⟩ : ∃ W, (w.alloc (.cells #[.int .u64 5871781006564002452, .int .u64 7904181063698728992, .int .u64 15821769039155751280] 92)).alloc (.cells #[.int .u64 18308165927316385504, .int .u64 18386141011142107824, .int .u64 226472410124699918] 92) = W := ⟨_, rfl⟩
  rw [hW] at h1 h2 hx
  obtain ⟨H, hH⟩ : ∃ H, w.heap.size = H := ⟨_, rfl⟩
  rw [hH] at h1 h2
  have hr3 : r < 3 := by omega
  have HC := hid (show RCn W H r from ⟨by
      rw [cell_of_row _ _ _ _ _ _ h1]
      match r, hr3 with
      | 0, _ => rfl
      | 1, _ => rfl
      | 2, _ => rfl, by
      rw [cell_of_row _ _ _ _ _ _ h2]
      match r, hr3 with
      | 0, _ => rfl
      | 1, _ => rfl
      | 2, _ => rfl⟩)
  have HX := hid hx
  have HW := hid (And.intro hW hH)
  have HH := hid (show H ≤ W.heap.size by rw [← hH]; exact hx.size)
  clear hr h1 h2 hx hW hH hr3
  go_enter Tryd.func41, Tryd.ntmps41
  go_wp2_with fail
  rw [HW.out.1, HW.out.2]
  refine region_upto 12 mixed rfl (by kernel_rfl) (by kernel_rfl) (by kernel_rfl) (kV (rcKs H i r)) (kV_keep _) (forall_ops ⟨?_, ?_, ?_, ?_, ?_, ?_, ?_, ?_, ?_, ?_, ?_, ?_, trivial⟩) ?_
  · intro a w hk
    have s3 : a.tmps.getD 3 undef = .slice (some ⟨H, 0, none⟩) 3 3 := hk.was 3 (by kernel_rfl) rfl
    exact step_move rfl rfl s3 rfl
  · intro a w hk
    have s0 : a.tmps.getD 0 undef = .int .i64 i := hk.was 0 (by kernel_rfl) rfl
    exact step_move rfl rfl s0 rfl
  · intro a w hk
    have s8 := hk.eq_ 1 8 (by kernel_rfl) rfl
    refine step_val (v := .int .i64 r) (w' := w) rfl ?_ (Ext.refl w) rfl
    have e := HTM.out.1
    go_simp
  · intro a w hk
    have s7 := hk.eq_ 0 7 (by kernel_rfl) rfl
    have s9 := hk.eq_ 2 9 (by kernel_rfl) rfl
    refine step_val (v := .pointer (some ⟨H, r, none⟩)) (w' := w) rfl ?_ (Ext.refl w) rfl
    have e : (r : Int) < 3 := HTM.out.2
    go_simp
  · intro a w hk
    have s10 := hk.eq_ 3 10 (by kernel_rfl) rfl
    refine step_val (v := .int .u64 (chi r)) (w' := w) rfl ?_ (Ext.refl w) rfl
    have hc := (HC.out.later hk.ext).1
    go_simp
  · intro a w hk
    have s11 := hk.eq_ 4 11 (by kernel_rfl) rfl
    exact step_call rfl rfl (by simp only [List.map_toArray, List.map_cons, List.map_nil, Act.eval, s11] <;> rfl) cf56 (rput64_any (chi r) w) (fun e w1 h => retOwn (Nat.le_trans HH.out (Below.size hk.ext)) e w1 h)
  · intro a w hk
    have s4 : a.tmps.getD 4 undef = .slice (some ⟨H + 1, 0, none⟩) 3 3 := hk.was 4 (by kernel_rfl) rfl
    exact step_move rfl rfl s4 rfl
  · intro a w hk
    have s0 : a.tmps.getD 0 undef = .int .i64 i := hk.was 0 (by kernel_rfl) rfl
    exact step_move rfl rfl s0 rfl
  · intro a w hk
    have s14 := hk.eq_ 7 14 (by kernel_rfl) rfl
    refine step_val (v := .int .i64 r) (w' := w) rfl ?_ (Ext.refl w) rfl
    have e := HTM.out.1
    go_simp
  · intro a w hk
    have s13 := hk.eq_ 6 13 (by kernel_rfl) rfl
    have s15 := hk.eq_ 8 15 (by kernel_rfl) rfl
    refine step_val (v := .pointer (some ⟨H + 1, r, none⟩)) (w' := w) rfl ?_ (Ext.refl w) rfl
    have e : (r : Int) < 3 := HTM.out.2
    go_simp
  · intro a w hk
    have s16 := hk.eq_ 9 16 (by kernel_rfl) rfl
    refine step_val (v := .int .u64 (clo r)) (w' := w) rfl ?_ (Ext.refl w) rfl
    have hc := (HC.out.later hk.ext).2
    go_simp
  · intro a w hk
    have s17 := hk.eq_ 10 17 (by kernel_rfl) rfl
    exact step_call rfl rfl (by simp only [List.map_toArray, List.map_cons, List.map_nil, Act.eval, s17] <;> rfl) cf56 (rput64_any (clo r) w) (fun e w1 h => RetB.k (spreadL_length _ _) e w1 h)
  · intro a w1 hf
    have s7 := hf.eq_ 0 7 (by kernel_rfl) rfl
    have s8 := hf.eq_ 1 8 (by kernel_rfl) rfl
    have s9 := hf.eq_ 2 9 (by kernel_rfl) rfl
    have s10 := hf.eq_ 3 10 (by kernel_rfl) rfl
    have s11 := hf.eq_ 4 11 (by kernel_rfl) rfl
    obtain ⟨u12, s12, g12⟩ := hf.val 5 12 (by kernel_rfl) rfl
    have s13 := hf.eq_ 6 13 (by kernel_rfl) rfl
    have s14 := hf.eq_ 7 14 (by kernel_rfl) rfl
    have s15 := hf.eq_ 8 15 (by kernel_rfl) rfl
    have s16 := hf.eq_ 9 16 (by kernel_rfl) rfl
    have s17 := hf.eq_ 10 17 (by kernel_rfl) rfl
    obtain ⟨A18, c18, s18, r18⟩ := hf.val 11 18 (by kernel_rfl) rfl
    have hx := hf.ext
    have e := hf.frame
    clear hf
    simp only [List.take_succ_cons, List.take_zero, regFrame, Act.put, List.setIfInBounds_toArray, List.set_cons_zero, List.set_cons_succ, s7, s8, s9, s10, s11, s12, s13, s14, s15, s16, s17, s18] at e
    clear s7 s8 s9 s10 s11 s12 s13 s14 s15 s16 s17 s18
    subst e
    simp only [List.drop_succ_cons, List.drop_zero]
    have HO := hid g12
    have HR := hid r18
    have hsz := Below.size (show Ext W w1 from hx)
    have HB := hid (Nat.le_trans HH.out hsz)
    have HX1 := hid (Ext.trans HX.out hx)
    clear g12 r18 hx hsz
    go_wp2_with (at_builtin; refine wpL_append _ rfl (.tmp 12) (.tmp 18) 22 rfl Tryd.underlying22 Tryd.info5 H u12 _ rfl HO.out _ A18 8 c18 _ rfl HR.out (by rw [spreadL_length]; omega) HB.out ?_; intro v3 w3 hown3 hb3)
    rw [HCL.out] at hown3
    have HH3 := hid (show Own w3 w.heap.size v3 (constL i) ∧ Below w.heap.size w w3 by
      rw [← HW.out.2] at hown3 hb3
      exact ⟨hown3, (show Below w.heap.size w w1 from HX1.out).trans hb3⟩)
    clear hown3 hb3
    go_wp2_with fail
    go_ret
    exact ⟨_, rfl, HH3.out.1, HH3.out.2⟩
end Go.Proofs.YtpfkcplldhdipaaDoor
