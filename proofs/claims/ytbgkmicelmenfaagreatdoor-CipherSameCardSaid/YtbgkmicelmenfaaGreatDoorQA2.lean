/- Own lemmas of the verifier on memory, numbers and the functions that the laws call; no statement is proved here. -/
import Derived.Test.YtbgkmicelmenfaaGreatDoorQA1
import Derived.Deep.OwnRows
import Derived.Lib.AppendZerosOnto
import Derived.Laws.CopyRow
namespace Go.Proofs.YtbgkmicelmenfaaGreatDoor.A
open Go.RowKit
set_option maxRecDepth 100000
def z272 : List UInt8 := List.replicate 272 0
theorem z272_length : z272.length = 272 := List.length_replicate
def ariaC (ts : List UInt8) : List Value := cellsOf ts ++ (.int .i64 0 :: (cellsOf z272 ++ cellsOf z272))
theorem inf66 : (Tryz.prog.info? 137).map (fun i => (i.zero, i.size)) = some (some (.agg (ariaC z1024).toArray), 1569) := by kernel_rfl
theorem fill_front : ∀ (vs P Z : List Value) (cs : Array Value), cs.toList = P ++ Z → vs.length ≤ Z.length →
    ((vs.zipIdx P.length).foldl (fun cs (p : Value × Nat) => cs.setIfInBounds (0 + p.2) p.1) cs).toList = P ++ (vs ++ Z.drop vs.length)
  | [], P, Z, cs, h, _ => by simpa using h
  | v :: vs, P, z :: Z, cs, h, hl => by
    rw [List.zipIdx_cons, List.foldl_cons]
    have h2 : (cs.setIfInBounds (0 + P.length) v).toList = (P ++ [v]) ++ Z := by
      rw [Array.toList_setIfInBounds, h, Nat.zero_add]; simp
    have := fill_front vs (P ++ [v]) Z _ h2 (by simpa using hl)
    simpa using this
  | _ :: _, _, [], _, _, hl => absurd hl (by simp)
theorem built66 (w : World) : (Instr.build 137 #[(0, bv tabB)]).run Tryz.prog w = .ok (.agg (ariaC tabB).toArray) w := by
  refine run_build w 137 _ _ ?_
  unfold Program.built
  have h66 := inf66
  cases hq : Tryz.prog.info? 137 with
  | none => rw [hq] at h66; cases h66
  | some i =>
    rw [hq] at h66
    simp only [Option.map_some, Option.some.injEq, Prod.mk.injEq] at h66
    have hp : (#[({ name := "tables", type := 130, offset := 0, embedded := false, tag := "", pkgPath := "scrim/aria", byteOffset := 0 } : Field),
          { name := "rounds", type := 3, offset := 1024, embedded := false, tag := "", pkgPath := "scrim/aria", byteOffset := 1024 },
          { name := "there", type := 135, offset := 1025, embedded := false, tag := "", pkgPath := "scrim/aria", byteOffset := 1032 },
          { name := "back", type := 135, offset := 1297, embedded := false, tag := "", pkgPath := "scrim/aria", byteOffset := 1304 }] : Array Field).toList.mapM (fun f => (Tryz.prog.info? f.type).map fun i => (f.offset, i.size)) = some [(0, 1024), (1024, 1), (1025, 272), (1297, 272)] := by kernel_rfl
    simp only [Tryz.underlying137, h66.1, hp]
    have hs : (Value.agg (cellsOf tabB).toArray).cells.size = 1024 := by show (cellsOf tabB).toArray.size = 1024; simp [cellsOf_length, tabB_length]
    have hz : (Value.agg (ariaC z1024).toArray).cells = (ariaC z1024).toArray := rfl
    have hzs : (ariaC z1024).toArray.size = 1569 := by simp [ariaC, cellsOf_length, z1024_length, z272_length]
    simp only [Instr.fill, bv, hz, hs, hzs]
    show (if (decide (1024 ≠ 1024) || decide (0 + 1024 > 1569)) = true then none else _) = _
    rw [if_neg (by decide)]
    refine congrArg some (Array.toList_inj.1 ?_)
    rw [← Array.foldl_toList, Array.toList_zipIdx]
    have hf := fill_front (cellsOf tabB) [] (ariaC z1024) (ariaC z1024).toArray rfl (by rw [cellsOf_length, tabB_length]; simp [ariaC, cellsOf_length, z1024_length])
    have hd : (ariaC z1024).drop (cellsOf tabB).length = .int .i64 0 :: (cellsOf z272 ++ cellsOf z272) := by
      unfold ariaC
      exact List.drop_left' (by rw [cellsOf_length, cellsOf_length, tabB_length, z1024_length])
    rw [hd, List.nil_append] at hf
    exact hf
theorem cf31 (vs : Array Value) (w : World) : (callFunc 65 vs).run Tryz.prog w = .ok (.enter 65 vs) w := by go_simp
theorem RW.part {w : World} {g : Nat} {t : TypeId} {bs : List UInt8} (P Q : List Value) (h : w.heap[g]? = some (.cells (P ++ (cellsOf bs ++ Q)).toArray t (0, 0))) : RW w g P.length bs := by
  have hc : ∀ k v, (cellsOf bs)[k]? = some v → w.cell? ⟨g, P.length + k, none⟩ = some v := fun k v hv => by
    rw [cell_of_row w g _ _ t _ h]
    have hk := (List.getElem?_eq_some_iff.1 hv).1
    simp only [List.getElem?_toArray]
    rw [List.getElem?_append_right (by omega), Nat.add_sub_cancel_left, List.getElem?_append_left hk]
    exact hv
  exact ⟨hc, fun j hj => ⟨by rw [hc j _ (cellsOf_get bs j hj)]; rfl, frozen_of_row w g _ _ t h⟩⟩
theorem aria_new {w : World} {d : Nat} (h : w.heap[d]? = some (.cells (ariaC tabB).toArray 137 (0, 0))) :
    TB w d ∧ (w.cell? ⟨d, 1024, none⟩ = some (.int .i64 0) ∧ w.frozen? ⟨d, 1024, none⟩ = false) ∧ RW w d 1025 z272 ∧ RW w d 1297 z272 := by
  have hl : (cellsOf tabB).length = 1024 := by rw [cellsOf_length, tabB_length]
  have hz : (cellsOf z272).length = 272 := by rw [cellsOf_length, z272_length]
  refine ⟨(RW.part (bs := tabB) [] _ h).rd, ⟨?_, frozen_of_row w d _ _ 137 h⟩, ?_, ?_⟩
  · rw [cell_of_row w d _ _ 137 _ h]
    unfold ariaC
    rw [List.getElem?_toArray, List.getElem?_append_right (by omega), hl]
    rfl
  · have := RW.part (t := 137) (bs := z272) (cellsOf tabB ++ [.int .i64 0]) (cellsOf z272) (by rw [h]; simp [ariaC])
    rw [List.length_append, hl] at this
    exact this
  · have := RW.part (t := 137) (bs := z272) (cellsOf tabB ++ (.int .i64 0 :: cellsOf z272)) [] (by rw [h]; simp [ariaC])
    rw [List.length_append, hl, List.length_cons, hz] at this
    exact this
structure IsAria (w : World) (d : Nat) (key : List UInt8) : Prop where
  tb : TB w d
  rounds : w.cell? ⟨d, 1024, none⟩ = some (.int .i64 ((keyN key - 1 : Nat) : Int))
  there : w.rangeAt d 1025 (cellsOf (FL (keyF key) (keyN key)))
  back : w.rangeAt d 1297 (cellsOf (FL (undoF (keyF key) (keyN key - 1)) (keyN key)))
theorem IsAria.later {w w' : World} {d : Nat} {key : List UInt8} (h : IsAria w d key) (hx : Ext w w') : IsAria w' d key :=
  ⟨h.tb.later hx, (Below.cell hx (p := ⟨d, 1024, none⟩) h.tb.lt).trans h.rounds, rangeAt_later h.there hx, rangeAt_later h.back hx⟩
def BkP (D N : Nat) (bs : List UInt8) (w : World) (v : Value) : Prop := ∃ g cap, v = .slice (some ⟨g, 0, none⟩) N cap ∧ D < g ∧ w.rangeAt g 0 (cellsOf bs)
theorem BkP.keep (D N : Nat) (bs : List UInt8) : ∀ w w' v, Ext w w' → BkP D N bs w v → BkP D N bs w' v := fun _ _ _ hx ⟨g, cap, h1, h2, h3⟩ => ⟨g, cap, h1, h2, rangeAt_later h3 hx⟩
theorem retBk {w : World} {D N : Nat} {bs : List UInt8} (hD : D < w.heap.size) (e : Ending) (w' : World) (h : ∃ g cap, e = .returned (.slice (some ⟨g, 0, none⟩) N cap) ∧ w.heap.size ≤ g ∧ RW w' g 0 bs ∧ Ext w w') :
    ∃ v, e = .returned v ∧ Ext w w' ∧ Go.Proofs.YtbgkmicelmenfaaGreatDoor.K.holds (.gen (BkP D N bs) (BkP.keep _ _ _)) w' v := by
  obtain ⟨g, cap, rfl, hg, hr, hx⟩ := h
  exact ⟨_, rfl, hx, g, cap, rfl, by omega, hr.rd⟩
theorem RW.apartO {w : World} {g o : Nat} {bs : List UInt8} (h : RW w g o bs) (g' o' : Nat) (vs : List Value) (ha : g ≠ g' ∨ o + bs.length ≤ o' ∨ o' + vs.length ≤ o) : RW (w.setCells g' o' vs) g o bs :=
  ⟨World.rangeAt_setCells_apart h.rd g' o' vs (by rw [cellsOf_length]; exact ha), World.there_setCells h.wr g' o' vs⟩
theorem wpList_bld {ops : Array Oper} {rest : List Oper} {o : Oper} {a : Act} {w : World} {Q : Exit → Act → World → Prop} (hgd : o.guard = none) (x : Operand) (ho : o.op = .build 137 #[(0, x)]) (hx : a.eval x = bv tabB)
    (h : wpList Tryz.prog ops Q rest (a.put o.dst (.agg (ariaC tabB).toArray)) w) : wpList Tryz.prog ops Q (o :: rest) a w :=
  wpList_plain hgd fun K hK => by
    have hk := hK _ _ h
    clear hK h
    unfold Oper.wp execOp
    simp only [ho, List.map_toArray, List.map_cons, List.map_nil, hx, Sem.run_bind, built66, Result.andThen_ok, Sem.run_pure]
    exact hk
def newKs (D K N : Nat) (f : Nat → List UInt8) : List Go.Proofs.YtbgkmicelmenfaaGreatDoor.K := [.eq (.pointer (some ⟨D, 0, none⟩)), .eq (.pointer (some ⟨D, 0, none⟩)), .eq (.pointer (some ⟨D, 1297, none⟩)), .eq (.slice (some ⟨D, 1297, none⟩) 17 17), .eq (.slice (some ⟨K, 0, none⟩) N N), .gen (BkP D N (FL (undoF f (N - 1)) N)) (BkP.keep _ _ _), .any]
set_option maxHeartbeats 4000000 in
theorem new_any (A : Option Addr) (n c : Nat) (key : List UInt8) (w : World) (h : Rd w w.heap.size A n key) (hn : okLen n) (hc : n ≤ c) (hG : GK w) :
    Calls Tryz.prog 34 #[.slice A n c] w fun e w' => ∃ d, e = .returned (.tuple #[.pointer (some ⟨d, 0, none⟩), .int .i64 0]) ∧ w.heap.size ≤ d ∧ IsAria w' d key ∧ Ext w w' := by
  have hl := h.len
  have HR := hid h
  have HG := hid hG
  have HN := hid hn
  have HC := hid hc
  clear h hG hc
  go_enter Tryz.func34, Tryz.ntmps34
  go_wp2_with (go_at_call 62; refine (isKey_good _ _ _ _ HN.out).mono ?_; rintro e w' ⟨rfl, rfl⟩)
  refine (makeBoxes_any _ HG.out.odd HG.out.rws).mono ?_
  rintro e w1 ⟨rfl, hx1⟩
  have h2 := heap_alloc_new w1 (.cells (ariaC tabB).toArray 137)
  have x2 := Ext.alloc w1 (.cells (ariaC tabB).toArray 137)
  obtain ⟨W2, hW2⟩ : ∃ W2, w1.alloc (.cells (ariaC tabB).toArray 137) = W2 := ⟨_, rfl⟩
  have z2 : W2.heap.size = w1.heap.size + 1 := by rw [← hW2]; simp
  rw [hW2] at h2 x2
  have hwd := hx1.size
  obtain ⟨D, hD⟩ : ∃ D, w1.heap.size = D := ⟨_, rfl⟩
  rw [hD] at h2
  have ha := aria_new h2
  have HW := hid (And.intro hW2 hD)
  have HX2 := hid (hx1.trans x2)
  have H2 := hid h2
  have HDL := hid (show D < W2.heap.size by omega)
  have HWD := hid (show w.heap.size ≤ D by omega)
  have HTB := hid ha.1
  clear hx1 h2 x2 hW2 hD ha z2 hwd
  go_wp2_with (first
    | (refine wpList_bld rfl (.tmp 9) rfl rfl ?_)
    | (rw [HW.out.1, HW.out.2]; clear HW))
  refine (keys_any D n c A key W2 (HR.out.later HX2.out) HN.out HC.out HTB.out (HG.out.later HX2.out).sev (HG.out.later HX2.out).con (HG.out.later HX2.out).tu).mono ?_
  rintro e w4 ⟨K, rfl, hKD, hK, hx4⟩
  obtain ⟨N, hN⟩ : ∃ N, keyN key = N := ⟨_, rfl⟩
  have hNn : N ≤ 17 ∧ 13 ≤ N := by
    have := HN.out
    unfold okLen at this
    unfold keyN at hN
    omega
  have HNN := hid hNn
  rw [hN] at hK ⊢
  obtain ⟨f, hf⟩ : ∃ f, keyF key = f := ⟨_, rfl⟩
  have HFL := hid (show ∀ j, j < N → (f j).length = 16 from fun j _ => by rw [← hf]; exact keyF_length key j)
  rw [hf] at hK
  have hNE := hid (And.intro hN hf)
  have hDK : D < K := by have := HDL.out; omega
  have h4 := aria_new ((hx4.block D HDL.out).trans H2.out)
  have HX4 := hid (Ext.trans HX2.out hx4)
  obtain ⟨r, hr⟩ : ∃ r, N - 1 = r := ⟨_, rfl⟩
  have hri : (N : Int) - 1 = (r : Int) := by omega
  have hni : (N : Int) ≤ 17 := by omega
  have hcl := h4.2.1.1
  have hfz := h4.2.1.2
  have t5 : TB (w4.setCell ⟨D, 1024, none⟩ (.int .i64 r)) D := World.rangeAt_setCells_apart h4.1 D 1024 [.int .i64 r] (.inr (.inl (by rw [cellsOf_length, tabB_length]; omega)))
  have c5 : (w4.setCell ⟨D, 1024, none⟩ (.int .i64 r)).cell? ⟨D, 1024, none⟩ = some (.int .i64 r) := World.cell?_setCell_same _ _ _ hcl
  have a5 : RW (w4.setCell ⟨D, 1024, none⟩ (.int .i64 r)) D 1025 z272 := h4.2.2.1.apartO D 1024 [.int .i64 r] (.inr (.inr (by simp)))
  have b5 : RW (w4.setCell ⟨D, 1024, none⟩ (.int .i64 r)) D 1297 z272 := h4.2.2.2.apartO D 1024 [.int .i64 r] (.inr (.inr (by simp)))
  have k5 : RW (w4.setCell ⟨D, 1024, none⟩ (.int .i64 r)) K 0 (FL f N) := hK.apart D 1024 [.int .i64 r] (by omega)
  have x5 := below_setCells (B := w.heap.size) (b := D) (a := w) HWD.out [.int .i64 r] 1024 w4 HX4.out
  obtain ⟨W5, hW5⟩ : ∃ W5, w4.setCell ⟨D, 1024, none⟩ (.int .i64 r) = W5 := ⟨_, rfl⟩
  rw [hW5] at t5 c5 a5 b5 k5
  have x5' : Below w.heap.size w W5 := by rw [← hW5]; exact x5
  have hl5 : (FL f N).length = N * 16 := FL_length _ _
  have t6 := World.rangeAt_setCells_apart t5 D 1025 (cellsOf (FL f N)) (.inr (.inl (by rw [cellsOf_length, tabB_length]; omega)))
  have c6 : (W5.setCells D 1025 (cellsOf (FL f N))).cell? ⟨D, 1024, none⟩ = some (.int .i64 r) := by
    rw [World.cell?_setCells_out D (cellsOf (FL f N)) 1025 W5 ⟨D, 1024, none⟩ (fun _ _ => .inl (by show 1024 < 1025; omega))]; exact c5
  have HT5 := hid (show W5.there D 1025 (FL f N).length from fun j hj => a5.wr j (by rw [z272_length]; omega))
  have a6 := World.rangeAt_setCells_same W5 D 1025 (cellsOf (FL f N)) (by rw [cellsOf_length]; exact HT5.out)
  have b6 := b5.apartO D 1025 (cellsOf (FL f N)) (.inr (.inr (by rw [cellsOf_length]; omega)))
  have k6 := k5.apart D 1025 (cellsOf (FL f N)) (by omega)
  have x6 := below_setCells (B := w.heap.size) (b := D) (a := w) HWD.out (cellsOf (FL f N)) 1025 W5 x5'
  obtain ⟨W6, hW6⟩ : ∃ W6, W5.setCells D 1025 (cellsOf (FL f N)) = W6 := ⟨_, rfl⟩
  rw [hW6] at t6 c6 a6 b6 k6 x6
  have HMN := hid (show (FL f N).length = Nat.min N 17 * 16 by rw [hl5, show Nat.min N 17 = N from Nat.min_eq_left (by omega)])
  have HK5 := hid k5.rd
  have HKR := hid k6
  have HDL6 := hid (show D < W6.heap.size from World.block_lt_of_cell? W6 _ c6)
  have HDL := HDL6
  have HSV := hid (HG.out.later x6).sev
  have HF6 := hid (And.intro t6 (And.intro c6 (And.intro a6 (And.intro b6 x6))))
  have HW5 := hid hW5
  have HW6 := hid hW6
  have HR1 := hid hr
  clear hN hNn hKD hK hx4 hf hDK h4 t5 c5 a5 b5 k5 x5 x5' hl5 t6 c6 a6 b6 k6 x6 hW5 hW6 hr HR HG H2 HTB
  go_wp2_with (first
    | (rw [HW5.out]; clear HW5; refine wpList_cp rfl (.tmp 26) (.tmp 27) 138 138 133 16 rfl Tryz.underlying138 size55 D 1025 17 17 N N K 0 (FL f N) rfl rfl HMN.out HK5.out HT5.out ?_; rw [HW6.out]; clear HW6 HMN HK5 HT5)
    | (rw [HW5.out]; clear HW5; fail))
  clear hcl hfz
  refine region_upto 6 mixed rfl (by kernel_rfl) (by kernel_rfl) (by kernel_rfl) (kV (newKs D K N f)) (kV_keep _) (forall_ops ⟨?_, ?_, ?_, ?_, ?_, ?_, trivial⟩) ?_
  · intro a w hk
    have s4 : a.tmps.getD 4 undef = .pointer (some ⟨D, 0, none⟩) := hk.was 4 (by kernel_rfl) rfl
    exact step_move rfl rfl s4 rfl
  · intro a w hk
    have s29 := hk.eq_ 0 29 (by kernel_rfl) rfl
    refine step_val (v := .pointer (some ⟨D, 0, none⟩)) (w' := w) rfl ?_ (Ext.refl w) rfl
    go_simp
  · intro a w hk
    have s30 := hk.eq_ 1 30 (by kernel_rfl) rfl
    refine step_val (v := .pointer (some ⟨D, 1297, none⟩)) (w' := w) rfl ?_ (Ext.refl w) rfl
    go_simp
  · intro a w hk
    have s31 := hk.eq_ 2 31 (by kernel_rfl) rfl
    refine step_val (v := .slice (some ⟨D, 1297, none⟩) 17 17) (w' := w) rfl ?_ (Ext.refl w) rfl
    go_simp
  · intro a w hk
    have s5 : a.tmps.getD 5 undef = .slice (some ⟨K, 0, none⟩) N N := hk.was 5 (by kernel_rfl) rfl
    exact step_move rfl rfl s5 rfl
  · intro a w hk
    have s33 := hk.eq_ 4 33 (by kernel_rfl) rfl
    exact step_call rfl rfl (by simp only [List.map_toArray, List.map_cons, List.map_nil, Act.eval, s33] <;> rfl) cf31 (undoing_any K N N f w (HKR.out.later (by rw [FL_length]; have := HNN.out; omega) hk.ext) HFL.out (by have := HNN.out; omega) (by have := HNN.out; omega) (HSV.out.later hk.ext)) (fun e w1 h => retBk (Nat.lt_of_lt_of_le HDL.out (Below.size hk.ext)) e w1 h)
  · intro a w1 hf
    have s29 := hf.eq_ 0 29 (by kernel_rfl) rfl
    have s30 := hf.eq_ 1 30 (by kernel_rfl) rfl
    have s31 := hf.eq_ 2 31 (by kernel_rfl) rfl
    have s32 := hf.eq_ 3 32 (by kernel_rfl) rfl
    have s33 := hf.eq_ 4 33 (by kernel_rfl) rfl
    obtain ⟨g34, p34, s34, q34, h34⟩ := hf.val 5 34 (by kernel_rfl) rfl
    have hx := hf.ext
    have e := hf.frame
    clear hf
    simp only [List.take_succ_cons, List.take_zero, regFrame, Act.put, List.setIfInBounds_toArray, List.set_cons_zero, List.set_cons_succ, s29, s30, s31, s32, s33, s34] at e
    clear s29 s30 s31 s32 s33 s34
    subst e
    simp only [List.drop_succ_cons, List.drop_zero]
    have hMN : (FL (undoF f (N - 1)) N).length = Nat.min N 17 * 16 := by rw [FL_length, show Nat.min N 17 = N from Nat.min_eq_left HNN.out.1]
    have hl7 : (FL (undoF f (N - 1)) N).length = N * 16 := FL_length _ _
    have b7 := HF6.out.2.2.2.1.later (by rw [z272_length]; omega) hx
    have HT7 := hid (show w1.there D 1297 (FL (undoF f (N - 1)) N).length from fun j hj => b7.wr j (by rw [z272_length]; have := HNN.out; omega))
    have t8 := World.rangeAt_setCells_apart (rangeAt_later HF6.out.1 hx) D 1297 (cellsOf (FL (undoF f (N - 1)) N)) (.inr (.inl (by rw [cellsOf_length, tabB_length]; omega)))
    have c8 : (w1.setCells D 1297 (cellsOf (FL (undoF f (N - 1)) N))).cell? ⟨D, 1024, none⟩ = some (.int .i64 r) := by
      rw [World.cell?_setCells_out D _ 1297 w1 ⟨D, 1024, none⟩ (fun _ _ => .inl (by show 1024 < 1297; omega)), Below.cell hx (p := ⟨D, 1024, none⟩) HDL.out]
      exact HF6.out.2.1
    have a8 := World.rangeAt_setCells_apart (rangeAt_later HF6.out.2.2.1 hx) D 1297 (cellsOf (FL (undoF f (N - 1)) N)) (.inr (.inl (by rw [cellsOf_length, FL_length]; have := HNN.out; omega)))
    have b8 := World.rangeAt_setCells_same w1 D 1297 (cellsOf (FL (undoF f (N - 1)) N)) (by rw [cellsOf_length]; exact HT7.out)
    have x8 := below_setCells (B := w.heap.size) (b := D) (a := w) HWD.out (cellsOf (FL (undoF f (N - 1)) N)) 1297 w1 (Ext.trans HF6.out.2.2.2.2 hx)
    have HA := hid (show IsAria (w1.setCells D 1297 (cellsOf (FL (undoF f (N - 1)) N))) D key from ⟨t8, by rw [hNE.out.1]; have h := c8; rw [← HR1.out] at h; exact h, by rw [hNE.out.1, hNE.out.2]; exact a8, by rw [hNE.out.1, hNE.out.2]; exact b8⟩)
    have HX8 := hid x8
    have HM7 := hid hMN
    have HB7 := hid h34
    clear hx hMN hl7 b7 t8 c8 a8 b8 x8 h34
    go_wp2_with (refine wpList_cp rfl (.tmp 32) (.tmp 34) 138 138 133 16 rfl Tryz.underlying138 size55 D 1297 17 17 N p34 g34 0 (FL (undoF f (N - 1)) N) rfl rfl HM7.out HB7.out HT7.out ?_)
    go_ret2
    exact ⟨D, rfl, HWD.out, HA.out, HX8.out⟩
end Go.Proofs.YtbgkmicelmenfaaGreatDoor.A
namespace Go.Proofs.YtbgkmicelmenfaaGreatDoor.A
open Go.RowKit
set_option maxRecDepth 100000
def passKs2 (d S i : Nat) (BI KI : List UInt8) : List Go.Proofs.YtbgkmicelmenfaaGreatDoor.K := [.eq (.pointer (some ⟨d, 0, none⟩)), .eq (.pointer (some ⟨d, 0, none⟩)), .eq (.pointer (some ⟨d, 0, none⟩)), .eq (.int .i64 i), .eq (bv BI), .eq (.pointer (some ⟨d, S, none⟩)), .eq (.int .i64 i), .eq (.pointer (some ⟨d, S, none⟩)), .eq (.pointer (some ⟨d, S + i * 16, none⟩)), .eq (bv KI), .eq (bv (stepL i BI KI)), .any]
def passKs6 (d S r : Nat) (SB KR : List UInt8) : List Go.Proofs.YtbgkmicelmenfaaGreatDoor.K := [.eq (bv SB), .eq (.pointer (some ⟨d, S, none⟩)), .eq (.int .i64 r), .eq (.pointer (some ⟨d, S, none⟩)), .eq (.pointer (some ⟨d, S + r * 16, none⟩)), .eq (bv KR), .eq (bv (xorL SB KR 16)), .any]
def iAt (k : Nat) (a : Act) : Nat := match a.tmps.getD k undef with | .int _ q => q.toNat | _ => 0
def PassJ (d S r P : Nat) (b : List UInt8) (ks : Nat → List UInt8) (w : World) (a : Act) (w1 : World) : Prop :=
  ∃ (i : Nat) (u8 u9 u10 u11 u12 u13 u14 u15 u16 u17 u18 u19 u20 u21 u22 u23 u24 u25 u26 u27 u28 u29 u30 u31 u32 u33 u34 u35 : Value), a = { tmps := #[.pointer (some ⟨d, 0, none⟩), .agg (cellsOf b).toArray, .pointer (some ⟨d, S, none⟩), undef, .pointer (some ⟨P, 0, none⟩), undef, .pointer (some ⟨P + 1, 0, none⟩), .int .i64 i, u8, u9, u10, u11, u12, u13, u14, u15, u16, u17, u18, u19, u20, u21, u22, u23, u24, u25, u26, u27, u28, u29, u30, u31, u32, u33, u34, u35], defers := [] } ∧ i < r ∧ RW w1 P 0 (passB ks b i) ∧ RW w1 (P + 1) 0 z16 ∧ Ext w w1
set_option maxHeartbeats 8000000 in
theorem pass_any (d S r : Nat) (b : List UInt8) (ks : Nat → List UInt8) (w : World) (hb : b.length = 16) (ht : TB w d) (hc : w.cell? ⟨d, 1024, none⟩ = some (.int .i64 r)) (hk : w.rangeAt d S (cellsOf (FL ks (r + 1)))) (hkl : ∀ j, j < r + 1 → (ks j).length = 16) (h0 : 0 < r) (hr : r ≤ 16) (hs : Sev w) :
    Calls Tryz.prog 66 #[.pointer (some ⟨d, 0, none⟩), bv b, .pointer (some ⟨d, S, none⟩)] w fun e w' => e = .returned (bv (passL ks r b)) ∧ Ext w w' := by
  unfold bv
  have HTB0 := hid ht
  have HSV := hid hs
  have HCR := hid hc
  have HKS := hid hk
  have HKL := hid hkl
  have HDL := hid ht.lt
  have HR16 := hid hr
  have HR0 := hid h0
  have h1 := RW.new w 133 b
  have x1 := Ext.alloc w (.cells (cellsOf b).toArray 133)
  obtain ⟨W1, hW1⟩ : ∃ W1, w.alloc (.cells (cellsOf b).toArray 133) = W1 := ⟨_, rfl⟩
  have z1 : W1.heap.size = w.heap.size + 1 := by rw [← hW1]; simp
  have h2 := RW.new W1 133 z16
  have x2 := Ext.alloc W1 (.cells (cellsOf z16).toArray 133)
  obtain ⟨W2, hW2⟩ : ∃ W2, W1.alloc (.cells (cellsOf z16).toArray 133) = W2 := ⟨_, rfl⟩
  rw [hW1] at h1 x1
  rw [hW2] at h2 x2
  have h1 := h1.later (by omega) x2
  obtain ⟨P, hP⟩ : ∃ P, w.heap.size = P := ⟨_, rfl⟩
  rw [z1] at h2
  rw [hP] at h1 h2
  have HXT := hid (x1.trans x2)
  have HA := hid h1
  have HZ0 := hid h2
  have HP := hid hP
  have HW := hid (And.intro hW1 hW2)
  have HBL := hid hb
  clear hW1 hW2 z1 x1 x2 h1 h2 ht hs hc hk hkl hP hb hr h0
  go_enter Tryz.func66, Tryz.ntmps66
  go_wp2_with fail
  refine wp_scope_jumps2 0 (PassJ d S r P b ks w) (fun a _ => r - iAt 7 a) rfl ?_ ?_
  · clear HA HZ0 HXT HW
    rintro a wr ⟨i, u8, u9, u10, u11, u12, u13, u14, u15, u16, u17, u18, u19, u20, u21, u22, u23, u24, u25, u26, u27, u28, u29, u30, u31, u32, u33, u34, u35, rfl, hir, hp, hz, hx⟩
    have hbl := passB_length ks HBL.out i
    have hbk := rangeAt_blk HKS.out i (by omega) (HKL.out i (by omega))
    have hkl := HKL.out i (by omega)
    obtain ⟨BI, hBI⟩ : ∃ BI, passB ks b i = BI := ⟨_, rfl⟩
    obtain ⟨KI, hKI⟩ : ∃ KI, ks i = KI := ⟨_, rfl⟩
    rw [hBI] at hp hbl
    rw [hKI] at hbk hkl
    have HBI := hid (And.intro hBI hKI)
    have HL := hid (And.intro hbl hkl)
    have HB := hid (And.intro hp.rd (rangeAt_later hbk hx))
    have HRW := hid (And.intro hp (And.intro hz hx))
    have HTB := hid (HTB0.out.later hx)
    have HI1000 := hid (show i ≤ 1000 by have := HR16.out; omega)
    have HI17 := hid (show i < 16 by have := HR16.out; omega)
    have HIR := hid hir
    clear hp hz hx hbl hbk hkl hBI hKI
    go_wp2_with fail
    refine region_tail 11 _ mixed rfl (by kernel_rfl) (by kernel_rfl) rfl rfl rfl (kV (passKs2 d S i BI KI)) (kV_keep _) (forall_ops ⟨?_, ?_, ?_, ?_, ?_, ?_, ?_, ?_, ?_, ?_, ?_, fun h => absurd rfl h, trivial⟩) ?_
    · intro _ a w hk
      have s0 : a.tmps.getD 0 undef = .pointer (some ⟨d, 0, none⟩) := hk.was 0 (by kernel_rfl) rfl
      exact step_move rfl rfl s0 rfl
    · intro _ a w hk
      have s8 := hk.eq_ 0 8 (by kernel_rfl) rfl
      refine step_val (v := .pointer (some ⟨d, 0, none⟩)) (w' := w) rfl ?_ (Ext.refl w) rfl
      go_simp
    · intro _ a w hk
      have s9 := hk.eq_ 1 9 (by kernel_rfl) rfl
      refine step_val (v := .pointer (some ⟨d, 0, none⟩)) (w' := w) rfl ?_ (Ext.refl w) rfl
      go_simp
    · intro _ a w hk
      have s7 : a.tmps.getD 7 undef = .int .i64 i := hk.was 7 (by kernel_rfl) rfl
      exact step_move rfl rfl s7 rfl
    · intro _ a w hk
      have s4 : a.tmps.getD 4 undef = .pointer (some ⟨P, 0, none⟩) := hk.was 4 (by kernel_rfl) rfl
      exact step_val (v := bv BI) (w' := w) rfl (exec_load_mid rfl s4 (rangeAt_later HB.out.1 hk.ext) Tryz.underlying133 (size55' HL.out.1)) (Ext.refl w) rfl
    · intro _ a w hk
      have s2 : a.tmps.getD 2 undef = .pointer (some ⟨d, S, none⟩) := hk.was 2 (by kernel_rfl) rfl
      exact step_move rfl rfl s2 rfl
    · intro _ a w hk
      have s7 : a.tmps.getD 7 undef = .int .i64 i := hk.was 7 (by kernel_rfl) rfl
      exact step_move rfl rfl s7 rfl
    · intro _ a w hk
      have s13 := hk.eq_ 5 13 (by kernel_rfl) rfl
      refine step_val (v := .pointer (some ⟨d, S, none⟩)) (w' := w) rfl ?_ (Ext.refl w) rfl
      go_simp
    · intro _ a w hk
      have s15 := hk.eq_ 7 15 (by kernel_rfl) rfl
      have s14 := hk.eq_ 6 14 (by kernel_rfl) rfl
      refine step_val (v := .pointer (some ⟨d, S + i * 16, none⟩)) (w' := w) rfl ?_ (Ext.refl w) rfl
      have hi3 : (i : Int) < 17 := by have := HI17.out; omega
      go_simp
    · intro _ a w hk
      have s16 := hk.eq_ 8 16 (by kernel_rfl) rfl
      exact step_val (v := bv KI) (w' := w) rfl (exec_load_mid rfl s16 (rangeAt_later HB.out.2 hk.ext) Tryz.underlying133 (size55' HL.out.2)) (Ext.refl w) rfl
    · intro _ a w hk
      have s10 := hk.eq_ 2 10 (by kernel_rfl) rfl
      have s11 := hk.eq_ 3 11 (by kernel_rfl) rfl
      have s12 := hk.eq_ 4 12 (by kernel_rfl) rfl
      have s17 := hk.eq_ 9 17 (by kernel_rfl) rfl
      exact step_call rfl rfl (by simp only [List.map_toArray, List.map_cons, List.map_nil, Act.eval, s10, s11, s12, s17] <;> rfl) cf46 (step_any d i BI KI w HL.out.1 HL.out.2 HI1000.out (HTB.out.later hk.ext)) (fun e w1 h => retX e w1 h)
    · intro a w1 hf
      have s8 := hf.eq_ 0 8 (by kernel_rfl) rfl
      have s9 := hf.eq_ 1 9 (by kernel_rfl) rfl
      have s10 := hf.eq_ 2 10 (by kernel_rfl) rfl
      have s11 := hf.eq_ 3 11 (by kernel_rfl) rfl
      have s12 := hf.eq_ 4 12 (by kernel_rfl) rfl
      have s13 := hf.eq_ 5 13 (by kernel_rfl) rfl
      have s14 := hf.eq_ 6 14 (by kernel_rfl) rfl
      have s15 := hf.eq_ 7 15 (by kernel_rfl) rfl
      have s16 := hf.eq_ 8 16 (by kernel_rfl) rfl
      have s17 := hf.eq_ 9 17 (by kernel_rfl) rfl
      have s18 := hf.eq_ 10 18 (by kernel_rfl) rfl
      have hx := hf.ext
      have e := hf.frame
      clear hf
      simp only [regFrame, Act.put, List.setIfInBounds_toArray, List.set_cons_zero, List.set_cons_succ, s8, s9, s10, s11, s12, s13, s14, s15, s16, s17, s18] at e
      clear s8 s9 s10 s11 s12 s13 s14 s15 s16 s17 s18
      subst e
      have hp := HRW.out.1.later (by rw [HL.out.1]; omega) hx
      have hz := HRW.out.2.1.later (by rw [z16_length]; omega) hx
      have hp2 := hp.store0 (stepL i BI KI) (by rw [stepL_length, HL.out.1])
      have hz2 := hz.apart P 0 (cellsOf (stepL i BI KI)) (by omega)
      have hx2 := below_setCells (B := w.heap.size) (b := P) (a := w) (by have := HP.out; omega) (cellsOf (stepL i BI KI)) 0 w1 (Ext.trans HRW.out.2.2 hx)
      refine wp_store_arr 133 (.tmp 4) (.tmp 18) rfl rfl P 0 (stepL i BI KI) rfl rfl (by rw [stepL_length]; have := hp.wr; rw [HL.out.1] at this; exact this) (size55' (stepL_length _ _ _)) ?_
      obtain ⟨W7, hW7⟩ : ∃ W7, w1.setCells P 0 (cellsOf (stepL i BI KI)) = W7 := ⟨_, rfl⟩
      rw [hW7] at hp2 hz2 hx2 ⊢
      obtain ⟨SB, hSB⟩ : ∃ SB, stepL i BI KI = SB := ⟨_, rfl⟩
      have hSBl : SB.length = 16 := by rw [← hSB]; exact stepL_length _ _ _
      rw [hSB] at hp2
      have HSB := hid hSB
      have HL7 := hid hSBl
      have HQ7 := hid (And.intro hp2 (And.intro hz2 hx2))
      have hcr := (Below.cell hx2 (p := ⟨d, 1024, none⟩) HDL.out).trans HCR.out
      have HRD := hid hp2.rd
      have HSZ := hid (size55' hSBl)
      clear hx hp hz hp2 hz2 hx2 hW7 hSBl hSB HRW HB
      obtain ⟨q, hq⟩ : ∃ q, i + 1 = q := ⟨_, rfl⟩
      have hqi : (i : Int) + 1 = (q : Int) := by omega
      have hqr : q ≤ 17 := by have := HI17.out; omega
      by_cases hlt : q < r
      · have HC := hid (mixed_any SB W7 HL7.out (HSV.out.later HQ7.out.2.2))
        have hqlt : (q : Int) < (r : Int) := by omega
        go_wp2_with (refine wpList_ld rfl 133 (.tmp 4) rfl P 0 rfl SB HRD.out Tryz.underlying133 HSZ.out ?_)
        refine HC.out.mono ?_
        rintro e w8 ⟨rfl, hx8⟩
        have hp8 := HQ7.out.1.later (by rw [HL7.out]; omega) hx8
        have hz8 := (HQ7.out.2.1.later (by rw [z16_length]; omega) hx8).apart P 0 (cellsOf (mixL SB)) (by omega)
        have hs8 := hp8.store0 (mixL SB) (by rw [mixL_length, HL7.out])
        have hx9 := below_setCells (B := w.heap.size) (b := P) (a := w) (by have := HP.out; omega) (cellsOf (mixL SB)) 0 w8 (Ext.trans HQ7.out.2.2 hx8)
        have HTH := hid (show w8.there P 0 (mixL SB).length by rw [mixL_length]; have := hp8.wr; rw [HL7.out] at this; exact this)
        have HSM := hid (size55' (mixL_length SB))
        have hpb : mixL SB = passB ks b q := by rw [← hq, passB, HBI.out.1, HBI.out.2, HSB.out]
        rw [hpb] at hs8 hz8 hx9
        have HN := hid (And.intro hs8 (And.intro hz8 hx9))
        have HPB := hid hpb
        clear hx8 hp8 hz8 hs8 hx9 hpb HC HRD HQ7
        go_wp2_with (refine wpList_st rfl 133 (.tmp 4) (.tmp 28) rfl P 0 (mixL SB) rfl rfl HTH.out HSM.out ?_)
        rw [HPB.out]
        go_step3
        (try simp only [Exit.jump])
        refine ⟨rfl, ⟨q, _, _, _, _, _, _, _, _, _, _, _, _, _, _, _, _, _, _, _, _, _, _, _, _, _, _, _, _, rfl, by omega, HN.out⟩, ?_⟩
        show r - q < r - i
        have := HIR.out
        omega
      · obtain rfl : q = r := by have := HIR.out; omega
        have hnlt : ¬ ((q : Int) < (q : Int)) := by omega
        have hbk := rangeAt_blk HKS.out q (by omega) (HKL.out q (by omega))
        obtain ⟨KR, hKR⟩ : ∃ KR, ks q = KR := ⟨_, rfl⟩
        have hKRl : KR.length = 16 := by rw [← hKR]; exact HKL.out q (by omega)
        rw [hKR] at hbk
        have HL6 := hid (And.intro HL7.out hKRl)
        have HB6 := hid (And.intro HRD.out (rangeAt_later hbk HQ7.out.2.2))
        have HZ := hid HQ7.out.2.1
        have HX6 := hid HQ7.out.2.2
        have HR17 := hid (show q < 17 by have := HI17.out; have := HR16.out; omega)
        have HRES := hid (show xorL SB KR 16 = passL ks q b by rw [passL, show q - 1 = i by omega, HBI.out.1, HBI.out.2, HSB.out, hKR])
        clear hbk hKR hKRl HRD HQ7
        go_wp2_with fail
        refine region_tail 7 _ mixed rfl (by kernel_rfl) (by kernel_rfl) rfl rfl rfl (kV (passKs6 d S q SB KR)) (kV_keep _) (forall_ops ⟨?_, ?_, ?_, ?_, ?_, ?_, ?_, fun h => absurd rfl h, trivial⟩) ?_
        · intro _ a w hk
          have s4 : a.tmps.getD 4 undef = .pointer (some ⟨P, 0, none⟩) := hk.was 4 (by kernel_rfl) rfl
          exact step_val (v := bv SB) (w' := w) rfl (exec_load_mid rfl s4 (rangeAt_later HB6.out.1 hk.ext) Tryz.underlying133 (size55' HL6.out.1)) (Ext.refl w) rfl
        · intro _ a w hk
          have s2 : a.tmps.getD 2 undef = .pointer (some ⟨d, S, none⟩) := hk.was 2 (by kernel_rfl) rfl
          exact step_move rfl rfl s2 rfl
        · intro _ a w hk
          have s7 : a.tmps.getD 7 undef = .int .i64 q := hk.was 7 (by kernel_rfl) rfl
          exact step_move rfl rfl s7 rfl
        · intro _ a w hk
          have s30 := hk.eq_ 1 30 (by kernel_rfl) rfl
          refine step_val (v := .pointer (some ⟨d, S, none⟩)) (w' := w) rfl ?_ (Ext.refl w) rfl
          go_simp
        · intro _ a w hk
          have s32 := hk.eq_ 3 32 (by kernel_rfl) rfl
          have s31 := hk.eq_ 2 31 (by kernel_rfl) rfl
          refine step_val (v := .pointer (some ⟨d, S + q * 16, none⟩)) (w' := w) rfl ?_ (Ext.refl w) rfl
          have hi3 : (q : Int) < 17 := by have := HR17.out; omega
          go_simp
        · intro _ a w hk
          have s33 := hk.eq_ 4 33 (by kernel_rfl) rfl
          exact step_val (v := bv KR) (w' := w) rfl (exec_load_mid rfl s33 (rangeAt_later HB6.out.2 hk.ext) Tryz.underlying133 (size55' HL6.out.2)) (Ext.refl w) rfl
        · intro _ a w hk
          have s29 := hk.eq_ 0 29 (by kernel_rfl) rfl
          have s34 := hk.eq_ 5 34 (by kernel_rfl) rfl
          exact step_call rfl rfl (by simp only [List.map_toArray, List.map_cons, List.map_nil, Act.eval, s29, s34] <;> rfl) cf36 (xored_any SB KR w HL6.out.1 HL6.out.2) (fun e w1 h => retX e w1 h)
        · intro a w1 hf
          have s29 := hf.eq_ 0 29 (by kernel_rfl) rfl
          have s30 := hf.eq_ 1 30 (by kernel_rfl) rfl
          have s31 := hf.eq_ 2 31 (by kernel_rfl) rfl
          have s32 := hf.eq_ 3 32 (by kernel_rfl) rfl
          have s33 := hf.eq_ 4 33 (by kernel_rfl) rfl
          have s34 := hf.eq_ 5 34 (by kernel_rfl) rfl
          have s35 := hf.eq_ 6 35 (by kernel_rfl) rfl
          have hx := hf.ext
          have e := hf.frame
          clear hf
          simp only [regFrame, Act.put, List.setIfInBounds_toArray, List.set_cons_zero, List.set_cons_succ, s29, s30, s31, s32, s33, s34, s35] at e
          clear s29 s30 s31 s32 s33 s34 s35
          subst e
          have hz := HZ.out.later (by rw [z16_length]; omega) hx
          have hs := hz.store0 (xorL SB KR 16) (by rw [xorL_length, z16_length])
          have hxx := below_setCells (B := w.heap.size) (b := P + 1) (a := w) (by have := HP.out; omega) (cellsOf (xorL SB KR 16)) 0 w1 (Ext.trans HX6.out hx)
          have HS := hid hs.rd
          have HXX := hid hxx
          refine wp_store_arr 133 (.tmp 6) (.tmp 35) rfl rfl (P + 1) 0 (xorL SB KR 16) rfl rfl (by rw [xorL_length]; have := hz.wr; rw [z16_length] at this; exact this) (size55' (xorL_length _ _ _)) ?_
          clear hx hz hs hxx
          go_wp2_with fail
          (try simp only [Exit.jump])
          refine ret_mid rfl rfl (P + 1) (xorL SB KR 16) rfl HS.out Tryz.underlying133 (size55' (xorL_length _ _ _)) ⟨by rw [HRES.out]; rfl, HXX.out⟩
  · intro hfirst
    rw [← cells_z16, HW.out.1, HW.out.2, HP.out]
    refine wp_seq ?_
    generalize hK : (Exit.then _ _) = KK
    go_wp2_with fail
    subst hK
    simp only [Exit.then]
    refine wp_seq ?_
    go_step3
    simp only [Exit.then]
    refine hfirst.out _ _ ⟨0, _, _, _, _, _, _, _, _, _, _, _, _, _, _, _, _, _, _, _, _, _, _, _, _, _, _, _, _, rfl, HR0.out, HA.out, HZ0.out, HXT.out⟩
end Go.Proofs.YtbgkmicelmenfaaGreatDoor.A
namespace Go.Proofs.YtbgkmicelmenfaaGreatDoor.A
open Go.RowKit
set_option maxRecDepth 100000
def BRet (w : World) (bs : List UInt8) (e : Ending) (w' : World) : Prop := ∃ A c, e = .returned (.tuple #[.slice A 16 c, .int .i64 0]) ∧ (16 ≤ c ∧ c ≤ 9223372036854775807) ∧ Rd w' w'.heap.size A 16 bs ∧ Ext w w'
theorem undoF_length {f : Nat → List UInt8} (hf : ∀ j, (f j).length = 16) (r i : Nat) : (undoF f r i).length = 16 := by
  unfold undoF
  split
  · exact mixL_length _
  · exact hf _
set_option maxHeartbeats 4000000 in
theorem block_false (d : Nat) (A : Option Addr) (c : Nat) (key bs : List UInt8) (w : World) (hd : IsAria w d key) (h : Rd w w.heap.size A 16 bs) (hk : okLen key.length) (hs : Sev w) :
    Calls Tryz.prog 35 #[.pointer (some ⟨d, 0, none⟩), .slice A 16 c, .bool false] w (BRet w (passL (keyF key) (keyN key - 1) bs)) := by
  have hks := hd.there
  obtain ⟨ff, hff⟩ : ∃ ff, keyF key = ff := ⟨_, rfl⟩
  have hfl : ∀ j, (ff j).length = 16 := fun j => by rw [← hff]; exact keyF_length key j
  rw [hff] at hks ⊢
  obtain ⟨r, hr⟩ : ∃ r, keyN key - 1 = r := ⟨_, rfl⟩
  have hr1 : keyN key = r + 1 ∧ 0 < r ∧ r ≤ 16 := by unfold keyN at hr ⊢; unfold okLen at hk; omega
  have hrd := hd.rounds
  rw [hr] at hrd
  rw [hr1.1] at hks
  obtain ⟨b, o, rfl, _, _⟩ := h.at_ (by omega)
  have HC := hid (pass_any d 1025 r bs ff w h.len hd.tb hrd hks (fun j _ => hfl j) hr1.2.1 hr1.2.2 hs)
  rw [hr]
  have HR := hid (rangeAt_of_rd h)
  have HSZ := hid (size55' h.len)
  have HZM := hid (size55' (passL_length ff r bs))
  obtain ⟨X, hX⟩ : ∃ X, passL ff r bs = X := ⟨_, rfl⟩
  have hXl : X.length = 16 := by rw [← hX]; exact passL_length _ _ _
  rw [hX] at HC HZM ⊢
  have HXL := hid hXl
  clear hd h hk hs hr hr1 hrd hks hX hXl hff hfl
  go_enter Tryz.func35, Tryz.ntmps35
  go_wp2_with (first
    | (refine wpList_atp rfl 133 5 16 (.tmp 21) rfl (some ⟨b, o, none⟩) 16 c rfl Tryz.underlying133 (Nat.le_refl _) ?_)
    | (refine wpList_ld rfl 133 (.tmp 22) rfl b o rfl bs HR.out Tryz.underlying133 HSZ.out ?_))
  refine HC.out.mono ?_
  rintro e w1 ⟨rfl, hx1⟩
  have h2 := RW.new w1 133 z16
  have x2 := Ext.alloc w1 (.cells (cellsOf z16).toArray 133)
  obtain ⟨W2, hW2⟩ : ∃ W2, w1.alloc (.cells (cellsOf z16).toArray 133) = W2 := ⟨_, rfl⟩
  rw [hW2] at h2 x2
  obtain ⟨T, hT⟩ : ∃ T, w1.heap.size = T := ⟨_, rfl⟩
  rw [hT] at h2
  have h3 := h2.store0 X (by rw [HXL.out, z16_length])
  have hx3 := below_setCells (B := w.heap.size) (b := T) (a := w) (by have := hx1.size; omega) (cellsOf X) 0 W2 (hx1.trans x2)
  have HTH := hid (show W2.there T 0 X.length by rw [HXL.out]; have := h2.wr; rw [z16_length] at this; exact this)
  obtain ⟨W3, hW3⟩ : ∃ W3, W2.setCells T 0 (cellsOf X) = W3 := ⟨_, rfl⟩
  rw [hW3] at h3 hx3
  have HF := hid (And.intro (h3.slice HXL.out (h3.lt (by rw [HXL.out]; omega))) hx3)
  have HW := hid (And.intro hW2 (And.intro hT hW3))
  clear hx1 h2 x2 hW2 hT h3 hx3 hW3 HC
  go_wp2_with (first
    | (rw [← cells_z16, HW.out.1, HW.out.2.1]; refine wpList_st rfl 133 (.tmp 9) (.tmp 25) rfl T 0 X rfl rfl HTH.out HZM.out ?_; rw [HW.out.2.2]; clear HW HTH))
  go_ret2
  exact ⟨_, _, rfl, ⟨Nat.le_refl _, by omega⟩, HF.out⟩
set_option maxHeartbeats 4000000 in
theorem block_true (d : Nat) (A : Option Addr) (c : Nat) (key bs : List UInt8) (w : World) (hd : IsAria w d key) (h : Rd w w.heap.size A 16 bs) (hk : okLen key.length) (hs : Sev w) :
    Calls Tryz.prog 35 #[.pointer (some ⟨d, 0, none⟩), .slice A 16 c, .bool true] w (BRet w (passL (undoF (keyF key) (keyN key - 1)) (keyN key - 1) bs)) := by
  have hks := hd.back
  obtain ⟨ff, hff⟩ : ∃ ff, undoF (keyF key) (keyN key - 1) = ff := ⟨_, rfl⟩
  have hfl : ∀ j, (ff j).length = 16 := fun j => by rw [← hff]; exact undoF_length (keyF_length key) _ _
  rw [hff] at hks ⊢
  obtain ⟨r, hr⟩ : ∃ r, keyN key - 1 = r := ⟨_, rfl⟩
  have hr1 : keyN key = r + 1 ∧ 0 < r ∧ r ≤ 16 := by unfold keyN at hr ⊢; unfold okLen at hk; omega
  have hrd := hd.rounds
  rw [hr] at hrd
  rw [hr1.1] at hks
  obtain ⟨b, o, rfl, _, _⟩ := h.at_ (by omega)
  have HC := hid (pass_any d 1297 r bs ff w h.len hd.tb hrd hks (fun j _ => hfl j) hr1.2.1 hr1.2.2 hs)
  rw [hr]
  have HR := hid (rangeAt_of_rd h)
  have HSZ := hid (size55' h.len)
  have HZM := hid (size55' (passL_length ff r bs))
  obtain ⟨X, hX⟩ : ∃ X, passL ff r bs = X := ⟨_, rfl⟩
  have hXl : X.length = 16 := by rw [← hX]; exact passL_length _ _ _
  rw [hX] at HC HZM ⊢
  have HXL := hid hXl
  clear hd h hk hs hr hr1 hrd hks hX hXl hff hfl
  go_enter Tryz.func35, Tryz.ntmps35
  go_wp2_with (first
    | (refine wpList_atp rfl 133 5 16 (.tmp 21) rfl (some ⟨b, o, none⟩) 16 c rfl Tryz.underlying133 (Nat.le_refl _) ?_)
    | (refine wpList_ld rfl 133 (.tmp 22) rfl b o rfl bs HR.out Tryz.underlying133 HSZ.out ?_))
  refine HC.out.mono ?_
  rintro e w1 ⟨rfl, hx1⟩
  have h2 := RW.new w1 133 z16
  have x2 := Ext.alloc w1 (.cells (cellsOf z16).toArray 133)
  obtain ⟨W2, hW2⟩ : ∃ W2, w1.alloc (.cells (cellsOf z16).toArray 133) = W2 := ⟨_, rfl⟩
  rw [hW2] at h2 x2
  obtain ⟨T, hT⟩ : ∃ T, w1.heap.size = T := ⟨_, rfl⟩
  rw [hT] at h2
  have h3 := h2.store0 X (by rw [HXL.out, z16_length])
  have hx3 := below_setCells (B := w.heap.size) (b := T) (a := w) (by have := hx1.size; omega) (cellsOf X) 0 W2 (hx1.trans x2)
  have HTH := hid (show W2.there T 0 X.length by rw [HXL.out]; have := h2.wr; rw [z16_length] at this; exact this)
  obtain ⟨W3, hW3⟩ : ∃ W3, W2.setCells T 0 (cellsOf X) = W3 := ⟨_, rfl⟩
  rw [hW3] at h3 hx3
  have HF := hid (And.intro (h3.slice HXL.out (h3.lt (by rw [HXL.out]; omega))) hx3)
  have HW := hid (And.intro hW2 (And.intro hT hW3))
  clear hx1 h2 x2 hW2 hT h3 hx3 hW3 HC
  go_wp2_with (first
    | (rw [← cells_z16, HW.out.1, HW.out.2.1]; refine wpList_st rfl 133 (.tmp 9) (.tmp 25) rfl T 0 X rfl rfl HTH.out HZM.out ?_; rw [HW.out.2.2]; clear HW HTH))
  go_ret2
  exact ⟨_, _, rfl, ⟨Nat.le_refl _, by omega⟩, HF.out⟩
theorem strq {w : World} {B n c : Nat} {A : Option Addr} {bs : List UInt8} (h : Rd w B A n bs) : (convert 22 9 (.slice A n c)).run Tryz.prog w = .ok (.string (str bs)) w :=
  run_str (P := Tryz.prog) w 22 9 (by kernel_rfl) (by kernel_rfl) (by kernel_rfl) _ _ _ c _ h
def fillF (bs : List UInt8) (i : Nat) : UInt8 := if i < bs.length then bs.getD i 0 else UInt8.ofNat (i * 37 % 256)
def byL (n : Nat) (bs : List UInt8) : List UInt8 := (List.range n).map (fillF bs)
theorem byL_len (n : Nat) (bs : List UInt8) : (byL n bs).length = n := by simp [byL]
theorem by_start (bs : List UInt8) (n L : Nat) (hL : bs.length = L) : splice (List.replicate n (Value.int .u8 0)) 0 (cellsOf (bs.take n)) = cellsOf (fillTo (fillF bs) n L) := by
  apply List.ext_getElem?
  intro i
  unfold splice
  rw [List.take_zero, List.nil_append, Nat.zero_add, cellsOf_length]
  rcases Nat.lt_or_ge i n with hi | hi
  · rw [cellsOf_get _ _ (by rw [fillTo_length]; exact hi)]
    have e : byteAt (fillTo (fillF bs) n L) i = ((if i < L then fillF bs i else 0).toNat : Int) := by simp [byteAt, fillTo, List.getD, hi]
    rw [e]
    rcases Nat.lt_or_ge i L with h | h
    · rw [List.getElem?_append_left (by rw [cellsOf_length, List.length_take]; omega), cellsOf_get _ _ (by rw [List.length_take]; omega), if_pos h]
      unfold fillF
      rw [if_pos (by omega)]
      simp [byteAt, List.getD, hi]
    · rw [List.getElem?_append_right (by rw [cellsOf_length, List.length_take]; omega), List.getElem?_drop, List.getElem?_replicate, cellsOf_length, List.length_take, if_pos (by omega), if_neg (by omega)]
      rfl
  · rw [List.getElem?_eq_none (by simp [cellsOf]; omega), List.getElem?_eq_none (by simp [cellsOf, fillTo]; omega)]
theorem own_of_heap {w : World} {base G n : Nat} {bs : List UInt8} {e : TypeId} (he : e = 5) (h : w.heap[G]? = some (.cells (cellsOf bs).toArray e (0, 0))) (hn : bs.length = n) (hb : base ≤ G) (hm : n ≤ maxLen) : Own w base (.slice (some ⟨G, 0, none⟩) n n) bs := by
  subst he
  refine ⟨by rw [cellsOf_length, Nat.mul_one], .inr ⟨G, n, _, by rw [hn], hb, h, by omega, hm, by simp [cellsOf, hn], ?_⟩⟩
  rw [List.toList_toArray, List.take_of_length_le (by rw [cellsOf_length]; omega)]
theorem copy_facts {w w1 : World} {A : Option Addr} {n L : Nat} {bs : List UInt8} (h : Rd w w.heap.size A L bs) (hown1 : Own w1 w.heap.size (.slice (some ⟨w.heap.size, 0, none⟩) n n) (List.replicate n 0)) (hb1 : Below w.heap.size w w1) :
    w1.heap[w.heap.size]? = some (.cells (List.replicate n (Value.int .u8 0)).toArray 5 (0, 0)) ∧ (cellsOf (bs.take n)).length = Nat.min L n ∧
    (0 < (cellsOf (bs.take n)).length → ∃ ad, A = some ad ∧ ∀ j v, (cellsOf (bs.take n))[j]? = some v → w1.cell? (ad.add j) = some v) ∧ 0 + (cellsOf (bs.take n)).length ≤ (List.replicate n (Value.int .u8 0)).length := by
  have hl := h.len
  have hr1 := h.later (show Ext w w1 from hb1)
  have hcl : (cellsOf (bs.take n)).length = Nat.min L n := by rw [cellsOf_length, List.length_take, hl]; exact Nat.min_comm _ _
  refine ⟨?_, hcl, ?_, by rw [hcl, List.length_replicate, Nat.zero_add]; exact Nat.min_le_right _ _⟩
  · rcases hown1.2 with ⟨h1, _⟩ | ⟨g, cap, cur, e1, _, hh, _, _, hcs, htake⟩
    · cases h1
    · simp only [Value.slice.injEq, Option.some.injEq, Addr.mk.injEq, and_true] at e1
      obtain ⟨e0, e2, e3⟩ := e1
      rw [e0, hh]
      have : cur = (List.replicate n (Value.int .u8 0)).toArray := by
        apply Array.ext'
        rw [List.toList_toArray]
        have e5 : cur.toList.take n = cur.toList := List.take_of_length_le (by simp; omega)
        have e4 : cellsOf (List.replicate n 0) = List.replicate n (Value.int .u8 0) := by simp [cellsOf]
        rw [← e5, ← e4, ← htake]
        simp
      rw [this]
  · intro h0
    have h0' : 0 < L := by
      rw [cellsOf_length, List.length_take] at h0; omega
    obtain ⟨b, off, rfl, _, hc⟩ := hr1.at_ h0'
    refine ⟨_, rfl, fun j v hv => ?_⟩
    have hj : j < (bs.take n).length := by
      rcases Nat.lt_or_ge j (bs.take n).length with hj | hj
      · exact hj
      · rw [List.getElem?_eq_none (by rw [cellsOf_length]; omega)] at hv; cases hv
    rw [cellsOf_get _ j hj] at hv
    cases hv
    have hj2 : j < n ∧ j < L := by rw [List.length_take] at hj; omega
    rw [add_off, hc j hj2.2]
    simp [byteAt, List.getD, hj2.1]
theorem str_toList (bs : List UInt8) : (str bs).toList = bs := by
  unfold str
  apply List.ext_getElem
  · simp
  · intro i h1 h2; simp
theorem str_ne {xs ys : List UInt8} (h : xs ≠ ys) : ¬ (str xs).toList = (str ys).toList := by
  rw [str_toList, str_toList]; exact h
theorem made_run (n : Nat) (w : World) (hn : n ≤ 1000) : (Instr.makeSlice 22 (.int .i64 (n : Int)) (.int .i64 (n : Int))).run Tryz.prog w = .ok (.slice (some ⟨w.heap.size, 0, none⟩) n n) (w.alloc (.cells (madeCells #[Value.int .u8 0] n) 5)) := by
  obtain ⟨i0, hi0, hz0, hz1, hz2⟩ := info_parts Tryz.info5
  exact run_make_row 22 5 i0 (.int .u8 0) Tryz.underlying22 hi0 hz0 hz1 rfl .i64 .i64 n (by rw [hz2]; omega) (by omega) w
theorem made_own (n : Nat) (w : World) (hn : n ≤ 1000) : Own (w.alloc (.cells (madeCells #[Value.int .u8 0] n) 5)) w.heap.size (.slice (some ⟨w.heap.size, 0, none⟩) n n) (List.replicate n 0) := by
  have e : (madeCells #[Value.int .u8 0] n).toList = cellsOf (List.replicate n 0) := cells_zero n
  exact Own.lit w (List.replicate n 0) (madeCells #[Value.int .u8 0] n) n w.heap.size e (by simp) (by unfold maxLen; omega) (Nat.le_refl _)
set_option maxHeartbeats 1000000 in
theorem block_bad (p : Nat) (A : Option Addr) (n cc : Nat) (back : Bool) (w : World) (h : n ≠ 16) :
    Calls Tryz.prog 35 #[.pointer (some ⟨p, 0, none⟩), .slice A n cc, .bool back] w fun e w' => e = .returned (.tuple #[.slice none 0 0, .int .i64 1]) ∧ Ext w w' := by
  have g : ((n : Int) != 16) = true := by simp; omega
  go_enter Tryz.func35, Tryz.ntmps35
  go_wp2
  go_ret2
  exact ⟨rfl, Ext.refl _⟩
end Go.Proofs.YtbgkmicelmenfaaGreatDoor.A
namespace Go.Proofs.YtbgkmicelmenfaaGreatDoor.A
open Go.RowKit
set_option maxRecDepth 100000
def RBx (w : World) (p : Nat) : Prop := ∀ k, k < 4 → ∃ A c, w.cell? ⟨p, k, none⟩ = some (.slice A 256 c) ∧ Rd w w.heap.size A 256 (tabT k)
theorem RBx.later {w w' : World} {p : Nat} (h : RBx w p) (hx : Ext w w') : RBx w' p := fun k hk => by
  obtain ⟨A, c, h1, h2⟩ := h k hk
  exact ⟨A, c, (Below.cell hx (p := ⟨p, k, none⟩) (World.block_lt_of_cell? w _ h1)).trans h1, h2.later hx⟩
end Go.Proofs.YtbgkmicelmenfaaGreatDoor.A
namespace Go.Proofs.YtbgkmicelmenfaaGreatDoor.A
open Go.RowKit
set_option maxRecDepth 100000
def OwnP (base : Nat) (bs : List UInt8) (w : World) (v : Value) : Prop := ∃ u, v = u ∧ Own w base u bs
theorem OwnP.keep (base : Nat) (bs : List UInt8) : ∀ w w' v, Ext w w' → OwnP base bs w v → OwnP base bs w' v := fun _ _ _ hx ⟨u, h1, h2⟩ => ⟨u, h1, h2.kept hx⟩
def RCn (w : World) (H r : Nat) : Prop := w.cell? ⟨H, r, none⟩ = some (.int .u64 (chi r)) ∧ w.cell? ⟨H + 1, r, none⟩ = some (.int .u64 (clo r))
theorem RCn.later {w w' : World} {H r : Nat} (h : RCn w H r) (hx : Ext w w') : RCn w' H r :=
  ⟨(Below.cell hx (p := ⟨H, r, none⟩) (World.block_lt_of_cell? w _ h.1)).trans h.1, (Below.cell hx (p := ⟨H + 1, r, none⟩) (World.block_lt_of_cell? w _ h.2)).trans h.2⟩
end Go.Proofs.YtbgkmicelmenfaaGreatDoor.A
namespace Go.Proofs.YtbgkmicelmenfaaGreatDoor.A
open Go.RowKit
set_option maxRecDepth 100000
def WS (w : World) (B : Nat) (key : List UInt8) (j : Nat) : Prop :=
  ∃ xs : List Value, xs.length = 4 ∧ w.heap[B]? = some (.cells xs.toArray 212 (0, 0)) ∧ (∀ k, k < 4 → ∃ A n c, xs[k]? = some (.slice A n c)) ∧
    ∀ k, k < j → ∃ A c, xs[k]? = some (.slice A 16 c) ∧ Rd w w.heap.size A 16 (seedL key k)
theorem WS.lt {w : World} {B : Nat} {key : List UInt8} {j : Nat} (h : WS w B key j) : B < w.heap.size := by
  obtain ⟨xs, _, h2, _⟩ := h
  exact (Array.getElem?_eq_some_iff.1 h2).1
theorem WS.later {w w' : World} {B : Nat} {key : List UInt8} {j : Nat} (h : WS w B key j) (hx : Ext w w') : WS w' B key j := by
  have hl := h.lt
  obtain ⟨xs, h1, h2, h3, h4⟩ := h
  exact ⟨xs, h1, (hx.block B hl).trans h2, h3, fun k hk => by
    obtain ⟨A, c, e, hr⟩ := h4 k hk
    exact ⟨A, c, e, hr.later hx⟩⟩
theorem WS.at_ {w : World} {B : Nat} {key : List UInt8} {j : Nat} (h : WS w B key j) (k : Nat) (hk : k < j) : ∃ A c, w.cell? ⟨B, k, none⟩ = some (.slice A 16 c) ∧ Rd w w.heap.size A 16 (seedL key k) := by
  obtain ⟨xs, h1, h2, h3, h4⟩ := h
  obtain ⟨A, c, e, hr⟩ := h4 k hk
  exact ⟨A, c, by rw [cell_of_row _ _ _ _ _ _ h2]; simpa using e, hr⟩
theorem WS.was {w : World} {B : Nat} {key : List UInt8} {j : Nat} (h : WS w B key j) (k : Nat) (hk : k < 4) : ∃ old, w.cell? ⟨B, k, none⟩ = some old := by
  obtain ⟨xs, h1, h2, h3, h4⟩ := h
  obtain ⟨A, n, c, e⟩ := h3 k hk
  exact ⟨_, by rw [cell_of_row _ _ _ _ _ _ h2]; simpa using e⟩
theorem WS.free {w : World} {B : Nat} {key : List UInt8} {j : Nat} (h : WS w B key j) (k : Nat) : w.frozen? ⟨B, k, none⟩ = false := by
  obtain ⟨xs, h1, h2, h3, h4⟩ := h
  exact frozen_of_row w B k _ _ h2
theorem WS.rd {w : World} {B : Nat} {key : List UInt8} {j : Nat} (h : WS w B key j) {A : Option Addr} {n : Nat} {bs : List UInt8} (hr : Rd w w.heap.size A n bs) (hn : 0 < n) (k : Nat) (v : Value) :
    Rd (w.setCell ⟨B, k, none⟩ v) (w.setCell ⟨B, k, none⟩ v).heap.size A n bs := by
  obtain ⟨xs, h1, h2, h3, _⟩ := h
  obtain ⟨b, o, rfl, hb, hc⟩ := hr.at_ hn
  have hne : b ≠ B := by
    rintro rfl
    have h0 := hc 0 hn
    rw [Nat.add_zero, cell_of_row _ _ _ _ _ _ h2] at h0
    by_cases ho : o < 4
    · obtain ⟨A, n, c, e⟩ := h3 o ho
      have e2 : xs.toArray[o]? = some (.slice A n c) := by simpa using e
      rw [e2] at h0
      cases h0
    · have e2 : xs.toArray[o]? = none := by simp; omega
      rw [e2] at h0
      cases h0
  refine ⟨hr.len, fun _ => ⟨b, o, rfl, by simpa using hb, fun i hi => ?_⟩⟩
  rw [← hc i hi]
  exact World.cell?_of_block (heap_setCell_other w ⟨B, k, none⟩ b v hne)
theorem WS.put {w : World} {B : Nat} {key : List UInt8} {j : Nat} (h : WS w B key j) (hj : j < 4) {A : Option Addr} {c : Nat} (hr : Rd w w.heap.size A 16 (seedL key j)) :
    WS (w.setCell ⟨B, j, none⟩ (.slice A 16 c)) B key (j + 1) := by
  have hrd := fun {A : Option Addr} {n : Nat} {bs : List UInt8} (hr : Rd w w.heap.size A n bs) (hn : 0 < n) => h.rd hr hn j (.slice A 16 c)
  have hrd2 := fun {A : Option Addr} {n : Nat} {bs : List UInt8} (hr : Rd w w.heap.size A n bs) (hn : 0 < n) (v : Value) => h.rd hr hn j v
  obtain ⟨xs, h1, h2, h3, h4⟩ := h
  refine ⟨xs.set j (.slice A 16 c), by simpa using h1, ?_, fun k hk => ?_, fun k hk => ?_⟩
  · rw [heap_setCell_same w B j _ 212 _ h2]
    simp
  · by_cases e : k = j
    · subst e; exact ⟨A, 16, c, by simp [h1, hk]⟩
    · obtain ⟨A', n', c', e'⟩ := h3 k hk
      exact ⟨A', n', c', by rw [List.getElem?_set_ne (by omega)]; exact e'⟩
  · by_cases e : k = j
    · subst e; exact ⟨A, c, by simp [h1, hj], hrd2 hr (by omega) _⟩
    · obtain ⟨A', c', e', hr'⟩ := h4 k (by omega)
      exact ⟨A', c', by rw [List.getElem?_set_ne (by omega)]; exact e', hrd2 hr' (by omega) _⟩
theorem _root_.Go.Proofs.YtbgkmicelmenfaaGreatDoor.Own.one {w : World} {base : Nat} {u : Value} {bs : List UInt8} (h : Own w base u bs) : u.oneCell' = true := by
  rcases h.2 with ⟨rfl, _⟩ | ⟨g, cap, cur, rfl, _⟩ <;> rfl
def OneP (base : Nat) (bs : List UInt8) (w : World) (v : Value) : Prop := ∃ b u, v = .slice (some ⟨b, 0, none⟩) 1 1 ∧ w.cell? ⟨b, 0, none⟩ = some u ∧ Own w base u bs
theorem OneP.keep (base : Nat) (bs : List UInt8) : ∀ w w' v, Ext w w' → OneP base bs w v → OneP base bs w' v := fun w _ _ hx ⟨b, u, h1, h2, h3⟩ =>
  ⟨b, u, h1, (Below.cell hx (p := ⟨b, 0, none⟩) (World.block_lt_of_cell? w _ h2)).trans h2, h3.kept hx⟩
end Go.Proofs.YtbgkmicelmenfaaGreatDoor.A
namespace Go.Proofs.YtbgkmicelmenfaaGreatDoor.A
open Go.RowKit
set_option maxRecDepth 100000
set_option maxRecDepth 100000
def IsRA (w : World) (p : Nat) (key : List UInt8) : Prop := ∃ x b c, w.heap[p]? = some (.cells #[.pointer (some ⟨x, 0, none⟩), .slice (some ⟨b, 0, none⟩) (keyN key) c] 167 (0, 0)) ∧ RBx w x ∧ RowsB w b 0 (keysL key)
theorem IsRA.later {w w' : World} {p : Nat} {key : List UInt8} (h : IsRA w p key) (hx : Ext w w') : IsRA w' p key := by
  obtain ⟨x, b, c, h1, h2, h3⟩ := h
  exact ⟨x, b, c, (hx.block p (Array.getElem?_eq_some_iff.1 h1).1).trans h1, h2.later hx, h3.later hx⟩
end Go.Proofs.YtbgkmicelmenfaaGreatDoor.A
