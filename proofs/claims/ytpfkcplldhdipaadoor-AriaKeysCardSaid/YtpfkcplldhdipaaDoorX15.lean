/- Walk over New of the program; own lemmas of the verifier, no statement is proved here. -/
import Derived.Test.YtpfkcplldhdipaaDoorX14
namespace Go.Proofs.YtpfkcplldhdipaaDoor
open Go.RowKit
def z272 : List UInt8 := List.replicate 272 0
theorem z272_length : z272.length = 272 := List.length_replicate
/-- The cells of an Aria: its tables, its rounds, the keys of either way. -/
def ariaC (ts : List UInt8) : List Value := cellsOf ts ++ (.int .i64 0 :: (cellsOf z272 ++ cellsOf z272))
set_option maxRecDepth 100000 in
theorem inf66 : (Tryd.prog.info? 66).map (fun i => (i.zero, i.size)) = some (some (.agg (ariaC z1024).toArray), 1569) := by kernel_rfl
theorem fill_front : ∀ (vs P Z : List Value) (cs : Array Value), cs.toList = P ++ Z → vs.length ≤ Z.length →
    ((vs.zipIdx P.length).foldl (fun cs (p : Value × Nat) => cs.setIfInBounds (0 + p.2) p.1) cs).toList = P ++ (vs ++ Z.drop vs.length)
  | [], P, Z, cs, h, _ => by simpa using h
  | v :: vs, P, z :: Z, cs, h, hl => by
    rw [List.zipIdx_cons, List.foldl_cons]
    have h2 : (cs.setIfInBounds (0 + P.length) v).toList = (P ++ [v]) ++ Z := by
      rw [Array.toList_setIfInBounds, h, Nat.zero_add]; simp
    have := fill_front vs (P ++ [v]) Z _ h2 (by simpa using hl)
    simpa using this
  | _ :: _, _, [], _, _, hl => absurd hl (by simp)
set_option maxRecDepth 100000 in
theorem built66 (w : World) : (Instr.build 66 #[(0, bv tabB)]).run Tryd.prog w = .ok (.agg (ariaC tabB).toArray) w := by
  refine run_build w 66 _ _ ?_
  unfold Program.built
  have h66 := inf66
  cases hq : Tryd.prog.info? 66 with
  | none => rw [hq] at h66; cases h66
  | some i =>
    rw [hq] at h66
    simp only [Option.map_some, Option.some.injEq, Prod.mk.injEq] at h66
    have hp : (#[({ name := "tables", type := 50, offset := 0, embedded := false, tag := "", pkgPath := "scrim/aria", byteOffset := 0 } : Field),
          { name := "rounds", type := 3, offset := 1024, embedded := false, tag := "", pkgPath := "scrim/aria", byteOffset := 1024 },
          { name := "there", type := 64, offset := 1025, embedded := false, tag := "", pkgPath := "scrim/aria", byteOffset := 1032 },
          { name := "back", type := 64, offset := 1297, embedded := false, tag := "", pkgPath := "scrim/aria", byteOffset := 1304 }] : Array Field).toList.mapM (fun f => (Tryd.prog.info? f.type).map fun i => (f.offset, i.size)) = some [(0, 1024), (1024, 1), (1025, 272), (1297, 272)] := by kernel_rfl
    simp only [Tryd.underlying66, h66.1, hp]
    have hs : (Value.agg (cellsOf tabB).toArray).cells.size = 1024 := by show (cellsOf tabB).toArray.size = 1024; simp [cellsOf_length, tabB_length]
    have hz : (Value.agg (ariaC z1024).toArray).cells = (ariaC z1024).toArray := rfl
    have hzs : (ariaC z1024).toArray.size = 1569 := by simp [ariaC, cellsOf_length, z1024_length, z272_length]
    simp only [Instr.fill, bv, hz, hs, hzs]
    show (if (decide (1024 ≠ 1024) || decide (0 + 1024 > 1569)) = true then none else _) = _
    rw [if_neg (by decide)]
    refine congrArg some (Array.toList_inj.1 ?_)
    rw [← Array.foldl_toList, Array.toList_zipIdx]
    have hf := fill_front (cellsOf tabB) [] (ariaC z1024) (ariaC z1024).toArray rfl (by rw [cellsOf_length, tabB_length]; simp [ariaC, cellsOf_length, z1024_length])
    have hd : (ariaC z1024).drop (cellsOf tabB).length = .int .i64 0 :: (cellsOf z272 ++ cellsOf z272) := by
      unfold ariaC
      exact List.drop_left' (by rw [cellsOf_length, cellsOf_length, tabB_length, z1024_length])
    rw [hd, List.nil_append] at hf
    exact hf
theorem cf31 (vs : Array Value) (w : World) : (callFunc 31 vs).run Tryd.prog w = .ok (.enter 31 vs) w := by go_simp
/-- A part of a block. -/
theorem RW.part {w : World} {g : Nat} {t : TypeId} {bs : List UInt8} (P Q : List Value) (h : w.heap[g]? = some (.cells (P ++ (cellsOf bs ++ Q)).toArray t (0, 0))) : RW w g P.length bs := by
  have hc : ∀ k v, (cellsOf bs)[k]? = some v → w.cell? ⟨g, P.length + k, none⟩ = some v := fun k v hv => by
    rw [cell_of_row w g _ _ t _ h]
    have hk := (List.getElem?_eq_some_iff.1 hv).1
    simp only [List.getElem?_toArray]
    rw [List.getElem?_append_right (by omega), Nat.add_sub_cancel_left, List.getElem?_append_left hk]
    exact hv
  exact ⟨hc, fun j hj => ⟨by rw [hc j _ (cellsOf_get bs j hj)]; rfl, frozen_of_row w g _ _ t h⟩⟩
theorem aria_new {w : World} {d : Nat} (h : w.heap[d]? = some (.cells (ariaC tabB).toArray 66 (0, 0))) :
    TB w d ∧ (w.cell? ⟨d, 1024, none⟩ = some (.int .i64 0) ∧ w.frozen? ⟨d, 1024, none⟩ = false) ∧ RW w d 1025 z272 ∧ RW w d 1297 z272 := by
  have hl : (cellsOf tabB).length = 1024 := by rw [cellsOf_length, tabB_length]
  have hz : (cellsOf z272).length = 272 := by rw [cellsOf_length, z272_length]
  refine ⟨(RW.part (bs := tabB) [] _ h).rd, ⟨?_, frozen_of_row w d _ _ 66 h⟩, ?_, ?_⟩
  · rw [cell_of_row w d _ _ 66 _ h]
    unfold ariaC
    rw [List.getElem?_toArray, List.getElem?_append_right (by omega), hl]
    rfl
  · have := RW.part (t := 66) (bs := z272) (cellsOf tabB ++ [.int .i64 0]) (cellsOf z272) (by rw [h]; simp [ariaC])
    rw [List.length_append, hl] at this
    exact this
  · have := RW.part (t := 66) (bs := z272) (cellsOf tabB ++ (.int .i64 0 :: cellsOf z272)) [] (by rw [h]; simp [ariaC])
    rw [List.length_append, hl, List.length_cons, hz] at this
    exact this
/-- An object that New has made. -/
structure IsAria (w : World) (d : Nat) (key : List UInt8) : Prop where
  tb : TB w d
  rounds : w.cell? ⟨d, 1024, none⟩ = some (.int .i64 ((keyN key - 1 : Nat) : Int))
  there : w.rangeAt d 1025 (cellsOf (FL (keyF key) (keyN key)))
  back : w.rangeAt d 1297 (cellsOf (FL (undoF (keyF key) (keyN key - 1)) (keyN key)))
theorem IsAria.later {w w' : World} {d : Nat} {key : List UInt8} (h : IsAria w d key) (hx : Ext w w') : IsAria w' d key :=
  ⟨h.tb.later hx, (Below.cell hx (p := ⟨d, 1024, none⟩) h.tb.lt).trans h.rounds, rangeAt_later h.there hx, rangeAt_later h.back hx⟩
/-- Keys of the way back, in a slot. -/
def BkP (D N : Nat) (bs : List UInt8) (w : World) (v : Value) : Prop := ∃ g cap, v = .slice (some ⟨g, 0, none⟩) N cap ∧ D < g ∧ w.rangeAt g 0 (cellsOf bs)
theorem BkP.keep (D N : Nat) (bs : List UInt8) : ∀ w w' v, Ext w w' → BkP D N bs w v → BkP D N bs w' v := fun _ _ _ hx ⟨g, cap, h1, h2, h3⟩ => ⟨g, cap, h1, h2, rangeAt_later h3 hx⟩
theorem retBk {w : World} {D N : Nat} {bs : List UInt8} (hD : D < w.heap.size) (e : Ending) (w' : World) (h : ∃ g cap, e = .returned (.slice (some ⟨g, 0, none⟩) N cap) ∧ w.heap.size ≤ g ∧ RW w' g 0 bs ∧ Ext w w') :
    ∃ v, e = .returned v ∧ Ext w w' ∧ Go.Proofs.YtpfkcplldhdipaaDoor.K.holds (.gen (BkP D N bs) (BkP.keep _ _ _)) w' v := by
  obtain ⟨g, cap, rfl, hg, hr, hx⟩ := h
  exact ⟨_, rfl, hx, g, cap, rfl, by omega, hr.rd⟩
theorem RW.apartO {w : World} {g o : Nat} {bs : List UInt8} (h : RW w g o bs) (g' o' : Nat) (vs : List Value) (ha : g ≠ g' ∨ o + bs.length ≤ o' ∨ o' + vs.length ≤ o) : RW (w.setCells g' o' vs) g o bs :=
  ⟨World.rangeAt_setCells_apart h.rd g' o' vs (by rw [cellsOf_length]; exact ha), World.there_setCells h.wr g' o' vs⟩
theorem wpList_bld {ops : Array Oper} {rest : List Oper} {o : Oper} {a : Act} {w : World} {Q : Exit → Act → World → Prop} (hgd : o.guard = none) (x : Operand) (ho : o.op = .build 66 #[(0, x)]) (hx : a.eval x = bv tabB)
    (h : wpList Tryd.prog ops Q rest (a.put o.dst (.agg (ariaC tabB).toArray)) w) : wpList Tryd.prog ops Q (o :: rest) a w :=
  wpList_plain hgd fun K hK => by
    have hk := hK _ _ h
    clear hK h
    unfold Oper.wp execOp
    simp only [ho, List.map_toArray, List.map_cons, List.map_nil, hx, Sem.run_bind, built66, Result.andThen_ok, Sem.run_pure]
    exact hk
theorem new_bad (A : Option Addr) (n c : Nat) (w : World) (hn : ¬ okLen n) : Calls Tryd.prog 19 #[.slice A n c] w fun e w' => e = .returned (.tuple #[.pointer none, .int .i64 4]) ∧ Ext w w' := by
  go_enter Tryd.func19, Tryd.ntmps19
  go_wp2_with (go_at_call 22; refine (isKey_bad _ _ _ _ hn).mono ?_; rintro e w' ⟨rfl, rfl⟩)
  go_ret2
  exact ⟨rfl, Ext.refl _⟩
def newKs (D K N : Nat) (f : Nat → List UInt8) : List Go.Proofs.YtpfkcplldhdipaaDoor.K := [.eq (.pointer (some ⟨D, 0, none⟩)), .eq (.pointer (some ⟨D, 0, none⟩)), .eq (.pointer (some ⟨D, 1297, none⟩)), .eq (.slice (some ⟨D, 1297, none⟩) 17 17), .eq (.slice (some ⟨K, 0, none⟩) N N), .gen (BkP D N (FL (undoF f (N - 1)) N)) (BkP.keep _ _ _), .any]
set_option maxRecDepth 100000 in
set_option maxHeartbeats 4000000 in
theorem new_any (A : Option Addr) (n c : Nat) (key : List UInt8) (w : World) (h : Rd w w.heap.size A n key) (hn : okLen n) (hc : n ≤ c) (hG : GK w) :
    Calls Tryd.prog 19 #[.slice A n c] w fun e w' => ∃ d, e = .returned (.tuple #[.pointer (some ⟨d, 0, none⟩), .int .i64 0]) ∧ w.heap.size ≤ d ∧ IsAria w' d key ∧ Ext w w' := by
  have hl := h.len
  have HR := hid h
  have HG := hid hG
  have HN := hid hn
  have HC := hid hc
  clear h hG hc
  go_enter Tryd.func19, Tryd.ntmps19
  go_wp2_with (go_at_call 22; refine (isKey_good _ _ _ _ HN.out).mono ?_; rintro e w' ⟨rfl, rfl⟩)
  refine (makeBoxes_any _ HG.out.odd HG.out.rws).mono ?_
  rintro e w1 ⟨rfl, hx1⟩
  have h2 := heap_alloc_new w1 (.cells (ariaC tabB).toArray 66)
  have x2 := Ext.alloc w1 (.cells (ariaC tabB).toArray 66)
  obtain ⟨W2, hW2⟩ : ∃ W2, w1.alloc (.cells (ariaC tabB).toArray 66) = W2 := ⟨_, rfl⟩
  have z2 : W2.heap.size = w1.heap.size + 1 := by rw [← hW2]; simp
  rw [hW2] at h2 x2
  have hwd := hx1.size
  obtain ⟨D, hD⟩ : ∃ D, w1.heap.size = D := ⟨_, rfl⟩
  rw [hD] at h2
  have ha := aria_new h2
  have HW := hid (And.intro hW2 hD)
  have HX2 := hid (hx1.trans x2)
  have H2 := hid h2
  have HDL := hid (show D < W2.heap.size by omega)
  have HWD := hid (show w.heap.size ≤ D by omega)
  have HTB := hid ha.1
  clear hx1 h2 x2 hW2 hD ha z2 hwd
  go_wp2_with (first
    | (refine wpList_bld rfl (.tmp 9) rfl rfl ?_)
    | (rw [HW.out.1, HW.out.2]; clear HW))
  refine (keys_any D n c A key W2 (HR.out.later HX2.out) HN.out HC.out HTB.out (HG.out.later HX2.out).sev (HG.out.later HX2.out).con (HG.out.later HX2.out).tu).mono ?_
  rintro e w4 ⟨K, rfl, hKD, hK, hx4⟩
  obtain ⟨N, hN⟩ : ∃ N, keyN key = N := ⟨_, rfl⟩
  have hNn : N ≤ 17 ∧ 13 ≤ N := by
    have := HN.out
    unfold okLen at this
    unfold keyN at hN
    omega
  have HNN := hid hNn
  rw [hN] at hK ⊢
  obtain ⟨f, hf⟩ : ∃ f, keyF key = f := ⟨_, rfl⟩
  have HFL := hid (show ∀ j, j < N → (f j).length = 16 from fun j _ => by rw [← hf]; exact keyF_length key j)
  rw [hf] at hK
  have hNE := hid (And.intro hN hf)
  have hDK : D < K := by have := HDL.out; omega
  have h4 := aria_new ((hx4.block D HDL.out).trans H2.out)
  have HX4 := hid (Ext.trans HX2.out hx4)
  obtain ⟨r, hr⟩ : ∃ r, N - 1 = r := ⟨_, rfl⟩
  have hri : (N : Int) - 1 = (r : Int) := by omega
  have hni : (N : Int) ≤ 17 := by omega
  have hcl := h4.2.1.1
  have hfz := h4.2.1.2
  have t5 : TB (w4.setCell ⟨D, 1024, none⟩ (.int .i64 r)) D := World.rangeAt_setCells_apart h4.1 D 1024 [.int .i64 r] (.inr (.inl (by rw [cellsOf_length, tabB_length]; omega)))
  have c5 : (w4.setCell ⟨D, 1024, none⟩ (.int .i64 r)).cell? ⟨D, 1024, none⟩ = some (.int .i64 r) := World.cell?_setCell_same _ _ _ hcl
  have a5 : RW (w4.setCell ⟨D, 1024, none⟩ (.int .i64 r)) D 1025 z272 := h4.2.2.1.apartO D 1024 [.int .i64 r] (.inr (.inr (by simp)))
  have b5 : RW (w4.setCell ⟨D, 1024, none⟩ (.int .i64 r)) D 1297 z272 := h4.2.2.2.apartO D 1024 [.int .i64 r] (.inr (.inr (by simp)))
  have k5 : RW (w4.setCell ⟨D, 1024, none⟩ (.int .i64 r)) K 0 (FL f N) := hK.apart D 1024 [.int .i64 r] (by omega)
  have x5 := below_setCells (B := w.heap.size) (b := D) (a := w) HWD.out [.int .i64 r] 1024 w4 HX4.out
  obtain ⟨W5, hW5⟩ : ∃ W5, w4.setCell ⟨D, 1024, none⟩ (.int .i64 r) = W5 := ⟨_, rfl⟩
  rw [hW5] at t5 c5 a5 b5 k5
  have x5' : Below w.heap.size w W5 := by rw [← hW5]; exact x5
  have hl5 : (FL f N).length = N * 16 := FL_length _ _
  have t6 := World.rangeAt_setCells_apart t5 D 1025 (cellsOf (FL f N)) (.inr (.inl (by rw [cellsOf_length, tabB_length]; omega)))
  have c6 : (W5.setCells D 1025 (cellsOf (FL f N))).cell? ⟨D, 1024, none⟩ = some (.int .i64 r) := by
    rw [World.cell?_setCells_out D (cellsOf (FL f N)) 1025 W5 ⟨D, 1024, none⟩ (fun _ _ => .inl (by show 1024 < 1025; omega))]; exact c5
  have HT5 := hid (show W5.there D 1025 (FL f N).length from fun j hj => a5.wr j (by rw [z272_length]; omega))
  have a6 := World.rangeAt_setCells_same W5 D 1025 (cellsOf (FL f N)) (by rw [cellsOf_length]; exact HT5.out)
  have b6 := b5.apartO D 1025 (cellsOf (FL f N)) (.inr (.inr (by rw [cellsOf_length]; omega)))
  have k6 := k5.apart D 1025 (cellsOf (FL f N)) (by omega)
  have x6 := below_setCells (B := w.heap.size) (b := D) (a := w) HWD.out (cellsOf (FL f N)) 1025 W5 x5'
  obtain ⟨W6, hW6⟩ : ∃ W6, W5.setCells D 1025 (cellsOf (FL f N)) = W6 := ⟨_, rfl⟩
  rw [hW6] at t6 c6 a6 b6 k6 x6
  have HMN := hid (show (FL f N).length = Nat.min N 17 * 16 by rw [hl5, show Nat.min N 17 = N from Nat.min_eq_left (by omega)])
  have HK5 := hid k5.rd
  have HKR := hid k6
  have HDL6 := hid (show D < W6.heap.size from World.block_lt_of_cell? W6 _ c6)
  have HDL := HDL6
  have HSV := hid (HG.out.later x6).sev
  have HF6 := hid (And.intro t6 (And.intro c6 (And.intro a6 (And.intro b6 x6))))
  have HW5 := hid hW5
  have HW6 := hid hW6
  have HR1 := hid hr
  clear hN hNn hKD hK hx4 hf hDK h4 t5 c5 a5 b5 k5 x5 x5' hl5 t6 c6 a6 b6 k6 x6 hW5 hW6 hr HR HG H2 HTB
  go_wp2_with (first
    | (rw [HW5.out]; clear HW5; refine wpList_cp rfl (.tmp 26) (.tmp 27) 52 52 55 16 rfl Tryd.underlying52 size55 D 1025 17 17 N N K 0 (FL f N) rfl rfl HMN.out HK5.out HT5.out ?_; rw [HW6.out]; clear HW6 HMN HK5 HT5)
    | (rw [HW5.out]; clear HW5; fail))
  clear hcl hfz
  refine region_upto 6 mixed rfl (by kernel_rfl) (by kernel_rfl) (by kernel_rfl) (kV (newKs D K N f)) (kV_keep _) (forall_ops ⟨?_, ?_, ?_, ?_, ?_, ?_, trivial⟩) ?_
  · intro a w hk
    have s4 : a.tmps.getD 4 undef = .pointer (some ⟨D, 0, none⟩) := hk.was 4 (by kernel_rfl) rfl
    exact step_move rfl rfl s4 rfl
  · intro a w hk
    have s29 := hk.eq_ 0 29 (by kernel_rfl) rfl
    refine step_val (v := .pointer (some ⟨D, 0, none⟩)) (w' := w) rfl ?_ (Ext.refl w) rfl
    go_simp
  · intro a w hk
    have s30 := hk.eq_ 1 30 (by kernel_rfl) rfl
    refine step_val (v := .pointer (some ⟨D, 1297, none⟩)) (w' := w) rfl ?_ (Ext.refl w) rfl
    go_simp
  · intro a w hk
    have s31 := hk.eq_ 2 31 (by kernel_rfl) rfl
    refine step_val (v := .slice (some ⟨D, 1297, none⟩) 17 17) (w' := w) rfl ?_ (Ext.refl w) rfl
    go_simp
  · intro a w hk
    have s5 : a.tmps.getD 5 undef = .slice (some ⟨K, 0, none⟩) N N := hk.was 5 (by kernel_rfl) rfl
    exact step_move rfl rfl s5 rfl
  · intro a w hk
    have s33 := hk.eq_ 4 33 (by kernel_rfl) rfl
    exact step_call rfl rfl (by simp only [List.map_toArray, List.map_cons, List.map_nil, Act.eval, s33] <;> rfl) cf31 (undoing_any K N N f w (HKR.out.later (by rw [FL_length]; have := HNN.out; omega) hk.ext) HFL.out (by have := HNN.out; omega) (by have := HNN.out; omega) (HSV.out.later hk.ext)) (fun e w1 h => retBk (Nat.lt_of_lt_of_le HDL.out (Below.size hk.ext)) e w1 h)
  · intro a w1 hf
    have s29 := hf.eq_ 0 29 (by kernel_rfl) rfl
    have s30 := hf.eq_ 1 30 (by kernel_rfl) rfl
    have s31 := hf.eq_ 2 31 (by kernel_rfl) rfl
    have s32 := hf.eq_ 3 32 (by kernel_rfl) rfl
    have s33 := hf.eq_ 4 33 (by kernel_rfl) rfl
    obtain ⟨g34, p34, s34, q34, h34⟩ := hf.val 5 34 (by kernel_rfl) rfl
    have hx := hf.ext
    have e := hf.frame
    clear hf
    simp only [List.take_succ_cons, List.take_zero, regFrame, Act.put, List.setIfInBounds_toArray, List.set_cons_zero, List.set_cons_succ, s29, s30, s31, s32, s33, s34] at e
    clear s29 s30 s31 s32 s33 s34
    subst e
    simp only [List.drop_succ_cons, List.drop_zero]
    have hMN : (FL (undoF f (N - 1)) N).length = Nat.min N 17 * 16 := by rw [FL_length, show Nat.min N 17 = N from Nat.min_eq_left HNN.out.1]
    have hl7 : (FL (undoF f (N - 1)) N).length = N * 16 := FL_length _ _
    have b7 := HF6.out.2.2.2.1.later (by rw [z272_length]; omega) hx
    have HT7 := hid (show w1.there D 1297 (FL (undoF f (N - 1)) N).length from fun j hj => b7.wr j (by rw [z272_length]; have := HNN.out; omega))
    have t8 := World.rangeAt_setCells_apart (rangeAt_later HF6.out.1 hx) D 1297 (cellsOf (FL (undoF f (N - 1)) N)) (.inr (.inl (by rw [cellsOf_length, tabB_length]; omega)))
    have c8 : (w1.setCells D 1297 (cellsOf (FL (undoF f (N - 1)) N))).cell? ⟨D, 1024, none⟩ = some (.int .i64 r) := by
      rw [World.cell?_setCells_out D _ 1297 w1 ⟨D, 1024, none⟩ (fun _ _ => .inl (by show 1024 < 1297; omega)), Below.cell hx (p := ⟨D, 1024, none⟩) HDL.out]
      exact HF6.out.2.1
    have a8 := World.rangeAt_setCells_apart (rangeAt_later HF6.out.2.2.1 hx) D 1297 (cellsOf (FL (undoF f (N - 1)) N)) (.inr (.inl (by rw [cellsOf_length, FL_length]; have := HNN.out; omega)))
    have b8 := World.rangeAt_setCells_same w1 D 1297 (cellsOf (FL (undoF f (N - 1)) N)) (by rw [cellsOf_length]; exact HT7.out)
    have x8 := below_setCells (B := w.heap.size) (b := D) (a := w) HWD.out (cellsOf (FL (undoF f (N - 1)) N)) 1297 w1 (Ext.trans HF6.out.2.2.2.2 hx)
    have HA := hid (show IsAria (w1.setCells D 1297 (cellsOf (FL (undoF f (N - 1)) N))) D key from ⟨t8, by rw [hNE.out.1]; have h := c8; rw [← HR1.out] at h; exact h, by rw [hNE.out.1, hNE.out.2]; exact a8, by rw [hNE.out.1, hNE.out.2]; exact b8⟩)
    have HX8 := hid x8
    have HM7 := hid hMN
    have HB7 := hid h34
    clear hx hMN hl7 b7 t8 c8 a8 b8 x8 h34
    go_wp2_with (refine wpList_cp rfl (.tmp 32) (.tmp 34) 52 52 55 16 rfl Tryd.underlying52 size55 D 1297 17 17 N p34 g34 0 (FL (undoF f (N - 1)) N) rfl rfl HM7.out HB7.out HT7.out ?_)
    go_ret2
    exact ⟨D, rfl, HWD.out, HA.out, HX8.out⟩
end Go.Proofs.YtpfkcplldhdipaaDoor
