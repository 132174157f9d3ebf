/- Walks over keys and Keys of the reference; own lemmas of the verifier, no statement is proved here. -/
import Derived.Test.YtpfkcplldhdipaaDoorX21
namespace Go.Proofs.YtpfkcplldhdipaaDoor
open Go.RowKit
theorem cf20 (vs : Array Value) (w : World) : (callFunc 20 vs).run Tryd.prog w = .ok (.enter 20 vs) w := by go_simp
theorem cf40 (vs : Array Value) (w : World) : (callFunc 40 vs).run Tryd.prog w = .ok (.enter 40 vs) w := by go_simp
theorem cf41 (vs : Array Value) (w : World) : (callFunc 41 vs).run Tryd.prog w = .ok (.enter 41 vs) w := by go_simp
theorem cf42 (vs : Array Value) (w : World) : (callFunc 42 vs).run Tryd.prog w = .ok (.enter 42 vs) w := by go_simp
theorem wpL_app {P : Program} (w : World) {ops : Array Oper} {rest : List Oper} {o : Oper} {a : Act} {Q : Exit → Act → World → Prop} (hgd : o.guard = none) (s x : Operand) (t1 t2 : TypeId)
    (ho : o.op = .call { callee := .builtin .append, args := #[s, x], argTypes := #[t1, t2] }) (vs vx v' : Value) (w' : World) (hs : a.eval s = vs) (hx : a.eval x = vx)
    (hrun : (Builtin.append_ #[t1, t2] o.type #[vs, vx]).run P w = .ok v' w') (h : wpList P ops Q rest (a.put o.dst v') w') : wpList P ops Q (o :: rest) a w := by
  refine wpList_plain hgd fun K hK' => ?_
  unfold Oper.wp execOp
  simp only [ho, resolve, invoke, builtin, Sem.run_bind, Sem.run_pure, Result.andThen_ok, List.map_toArray, List.map_cons, List.map_nil, hs, hx, hrun]
  exact hK' _ _ h
theorem append_no (w : World) (ty : TypeId) (g c : Nat) (A : Option Addr) : (Builtin.append_ #[22, 22] ty #[.slice (some ⟨g, 0, none⟩) 0 0, .slice A 0 c]).run Tryd.prog w = .ok (.slice (some ⟨g, 0, none⟩) 0 0) w := by
  obtain ⟨i0, hi0, hz0, hz1, hz2⟩ := info_parts Tryd.info5
  cases A <;> simp [Builtin.append_, run_underlying Tryd.underlying22, sizeOf, typeInfo, hi0, Builtin.lenOf, Builtin.firstCells, storeCells, loadCells, loadCellsFrom]
theorem wp_store_sl {o : Oper} {a : Act} {w : World} {K : Act → World → Prop} {Q : Exit → Act → World → Prop} (x y : Operand) (ho : o.op = .store 22 x y) (hd : o.dst = none)
    (g k n c : Nat) (A : Option Addr) (old : Value) (hx : a.eval x = .pointer (some ⟨g, k, none⟩)) (hy : a.eval y = .slice A n c)
    (hc : w.cell? ⟨g, k, none⟩ = some old) (hf : w.frozen? ⟨g, k, none⟩ = false)
    (h : K a (w.setCell ⟨g, k, none⟩ (.slice A n c))) : o.wp Tryd.prog a w K Q := by
  have hrun : (Instr.storeAt 22 (.pointer (some ⟨g, k, none⟩)) (.slice A n c)).run Tryd.prog w = .ok () (w.setCell ⟨g, k, none⟩ (.slice A n c)) := by go_simp
  unfold Oper.wp execOp
  simp only [ho, hx, hy, Sem.run_bind, Sem.run_pure, hrun, Result.andThen_ok]
  have h' : K (a.put o.dst undef) (w.setCell ⟨g, k, none⟩ (.slice A n c)) := by rw [hd]; exact h
  exact h'
/-- The words of a key, so far, in an array of slices. -/
def WS (w : World) (B : Nat) (key : List UInt8) (j : Nat) : Prop :=
  ∃ xs : List Value, xs.length = 4 ∧ w.heap[B]? = some (.cells xs.toArray 77 (0, 0)) ∧ (∀ k, k < 4 → ∃ A n c, xs[k]? = some (.slice A n c)) ∧
    ∀ k, k < j → ∃ A c, xs[k]? = some (.slice A 16 c) ∧ Rd w w.heap.size A 16 (seedL key k)
theorem WS.lt {w : World} {B : Nat} {key : List UInt8} {j : Nat} (h : WS w B key j) : B < w.heap.size := by
  obtain ⟨xs, _, h2, _⟩ := h
  exact (Array.getElem?_eq_some_iff.1 h2).1
theorem WS.later {w w' : World} {B : Nat} {key : List UInt8} {j : Nat} (h : WS w B key j) (hx : Ext w w') : WS w' B key j := by
  have hl := h.lt
  obtain ⟨xs, h1, h2, h3, h4⟩ := h
  exact ⟨xs, h1, (hx.block B hl).trans h2, h3, fun k hk => by
    obtain ⟨A, c, e, hr⟩ := h4 k hk
    exact ⟨A, c, e, hr.later hx⟩⟩
theorem WS.at_ {w : World} {B : Nat} {key : List UInt8} {j : Nat} (h : WS w B key j) (k : Nat) (hk : k < j) : ∃ A c, w.cell? ⟨B, k, none⟩ = some (.slice A 16 c) ∧ Rd w w.heap.size A 16 (seedL key k) := by
  obtain ⟨xs, h1, h2, h3, h4⟩ := h
  obtain ⟨A, c, e, hr⟩ := h4 k hk
  exact ⟨A, c, by rw [cell_of_row _ _ _ _ _ _ h2]; simpa using e, hr⟩
theorem WS.was {w : World} {B : Nat} {key : List UInt8} {j : Nat} (h : WS w B key j) (k : Nat) (hk : k < 4) : ∃ old, w.cell? ⟨B, k, none⟩ = some old := by
  obtain ⟨xs, h1, h2, h3, h4⟩ := h
  obtain ⟨A, n, c, e⟩ := h3 k hk
  exact ⟨_, by rw [cell_of_row _ _ _ _ _ _ h2]; simpa using e⟩
theorem WS.free {w : World} {B : Nat} {key : List UInt8} {j : Nat} (h : WS w B key j) (k : Nat) : w.frozen? ⟨B, k, none⟩ = false := by
  obtain ⟨xs, h1, h2, h3, h4⟩ := h
  exact frozen_of_row w B k _ _ h2
/-- Bytes lie in no such array. -/
theorem WS.rd {w : World} {B : Nat} {key : List UInt8} {j : Nat} (h : WS w B key j) {A : Option Addr} {n : Nat} {bs : List UInt8} (hr : Rd w w.heap.size A n bs) (hn : 0 < n) (k : Nat) (v : Value) :
    Rd (w.setCell ⟨B, k, none⟩ v) (w.setCell ⟨B, k, none⟩ v).heap.size A n bs := by
  obtain ⟨xs, h1, h2, h3, _⟩ := h
  obtain ⟨b, o, rfl, hb, hc⟩ := hr.at_ hn
  have hne : b ≠ B := by
    rintro rfl
    have h0 := hc 0 hn
    rw [Nat.add_zero, cell_of_row _ _ _ _ _ _ h2] at h0
    by_cases ho : o < 4
    · obtain ⟨A, n, c, e⟩ := h3 o ho
      have e2 : xs.toArray[o]? = some (.slice A n c) := by simpa using e
      rw [e2] at h0
      cases h0
    · have e2 : xs.toArray[o]? = none := by simp; omega
      rw [e2] at h0
      cases h0
  refine ⟨hr.len, fun _ => ⟨b, o, rfl, by simpa using hb, fun i hi => ?_⟩⟩
  rw [← hc i hi]
  exact World.cell?_of_block (heap_setCell_other w ⟨B, k, none⟩ b v hne)
theorem WS.put {w : World} {B : Nat} {key : List UInt8} {j : Nat} (h : WS w B key j) (hj : j < 4) {A : Option Addr} {c : Nat} (hr : Rd w w.heap.size A 16 (seedL key j)) :
    WS (w.setCell ⟨B, j, none⟩ (.slice A 16 c)) B key (j + 1) := by
  have hrd := fun {A : Option Addr} {n : Nat} {bs : List UInt8} (hr : Rd w w.heap.size A n bs) (hn : 0 < n) => h.rd hr hn j (.slice A 16 c)
  have hrd2 := fun {A : Option Addr} {n : Nat} {bs : List UInt8} (hr : Rd w w.heap.size A n bs) (hn : 0 < n) (v : Value) => h.rd hr hn j v
  obtain ⟨xs, h1, h2, h3, h4⟩ := h
  refine ⟨xs.set j (.slice A 16 c), by simpa using h1, ?_, fun k hk => ?_, fun k hk => ?_⟩
  · rw [heap_setCell_same w B j _ 77 _ h2]
    simp
  · by_cases e : k = j
    · subst e; exact ⟨A, 16, c, by simp [h1, hk]⟩
    · obtain ⟨A', n', c', e'⟩ := h3 k hk
      exact ⟨A', n', c', by rw [List.getElem?_set_ne (by omega)]; exact e'⟩
  · by_cases e : k = j
    · subst e; exact ⟨A, c, by simp [h1, hj], hrd2 hr (by omega) _⟩
    · obtain ⟨A', c', e', hr'⟩ := h4 k (by omega)
      exact ⟨A', c', by rw [List.getElem?_set_ne (by omega)]; exact e', hrd2 hr' (by omega) _⟩
theorem Own.grownV {e : TypeId} {w w' : World} {base base' : Nat} {v u : Value} {vs : List Value} {bs : List UInt8} (h : Own w base' u bs) (hv : OwnV e w base v vs) (he : 5 ≠ e) (hg : w.grownBy w' v.ownBlock) : Own w' base' u bs := by
  refine ⟨h.1, ?_⟩
  rcases h.2 with hn | ⟨g, cap, cur, rfl, hbg, hh, r⟩
  · exact .inl hn
  · exact .inr ⟨g, cap, cur, rfl, hbg, by rw [hg.block g (Array.getElem?_eq_some_iff.1 hh).1 (hv.block_ne hh he)]; exact hh, r⟩
theorem Own.one {w : World} {base : Nat} {u : Value} {bs : List UInt8} (h : Own w base u bs) : u.oneCell' = true := by
  rcases h.2 with ⟨rfl, _⟩ | ⟨g, cap, cur, rfl, _⟩ <;> rfl
/-- A row of one, own bytes. -/
def OneP (base : Nat) (bs : List UInt8) (w : World) (v : Value) : Prop := ∃ b u, v = .slice (some ⟨b, 0, none⟩) 1 1 ∧ w.cell? ⟨b, 0, none⟩ = some u ∧ Own w base u bs
theorem OneP.keep (base : Nat) (bs : List UInt8) : ∀ w w' v, Ext w w' → OneP base bs w v → OneP base bs w' v := fun w _ _ hx ⟨b, u, h1, h2, h3⟩ =>
  ⟨b, u, h1, (Below.cell hx (p := ⟨b, 0, none⟩) (World.block_lt_of_cell? w _ h2)).trans h2, h3.kept hx⟩
theorem build24one (v : Value) (h1 : v.oneCell' = true) (w : World) : (Instr.buildSlice 24 1 #[(0, v)]).run Tryd.prog w = .ok (.slice (some ⟨w.heap.size, 0, none⟩) 1 1) (w.alloc (.cells #[v] 22)) := by
  cases v <;> first | (simp [Value.oneCell'] at h1; done) | go_simp
def rk6 (p B : Nat) (m m1 : Nat) (S0 S1 X1 : List UInt8) : List Go.Proofs.YtpfkcplldhdipaaDoor.K := [.eq (.pointer (some ⟨p, 0, none⟩)), .eq (.pointer (some ⟨B, 1, none⟩)), .byt 16 (S1), .eq (.int .i64 (m : Nat)), .eq (.int .i64 (m1 : Nat)), .byt 16 (constL m1), .byt 16 (X1), .byt 16 (S0), .byt 16 (xorL X1 S0 16), .eq (.pointer (some ⟨B, 2, none⟩)), .any]
def rk7 (p B : Nat) (m m2 : Nat) (S1 S2 X2 : List UInt8) : List Go.Proofs.YtpfkcplldhdipaaDoor.K := [.eq (.pointer (some ⟨p, 0, none⟩)), .eq (.pointer (some ⟨B, 2, none⟩)), .byt 16 (S2), .eq (.int .i64 (m : Nat)), .eq (.int .i64 (m2 : Nat)), .byt 16 (constL m2), .byt 16 (X2), .eq (.pointer (some ⟨B, 1, none⟩)), .byt 16 (S1), .byt 16 (xorL X2 S1 16), .eq (.pointer (some ⟨B, 3, none⟩)), .any]
def rk13 (B T i q r t H : Nat) (u9 : Value) (Z : Int) (SQ SR TB KI : List UInt8) : List Go.Proofs.YtpfkcplldhdipaaDoor.K := [.eq (u9), .eq (.int .i64 i), .eq (.int .i64 q), .eq (.pointer (some ⟨B, q, none⟩)), .byt 16 (SQ), .eq (.int .i64 i), .eq (.int .i64 (i + 1 : Nat)), .eq (.int .i64 r), .eq (.pointer (some ⟨B, r, none⟩)), .byt 16 (SR), .eq (.slice (some ⟨T, 0, none⟩) 5 5), .eq (.int .i64 i), .eq (.int .i64 t), .eq (.pointer (some ⟨T, t, none⟩)), .eq (.int .i64 Z), .byt 16 (TB), .gen (OwnP H KI) (OwnP.keep _ _), .gen (OneP H KI) (OneP.keep _ _), .any, .any]
/-- What the reference's keys are. -/
def RKeys (w : World) (key : List UInt8) (e : Ending) (w' : World) : Prop :=
  ∃ b c, e = .returned (.slice (some ⟨b, 0, none⟩) (keyN key) c) ∧ RowsB w' b 0 (keysL key) ∧ Ext w w'
theorem wpL_slo {ops : Array Oper} {rest : List Oper} {o : Oper} {a : Act} {w : World} {Q : Exit → Act → World → Prop} (hgd : o.guard = none) (x lo : Operand) {A : Option Addr} {n c l B : Nat} {bs : List UInt8}
    (hop : o.op = .slice 22 x (some lo) none none) (hx : a.eval x = .slice A n c) (hlo : a.eval lo = .int .i64 (l : Int)) (hl : l ≤ n) (hc : n ≤ c) (hr : Rd w B A n bs)
    (h : ∀ A' c', n - l ≤ c' → Rd w B A' (n - l) (bs.drop l) → wpList Tryd.prog ops Q rest (a.put o.dst (.slice A' (n - l) c')) w) : wpList Tryd.prog ops Q (o :: rest) a w := by
  refine wpList_plain hgd fun K hK' => ?_
  have e : (Instr.sliceAt 22 (.slice A n c) (some (.int .i64 (l : Int))) none none).run Tryd.prog w = .ok (sliced A l n c 1) w := by
    rw [run_sliceAt_slice w 22 _ _ _ _ elem22, run_slice_l w 22 A n c elem22 .i64 l (by omega) (by omega), size22]
    simp [Result.andThen]
  unfold Oper.wp execOp
  simp only [hop, Option.map_some, Option.map_none, hx, hlo, Sem.run_bind, Sem.run_pure, e, Result.andThen_ok]
  exact hK' _ _ (h _ _ (by omega) (hr.cutlo hl hc))
theorem wpL_shi {ops : Array Oper} {rest : List Oper} {o : Oper} {a : Act} {w : World} {Q : Exit → Act → World → Prop} (hgd : o.guard = none) (x hi : Operand) {A : Option Addr} {n c l B : Nat} {bs : List UInt8}
    (hop : o.op = .slice 22 x none (some hi) none) (hx : a.eval x = .slice A n c) (hhi : a.eval hi = .int .i64 (l : Int)) (hl : l ≤ n) (hc : n ≤ c) (hr : Rd w B A n bs)
    (h : ∀ A' c', l ≤ c' → Rd w B A' l (bs.take l) → wpList Tryd.prog ops Q rest (a.put o.dst (.slice A' l c')) w) : wpList Tryd.prog ops Q (o :: rest) a w := by
  have hc0 := (hr.cutlo (l := 0) (Nat.zero_le _) hc).cuthi l (by omega)
  refine wpList_plain hgd fun K hK' => ?_
  have e : (Instr.sliceAt 22 (.slice A n c) none (some (.int .i64 (l : Int))) none).run Tryd.prog w = .ok (sliced A 0 l c 1) w := by
    rw [run_sliceAt_slice w 22 _ _ _ _ elem22, run_slice_h w 22 A n c elem22 .i64 l (by omega) (by omega), size22]
    simp [Result.andThen]
  unfold Oper.wp execOp
  simp only [hop, Option.map_some, Option.map_none, hx, hhi, Sem.run_bind, Sem.run_pure, e, Result.andThen_ok]
  refine hK' _ _ (h _ _ (by omega) ?_)
  simpa using hc0
theorem wpL_append_some {ops : Array Oper} {rest : List Oper} {o : Oper} {a : Act} {w : World} {Q : Exit → Act → World → Prop} (hgd : o.guard = none) (s x : Operand)
    (ho : o.op = .call { callee := .builtin .append, args := #[s, x], argTypes := #[22, 22] }) (base g : Nat) (hs : a.eval s = .slice (some ⟨g, 0, none⟩) 0 0) (hown : Own w base (.slice (some ⟨g, 0, none⟩) 0 0) [])
    (B : Nat) (A : Option Addr) (n c : Nat) (ys : List UInt8) (hx : a.eval x = .slice A n c) (hrd : Rd w B A n ys) (hlen : n ≤ 1000) (hbase : base ≤ w.heap.size)
    (h : ∀ g' cap' w', Own w' base (.slice (some ⟨g', 0, none⟩) n cap') ys → Below base w w' → wpList Tryd.prog ops Q rest (a.put o.dst (.slice (some ⟨g', 0, none⟩) n cap')) w') : wpList Tryd.prog ops Q (o :: rest) a w := by
  have hyl := hrd.len
  by_cases h0 : n = 0
  · subst h0
    have hys : ys = [] := List.eq_nil_of_length_eq_zero hyl
    subst hys
    exact wpL_app w hgd s x 22 22 ho _ _ _ _ hs hx (append_no w _ g c A) (h g 0 w hown (Below.refl _ _))
  · refine wpL_append w hgd s x 22 ho Tryd.underlying22 Tryd.info5 base _ [] hs hown B A n c ys hx hrd (by simp; omega) hbase ?_
    intro v' w' hown' hb'
    rw [List.nil_append] at hown'
    rcases hown'.2 with ⟨_, h1⟩ | ⟨g', cap', cur, rfl, r⟩
    · omega
    · rw [hyl] at hown' ⊢
      exact h g' cap' w' hown' hb'
theorem front_take (key : List UInt8) (h : 16 ≤ key.length) : key.take 16 = frontL key 0 := by
  apply List.ext_getElem
  · rw [frontL_length, List.length_take]; omega
  · intro i h1 h2
    have hi : i < 16 := by rw [frontL_length] at h2; exact h2
    have hk : i < key.length := by omega
    simp [frontL, hk]
theorem front_drop (key : List UInt8) (h : 16 ≤ key.length) (h2 : key.length ≤ 32) : key.drop 16 ++ List.replicate (32 - key.length) 0 = frontL key 16 := by
  apply List.ext_getElem
  · rw [frontL_length, List.length_append, List.length_drop, List.length_replicate]; omega
  · intro i h1 h2
    have hi : i < 16 := by rw [frontL_length] at h2; exact h2
    by_cases hk : 16 + i < key.length
    · rw [List.getElem_append_left (by rw [List.length_drop]; omega)]
      simp [frontL, hk]
    · rw [List.getElem_append_right (by rw [List.length_drop]; omega)]
      simp [frontL, hk]
set_option maxRecDepth 100000 in
set_option maxHeartbeats 8000000 in
theorem rkeysW_any (p n c : Nat) (A : Option Addr) (key : List UInt8) (w : World) (hb : RBx w p) (h : Rd w w.heap.size A n key) (hn : okLen n) (hc : n ≤ c) : Calls Tryd.prog 26 #[.pointer (some ⟨p, 0, none⟩), .slice A n c] w (RKeys w key) := by
  have hl := h.len
  obtain ⟨d, hd⟩ : ∃ d, n / 8 = d := ⟨_, rfl⟩
  obtain ⟨m, hm⟩ : ∃ m, d - 2 = m := ⟨_, rfl⟩
  obtain ⟨z, hz⟩ : ∃ z, 32 - n = z := ⟨_, rfl⟩
  have hnn : (n = 16 ∨ n = 24 ∨ n = 32) := hn
  have hn32 : 16 ≤ n ∧ n ≤ 32 := by omega
  have hq8 : (n : Int).tdiv 8 = (d : Int) := by rw [Int.tdiv_eq_ediv_of_nonneg (by omega)]; omega
  have hm2 : (d : Int) - 2 = (m : Int) := by omega
  have hz2 : (32 : Int) - (n : Int) = (z : Int) := by omega
  have HM := hid (show m ≤ 2 by omega)
  have HDM := hid (show 2 * m + 13 = 9 + n / 4 by omega)
  have HNC := hid (And.intro hc hn32)
  obtain ⟨m1, hm1⟩ : ∃ m1, m + 1 = m1 := ⟨_, rfl⟩
  obtain ⟨m2, hm2'⟩ : ∃ m2, m + 2 = m2 := ⟨_, rfl⟩
  have HM1 := hid (show (m : Int) + 1 = (m1 : Int) ∧ m1 ≤ 1000 ∧ (m : Int) + 2 = (m2 : Int) ∧ m2 ≤ 1000 by omega)
  have HKC := hid (show constL (key.length / 8 - 2 + 0) = constL m ∧ constL (key.length / 8 - 2 + 1) = constL m1 ∧ constL (key.length / 8 - 2 + 2) = constL m2 by rw [hl, hd, hm, ← hm1, ← hm2']; exact ⟨rfl, rfl, rfl⟩)
  have HR0 := hid h
  have HBX0 := hid hb
  have HFK := hid (front_take key (by omega))
  have HFD := hid (show key.drop 16 ++ List.replicate z 0 = frontL key 16 by rw [← hz, ← hl]; exact front_drop key (by omega) (by omega))
  have HKL := hid hl
  clear h hb hn hnn hd hm hz hl hc hn32 hm1 hm2'
  have hni : (n : Int) ≤ 32 := by have := HNC.out; omega
  have hdi : (d : Int) ≤ 4 := by have := HM.out; omega
  have hzi : (z : Int) ≤ 32 := by omega
  have HXA := hid (Ext.alloc w (.cells #[] 5))
  have HO1 := hid (Own.lit w [] #[] 0 w.heap.size rfl rfl (by unfold maxLen; omega) (Nat.le_refl _))
  have HXB := hid (fun w2 : World => Ext.alloc w2 (.cells #[] 5))
  have HO2 := hid (fun w2 : World => Own.lit w2 [] #[] 0 w2.heap.size rfl rfl (by unfold maxLen; omega) (Nat.le_refl _))
  go_enter Tryd.func26, Tryd.ntmps26
  go_wp2_with (first
    | (refine wpL_shi rfl (.tmp 17) (.const (.int .i64 16)) (l := 16) rfl rfl rfl HNC.out.2.1 HNC.out.1 (HR0.out.later HXA.out) ?_; intro A18 c18 hc18 hr18; rw [HFK.out] at hr18; have HR18 := hid hr18; clear hc18 hr18)
    | (at_builtin; refine wpL_append _ rfl (.tmp 16) (.tmp 18) 22 rfl Tryd.underlying22 Tryd.info5 w.heap.size _ [] rfl HO1.out _ A18 16 c18 _ rfl HR18.out (by simp) (Below.size HXA.out) ?_; intro v6 w2 hown6 hb6; rw [List.nil_append] at hown6; obtain ⟨A6, c6, rfl, hr6, _⟩ := hown6.rdn (n := 16) (frontL_length key 0); have HX2 := hid (show Ext w w2 from Below.trans HXA.out hb6); have HR6 := hid hr6; clear hown6 hb6 hr6 HR18)
    | (refine wpL_slo rfl (.tmp 21) (.const (.int .i64 16)) (l := 16) rfl rfl rfl HNC.out.2.1 HNC.out.1 ((HR0.out.later HX2.out).later (HXB.out w2)) ?_; intro A22 c22 hc22 hr22; have HR22 := hid hr22; clear hc22 hr22)
    | (at_builtin; refine wpL_append_some rfl (.tmp 20) (.tmp 22) rfl w2.heap.size w2.heap.size rfl (HO2.out w2) _ A22 (n - 16) c22 _ rfl HR22.out (by have := HNC.out; omega) (Below.size (HXB.out w2)) ?_; intro g3 p3 w3 hown3 hb3; have HO3 := hid hown3; have HX3 := hid (show Ext w w3 from Ext.trans HX2.out (Below.trans (HXB.out w2) hb3)); have HS3 := hid (show w2.heap.size ≤ w3.heap.size from Nat.le_trans (Below.size (HXB.out w2)) (Below.size hb3)); have HX23 := hid (show Ext w2 w3 from Below.trans (HXB.out w2) hb3); clear hown3 hb3 HR22)
    | (at_builtin; obtain ⟨v7, w4, hrun7, hown7, hb7⟩ := append_zeros w3 w2.heap.size g3 (n - 16) p3 z (key.drop 16) 22 HO3.out (by rw [List.length_drop, HKL.out]) (by have := HNC.out; omega) (by omega) HS3.out; refine wpL_app _ rfl (.tmp 23) (.tmp 26) 22 3 rfl _ _ _ _ rfl rfl hrun7 ?_; rw [HFD.out] at hown7; obtain ⟨A7, c7, rfl, hr7, _⟩ := hown7.rdn (n := 16) (frontL_length key 16); have HX24 := hid (show Ext w2 w4 from Below.trans HX23.out hb7); have HR7 := hid hr7; clear hown7 hb7 hr7 hrun7))
  have h5 := heap_alloc_new w4 (.cells #[.slice A6 16 c6, .slice none 0 0, .slice none 0 0, .slice none 0 0] 77)
  have x5 := Ext.alloc w4 (.cells #[.slice A6 16 c6, .slice none 0 0, .slice none 0 0, .slice none 0 0] 77)
  have HWB := hid (show w.heap.size ≤ w4.heap.size from Nat.le_trans (Below.size HX2.out) (Below.size HX24.out))
  obtain ⟨W5, hW5⟩ : ∃ W5, w4.alloc (.cells #[.slice A6 16 c6, .slice none 0 0, .slice none 0 0, .slice none 0 0] 77) = W5 := ⟨_, rfl⟩
  rw [hW5] at h5 x5 ⊢
  obtain ⟨B, hB⟩ : ∃ B, w4.heap.size = B := ⟨_, rfl⟩
  rw [hB] at h5 ⊢
  have HB := hid (show w.heap.size ≤ B by rw [← hB]; exact HWB.out)
  have hr6 := (HR6.out.later HX24.out).later x5
  have hws : WS W5 B key 1 := ⟨[.slice A6 16 c6, .slice none 0 0, .slice none 0 0, .slice none 0 0], rfl, h5, fun k hk => by
    match k, hk with
    | 0, _ => exact ⟨_, _, _, rfl⟩
    | 1, _ => exact ⟨_, _, _, rfl⟩
    | 2, _ => exact ⟨_, _, _, rfl⟩
    | 3, _ => exact ⟨_, _, _, rfl⟩, fun k hk => by
    obtain rfl : k = 0 := by omega
    exact ⟨A6, c6, rfl, hr6⟩⟩
  have HWS := hid hws
  have HR6 := hid hr6
  have HR7 := hid (HR7.out.later x5)
  have HX := hid (Ext.trans (Ext.trans HX2.out HX24.out) x5)
  have HBX := hid (HBX0.out.later HX.out)
  clear h5 x5 HWB hW5 hB hr6 hws HX2 HX24 HX23 HX3 HS3 HO3 HXA HXB HO1 HO2 HFK HFD HR0
  refine (rconst_any m _ (by have := HM.out; omega)).mono ?_
  rintro e w6 ⟨v33, rfl, ho33, hx6⟩
  obtain ⟨A33, c33, rfl, hr33, _⟩ := ho33.rdn (n := 16) (constL_length m)
  have HR33 := hid hr33
  have HX60 := hid (show Ext W5 w6 from hx6)
  clear ho33 hx6 hr33
  go_wp2_with fail
  refine (rround_any p 1 A6 A33 c6 c33 (frontL key 0) (constL m) _ (.inl rfl) (HBX.out.later HX60.out) (HR6.out.later HX60.out) HR33.out).mono ?_
  rintro e w7 ⟨v34, rfl, ho34, hx7⟩
  obtain ⟨A34, c34, rfl, hr34, _⟩ := ho34.rdn (n := 16) (mixL_length _)
  have HR34 := hid hr34
  have HX70 := hid (Ext.trans HX60.out (show Ext w6 w7 from hx7))
  clear ho34 hx7 hr34 HR33 HX60
  go_wp2_with fail
  refine (both_any A34 A7 16 c34 c7 _ (frontL key 16) _ HR34.out (HR7.out.later HX70.out) (by omega)).mono ?_
  rintro e w8 ⟨v36, rfl, ho36, hx8⟩
  obtain ⟨A36, c36, rfl, hr36, _⟩ := ho36.rdn (n := 16) (xorL_length _ _ 16)
  obtain ⟨S1, hS1⟩ : ∃ S1, seedL key 1 = S1 := ⟨_, rfl⟩
  obtain ⟨S0, hS0⟩ : ∃ S0, frontL key 0 = S0 := ⟨_, rfl⟩
  have hS1x : seedL key 1 = xorL (mixL (layL 1 (xorL (frontL key 0) (constL m) 16))) (frontL key 16) 16 := by
    rw [seedL_succ, stepL, HKC.out.1]; rfl
  have hxx := Ext.trans HX70.out (show Ext w7 w8 from hx8)
  have hws8 := HWS.out.later hxx
  have hcell := hws8.was 1 (by omega)
  have hfree := hws8.free 1
  have hput := hws8.put (j := 1) (by omega) (c := c36) (A := A36) (by rw [hS1x]; exact hr36)
  have hs0 := hws8.rd (HR6.out.later hxx) (by omega) 1 (.slice A36 16 c36)
  have hx9 := Below.setCell (Ext.trans HX.out hxx) (p := ⟨B, 1, none⟩) (by have := HB.out; simp; omega) (.slice A36 16 c36)
  rw [hS0] at hs0
  obtain ⟨W9, hW9⟩ : ∃ W9, w8.setCell ⟨B, 1, none⟩ (.slice A36 16 c36) = W9 := ⟨_, rfl⟩
  rw [hW9] at hput hs0 hx9
  have HWS := hid hput
  have HS0 := hid hs0
  have HX := hid hx9
  have HBX := hid (HBX0.out.later hx9)
  have HW9 := hid hW9
  have HE := hid hS1
  obtain ⟨X1, hX1⟩ : ∃ X1, mixL (layL 2 (xorL S1 (constL m1) 16)) = X1 := ⟨_, rfl⟩
  have HR := hid (show ∀ A A' c c' w, RBx w p → Rd w w.heap.size A 16 S1 → Rd w w.heap.size A' 16 (constL m1) → Calls Tryd.prog 40 #[.pointer (some ⟨p, 0, none⟩), .int .i64 2, .slice A 16 c, .slice A' 16 c'] w (RetB w X1) from fun A A' c c' w h1 h2 h3 => by
    rw [← hX1]; exact rround_any p 2 A A' c c' S1 (constL m1) w (.inr rfl) h1 h2 h3)
  have HL := hid (show X1.length = 16 by rw [← hX1]; exact mixL_length _)
  have HS2 := hid (show seedL key 2 = xorL X1 S0 16 by rw [seedL_succ, headL_succ, stepL, HKC.out.2.1, hS1, ← hX1, ← hS0]; rfl)
  obtain ⟨N, hN⟩ : ∃ N, keyN key = N := ⟨_, rfl⟩
  have HN0 := hid hN
  have HN17 := hid (show 0 < N ∧ N ≤ 17 by unfold keyN at hN; have := HNC.out; have := HKL.out; omega)
  have hNm : 2 * (m : Int) + 13 = (N : Int) := by unfold keyN at hN; have := HDM.out; have := HKL.out; omega
  have hN17 : (N : Int) ≤ 17 := by have := HN17.out; omega
  obtain ⟨old, hcell⟩ := hcell
  clear hr36 ho36 hx8 hS0 hS1x hxx hws8 hput hs0 hx9 hW9 hX1 hN HR34 HX70 HR6 HR7
  go_wp2_with fail
  rw [HW9.out]
  clear hcell hfree HW9
  refine region_tail 10 _ mixed rfl (by kernel_rfl) (by kernel_rfl) rfl rfl rfl (kV (rk6 p B m m1 S0 S1 X1)) (kV_keep _) (forall_ops ⟨?_, ?_, ?_, ?_, ?_, ?_, ?_, ?_, ?_, ?_, fun h => absurd rfl h, trivial⟩) ?_
  · intro _ a w hk
    have s0 : a.tmps.getD 0 undef = .pointer (some ⟨p, 0, none⟩) := hk.was 0 (by kernel_rfl) rfl
    exact step_move rfl rfl s0 rfl
  · intro _ a w hk
    have s8 : a.tmps.getD 8 undef = .pointer (some ⟨B, 0, none⟩) := hk.was 8 (by kernel_rfl) rfl
    refine step_val (v := .pointer (some ⟨B, 1, none⟩)) (w' := w) rfl ?_ (Ext.refl w) rfl
    go_simp
  · intro _ a w hk
    have s39 := hk.eq_ 1 39 (by kernel_rfl) rfl
    obtain ⟨A40, c40, hc40, hr40⟩ := (HWS.out.later hk.ext).at_ 1 (by omega)
    rw [HE.out] at hr40
    refine step_val (v := .slice A40 16 c40) (w' := w) rfl ?_ (Ext.refl w) ⟨_, _, rfl, hr40⟩
    go_simp
  · intro _ a w hk
    have s5 : a.tmps.getD 5 undef = .int .i64 (m : Nat) := hk.was 5 (by kernel_rfl) rfl
    exact step_move rfl rfl s5 rfl
  · intro _ a w hk
    have s41 := hk.eq_ 3 41 (by kernel_rfl) rfl
    refine step_val (v := .int .i64 (m1 : Nat)) (w' := w) rfl ?_ (Ext.refl w) rfl
    have e := HM1.out.1
    have hm := HM1.out.2
    go_simp
    exact IntWalk.i64_in _ (by omega)
  · intro _ a w hk
    have s42 := hk.eq_ 4 42 (by kernel_rfl) rfl
    exact step_call rfl rfl (by simp only [List.map_toArray, List.map_cons, List.map_nil, Act.eval, s42] <;> rfl) cf41 (rconst_any m1 w HM1.out.2.1) (fun e w1 h => RetB.k (constL_length _) e w1 h)
  · intro _ a w hk
    have s38 := hk.eq_ 0 38 (by kernel_rfl) rfl
    obtain ⟨A40, c40, s40, r40⟩ := hk.byt_ 2 40 (by kernel_rfl) rfl
    obtain ⟨A43, c43, s43, r43⟩ := hk.byt_ 5 43 (by kernel_rfl) rfl
    exact step_call rfl rfl (by simp only [List.map_toArray, List.map_cons, List.map_nil, Act.eval, s38, s40, s43] <;> rfl) cf40 (HR.out A40 A43 c40 c43 w (HBX.out.later hk.ext) r40 r43) (fun e w1 h => RetB.k HL.out e w1 h)
  · intro _ a w hk
    have s6 : a.tmps.getD 6 undef = .slice A6 16 c6 := hk.was 6 (by kernel_rfl) rfl
    have r6 := (HS0.out).later hk.ext
    exact step_move rfl rfl s6 ⟨_, _, rfl, r6⟩
  · intro _ a w hk
    obtain ⟨A44, c44, s44, r44⟩ := hk.byt_ 6 44 (by kernel_rfl) rfl
    obtain ⟨A45, c45, s45, r45⟩ := hk.byt_ 7 45 (by kernel_rfl) rfl
    exact step_call rfl rfl (by simp only [List.map_toArray, List.map_cons, List.map_nil, Act.eval, s44, s45] <;> rfl) cf20 (both_any A44 A45 16 c44 c45 X1 S0 w r44 r45 (by omega)) (fun e w1 h => RetB.k (xorL_length _ _ _) e w1 h)
  · intro _ a w hk
    have s8 : a.tmps.getD 8 undef = .pointer (some ⟨B, 0, none⟩) := hk.was 8 (by kernel_rfl) rfl
    refine step_val (v := .pointer (some ⟨B, 2, none⟩)) (w' := w) rfl ?_ (Ext.refl w) rfl
    go_simp
  · intro a w1 hf
    have s38 := hf.eq_ 0 38 (by kernel_rfl) rfl
    have s39 := hf.eq_ 1 39 (by kernel_rfl) rfl
    obtain ⟨A40, c40, s40, r40⟩ := hf.val 2 40 (by kernel_rfl) rfl
    have s41 := hf.eq_ 3 41 (by kernel_rfl) rfl
    have s42 := hf.eq_ 4 42 (by kernel_rfl) rfl
    obtain ⟨A43, c43, s43, r43⟩ := hf.val 5 43 (by kernel_rfl) rfl
    obtain ⟨A44, c44, s44, r44⟩ := hf.val 6 44 (by kernel_rfl) rfl
    obtain ⟨A45, c45, s45, r45⟩ := hf.val 7 45 (by kernel_rfl) rfl
    obtain ⟨A46, c46, s46, r46⟩ := hf.val 8 46 (by kernel_rfl) rfl
    have s47 := hf.eq_ 9 47 (by kernel_rfl) rfl
    have hx := hf.ext
    have e := hf.frame
    clear hf
    simp only [regFrame, Act.put, List.setIfInBounds_toArray, List.set_cons_zero, List.set_cons_succ, s38, s39, s40, s41, s42, s43, s44, s45, s46, s47] at e
    clear s38 s39 s40 s41 s42 s43 s44 s45 s46 s47
    subst e
    have hws := HWS.out.later hx
    obtain ⟨old, hcell⟩ := hws.was 2 (by omega)
    have hfree := hws.free 2
    have hput := hws.put (j := 2) (by omega) (c := c46) (A := A46) (by rw [HS2.out]; exact r46)
    have hx2 := Below.setCell (Ext.trans HX.out hx) (p := ⟨B, 2, none⟩) (by have := HB.out; simp; omega) (.slice A46 16 c46)
    refine wp_store_sl (.tmp 47) (.tmp 46) rfl rfl B 2 16 c46 A46 old rfl rfl hcell hfree ?_
    obtain ⟨W10, hW10⟩ : ∃ W10, w1.setCell ⟨B, 2, none⟩ (.slice A46 16 c46) = W10 := ⟨_, rfl⟩
    rw [hW10] at hput hx2 ⊢
    have HWS := hid hput
    have HX := hid hx2
    have HBX := hid (HBX0.out.later hx2)
    clear hx hws hcell hfree hput hx2 hW10 HR HL HE r40 r43 r44 r45 r46
    obtain ⟨S2, hS2⟩ : ∃ S2, seedL key 2 = S2 := ⟨_, rfl⟩
    obtain ⟨X2, hX2⟩ : ∃ X2, mixL (layL 1 (xorL S2 (constL m2) 16)) = X2 := ⟨_, rfl⟩
    have HE := hid (And.intro hS1 hS2)
    have HR := hid (show ∀ A A' c c' w, RBx w p → Rd w w.heap.size A 16 S2 → Rd w w.heap.size A' 16 (constL m2) → Calls Tryd.prog 40 #[.pointer (some ⟨p, 0, none⟩), .int .i64 1, .slice A 16 c, .slice A' 16 c'] w (RetB w X2) from fun A A' c c' w h1 h2 h3 => by
      rw [← hX2]; exact rround_any p 1 A A' c c' S2 (constL m2) w (.inl rfl) h1 h2 h3)
    have HL := hid (show X2.length = 16 by rw [← hX2]; exact mixL_length _)
    have HS3 := hid (show seedL key 3 = xorL X2 S1 16 by rw [seedL_succ, headL_succ, stepL, HKC.out.2.2, hS1, hS2, ← hX2])
    clear hS1 hS2 hX2 HS2 HS0
    go_wp2_with fail
    refine region_tail 11 _ mixed rfl (by kernel_rfl) (by kernel_rfl) rfl rfl rfl (kV (rk7 p B m m2 S1 S2 X2)) (kV_keep _) (forall_ops ⟨?_, ?_, ?_, ?_, ?_, ?_, ?_, ?_, ?_, ?_, ?_, fun h => absurd rfl h, trivial⟩) ?_
    · intro _ a w hk
      have s0 : a.tmps.getD 0 undef = .pointer (some ⟨p, 0, none⟩) := hk.was 0 (by kernel_rfl) rfl
      exact step_move rfl rfl s0 rfl
    · intro _ a w hk
      have s8 : a.tmps.getD 8 undef = .pointer (some ⟨B, 0, none⟩) := hk.was 8 (by kernel_rfl) rfl
      refine step_val (v := .pointer (some ⟨B, 2, none⟩)) (w' := w) rfl ?_ (Ext.refl w) rfl
      go_simp
    · intro _ a w hk
      have s49 := hk.eq_ 1 49 (by kernel_rfl) rfl
      obtain ⟨A50, c50, hc50, hr50⟩ := (HWS.out.later hk.ext).at_ 2 (by omega)
      rw [HE.out.2] at hr50
      refine step_val (v := .slice A50 16 c50) (w' := w) rfl ?_ (Ext.refl w) ⟨_, _, rfl, hr50⟩
      go_simp
    · intro _ a w hk
      have s5 : a.tmps.getD 5 undef = .int .i64 (m : Nat) := hk.was 5 (by kernel_rfl) rfl
      exact step_move rfl rfl s5 rfl
    · intro _ a w hk
      have s51 := hk.eq_ 3 51 (by kernel_rfl) rfl
      refine step_val (v := .int .i64 (m2 : Nat)) (w' := w) rfl ?_ (Ext.refl w) rfl
      have e := HM1.out.2.2.1
      have hm := HM1.out.2.2.2
      go_simp
      exact IntWalk.i64_in _ (by omega)
    · intro _ a w hk
      have s52 := hk.eq_ 4 52 (by kernel_rfl) rfl
      exact step_call rfl rfl (by simp only [List.map_toArray, List.map_cons, List.map_nil, Act.eval, s52] <;> rfl) cf41 (rconst_any m2 w HM1.out.2.2.2) (fun e w1 h => RetB.k (constL_length _) e w1 h)
    · intro _ a w hk
      have s48 := hk.eq_ 0 48 (by kernel_rfl) rfl
      obtain ⟨A50, c50, s50, r50⟩ := hk.byt_ 2 50 (by kernel_rfl) rfl
      obtain ⟨A53, c53, s53, r53⟩ := hk.byt_ 5 53 (by kernel_rfl) rfl
      exact step_call rfl rfl (by simp only [List.map_toArray, List.map_cons, List.map_nil, Act.eval, s48, s50, s53] <;> rfl) cf40 (HR.out A50 A53 c50 c53 w (HBX.out.later hk.ext) r50 r53) (fun e w1 h => RetB.k HL.out e w1 h)
    · intro _ a w hk
      have s8 : a.tmps.getD 8 undef = .pointer (some ⟨B, 0, none⟩) := hk.was 8 (by kernel_rfl) rfl
      refine step_val (v := .pointer (some ⟨B, 1, none⟩)) (w' := w) rfl ?_ (Ext.refl w) rfl
      go_simp
    · intro _ a w hk
      have s55 := hk.eq_ 7 55 (by kernel_rfl) rfl
      obtain ⟨A56, c56, hc56, hr56⟩ := (HWS.out.later hk.ext).at_ 1 (by omega)
      rw [HE.out.1] at hr56
      refine step_val (v := .slice A56 16 c56) (w' := w) rfl ?_ (Ext.refl w) ⟨_, _, rfl, hr56⟩
      go_simp
    · intro _ a w hk
      obtain ⟨A54, c54, s54, r54⟩ := hk.byt_ 6 54 (by kernel_rfl) rfl
      obtain ⟨A56, c56, s56, r56⟩ := hk.byt_ 8 56 (by kernel_rfl) rfl
      exact step_call rfl rfl (by simp only [List.map_toArray, List.map_cons, List.map_nil, Act.eval, s54, s56] <;> rfl) cf20 (both_any A54 A56 16 c54 c56 X2 S1 w r54 r56 (by omega)) (fun e w1 h => RetB.k (xorL_length _ _ _) e w1 h)
    · intro _ a w hk
      have s8 : a.tmps.getD 8 undef = .pointer (some ⟨B, 0, none⟩) := hk.was 8 (by kernel_rfl) rfl
      refine step_val (v := .pointer (some ⟨B, 3, none⟩)) (w' := w) rfl ?_ (Ext.refl w) rfl
      go_simp
    · intro a w2 hf
      have s48 := hf.eq_ 0 48 (by kernel_rfl) rfl
      have s49 := hf.eq_ 1 49 (by kernel_rfl) rfl
      obtain ⟨A50, c50, s50, r50⟩ := hf.val 2 50 (by kernel_rfl) rfl
      have s51 := hf.eq_ 3 51 (by kernel_rfl) rfl
      have s52 := hf.eq_ 4 52 (by kernel_rfl) rfl
      obtain ⟨A53, c53, s53, r53⟩ := hf.val 5 53 (by kernel_rfl) rfl
      obtain ⟨A54, c54, s54, r54⟩ := hf.val 6 54 (by kernel_rfl) rfl
      have s55 := hf.eq_ 7 55 (by kernel_rfl) rfl
      obtain ⟨A56, c56, s56, r56⟩ := hf.val 8 56 (by kernel_rfl) rfl
      obtain ⟨A57, c57, s57, r57⟩ := hf.val 9 57 (by kernel_rfl) rfl
      have s58 := hf.eq_ 10 58 (by kernel_rfl) rfl
      have hx := hf.ext
      have e := hf.frame
      clear hf
      simp only [regFrame, Act.put, List.setIfInBounds_toArray, List.set_cons_zero, List.set_cons_succ, s48, s49, s50, s51, s52, s53, s54, s55, s56, s57, s58] at e
      clear s48 s49 s50 s51 s52 s53 s54 s55 s56 s57 s58
      subst e
      have hws := HWS.out.later hx
      obtain ⟨old, hcell⟩ := hws.was 3 (by omega)
      have hfree := hws.free 3
      have hput := hws.put (j := 3) (by omega) (c := c57) (A := A57) (by rw [HS3.out]; exact r57)
      have hx2 := Below.setCell (Ext.trans HX.out hx) (p := ⟨B, 3, none⟩) (by have := HB.out; simp; omega) (.slice A57 16 c57)
      refine wp_store_sl (.tmp 58) (.tmp 57) rfl rfl B 3 16 c57 A57 old rfl rfl hcell hfree ?_
      obtain ⟨W11, hW11⟩ : ∃ W11, w2.setCell ⟨B, 3, none⟩ (.slice A57 16 c57) = W11 := ⟨_, rfl⟩
      rw [hW11] at hput hx2 ⊢
      have HW11 := hid (And.intro hput hx2)
      clear hx hws hcell hfree hput hx2 hW11 HWS HX HE HR HL HBX HS3 r50 r53 r54 r56 r57
      have HTU := hid (fun q (hq : q < 5) => show (W11.alloc (.cells #[.int .i64 (-19), .int .i64 (-31), .int .i64 61, .int .i64 31, .int .i64 19] 3)).cell? ⟨W11.heap.size, q, none⟩ = some (.int .i64 (turnT q)) by
        rw [cell_of_row _ _ _ _ _ _ (heap_alloc_new W11 _)]
        match q, hq with
        | 0, _ => rfl
        | 1, _ => rfl
        | 2, _ => rfl
        | 3, _ => rfl
        | 4, _ => rfl)
      have HX12 := hid (Ext.alloc W11 (.cells #[.int .i64 (-19), .int .i64 (-31), .int .i64 61, .int .i64 31, .int .i64 19] 3))
      obtain ⟨W12, hW12⟩ : ∃ W12, W11.alloc (.cells #[.int .i64 (-19), .int .i64 (-31), .int .i64 61, .int .i64 31, .int .i64 19] 3) = W12 := ⟨_, rfl⟩
      rw [hW12] at HTU HX12
      obtain ⟨T, hT⟩ : ∃ T, W11.heap.size = T := ⟨_, rfl⟩
      rw [hT] at HTU
      have HW12 := hid (And.intro hW12 hT)
      clear hW12 hT
      obtain ⟨H, hH⟩ : ∃ H, W12.heap.size = H := ⟨_, rfl⟩
      have HH0 := hid hH
      have HWS12 := hid (HW11.out.1.later HX12.out)
      have HX120 := hid (Ext.trans HW11.out.2 HX12.out)
      clear hH HW11
      go_wp2_with fail
      rw [HW12.out.1, HW12.out.2]
      go_wp2_with fail
      go_loopw [9, 11] (fun pv iv wr => ∃ (i : Nat) (vs : List Value), i ≤ N ∧ iv = .int .i64 i ∧ OwnV 22 wr H pv vs ∧ vs.length = i ∧ (∀ j, j < i → ∃ u, vs[j]? = some u ∧ Own wr H u (keyF key j)) ∧ Ext W12 wr) (fun _ iv _ => N - (intOf iv).toNat)
      case atStart => exact ⟨0, [], by omega, rfl, World.ownsRow_nil _ _ _ _, rfl, fun j hj => absurd hj (by omega), Ext.refl _⟩
      case round =>
        obtain ⟨i, vs, hi, rfl, hov, hvl, hbs, hx⟩ := hrel
        by_cases hlt : i < N
        · obtain ⟨q, hq⟩ : ∃ q, i % 4 = q := ⟨_, rfl⟩
          obtain ⟨r, hr⟩ : ∃ r, (i + 1) % 4 = r := ⟨_, rfl⟩
          obtain ⟨t, ht⟩ : ∃ t, i / 4 = t := ⟨_, rfl⟩
          have HQ := hid (show (i : Int).tmod 4 = (q : Int) ∧ ((i + 1 : Nat) : Int).tmod 4 = (r : Int) ∧ (i : Int).tdiv 4 = (t : Int) ∧ q < 4 ∧ r < 4 ∧ t < 5 from ⟨by rw [Int.tmod_eq_emod_of_nonneg (by omega)]; omega, by rw [Int.tmod_eq_emod_of_nonneg (by omega)]; omega, by rw [Int.tdiv_eq_ediv_of_nonneg (by omega)]; omega, by omega, by omega, by have := HN17.out; omega⟩)
          obtain ⟨SQ, hSQ⟩ : ∃ SQ, seedL key q = SQ := ⟨_, rfl⟩
          obtain ⟨SR, hSR⟩ : ∃ SR, seedL key r = SR := ⟨_, rfl⟩
          obtain ⟨Z, hZ⟩ : ∃ Z, turnT t = Z := ⟨_, rfl⟩
          obtain ⟨TB, hTB⟩ : ∃ TB, turnB SR t = TB := ⟨_, rfl⟩
          obtain ⟨KI, hKI⟩ : ∃ KI, keyF key i = KI := ⟨_, rfl⟩
          have hKI2 : xorL SQ TB 16 = KI := by rw [← hKI, keyF, hq, hr, ht, hSQ, hSR, hTB]
          have HT := hid (show ∀ A c w, Rd w w.heap.size A 16 SR → Calls Tryd.prog 42 #[.slice A 16 c, .int .i64 Z] w (RetB w TB) from fun A c w h => by
            rw [← hTB, turnB, hZ]; exact rturn_all A 16 c Z SR w h (by omega))
          have HTL := hid (show TB.length = 16 by rw [← hTB]; exact turnB_length _ _)
          have HB := hid (show ∀ A A' c c' w, Rd w w.heap.size A 16 SQ → Rd w w.heap.size A' 16 TB → Calls Tryd.prog 20 #[.slice A 16 c, .slice A' 16 c'] w (RetB w KI) from fun A A' c c' w h h' => by
            rw [← hKI2]; exact both_any A A' 16 c c' SQ TB w h h' (by omega))
          have HWS := hid (HWS12.out.later hx)
          have HSQ := hid (And.intro hSQ hSR)
          have HZ := hid (show t < 5 ∧ ∀ w', Ext wr w' → w'.cell? ⟨T, t, none⟩ = some (.int .i64 Z) from ⟨HQ.out.2.2.2.2.2, fun w' hx' => by
            have h1 := HTU.out t HQ.out.2.2.2.2.2
            rw [hZ] at h1
            exact (Below.cell (Ext.trans hx hx') (p := ⟨T, t, none⟩) (World.block_lt_of_cell? _ _ h1)).trans h1⟩)
          have HH := hid (show H ≤ wr.heap.size by rw [← HH0.out]; exact Below.size hx)
          have HI := hid (show i < 17 by have := HN17.out; omega)
          have HLT := hid hlt
          have HOV := hid hov
          have HVL := hid hvl
          have HBS := hid hbs
          have HXR := hid hx
          have HKI := hid hKI
          have hlti : (i : Int) < (N : Int) := by omega
          clear hq hr ht hSQ hSR hZ hTB hKI hKI2 hov hvl hbs hx
          go_wp2_with fail
          refine region_upto 18 mixed rfl (by kernel_rfl) (by kernel_rfl) (by kernel_rfl) (kV (rk13 B T i q r t H u9 Z SQ SR TB KI)) (kV_keep _) (forall_ops ⟨?_, ?_, ?_, ?_, ?_, ?_, ?_, ?_, ?_, ?_, ?_, ?_, ?_, ?_, ?_, ?_, ?_, ?_, trivial⟩) ?_
          · intro a w hk
            have s9 : a.tmps.getD 9 undef = u9 := hk.was 9 (by kernel_rfl) rfl
            exact step_move rfl rfl s9 rfl
          · intro a w hk
            have s11 : a.tmps.getD 11 undef = .int .i64 i := hk.was 11 (by kernel_rfl) rfl
            exact step_move rfl rfl s11 rfl
          · intro a w hk
            have s68 := hk.eq_ 1 68 (by kernel_rfl) rfl
            refine step_val (v := .int .i64 q) (w' := w) rfl ?_ (Ext.refl w) rfl
            have e := HQ.out.1
            go_simp
          · intro a w hk
            have s8 : a.tmps.getD 8 undef = .pointer (some ⟨B, 0, none⟩) := hk.was 8 (by kernel_rfl) rfl
            have s69 := hk.eq_ 2 69 (by kernel_rfl) rfl
            refine step_val (v := .pointer (some ⟨B, q, none⟩)) (w' := w) rfl ?_ (Ext.refl w) rfl
            have hi3 : (q : Int) < 4 := by have := HQ.out; omega
            go_simp
          · intro a w hk
            have s70 := hk.eq_ 3 70 (by kernel_rfl) rfl
            obtain ⟨A71, c71, hc71, hr71⟩ := (HWS.out.later hk.ext).at_ q (by have := HQ.out; omega)
            rw [HSQ.out.1] at hr71
            refine step_val (v := .slice A71 16 c71) (w' := w) rfl ?_ (Ext.refl w) ⟨_, _, rfl, hr71⟩
            go_simp
          · intro a w hk
            have s11 : a.tmps.getD 11 undef = .int .i64 i := hk.was 11 (by kernel_rfl) rfl
            exact step_move rfl rfl s11 rfl
          · intro a w hk
            have s72 := hk.eq_ 5 72 (by kernel_rfl) rfl
            refine step_val (v := .int .i64 (i + 1 : Nat)) (w' := w) rfl ?_ (Ext.refl w) rfl
            have hi := HI.out
            go_simp
            exact IntWalk.i64_in _ (by omega)
          · intro a w hk
            have s73 := hk.eq_ 6 73 (by kernel_rfl) rfl
            refine step_val (v := .int .i64 r) (w' := w) rfl ?_ (Ext.refl w) rfl
            have e := HQ.out.2.1
            obtain ⟨j, hj⟩ : ∃ j, i + 1 = j := ⟨_, rfl⟩
            rw [hj] at s73 e
            go_simp
          · intro a w hk
            have s8 : a.tmps.getD 8 undef = .pointer (some ⟨B, 0, none⟩) := hk.was 8 (by kernel_rfl) rfl
            have s74 := hk.eq_ 7 74 (by kernel_rfl) rfl
            refine step_val (v := .pointer (some ⟨B, r, none⟩)) (w' := w) rfl ?_ (Ext.refl w) rfl
            have hi3 : (r : Int) < 4 := by have := HQ.out; omega
            go_simp
          · intro a w hk
            have s75 := hk.eq_ 8 75 (by kernel_rfl) rfl
            obtain ⟨A76, c76, hc76, hr76⟩ := (HWS.out.later hk.ext).at_ r (by have := HQ.out; omega)
            rw [HSQ.out.2] at hr76
            refine step_val (v := .slice A76 16 c76) (w' := w) rfl ?_ (Ext.refl w) ⟨_, _, rfl, hr76⟩
            go_simp
          · intro a w hk
            have s10 : a.tmps.getD 10 undef = .slice (some ⟨T, 0, none⟩) 5 5 := hk.was 10 (by kernel_rfl) rfl
            exact step_move rfl rfl s10 rfl
          · intro a w hk
            have s11 : a.tmps.getD 11 undef = .int .i64 i := hk.was 11 (by kernel_rfl) rfl
            exact step_move rfl rfl s11 rfl
          · intro a w hk
            have s78 := hk.eq_ 11 78 (by kernel_rfl) rfl
            refine step_val (v := .int .i64 t) (w' := w) rfl ?_ (Ext.refl w) rfl
            have e := HQ.out.2.2.1
            have hi3 : (t : Int) < 5 := by have := HQ.out; omega
            go_simp
            exact IntWalk.i64_in _ (by omega)
          · intro a w hk
            have s77 := hk.eq_ 10 77 (by kernel_rfl) rfl
            have s79 := hk.eq_ 12 79 (by kernel_rfl) rfl
            refine step_val (v := .pointer (some ⟨T, t, none⟩)) (w' := w) rfl ?_ (Ext.refl w) rfl
            have hi3 : (t : Int) < 5 := by have := HQ.out; omega
            go_simp
          · intro a w hk
            have s80 := hk.eq_ 13 80 (by kernel_rfl) rfl
            refine step_val (v := .int .i64 Z) (w' := w) rfl ?_ (Ext.refl w) rfl
            have hc := HZ.out.2 w hk.ext
            go_simp
          · intro a w hk
            obtain ⟨A76, c76, s76, r76⟩ := hk.byt_ 9 76 (by kernel_rfl) rfl
            have s81 := hk.eq_ 14 81 (by kernel_rfl) rfl
            exact step_call rfl rfl (by simp only [List.map_toArray, List.map_cons, List.map_nil, Act.eval, s76, s81] <;> rfl) cf42 (HT.out A76 c76 w r76) (fun e w1 h => RetB.k HTL.out e w1 h)
          · intro a w hk
            obtain ⟨A71, c71, s71, r71⟩ := hk.byt_ 4 71 (by kernel_rfl) rfl
            obtain ⟨A82, c82, s82, r82⟩ := hk.byt_ 15 82 (by kernel_rfl) rfl
            exact step_call rfl rfl (by simp only [List.map_toArray, List.map_cons, List.map_nil, Act.eval, s71, s82] <;> rfl) cf20 (HB.out A71 A82 c71 c82 w r71 r82) (fun e w1 h => retOwn (Nat.le_trans HH.out (Below.size hk.ext)) e w1 h)
          · intro a w hk
            obtain ⟨u83, s83, g83⟩ := hk.val 16 83 (by kernel_rfl) rfl
            refine step_val (v := .slice (some ⟨w.heap.size, 0, none⟩) 1 1) (w' := w.alloc (.cells #[u83] 22)) rfl ?_ (Ext.alloc _ _) ⟨_, u83, rfl, by rw [cell_of_row _ _ _ _ _ _ (heap_alloc_new w _)]; rfl, g83.kept (Ext.alloc _ _)⟩
            have e := build24one u83 g83.one w
            simp only [execOp, Act.eval, List.map_toArray, List.map_cons, List.map_nil, s83, Sem.run_bind, e, Sem.run_pure, Result.andThen]
          · intro a w7 hf
            have s67 := hf.eq_ 0 67 (by kernel_rfl) rfl
            have s68 := hf.eq_ 1 68 (by kernel_rfl) rfl
            have s69 := hf.eq_ 2 69 (by kernel_rfl) rfl
            have s70 := hf.eq_ 3 70 (by kernel_rfl) rfl
            obtain ⟨A71, c71, s71, r71⟩ := hf.val 4 71 (by kernel_rfl) rfl
            have s72 := hf.eq_ 5 72 (by kernel_rfl) rfl
            have s73 := hf.eq_ 6 73 (by kernel_rfl) rfl
            have s74 := hf.eq_ 7 74 (by kernel_rfl) rfl
            have s75 := hf.eq_ 8 75 (by kernel_rfl) rfl
            obtain ⟨A76, c76, s76, r76⟩ := hf.val 9 76 (by kernel_rfl) rfl
            have s77 := hf.eq_ 10 77 (by kernel_rfl) rfl
            have s78 := hf.eq_ 11 78 (by kernel_rfl) rfl
            have s79 := hf.eq_ 12 79 (by kernel_rfl) rfl
            have s80 := hf.eq_ 13 80 (by kernel_rfl) rfl
            have s81 := hf.eq_ 14 81 (by kernel_rfl) rfl
            obtain ⟨A82, c82, s82, r82⟩ := hf.val 15 82 (by kernel_rfl) rfl
            obtain ⟨u83, s83, g83⟩ := hf.val 16 83 (by kernel_rfl) rfl
            obtain ⟨b84, u84, s84, c84, g84⟩ := hf.val 17 84 (by kernel_rfl) rfl
            have hx := hf.ext
            have e := hf.frame
            clear hf
            simp only [List.take_succ_cons, List.take_zero, regFrame, Act.put, List.setIfInBounds_toArray, List.set_cons_zero, List.set_cons_succ, s67, s68, s69, s70, s71, s72, s73, s74, s75, s76, s77, s78, s79, s80, s81, s82, s83, s84] at e
            clear s67 s68 s69 s70 s71 s72 s73 s74 s75 s76 s77 s78 s79 s80 s81 s82 s83 s84
            subst e
            simp only [List.drop_succ_cons, List.drop_zero]
            have hov7 := HOV.out.kept hx
            have hbs7 : ∀ j, j < i → ∃ u, vs[j]? = some u ∧ Own w7 H u (keyF key j) := fun j hj => by
              obtain ⟨u, h1, h2⟩ := HBS.out j hj
              exact ⟨u, h1, h2.kept hx⟩
            have HQ7 := hid (And.intro hov7 (And.intro hbs7 (And.intro g84 (And.intro c84 (Ext.trans HXR.out hx)))))
            have HS7 := hid (show H ≤ w7.heap.size from Nat.le_trans HH.out (Below.size hx))
            clear hov7 hbs7 g84 c84 hx HBS HOV HWS HZ HT HB g83 r71 r76 r82
            go_wp2_with (at_builtin; refine wpL_appendV _ rfl (.tmp 67) (.tmp 84) 24 22 rfl Tryd.underlying24 Tryd.info22 H _ vs rfl HQ7.out.1 b84 1 u84 rfl HQ7.out.2.2.2.1 (Own.one HQ7.out.2.2.1) (by have := HVL.out; have := HI.out; omega) HS7.out ?_; intro v9 w9 hown9 hg9)
            have HQ9 := hid (show OwnV 22 w9 H v9 (vs ++ [u84]) ∧ (vs ++ [u84]).length = i + 1 ∧ (∀ j, j < i + 1 → ∃ u, (vs ++ [u84])[j]? = some u ∧ Own w9 H u (keyF key j)) ∧ Ext W12 w9 from
              ⟨hown9, by simp [HVL.out], fun j hj => by
                by_cases e : j = i
                · subst e
                  exact ⟨u84, by rw [List.getElem?_append_right (by rw [HVL.out]; exact Nat.le_refl _), HVL.out]; simp, by rw [HKI.out]; exact HQ7.out.2.2.1.grownV HQ7.out.1 (by decide) hg9⟩
                · obtain ⟨u, h1, h2⟩ := HQ7.out.2.1 j (by omega)
                  exact ⟨u, by rw [List.getElem?_append_left (by rw [HVL.out]; omega)]; exact h1, h2.grownV HQ7.out.1 (by decide) hg9⟩,
               Below.trans HQ7.out.2.2.2.2 (by rw [HH0.out]; exact OwnV.below HQ7.out.1 HS7.out hg9)⟩)
            clear hown9 hg9 HQ7
            go_roundw
            case rel => exact ⟨i + 1, _, by have := HLT.out; omega, by go_num, HQ9.out⟩
            case measure => have := HLT.out; simp [intOf]; omega
        · obtain rfl : i = N := by omega
          have hp := HN17.out.1
          rcases hov.2 with ⟨_, h0⟩ | ⟨g, cap, cur, rfl, _, _, _⟩
          · omega
          · have hrows : RowsB wr g 0 (keysL key) := fun j hj => by
              have hj2 : j < keyN key := by simpa [keysL] using hj
              have hj3 : j < i := by rw [← HN0.out]; exact hj2
              have hgd : (keysL key).getD j [] = keyF key j := by simp [keysL, List.getD_eq_getElem?_getD, hj2]
              obtain ⟨u, h1, h2⟩ := hbs j hj3
              obtain ⟨A, c, rfl, hr, _⟩ := h2.rdn (n := 16) (keyF_length key j)
              refine ⟨A, c, ?_, ?_⟩
              · rw [Nat.zero_add, OwnV.celln hov rfl j (by omega), h1, hgd, keyF_length]
              · rw [hgd, keyF_length]; exact hr
            have HRW := hid hrows
            have HXE := hid (Ext.trans HX120.out hx)
            have HVL := hid hvl
            have hnlt : ¬ ((i : Int) < (i : Int)) := by omega
            clear hov hbs hx hrows
            go_wp2_with fail
            go_ret
            exact ⟨g, cap, by rw [HN0.out, ← HVL.out]; rfl, HRW.out, HXE.out⟩
theorem rkeys_bad (A : Option Addr) (n c : Nat) (w : World) (hn : ¬ okLen n) : Calls Tryd.prog 12 #[.slice A n c] w fun e w' => e = .returned (.tuple #[.slice none 0 0, .int .i64 4]) ∧ Ext w w' := by
  have h1 : ((n : Int) != 16) = true := by simp; unfold okLen at hn; omega
  have h2 : ((n : Int) != 24) = true := by simp; unfold okLen at hn; omega
  have h3 : ((n : Int) != 32) = true := by simp; unfold okLen at hn; omega
  clear hn
  go_enter Tryd.func12, Tryd.ntmps12
  go_wp2
  go_ret2
  exact ⟨rfl, Ext.refl _⟩
set_option maxHeartbeats 1000000 in
theorem rkeys_any (A : Option Addr) (n c : Nat) (key : List UInt8) (w : World) (h : Rd w w.heap.size A n key) (hn : okLen n) (hc : n ≤ c) :
    Calls Tryd.prog 12 #[.slice A n c] w (KeysRet w key) := by
  have HR := hid h
  have HC := hid hc
  clear h hc
  rcases hn with rfl | rfl | rfl
  all_goals
    go_enter Tryd.func12, Tryd.ntmps12
    go_wp2_with fail
    refine (rboxes_any _).mono ?_
    rintro e w1 ⟨p, rfl, hb, hx1⟩
    have HX1 := hid hx1
    have HB := hid hb
    clear hx1 hb
    go_wp2_with fail
    refine (rkeysW_any p _ c A key _ HB.out (HR.out.later HX1.out) (by unfold okLen; omega) HC.out).mono ?_
    rintro e w2 ⟨b, c2, rfl, hr, hx2⟩
    have HH := hid (And.intro hr (Ext.trans HX1.out hx2))
    clear hr hx2
    go_wp2_with fail
    go_ret2
    exact ⟨b, c2, rfl, HH.out⟩
end Go.Proofs.YtpfkcplldhdipaaDoor
