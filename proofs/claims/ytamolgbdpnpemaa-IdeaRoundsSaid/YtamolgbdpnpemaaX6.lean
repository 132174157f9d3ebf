/- Walks over four numbers in a round, of the program; own lemmas of the verifier, no statement is proved here. -/
import Derived.Test.YtamolgbdpnpemaaX5
namespace Go.Proofs.Ytamolgbdpnpemaa
open Go.RowKit
theorem cf13 (vs : Array Value) (w : World) : (callFunc 13 vs).run Try.prog w = .ok (.enter 13 vs) w := by go_simp
theorem cf15 (vs : Array Value) (w : World) : (callFunc 15 vs).run Try.prog w = .ok (.enter 15 vs) w := by go_simp
theorem cf25 (vs : Array Value) (w : World) : (callFunc 25 vs).run Try.prog w = .ok (.enter 25 vs) w := by go_simp
theorem cf26 (vs : Array Value) (w : World) : (callFunc 26 vs).run Try.prog w = .ok (.enter 26 vs) w := by go_simp
theorem cf29 (vs : Array Value) (w : World) : (callFunc 29 vs).run Try.prog w = .ok (.enter 29 vs) w := by go_simp
theorem cf30 (vs : Array Value) (w : World) : (callFunc 30 vs).run Try.prog w = .ok (.enter 30 vs) w := by go_simp
theorem cf31 (vs : Array Value) (w : World) : (callFunc 31 vs).run Try.prog w = .ok (.enter 31 vs) w := by go_simp
theorem cf32 (vs : Array Value) (w : World) : (callFunc 32 vs).run Try.prog w = .ok (.enter 32 vs) w := by go_simp
theorem retE {w : World} {v : Value} (e : Ending) (w' : World) (h : e = .returned v ∧ w = w') : ∃ u, e = .returned u ∧ Ext w w' ∧ K.holds (.eq v) w' u := by
  obtain ⟨rfl, rfl⟩ := h
  exact ⟨_, rfl, Ext.refl _, rfl⟩
theorem retX {w : World} {v : Value} (e : Ending) (w' : World) (h : e = .returned v ∧ Ext w w') : ∃ u, e = .returned u ∧ Ext w w' ∧ K.holds (.eq v) w' u := by
  obtain ⟨rfl, hx⟩ := h
  exact ⟨_, rfl, hx, rfl⟩
/-- Where keys lie. -/
def KAt (w : World) (b o n : Nat) (k : Nat → Nat) : Prop := b < w.heap.size ∧ ∀ j, j < n → w.cell? ⟨b, o + j, none⟩ = some (.int .i64 (k j : Nat))
theorem KAt.later {w w' : World} {b o n : Nat} {k : Nat → Nat} (h : KAt w b o n k) (hx : Ext w w') : KAt w' b o n k :=
  ⟨Nat.lt_of_lt_of_le h.1 (Below.size hx), fun j hj => cell_later hx (h.2 j hj)⟩
theorem KAt.cut {w : World} {b o n : Nat} {k : Nat → Nat} (h : KAt w b o n k) (l : Nat) : KAt w b (o + l) (n - l) (fun i => k (l + i)) :=
  ⟨h.1, fun j hj => by rw [Nat.add_assoc]; exact h.2 (l + j) (by omega)⟩
theorem KAt.drew {w : World} {b o n : Nat} {k : Nat → Nat} (h : KAt w b o n k) : KAt w.drew b o n k := h
theorem Blk.kat {w : World} {g n : Nat} {e : TypeId} {k : Nat → Nat} (h : Blk w g e (tabN k n)) : KAt w g 0 n k :=
  ⟨h.lt, fun j hj => by rw [Nat.zero_add, h.cell j (by rw [tabN_length]; exact hj), tabN_get _ _ _ hj]⟩
def F4.list (x : F4) : List Int := [((x.a : Nat) : Int), ((x.b : Nat) : Int), ((x.c : Nat) : Int), ((x.d : Nat) : Int)]
theorem F4.size (x : F4) : (Try.prog.info? 57).map (·.size) = some x.cells.size := by
  have h : (Try.prog.info? 57).map (·.size) = some 4 := by kernel_rfl
  rw [h]; rfl
theorem F4.size2 (x y : F4) : x.cells.size = y.cells.size := rfl
theorem F4.all (x : F4) : x.cells.all (·.oneCell') = true := cN_all x.list
/-- A block that holds four numbers. -/
def B4 (w : World) (g : Nat) (x : F4) : Prop := Blk w g 57 x.list
theorem B4.heap {w : World} {g : Nat} {x : F4} (h : B4 w g x) : w.heap[g]? = some (.cells x.cells 57 (0, 0)) := h
theorem B4.alloc (w : World) (x : F4) : B4 (w.alloc (.cells x.cells 57)) w.heap.size x := heap_alloc_new w _
theorem B4.later {w w' : World} {g : Nat} {x : F4} (h : B4 w g x) (hx : Ext w w') : B4 w' g x := Blk.later h hx
theorem B4.put {w : World} {g : Nat} {x : F4} (h : B4 w g x) (y : F4) : B4 (w.setRow g y.cells) g y := Blk.put h y.list
theorem B4.ca {w : World} {g : Nat} {x : F4} (h : B4 w g x) : w.cell? ⟨g, 0, none⟩ = some (.int .i64 (x.a : Nat)) := Blk.cell h 0 (by simp [F4.list])
theorem B4.cb {w : World} {g : Nat} {x : F4} (h : B4 w g x) : w.cell? ⟨g, 1, none⟩ = some (.int .i64 (x.b : Nat)) := Blk.cell h 1 (by simp [F4.list])
theorem B4.cc {w : World} {g : Nat} {x : F4} (h : B4 w g x) : w.cell? ⟨g, 2, none⟩ = some (.int .i64 (x.c : Nat)) := Blk.cell h 2 (by simp [F4.list])
theorem B4.cd {w : World} {g : Nat} {x : F4} (h : B4 w g x) : w.cell? ⟨g, 3, none⟩ = some (.int .i64 (x.d : Nat)) := Blk.cell h 3 (by simp [F4.list])
theorem ret_cell {fn : Func} {R : Ending → World → Prop} {a : Act} {w : World} {p : Tmp} {ty e : TypeId} {N : Nat} (hres : fn.results = #[.cell p ty]) (hd : a.defers = []) (g : Nat) (t : TypeId) (cs : Array Value) (fr : Nat × Nat)
    (hp : a.tmps.getD p undef = .pointer (some ⟨g, 0, none⟩)) (hg : w.heap[g]? = some (.cells cs t fr)) (hu : Try.prog.underlying ty = some (.array N e))
    (hi : (Try.prog.info? ty).map (·.size) = some cs.size) (h : R (.returned (.agg cs)) w) :
    bodyPost Try.prog fn R .ret a w := bodyPost_ret (results_cell_row hres _ _ g t cs fr _ hp hg hu rfl hi) hd h
def byKs (G kb ko n c : Nat) (x : F4) (k : Nat → Nat) : List K := [.eq (.pointer (some ⟨G, 0, none⟩)), .eq (.int .i64 (x.a : Nat)), .eq (.slice (some ⟨kb, ko, none⟩) n c), .eq (.pointer (some ⟨kb, ko, none⟩)), .eq (.int .i64 (k 0 : Nat)), .eq (.int .i64 (mulF x.a (k 0) : Nat)), .eq (.pointer (some ⟨G, 1, none⟩)), .eq (.int .i64 (x.b : Nat)), .eq (.slice (some ⟨kb, ko, none⟩) n c), .eq (.pointer (some ⟨kb, ko + 1, none⟩)), .eq (.int .i64 (k 1 : Nat)), .eq (.int .i64 ((x.b + k 1) % 65536 : Nat)), .eq (.pointer (some ⟨G, 2, none⟩)), .eq (.int .i64 (x.c : Nat)), .eq (.slice (some ⟨kb, ko, none⟩) n c), .eq (.pointer (some ⟨kb, ko + 2, none⟩)), .eq (.int .i64 (k 2 : Nat)), .eq (.int .i64 ((x.c + k 2) % 65536 : Nat)), .eq (.pointer (some ⟨G, 3, none⟩)), .eq (.int .i64 (x.d : Nat)), .eq (.slice (some ⟨kb, ko, none⟩) n c), .eq (.pointer (some ⟨kb, ko + 3, none⟩)), .eq (.int .i64 (k 3 : Nat)), .eq (.int .i64 (mulF x.d (k 3) : Nat)), .any, .any]
set_option maxRecDepth 100000 in
set_option maxHeartbeats 4000000 in
theorem byfour_any (x : F4) (kb ko n c : Nat) (k : Nat → Nat) (w : World) (hx : x.ok) (hk : KAt w kb ko n k) (hl : ∀ i, k i < 65536) (hn : 4 ≤ n) (hnb : n ≤ 1000) :
    Calls Try.prog 31 #[.agg x.cells, .slice (some ⟨kb, ko, none⟩) n c] w fun e w' => e = .returned (.agg (byF x k).cells) ∧ Ext w w' := by
  have HO := hid hx
  have HL := hid hl
  have HKW := hid hk
  have HN := hid (show ¬ n = 0 ∧ ¬ ((n : Int) ≤ 1) ∧ (2 : Int) < n ∧ (3 : Int) < n from ⟨by omega, by omega, by omega, by omega⟩)
  have hb0 := B4.alloc w x
  have hx0 := Ext.alloc w (.cells x.cells 57)
  have h1 := heap_alloc2_old w (.cells x.cells 57) (.cells (F4.mk 0 0 0 0).cells 57)
  have h2 := heap_alloc2_new w (.cells x.cells 57) (.cells (F4.mk 0 0 0 0).cells 57)
  have h3 := (Ext.alloc w (.cells x.cells 57)).trans (Ext.alloc _ (.cells (F4.mk 0 0 0 0).cells 57))
  clear hx hl hk hb0 hx0
  go_enter Try.func31, Try.ntmps31
  go_wp2_with fail
  obtain ⟨W1, hW1⟩ : ∃ W1, (w.alloc (.cells x.cells 57)).alloc (.cells #[.int .i64 0, .int .i64 0, .int .i64 0, .int .i64 0] 57) = W1 := ⟨_, rfl⟩
  rw [show (w.alloc (.cells x.cells 57)).alloc (.cells (F4.mk 0 0 0 0).cells 57) = W1 from hW1] at h1 h2 h3
  rw [hW1]
  obtain ⟨G, hG⟩ : ∃ G, w.heap.size = G := ⟨_, rfl⟩
  rw [hG]
  have HX := hid (show B4 W1 G x by rw [← hG]; exact h1)
  have HR := hid (show B4 W1 (G + 1) ⟨0, 0, 0, 0⟩ by rw [← hG]; exact h2)
  have HE := hid (show Ext w W1 from h3)
  have HK := hid (HKW.out.later h3)
  have HG := hid hG
  clear hW1 h1 h2 h3 hG HKW
  refine region_upto 24 mixed rfl (by kernel_rfl) (by kernel_rfl) (by kernel_rfl) (kV (byKs G kb ko n c x k)) (kV_keep _) (forall_ops ⟨?_, ?_, ?_, ?_, ?_, ?_, ?_, ?_, ?_, ?_, ?_, ?_, ?_, ?_, ?_, ?_, ?_, ?_, ?_, ?_, ?_, ?_, ?_, ?_, trivial⟩) ?_
  · intro a w hk
    have s2 : a.tmps.getD 2 undef = .pointer (some ⟨G, 0, none⟩) := hk.was 2 (by kernel_rfl) rfl
    refine step_val (v := .pointer (some ⟨G, 0, none⟩)) (w' := w) rfl ?_ (Ext.refl w) rfl
    go_simp
  · intro a w hk
    have s5 := hk.eq_ 0 5 (by kernel_rfl) rfl
    refine step_val (v := .int .i64 (x.a : Nat)) (w' := w) rfl ?_ (Ext.refl w) rfl
    have hc := (HX.out.later hk.ext).ca
    go_simp
  · intro a w hk
    have s1 : a.tmps.getD 1 undef = .slice (some ⟨kb, ko, none⟩) n c := hk.was 1 (by kernel_rfl) rfl
    exact step_move rfl rfl s1 rfl
  · intro a w hk
    have s7 := hk.eq_ 2 7 (by kernel_rfl) rfl
    refine step_val (v := .pointer (some ⟨kb, ko, none⟩)) (w' := w) rfl ?_ (Ext.refl w) rfl
    have hn0 := HN.out.1
    have hn1 := HN.out.2.1
    have hn2 := HN.out.2.2.1
    have hn3 := HN.out.2.2.2
    go_simp
  · intro a w hk
    have s8 := hk.eq_ 3 8 (by kernel_rfl) rfl
    refine step_val (v := .int .i64 (k 0 : Nat)) (w' := w) rfl ?_ (Ext.refl w) rfl
    have hc := (HK.out.later hk.ext).2 0 (by omega)
    rw [Nat.add_zero] at hc
    go_simp
  · intro a w hk
    have s6 := hk.eq_ 1 6 (by kernel_rfl) rfl
    have s9 := hk.eq_ 4 9 (by kernel_rfl) rfl
    exact step_call rfl rfl (by simp only [List.map_toArray, List.map_cons, List.map_nil, Act.eval, s6, s9] <;> rfl) cf13 (mul_any x.a (k 0) w HO.out.a (HL.out _)) (fun e w1 h => retE e w1 h)
  · intro a w hk
    have s2 : a.tmps.getD 2 undef = .pointer (some ⟨G, 0, none⟩) := hk.was 2 (by kernel_rfl) rfl
    refine step_val (v := .pointer (some ⟨G, 1, none⟩)) (w' := w) rfl ?_ (Ext.refl w) rfl
    go_simp
  · intro a w hk
    have s11 := hk.eq_ 6 11 (by kernel_rfl) rfl
    refine step_val (v := .int .i64 (x.b : Nat)) (w' := w) rfl ?_ (Ext.refl w) rfl
    have hc := (HX.out.later hk.ext).cb
    go_simp
  · intro a w hk
    have s1 : a.tmps.getD 1 undef = .slice (some ⟨kb, ko, none⟩) n c := hk.was 1 (by kernel_rfl) rfl
    exact step_move rfl rfl s1 rfl
  · intro a w hk
    have s13 := hk.eq_ 8 13 (by kernel_rfl) rfl
    refine step_val (v := .pointer (some ⟨kb, ko + 1, none⟩)) (w' := w) rfl ?_ (Ext.refl w) rfl
    have hn0 := HN.out.1
    have hn1 := HN.out.2.1
    have hn2 := HN.out.2.2.1
    have hn3 := HN.out.2.2.2
    go_simp
  · intro a w hk
    have s14 := hk.eq_ 9 14 (by kernel_rfl) rfl
    refine step_val (v := .int .i64 (k 1 : Nat)) (w' := w) rfl ?_ (Ext.refl w) rfl
    have hc := (HK.out.later hk.ext).2 1 (by omega)
    go_simp
  · intro a w hk
    have s12 := hk.eq_ 7 12 (by kernel_rfl) rfl
    have s15 := hk.eq_ 10 15 (by kernel_rfl) rfl
    exact step_call rfl rfl (by simp only [List.map_toArray, List.map_cons, List.map_nil, Act.eval, s12, s15] <;> rfl) cf32 (sum_any x.b (k 1) w HO.out.b (HL.out _)) (fun e w1 h => retE e w1 h)
  · intro a w hk
    have s2 : a.tmps.getD 2 undef = .pointer (some ⟨G, 0, none⟩) := hk.was 2 (by kernel_rfl) rfl
    refine step_val (v := .pointer (some ⟨G, 2, none⟩)) (w' := w) rfl ?_ (Ext.refl w) rfl
    go_simp
  · intro a w hk
    have s17 := hk.eq_ 12 17 (by kernel_rfl) rfl
    refine step_val (v := .int .i64 (x.c : Nat)) (w' := w) rfl ?_ (Ext.refl w) rfl
    have hc := (HX.out.later hk.ext).cc
    go_simp
  · intro a w hk
    have s1 : a.tmps.getD 1 undef = .slice (some ⟨kb, ko, none⟩) n c := hk.was 1 (by kernel_rfl) rfl
    exact step_move rfl rfl s1 rfl
  · intro a w hk
    have s19 := hk.eq_ 14 19 (by kernel_rfl) rfl
    refine step_val (v := .pointer (some ⟨kb, ko + 2, none⟩)) (w' := w) rfl ?_ (Ext.refl w) rfl
    have hn0 := HN.out.1
    have hn1 := HN.out.2.1
    have hn2 := HN.out.2.2.1
    have hn3 := HN.out.2.2.2
    go_simp
  · intro a w hk
    have s20 := hk.eq_ 15 20 (by kernel_rfl) rfl
    refine step_val (v := .int .i64 (k 2 : Nat)) (w' := w) rfl ?_ (Ext.refl w) rfl
    have hc := (HK.out.later hk.ext).2 2 (by omega)
    go_simp
  · intro a w hk
    have s18 := hk.eq_ 13 18 (by kernel_rfl) rfl
    have s21 := hk.eq_ 16 21 (by kernel_rfl) rfl
    exact step_call rfl rfl (by simp only [List.map_toArray, List.map_cons, List.map_nil, Act.eval, s18, s21] <;> rfl) cf32 (sum_any x.c (k 2) w HO.out.c (HL.out _)) (fun e w1 h => retE e w1 h)
  · intro a w hk
    have s2 : a.tmps.getD 2 undef = .pointer (some ⟨G, 0, none⟩) := hk.was 2 (by kernel_rfl) rfl
    refine step_val (v := .pointer (some ⟨G, 3, none⟩)) (w' := w) rfl ?_ (Ext.refl w) rfl
    go_simp
  · intro a w hk
    have s23 := hk.eq_ 18 23 (by kernel_rfl) rfl
    refine step_val (v := .int .i64 (x.d : Nat)) (w' := w) rfl ?_ (Ext.refl w) rfl
    have hc := (HX.out.later hk.ext).cd
    go_simp
  · intro a w hk
    have s1 : a.tmps.getD 1 undef = .slice (some ⟨kb, ko, none⟩) n c := hk.was 1 (by kernel_rfl) rfl
    exact step_move rfl rfl s1 rfl
  · intro a w hk
    have s25 := hk.eq_ 20 25 (by kernel_rfl) rfl
    refine step_val (v := .pointer (some ⟨kb, ko + 3, none⟩)) (w' := w) rfl ?_ (Ext.refl w) rfl
    have hn0 := HN.out.1
    have hn1 := HN.out.2.1
    have hn2 := HN.out.2.2.1
    have hn3 := HN.out.2.2.2
    go_simp
  · intro a w hk
    have s26 := hk.eq_ 21 26 (by kernel_rfl) rfl
    refine step_val (v := .int .i64 (k 3 : Nat)) (w' := w) rfl ?_ (Ext.refl w) rfl
    have hc := (HK.out.later hk.ext).2 3 (by omega)
    go_simp
  · intro a w hk
    have s24 := hk.eq_ 19 24 (by kernel_rfl) rfl
    have s27 := hk.eq_ 22 27 (by kernel_rfl) rfl
    exact step_call rfl rfl (by simp only [List.map_toArray, List.map_cons, List.map_nil, Act.eval, s24, s27] <;> rfl) cf13 (mul_any x.d (k 3) w HO.out.d (HL.out _)) (fun e w1 h => retE e w1 h)
  · intro a w1 hf
    have s5 := hf.eq_ 0 5 (by kernel_rfl) rfl
    have s6 := hf.eq_ 1 6 (by kernel_rfl) rfl
    have s7 := hf.eq_ 2 7 (by kernel_rfl) rfl
    have s8 := hf.eq_ 3 8 (by kernel_rfl) rfl
    have s9 := hf.eq_ 4 9 (by kernel_rfl) rfl
    have s10 := hf.eq_ 5 10 (by kernel_rfl) rfl
    have s11 := hf.eq_ 6 11 (by kernel_rfl) rfl
    have s12 := hf.eq_ 7 12 (by kernel_rfl) rfl
    have s13 := hf.eq_ 8 13 (by kernel_rfl) rfl
    have s14 := hf.eq_ 9 14 (by kernel_rfl) rfl
    have s15 := hf.eq_ 10 15 (by kernel_rfl) rfl
    have s16 := hf.eq_ 11 16 (by kernel_rfl) rfl
    have s17 := hf.eq_ 12 17 (by kernel_rfl) rfl
    have s18 := hf.eq_ 13 18 (by kernel_rfl) rfl
    have s19 := hf.eq_ 14 19 (by kernel_rfl) rfl
    have s20 := hf.eq_ 15 20 (by kernel_rfl) rfl
    have s21 := hf.eq_ 16 21 (by kernel_rfl) rfl
    have s22 := hf.eq_ 17 22 (by kernel_rfl) rfl
    have s23 := hf.eq_ 18 23 (by kernel_rfl) rfl
    have s24 := hf.eq_ 19 24 (by kernel_rfl) rfl
    have s25 := hf.eq_ 20 25 (by kernel_rfl) rfl
    have s26 := hf.eq_ 21 26 (by kernel_rfl) rfl
    have s27 := hf.eq_ 22 27 (by kernel_rfl) rfl
    have s28 := hf.eq_ 23 28 (by kernel_rfl) rfl
    have hx := hf.ext
    have e := hf.frame
    clear hf
    simp only [List.take_succ_cons, List.take_zero, regFrame, Act.put, List.setIfInBounds_toArray, List.set_cons_zero, List.set_cons_succ, s5, s6, s7, s8, s9, s10, s11, s12, s13, s14, s15, s16, s17, s18, s19, s20, s21, s22, s23, s24, s25, s26, s27, s28] at e
    clear s5 s6 s7 s8 s9 s10 s11 s12 s13 s14 s15 s16 s17 s18 s19 s20 s21 s22 s23 s24 s25 s26 s27 s28
    subst e
    simp only [List.drop_succ_cons, List.drop_zero]
    have HR1 := hid ((HR.out.later hx).heap)
    have HR2 := hid (((HR.out.later hx).put (byF x k)).heap)
    have HE2 := hid (Below.setRow_ (HE.out.trans hx) (g := G + 1) (by have := HG.out; omega) (byF x k).cells)
    clear hx
    go_wp2_with (refine wpList_store_row rfl 57 (.tmp 4) (.tmp 29) rfl (G + 1) (byF x k).cells rfl rfl 57 _ HR1.out (F4.size _) rfl (F4.all _) ?_)
    refine ret_cell rfl rfl (G + 1) 57 _ (0, 0) rfl HR2.out Try.underlying57 (F4.size _) ⟨rfl, HE2.out⟩
end Go.Proofs.Ytamolgbdpnpemaa
