/- Walks over slices.Grow and slices.Concat; own lemmas of the verifier, no statement is proved here. -/
import Derived.Test.YthfcndaccfpnmaaDoorF0
import Derived.Lib.AppendZeros
namespace Go.Proofs.YthfcndaccfpnmaaDoor
open Go.RowKit
theorem Own.nil (w : World) (base : Nat) : Own w base (.slice none 0 0) [] := World.ownsRow_nil _ _ _ _
theorem Ext.drew1 (w : World) : Ext w w.drew := ⟨rfl, rfl, rfl, Nat.le_refl _, fun _ _ => rfl⟩
/-- Rows of bytes in memory. -/
def RowsB (w : World) (b o : Nat) (ls : List (List UInt8)) : Prop :=
  ∀ i, i < ls.length → ∃ A c, w.cell? ⟨b, o + i, none⟩ = some (.slice A (ls.getD i []).length c) ∧ Rd w w.heap.size A (ls.getD i []).length (ls.getD i [])
theorem RowsB.later {w w' : World} {b o : Nat} {ls : List (List UInt8)} (h : RowsB w b o ls) (hx : Ext w w') : RowsB w' b o ls := fun i hi => by
  obtain ⟨A, c, h1, h2⟩ := h i hi
  exact ⟨A, c, (Below.cell hx (p := ⟨b, o + i, none⟩) (World.block_lt_of_cell? w _ h1)).trans h1, h2.later hx⟩
/-- Rows of numbers in memory. -/
def RowsN (w : World) (b o : Nat) (ls : List (List Int)) : Prop :=
  ∀ i, i < ls.length → ∃ A c, w.cell? ⟨b, o + i, none⟩ = some (.slice A (ls.getD i []).length c) ∧ RdN .i64 w w.heap.size A (ls.getD i []).length (ls.getD i [])
theorem RowsN.later {w w' : World} {b o : Nat} {ls : List (List Int)} (h : RowsN w b o ls) (hx : Ext w w') : RowsN w' b o ls := fun i hi => by
  obtain ⟨A, c, h1, h2⟩ := h i hi
  exact ⟨A, c, (Below.cell hx (p := ⟨b, o + i, none⟩) (World.block_lt_of_cell? w _ h1)).trans h1, h2.later hx⟩
/-- How long the first k are together. -/
def lenTo {α : Type} (ls : List (List α)) (k : Nat) : Nat := (ls.take k).flatten.length
theorem take_more {α : Type} (ls : List (List α)) (k : Nat) (h : k < ls.length) : (ls.take (k + 1)).flatten = (ls.take k).flatten ++ ls.getD k [] := by
  rw [List.take_succ_eq_append_getElem h, List.flatten_append, getD_eq _ _ _ h]; simp
theorem lenTo_succ {α : Type} (ls : List (List α)) (k : Nat) (h : k < ls.length) : lenTo ls (k + 1) = lenTo ls k + (ls.getD k []).length := by
  unfold lenTo; rw [take_more ls k h, List.length_append]
theorem lenTo_le {α : Type} (ls : List (List α)) (k : Nat) (_h : k < ls.length) : lenTo ls (k + 1) ≤ ls.flatten.length := by
  unfold lenTo
  have e : ls.flatten = (ls.take (k + 1)).flatten ++ (ls.drop (k + 1)).flatten := by rw [← List.flatten_append, List.take_append_drop]
  rw [e, List.length_append]; omega
theorem lenTo_all {α : Type} (ls : List (List α)) : lenTo ls ls.length = ls.flatten.length := by unfold lenTo; rw [List.take_length]

theorem Own.base_mono {w : World} {base base' : Nat} {v : Value} {bs : List UInt8} (h : Own w base v bs) (hb : base' ≤ base) : Own w base' v bs := by
  refine ⟨h.1, ?_⟩
  rcases h.2 with hn | ⟨g, cap, cur, e, hbg, r⟩
  · exact .inl hn
  · exact .inr ⟨g, cap, cur, e, by omega, r⟩
theorem OwnN.base_mono {kd : IntKind} {e : TypeId} {w : World} {base base' : Nat} {v : Value} {bs : List Int} (h : OwnN kd e w base v bs) (hb : base' ≤ base) : OwnN kd e w base' v bs := by
  refine ⟨h.1, ?_⟩
  rcases h.2 with hn | ⟨g, cap, cur, e, hbg, r⟩
  · exact .inl hn
  · exact .inr ⟨g, cap, cur, e, by omega, r⟩

theorem cell_of_heap {w : World} {g i : Nat} {cs : Array Value} {e : TypeId} {f : Nat × Nat} (h : w.heap[g]? = some (.cells cs e f)) : w.cell? ⟨g, i, none⟩ = cs[i]? := by simp [World.cell?, h]
theorem cell_lit (w : World) (vs : List Value) (e : TypeId) (i : Nat) (v : Value) (h : vs[i]? = some v) : (w.alloc (.cells vs.toArray e)).cell? ⟨w.heap.size, 0 + i, none⟩ = some v := by
  rw [Nat.zero_add, cell_of_heap (heap_alloc_new w (.cells vs.toArray e))]
  simpa using h
theorem RowsB.lit (w : World) (vs : List Value) (e : TypeId) (ls : List (List UInt8)) (h : ∀ i, i < ls.length → ∃ A c, vs[i]? = some (.slice A (ls.getD i []).length c) ∧ Rd w w.heap.size A (ls.getD i []).length (ls.getD i [])) :
    RowsB (w.alloc (.cells vs.toArray e)) w.heap.size 0 ls := fun i hi => by
  obtain ⟨A, c, h1, h2⟩ := h i hi
  exact ⟨A, c, cell_lit w vs e i _ h1, h2.later (Ext.alloc _ _)⟩
theorem RowsN.lit (w : World) (vs : List Value) (e : TypeId) (ls : List (List Int)) (h : ∀ i, i < ls.length → ∃ A c, vs[i]? = some (.slice A (ls.getD i []).length c) ∧ RdN .i64 w w.heap.size A (ls.getD i []).length (ls.getD i [])) :
    RowsN (w.alloc (.cells vs.toArray e)) w.heap.size 0 ls := fun i hi => by
  obtain ⟨A, c, h1, h2⟩ := h i hi
  exact ⟨A, c, cell_lit w vs e i _ h1, h2.later (Ext.alloc _ _)⟩
/-- Two rows. -/
theorem RowsB.two (w : World) (A1 A2 : Option Addr) (n1 n2 c1 c2 : Nat) (e : TypeId) (xs ys : List UInt8) (h1 : Rd w w.heap.size A1 n1 xs) (h2 : Rd w w.heap.size A2 n2 ys) :
    RowsB (w.alloc (.cells #[.slice A1 n1 c1, .slice A2 n2 c2] e)) w.heap.size 0 [xs, ys] := by
  have e1 := h1.len; have e2 := h2.len
  subst e1 e2
  refine RowsB.lit w [.slice A1 xs.length c1, .slice A2 ys.length c2] e [xs, ys] fun i hi => ?_
  match i, hi with
  | 0, _ => exact ⟨A1, c1, rfl, h1⟩
  | 1, _ => exact ⟨A2, c2, rfl, h2⟩
theorem RowsN.two (w : World) (A1 A2 : Option Addr) (n1 n2 c1 c2 : Nat) (e : TypeId) (xs ys : List Int) (h1 : RdN .i64 w w.heap.size A1 n1 xs) (h2 : RdN .i64 w w.heap.size A2 n2 ys) :
    RowsN (w.alloc (.cells #[.slice A1 n1 c1, .slice A2 n2 c2] e)) w.heap.size 0 [xs, ys] := by
  have e1 := h1.len; have e2 := h2.len
  subst e1 e2
  refine RowsN.lit w [.slice A1 xs.length c1, .slice A2 ys.length c2] e [xs, ys] fun i hi => ?_
  match i, hi with
  | 0, _ => exact ⟨A1, c1, rfl, h1⟩
  | 1, _ => exact ⟨A2, c2, rfl, h2⟩
theorem RowsN.three (w : World) (A1 A2 A3 : Option Addr) (n1 n2 n3 c1 c2 c3 : Nat) (e : TypeId) (xs ys zs : List Int) (h1 : RdN .i64 w w.heap.size A1 n1 xs) (h2 : RdN .i64 w w.heap.size A2 n2 ys) (h3 : RdN .i64 w w.heap.size A3 n3 zs) :
    RowsN (w.alloc (.cells #[.slice A1 n1 c1, .slice A2 n2 c2, .slice A3 n3 c3] e)) w.heap.size 0 [xs, ys, zs] := by
  have e1 := h1.len; have e2 := h2.len; have e3 := h3.len
  subst e1 e2 e3
  refine RowsN.lit w [.slice A1 xs.length c1, .slice A2 ys.length c2, .slice A3 zs.length c3] e [xs, ys, zs] fun i hi => ?_
  match i, hi with
  | 0, _ => exact ⟨A1, c1, rfl, h1⟩
  | 1, _ => exact ⟨A2, c2, rfl, h2⟩
  | 2, _ => exact ⟨A3, c3, rfl, h3⟩

set_option maxHeartbeats 1000000 in
theorem growB_any (n : Nat) (w : World) (h0 : 0 < n) (hn : n ≤ 1000) :
    Calls Tryd.prog 57 #[.slice none 0 0, .int .i64 n] w fun e w' => ∃ v, e = .returned v ∧ Own w' w.heap.size v [] ∧ Below w.heap.size w w' := by
  obtain ⟨i0, hi0, hz0, hz1, hz2⟩ := info_parts Tryd.info5
  have hr := fun ty => Lib.run_append_nil_zeros (P := Tryd.prog) w 22 3 ty 5 i0 (.int .u8 0) .i64 .i64 Tryd.underlying22 Tryd.underlying3 hi0 hz0 n h0 (by omega) (by omega) (by rw [hz2]; omega)
  have hc1 := grownCap_ge w n 0 5
  have hc2 := grownCap_le_maxLen w n 0 5 (by unfold maxLen; omega)
  obtain ⟨G, hG⟩ : ∃ G, G = grownCap w n 0 5 := ⟨_, rfl⟩
  rw [← hG] at hc1 hc2 hr
  have hown : Own (w.drew.alloc (.cells (Builtin.zeroCells (Value.int .u8 0).cells n ++ Builtin.zeroCells (Value.int .u8 0).cells (G - n)) 5)) w.heap.size (.slice (some ⟨w.heap.size, 0, none⟩) 0 G) [] :=
    World.ownsRow_made (w := w.drew) (e := 5) (size := 1) _ G (Nat.le_refl _) hc2 (by
      have e1 : (Value.int .u8 0).cells.size = 1 := rfl
      simp [Builtin.zeroCells, e1]
      omega)
  have hb : Below w.heap.size w (w.drew.alloc (.cells (Builtin.zeroCells (Value.int .u8 0).cells n ++ Builtin.zeroCells (Value.int .u8 0).cells (G - n)) 5)) := (Ext.drew1 w).trans (Ext.alloc _ _)
  have HO := hid hown
  have HB := hid hb
  unfold maxLen at hc2
  clear hown hb hG hi0 hz0 hz1 hz2
  go_enter Tryd.func57, Tryd.ntmps57
  go_wp2_with (at_builtin; refine Lib.wpList_append_run _ rfl _ _ _ _ rfl _ _ rfl rfl _ _ (hr _) ?_)
  go_ret
  exact ⟨_, rfl, HO.out, HB.out⟩
set_option maxHeartbeats 1000000 in
theorem concatB_any (b o m c : Nat) (ls : List (List UInt8)) (w : World) (hm : m = ls.length) (h : RowsB w b o ls) (h0 : 0 < ls.flatten.length) (hl : ls.flatten.length ≤ 1000) (hm2 : m ≤ 1000) :
    Calls Tryd.prog 42 #[.slice (some ⟨b, o, none⟩) m c] w fun e w' => ∃ v, e = .returned v ∧ Own w' w.heap.size v ls.flatten ∧ Below w.heap.size w w' := by
  go_enter Tryd.func42, Tryd.ntmps42
  go_wp2_with fail
  go_loopw [3, 11] (fun s i wr => ∃ k : Nat, k ≤ m ∧ i = .int .i64 k ∧ s = .int .i64 (lenTo ls k : Nat) ∧ Ext w wr) (fun _ i _ => m - (intOf i).toNat)
  case atStart => exact ⟨0, Nat.zero_le _, rfl, rfl, Below.refl _ _⟩
  case round =>
    obtain ⟨k, hk, rfl, rfl, hx⟩ := hrel
    by_cases hlt : k < m
    · obtain ⟨A, c1, hc, hrd⟩ := (h.later hx) k (by omega)
      have hs := lenTo_succ ls k (by omega)
      have hle := lenTo_le ls k (by omega)
      obtain ⟨S, hS⟩ : ∃ S, lenTo ls k = S := ⟨_, rfl⟩
      obtain ⟨L, hL⟩ : ∃ L, (ls.getD k []).length = L := ⟨_, rfl⟩
      obtain ⟨S2, hS2⟩ : ∃ S2, lenTo ls (k + 1) = S2 := ⟨_, rfl⟩
      rw [hL] at hc hs
      rw [hS] at hs ⊢
      rw [hS2] at hs hle
      have HX := hid hx
      have HS2 := hid hS2
      clear hL hS hS2 hrd hx h
      go_wp2_with fail
      go_roundw
      case rel => exact ⟨k + 1, by omega, by go_num, by rw [HS2.out, hs]; go_num, HX.out⟩
      case measure => simp [intOf]; omega
    · obtain rfl : k = m := by omega
      have hall : lenTo ls k = ls.flatten.length := by rw [hm]; exact lenTo_all ls
      rw [hall]
      obtain ⟨T, hT⟩ : ∃ T, ls.flatten.length = T := ⟨_, rfl⟩
      rw [hT] at h0 hl ⊢
      have HX := hid hx
      clear hx hall
      have h1000 : (T : Int) ≤ 1000 := by omega
      go_wp2_with (go_at_call 57; refine (growB_any _ _ h0 hl).mono ?_; rintro e w1 ⟨v1, rfl, hown1, hb1⟩)
      have HX1 := hid (Ext.trans HX.out hb1)
      have hown1 : Own w1 w.heap.size v1 [] := hown1.base_mono (Below.size HX.out)
      clear HX hb1
      go_wp2_with fail
      go_loopw [6, 27] (fun v i wr => ∃ j : Nat, j ≤ k ∧ i = .int .i64 j ∧ Own wr w.heap.size v (ls.take j).flatten ∧ Below w.heap.size w wr) (fun _ i _ => k - (intOf i).toNat)
      case atStart => exact ⟨0, Nat.zero_le _, rfl, by simpa using hown1, HX1.out⟩
      case round =>
        clear hown1 HX1
        obtain ⟨j, hj, rfl, hown, hb⟩ := hrel
        by_cases hjt : j < k
        · obtain ⟨A, c1, hc, hrd⟩ := (h.later hb) j (by omega)
          have hle := lenTo_le ls j (by omega)
          have hss := lenTo_succ ls j (by omega)
          have ht := take_more ls j (by omega)
          obtain ⟨L, hL⟩ : ∃ L, ls.getD j [] = L := ⟨_, rfl⟩
          rw [hL] at hc hrd hss ht
          have hsz := hb.size
          have HB := hid hb
          have HT := hid ht
          have hxl : (ls.take j).flatten.length = lenTo ls j := rfl
          obtain ⟨X, hX⟩ : ∃ X, (ls.take j).flatten = X := ⟨_, rfl⟩
          rw [hX] at hown hxl
          have HXX := hid hX
          obtain ⟨M, hM⟩ : ∃ M, L.length = M := ⟨_, rfl⟩
          rw [hM] at hc hrd hss
          rw [hT] at hle
          clear hb ht hX h hL
          go_wp2_with (at_builtin; refine wpL_append _ rfl (.tmp 31) (.tmp 32) 22 rfl Tryd.underlying22 Tryd.info5 w.heap.size _ X rfl hown _ A M c1 L rfl hrd (by omega) (by omega) ?_; intro v2 w2 hown2 hb2)
          have HO2 := hid hown2
          have HB2 := hid (HB.out.trans hb2)
          clear hown2 hb2
          go_roundw
          case rel => exact ⟨j + 1, by omega, by go_num, by rw [HT.out, HXX.out]; exact HO2.out, HB2.out⟩
          case measure => simp [intOf]; omega
        · obtain rfl : j = k := by omega
          have e : ls.take j = ls := by rw [hm, List.take_length]
          rw [e] at hown
          have HO := hid hown
          have HB := hid hb
          clear hown hb e
          go_wp2_with fail
          go_ret
          exact ⟨_, rfl, HO.out, HB.out⟩

set_option maxHeartbeats 1000000 in
theorem growN_any (n : Nat) (w : World) (h0 : 0 < n) (hn : n ≤ 1000) :
    Calls Tryd.prog 61 #[.slice none 0 0, .int .i64 n] w fun e w' => ∃ v, e = .returned v ∧ OwnN .i64 3 w' w.heap.size v [] ∧ Below w.heap.size w w' := by
  obtain ⟨i0, hi0, hz0, hz1, hz2⟩ := info_parts Tryd.info3
  have hr := fun ty => Lib.run_append_nil_zeros (P := Tryd.prog) w 46 3 ty 3 i0 (.int .i64 0) .i64 .i64 Tryd.underlying46 Tryd.underlying3 hi0 hz0 n h0 (by omega) (by omega) (by rw [hz2]; omega)
  have hc1 := grownCap_ge w n 0 3
  have hc2 := grownCap_le_maxLen w n 0 3 (by unfold maxLen; omega)
  obtain ⟨G, hG⟩ : ∃ G, G = grownCap w n 0 3 := ⟨_, rfl⟩
  rw [← hG] at hc1 hc2 hr
  have hown : OwnN .i64 3 (w.drew.alloc (.cells (Builtin.zeroCells (Value.int .i64 0).cells n ++ Builtin.zeroCells (Value.int .i64 0).cells (G - n)) 3)) w.heap.size (.slice (some ⟨w.heap.size, 0, none⟩) 0 G) [] :=
    World.ownsRow_made (w := w.drew) (e := 3) (size := 1) _ G (Nat.le_refl _) hc2 (by
      have e1 : (Value.int .i64 0).cells.size = 1 := rfl
      simp [Builtin.zeroCells, e1]
      omega)
  have hb : Below w.heap.size w (w.drew.alloc (.cells (Builtin.zeroCells (Value.int .i64 0).cells n ++ Builtin.zeroCells (Value.int .i64 0).cells (G - n)) 3)) := (Ext.drew1 w).trans (Ext.alloc _ _)
  have HO := hid hown
  have HB := hid hb
  unfold maxLen at hc2
  clear hown hb hG hi0 hz0 hz1 hz2
  go_enter Tryd.func61, Tryd.ntmps61
  go_wp2_with (at_builtin; refine Lib.wpList_append_run _ rfl _ _ _ _ rfl _ _ rfl rfl _ _ (hr _) ?_)
  go_ret
  exact ⟨_, rfl, HO.out, HB.out⟩
set_option maxHeartbeats 1000000 in
theorem concatN_any (b o m c : Nat) (ls : List (List Int)) (w : World) (hm : m = ls.length) (h : RowsN w b o ls) (h0 : 0 < ls.flatten.length) (hl : ls.flatten.length ≤ 1000) (hm2 : m ≤ 1000) :
    Calls Tryd.prog 47 #[.slice (some ⟨b, o, none⟩) m c] w fun e w' => ∃ v, e = .returned v ∧ OwnN .i64 3 w' w.heap.size v ls.flatten ∧ Below w.heap.size w w' := by
  go_enter Tryd.func47, Tryd.ntmps47
  go_wp2_with fail
  go_loopw [3, 11] (fun s i wr => ∃ k : Nat, k ≤ m ∧ i = .int .i64 k ∧ s = .int .i64 (lenTo ls k : Nat) ∧ Ext w wr) (fun _ i _ => m - (intOf i).toNat)
  case atStart => exact ⟨0, Nat.zero_le _, rfl, rfl, Below.refl _ _⟩
  case round =>
    obtain ⟨k, hk, rfl, rfl, hx⟩ := hrel
    by_cases hlt : k < m
    · obtain ⟨A, c1, hc, hrd⟩ := (h.later hx) k (by omega)
      have hs := lenTo_succ ls k (by omega)
      have hle := lenTo_le ls k (by omega)
      obtain ⟨S, hS⟩ : ∃ S, lenTo ls k = S := ⟨_, rfl⟩
      obtain ⟨L, hL⟩ : ∃ L, (ls.getD k []).length = L := ⟨_, rfl⟩
      obtain ⟨S2, hS2⟩ : ∃ S2, lenTo ls (k + 1) = S2 := ⟨_, rfl⟩
      rw [hL] at hc hs
      rw [hS] at hs ⊢
      rw [hS2] at hs hle
      have HX := hid hx
      have HS2 := hid hS2
      clear hL hS hS2 hrd hx h
      go_wp2_with fail
      go_roundw
      case rel => exact ⟨k + 1, by omega, by go_num, by rw [HS2.out, hs]; go_num, HX.out⟩
      case measure => simp [intOf]; omega
    · obtain rfl : k = m := by omega
      have hall : lenTo ls k = ls.flatten.length := by rw [hm]; exact lenTo_all ls
      rw [hall]
      obtain ⟨T, hT⟩ : ∃ T, ls.flatten.length = T := ⟨_, rfl⟩
      rw [hT] at h0 hl ⊢
      have HX := hid hx
      clear hx hall
      have h1000 : (T : Int) ≤ 1000 := by omega
      go_wp2_with (go_at_call 61; refine (growN_any _ _ h0 hl).mono ?_; rintro e w1 ⟨v1, rfl, hown1, hb1⟩)
      have HX1 := hid (Ext.trans HX.out hb1)
      have hown1 : OwnN .i64 3 w1 w.heap.size v1 [] := hown1.base_mono (Below.size HX.out)
      clear HX hb1
      go_wp2_with fail
      go_loopw [6, 27] (fun v i wr => ∃ j : Nat, j ≤ k ∧ i = .int .i64 j ∧ OwnN .i64 3 wr w.heap.size v (ls.take j).flatten ∧ Below w.heap.size w wr) (fun _ i _ => k - (intOf i).toNat)
      case atStart => exact ⟨0, Nat.zero_le _, rfl, by simpa using hown1, HX1.out⟩
      case round =>
        clear hown1 HX1
        obtain ⟨j, hj, rfl, hown, hb⟩ := hrel
        by_cases hjt : j < k
        · obtain ⟨A, c1, hc, hrd⟩ := (h.later hb) j (by omega)
          have hle := lenTo_le ls j (by omega)
          have hss := lenTo_succ ls j (by omega)
          have ht := take_more ls j (by omega)
          obtain ⟨L, hL⟩ : ∃ L, ls.getD j [] = L := ⟨_, rfl⟩
          rw [hL] at hc hrd hss ht
          have hsz := hb.size
          have HB := hid hb
          have HT := hid ht
          have hxl : (ls.take j).flatten.length = lenTo ls j := rfl
          obtain ⟨X, hX⟩ : ∃ X, (ls.take j).flatten = X := ⟨_, rfl⟩
          rw [hX] at hown hxl
          have HXX := hid hX
          obtain ⟨M, hM⟩ : ∃ M, L.length = M := ⟨_, rfl⟩
          rw [hM] at hc hrd hss
          rw [hT] at hle
          clear hb ht hX h hL
          go_wp2_with (at_builtin; refine wpL_appendN _ rfl (.tmp 31) (.tmp 32) 46 rfl Tryd.underlying46 8 Tryd.info3 w.heap.size _ X rfl hown _ A M c1 L rfl hrd (by omega) (by unfold maxLen; omega) (by omega) ?_; intro v2 w2 hown2 hb2)
          have HO2 := hid hown2
          have HB2 := hid (HB.out.trans hb2)
          clear hown2 hb2
          go_roundw
          case rel => exact ⟨j + 1, by omega, by go_num, by rw [HT.out, HXX.out]; exact HO2.out, HB2.out⟩
          case measure => simp [intOf]; omega
        · obtain rfl : j = k := by omega
          have e : ls.take j = ls := by rw [hm, List.take_length]
          rw [e] at hown
          have HO := hid hown
          have HB := hid hb
          clear hown hb e
          go_wp2_with fail
          go_ret
          exact ⟨_, rfl, HO.out, HB.out⟩
end Go.Proofs.YthfcndaccfpnmaaDoor
