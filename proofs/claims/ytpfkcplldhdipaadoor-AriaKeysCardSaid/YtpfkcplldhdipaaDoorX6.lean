/- Walks over slices.Grow, slices.Concat and over constant of the program; own lemmas of the verifier, no statement is proved here. -/
import Derived.Test.YtpfkcplldhdipaaDoorX5
import Derived.Lib.AppendZeros
namespace Go.Proofs.YtpfkcplldhdipaaDoor
open Go.RowKit
theorem Own.nil (w : World) (base : Nat) : Own w base (.slice none 0 0) [] := World.ownsRow_nil _ _ _ _
theorem Ext.drew1 (w : World) : Ext w w.drew := ⟨rfl, rfl, rfl, Nat.le_refl _, fun _ _ => rfl⟩
/-- Rows of bytes in memory. -/
def RowsB (w : World) (b o : Nat) (ls : List (List UInt8)) : Prop :=
  ∀ i, i < ls.length → ∃ A c, w.cell? ⟨b, o + i, none⟩ = some (.slice A (ls.getD i []).length c) ∧ Rd w w.heap.size A (ls.getD i []).length (ls.getD i [])
theorem RowsB.later {w w' : World} {b o : Nat} {ls : List (List UInt8)} (h : RowsB w b o ls) (hx : Ext w w') : RowsB w' b o ls := fun i hi => by
  obtain ⟨A, c, h1, h2⟩ := h i hi
  exact ⟨A, c, (Below.cell hx (p := ⟨b, o + i, none⟩) (World.block_lt_of_cell? w _ h1)).trans h1, h2.later hx⟩
/-- How long the first k are together. -/
def lenTo {α : Type} (ls : List (List α)) (k : Nat) : Nat := (ls.take k).flatten.length
theorem take_more {α : Type} (ls : List (List α)) (k : Nat) (h : k < ls.length) : (ls.take (k + 1)).flatten = (ls.take k).flatten ++ ls.getD k [] := by
  rw [List.take_succ_eq_append_getElem h, List.flatten_append, getD_eq _ _ _ h]; simp
theorem lenTo_succ {α : Type} (ls : List (List α)) (k : Nat) (h : k < ls.length) : lenTo ls (k + 1) = lenTo ls k + (ls.getD k []).length := by
  unfold lenTo; rw [take_more ls k h, List.length_append]
theorem lenTo_le {α : Type} (ls : List (List α)) (k : Nat) (_h : k < ls.length) : lenTo ls (k + 1) ≤ ls.flatten.length := by
  unfold lenTo
  have e : ls.flatten = (ls.take (k + 1)).flatten ++ (ls.drop (k + 1)).flatten := by rw [← List.flatten_append, List.take_append_drop]
  rw [e, List.length_append]; omega
theorem lenTo_all {α : Type} (ls : List (List α)) : lenTo ls ls.length = ls.flatten.length := by unfold lenTo; rw [List.take_length]

theorem Own.base_mono {w : World} {base base' : Nat} {v : Value} {bs : List UInt8} (h : Own w base v bs) (hb : base' ≤ base) : Own w base' v bs := by
  refine ⟨h.1, ?_⟩
  rcases h.2 with hn | ⟨g, cap, cur, e, hbg, r⟩
  · exact .inl hn
  · exact .inr ⟨g, cap, cur, e, by omega, r⟩
theorem cell_lit (w : World) (vs : List Value) (e : TypeId) (i : Nat) (v : Value) (h : vs[i]? = some v) : (w.alloc (.cells vs.toArray e)).cell? ⟨w.heap.size, 0 + i, none⟩ = some v := by
  rw [Nat.zero_add, cell_of_row _ _ _ _ _ _ (heap_alloc_new w (.cells vs.toArray e))]
  simpa using h
theorem RowsB.lit (w : World) (vs : List Value) (e : TypeId) (ls : List (List UInt8)) (h : ∀ i, i < ls.length → ∃ A c, vs[i]? = some (.slice A (ls.getD i []).length c) ∧ Rd w w.heap.size A (ls.getD i []).length (ls.getD i [])) :
    RowsB (w.alloc (.cells vs.toArray e)) w.heap.size 0 ls := fun i hi => by
  obtain ⟨A, c, h1, h2⟩ := h i hi
  exact ⟨A, c, cell_lit w vs e i _ h1, h2.later (Ext.alloc _ _)⟩
/-- Two rows. -/
theorem RowsB.two (w : World) (A1 A2 : Option Addr) (n1 n2 c1 c2 : Nat) (e : TypeId) (xs ys : List UInt8) (h1 : Rd w w.heap.size A1 n1 xs) (h2 : Rd w w.heap.size A2 n2 ys) :
    RowsB (w.alloc (.cells #[.slice A1 n1 c1, .slice A2 n2 c2] e)) w.heap.size 0 [xs, ys] := by
  have e1 := h1.len; have e2 := h2.len
  subst e1 e2
  refine RowsB.lit w [.slice A1 xs.length c1, .slice A2 ys.length c2] e [xs, ys] fun i hi => ?_
  match i, hi with
  | 0, _ => exact ⟨A1, c1, rfl, h1⟩
  | 1, _ => exact ⟨A2, c2, rfl, h2⟩
set_option maxHeartbeats 1000000 in
theorem growB_any (n : Nat) (w : World) (h0 : 0 < n) (hn : n ≤ 1000) :
    Calls Tryd.prog 66 #[.slice none 0 0, .int .i64 n] w fun e w' => ∃ v, e = .returned v ∧ Own w' w.heap.size v [] ∧ Below w.heap.size w w' := by
  obtain ⟨i0, hi0, hz0, hz1, hz2⟩ := info_parts Tryd.info5
  have hr := fun ty => Lib.run_append_nil_zeros (P := Tryd.prog) w 22 3 ty 5 i0 (.int .u8 0) .i64 .i64 Tryd.underlying22 Tryd.underlying3 hi0 hz0 n h0 (by omega) (by omega) (by rw [hz2]; omega)
  have hc1 := grownCap_ge w n 0 5
  have hc2 := grownCap_le_maxLen w n 0 5 (by unfold maxLen; omega)
  obtain ⟨G, hG⟩ : ∃ G, G = grownCap w n 0 5 := ⟨_, rfl⟩
  rw [← hG] at hc1 hc2 hr
  have hown : Own (w.drew.alloc (.cells (Builtin.zeroCells (Value.int .u8 0).cells n ++ Builtin.zeroCells (Value.int .u8 0).cells (G - n)) 5)) w.heap.size (.slice (some ⟨w.heap.size, 0, none⟩) 0 G) [] :=
    World.ownsRow_made (w := w.drew) (e := 5) (size := 1) _ G (Nat.le_refl _) hc2 (by
      have e1 : (Value.int .u8 0).cells.size = 1 := rfl
      simp [Builtin.zeroCells, e1]
      omega)
  have hb : Below w.heap.size w (w.drew.alloc (.cells (Builtin.zeroCells (Value.int .u8 0).cells n ++ Builtin.zeroCells (Value.int .u8 0).cells (G - n)) 5)) := (Ext.drew1 w).trans (Ext.alloc _ _)
  have HO := hid hown
  have HB := hid hb
  unfold maxLen at hc2
  clear hown hb hG hi0 hz0 hz1 hz2
  go_enter Tryd.func66, Tryd.ntmps66
  go_wp2_with (at_builtin; refine Lib.wpList_append_run _ rfl _ _ _ _ rfl _ _ rfl rfl _ _ (hr _) ?_)
  go_ret
  exact ⟨_, rfl, HO.out, HB.out⟩
set_option maxHeartbeats 1000000 in
theorem concatB_any (b o m c : Nat) (ls : List (List UInt8)) (w : World) (hm : m = ls.length) (h : RowsB w b o ls) (h0 : 0 < ls.flatten.length) (hl : ls.flatten.length ≤ 1000) (hm2 : m ≤ 1000) :
    Calls Tryd.prog 62 #[.slice (some ⟨b, o, none⟩) m c] w fun e w' => ∃ v, e = .returned v ∧ Own w' w.heap.size v ls.flatten ∧ Below w.heap.size w w' := by
  go_enter Tryd.func62, Tryd.ntmps62
  go_wp2_with fail
  go_loopw [3, 11] (fun s i wr => ∃ k : Nat, k ≤ m ∧ i = .int .i64 k ∧ s = .int .i64 (lenTo ls k : Nat) ∧ Ext w wr) (fun _ i _ => m - (intOf i).toNat)
  case atStart => exact ⟨0, Nat.zero_le _, rfl, rfl, Below.refl _ _⟩
  case round =>
    obtain ⟨k, hk, rfl, rfl, hx⟩ := hrel
    by_cases hlt : k < m
    · obtain ⟨A, c1, hc, hrd⟩ := (h.later hx) k (by omega)
      have hs := lenTo_succ ls k (by omega)
      have hle := lenTo_le ls k (by omega)
      obtain ⟨S, hS⟩ : ∃ S, lenTo ls k = S := ⟨_, rfl⟩
      obtain ⟨L, hL⟩ : ∃ L, (ls.getD k []).length = L := ⟨_, rfl⟩
      obtain ⟨S2, hS2⟩ : ∃ S2, lenTo ls (k + 1) = S2 := ⟨_, rfl⟩
      rw [hL] at hc hs
      rw [hS] at hs ⊢
      rw [hS2] at hs hle
      have HX := hid hx
      have HS2 := hid hS2
      clear hL hS hS2 hrd hx h
      go_wp2_with fail
      go_roundw
      case rel => exact ⟨k + 1, by omega, by go_num, by rw [HS2.out, hs]; go_num, HX.out⟩
      case measure => simp [intOf]; omega
    · obtain rfl : k = m := by omega
      have hall : lenTo ls k = ls.flatten.length := by rw [hm]; exact lenTo_all ls
      rw [hall]
      obtain ⟨T, hT⟩ : ∃ T, ls.flatten.length = T := ⟨_, rfl⟩
      rw [hT] at h0 hl ⊢
      have HX := hid hx
      clear hx hall
      have h1000 : (T : Int) ≤ 1000 := by omega
      go_wp2_with (go_at_call 66; refine (growB_any _ _ h0 hl).mono ?_; rintro e w1 ⟨v1, rfl, hown1, hb1⟩)
      have HX1 := hid (Ext.trans HX.out hb1)
      have hown1 : Own w1 w.heap.size v1 [] := hown1.base_mono (Below.size HX.out)
      clear HX hb1
      go_wp2_with fail
      go_loopw [6, 27] (fun v i wr => ∃ j : Nat, j ≤ k ∧ i = .int .i64 j ∧ Own wr w.heap.size v (ls.take j).flatten ∧ Below w.heap.size w wr) (fun _ i _ => k - (intOf i).toNat)
      case atStart => exact ⟨0, Nat.zero_le _, rfl, by simpa using hown1, HX1.out⟩
      case round =>
        clear hown1 HX1
        obtain ⟨j, hj, rfl, hown, hb⟩ := hrel
        by_cases hjt : j < k
        · obtain ⟨A, c1, hc, hrd⟩ := (h.later hb) j (by omega)
          have hle := lenTo_le ls j (by omega)
          have hss := lenTo_succ ls j (by omega)
          have ht := take_more ls j (by omega)
          obtain ⟨L, hL⟩ : ∃ L, ls.getD j [] = L := ⟨_, rfl⟩
          rw [hL] at hc hrd hss ht
          have hsz := hb.size
          have HB := hid hb
          have HT := hid ht
          have hxl : (ls.take j).flatten.length = lenTo ls j := rfl
          obtain ⟨X, hX⟩ : ∃ X, (ls.take j).flatten = X := ⟨_, rfl⟩
          rw [hX] at hown hxl
          have HXX := hid hX
          obtain ⟨M, hM⟩ : ∃ M, L.length = M := ⟨_, rfl⟩
          rw [hM] at hc hrd hss
          rw [hT] at hle
          clear hb ht hX h hL
          go_wp2_with (at_builtin; refine wpL_append _ rfl (.tmp 31) (.tmp 32) 22 rfl Tryd.underlying22 Tryd.info5 w.heap.size _ X rfl hown _ A M c1 L rfl hrd (by omega) (by omega) ?_; intro v2 w2 hown2 hb2)
          have HO2 := hid hown2
          have HB2 := hid (HB.out.trans hb2)
          clear hown2 hb2
          go_roundw
          case rel => exact ⟨j + 1, by omega, by go_num, by rw [HT.out, HXX.out]; exact HO2.out, HB2.out⟩
          case measure => simp [intOf]; omega
        · obtain rfl : j = k := by omega
          have e : ls.take j = ls := by rw [hm, List.take_length]
          rw [e] at hown
          have HO := hid hown
          have HB := hid hb
          clear hown hb e
          go_wp2_with fail
          go_ret
          exact ⟨_, rfl, HO.out, HB.out⟩
theorem cf63 (vs : Array Value) (w : World) : (callFunc 63 vs).run Tryd.prog w = .ok (.enter 63 vs) w := by go_simp
theorem cf62 (vs : Array Value) (w : World) : (callFunc 62 vs).run Tryd.prog w = .ok (.enter 62 vs) w := by go_simp
/-- Two rows of bytes in a slot; bytes at a pointer. -/
def RowP (xs ys : List UInt8) (w : World) (v : Value) : Prop := ∃ b, v = .slice (some ⟨b, 0, none⟩) 2 2 ∧ RowsB w b 0 [xs, ys]
theorem RowP.keep (xs ys : List UInt8) : ∀ w w' v, Ext w w' → RowP xs ys w v → RowP xs ys w' v := fun _ _ _ hx ⟨b, h1, h2⟩ => ⟨b, h1, h2.later hx⟩
def AtP (bs : List UInt8) (w : World) (v : Value) : Prop := ∃ b o, v = .pointer (some ⟨b, o, none⟩) ∧ w.rangeAt b o (cellsOf bs)
theorem AtP.keep (bs : List UInt8) : ∀ w w' v, Ext w w' → AtP bs w v → AtP bs w' v := fun _ _ _ hx ⟨b, o, h1, h2⟩ => ⟨b, o, h1, rangeAt_later h2 hx⟩
theorem build24 (A1 A2 : Option Addr) (n1 n2 c1 c2 : Nat) (w : World) : (Instr.buildSlice 24 2 #[(0, .slice A1 n1 c1), (1, .slice A2 n2 c2)]).run Tryd.prog w = .ok (.slice (some ⟨w.heap.size, 0, none⟩) 2 2) (w.alloc (.cells #[.slice A1 n1 c1, .slice A2 n2 c2] 22)) := by go_simp
theorem concat2 {w : World} {b : Nat} {xs ys : List UInt8} (h : RowsB w b 0 [xs, ys]) (hl : xs.length + ys.length = 16) :
    Calls Tryd.prog 62 #[.slice (some ⟨b, 0, none⟩) 2 2] w (RetB w (xs ++ ys)) := by
  have hf : ([xs, ys] : List (List UInt8)).flatten = xs ++ ys := by simp
  have h1 := concatB_any b 0 2 2 [xs, ys] w rfl h (by rw [hf, List.length_append]; omega) (by rw [hf, List.length_append]; omega) (by omega)
  rw [hf] at h1
  exact h1
/-- The constants' cells. -/
def Con (w : World) : Prop := ∀ j, j < 3 → w.rangeAt 5 (j * 2) [.int .u64 (chi j), .int .u64 (clo j)]
theorem Con.later {w w' : World} (h : Con w) (hx : Ext w w') : Con w' := fun j hj => rangeAt_later (h j hj) hx
/-- Two words in a block. -/
def Two (w : World) (S r : Nat) : Prop := w.cell? ⟨S, 0, none⟩ = some (.int .u64 (chi r)) ∧ w.cell? ⟨S, 1, none⟩ = some (.int .u64 (clo r))
theorem Two.later {w w' : World} {S r : Nat} (h : Two w S r) (hx : Ext w w') : Two w' S r :=
  ⟨(Below.cell hx (p := ⟨S, 0, none⟩) (World.block_lt_of_cell? w _ h.1)).trans h.1, (Below.cell hx (p := ⟨S, 1, none⟩) (World.block_lt_of_cell? w _ h.2)).trans h.2⟩
theorem size101 : (Tryd.prog.info? 101).map (·.size) = some 2 := by kernel_rfl
def conKs (S r : Nat) : List K := [.eq (.pointer (some ⟨S, 0, none⟩)), .eq (.int .u64 (chi r)), .byt 8 (spreadL (chi r) 8), .eq (.pointer (some ⟨S, 1, none⟩)), .eq (.int .u64 (clo r)), .byt 8 (spreadL (clo r) 8), .gen (RowP (spreadL (chi r) 8) (spreadL (clo r) 8)) (RowP.keep _ _), .byt 16 (spreadL (chi r) 8 ++ spreadL (clo r) 8), .gen (AtP (spreadL (chi r) 8 ++ spreadL (clo r) 8)) (AtP.keep _), .eq (bv (spreadL (chi r) 8 ++ spreadL (clo r) 8)), .any]
set_option maxRecDepth 100000 in
set_option maxHeartbeats 4000000 in
theorem const_any (i : Nat) (w : World) (hi : i ≤ 1000) (hc : Con w) :
    Calls Tryd.prog 50 #[.int .i64 i] w fun e w' => e = .returned (bv (constL i)) ∧ Ext w w' := by
  obtain ⟨r, hr⟩ : ∃ r, i % 3 = r := ⟨_, rfl⟩
  have hr3 : r < 3 := by omega
  have htm : (i : Int).tmod 3 = (r : Int) := by rw [Int.tmod_eq_emod_of_nonneg (by omega)]; omega
  have hri : (r : Int) < 3 := by omega
  have HCL := hid (show spreadL (chi r) 8 ++ spreadL (clo r) 8 = constL i by rw [constL, hr])
  have h3 := RW.new w 55 z16
  have x3 := Ext.alloc w (.cells (cellsOf z16).toArray 55)
  obtain ⟨W1, hW1⟩ : ∃ W1, w.alloc (.cells (cellsOf z16).toArray 55) = W1 := ⟨_, rfl⟩
  have z1 : W1.heap.size = w.heap.size + 1 := by rw [← hW1]; simp
  rw [hW1] at h3 x3
  have HL := hid ((hc.later x3) r hr3)
  have x4 := Ext.alloc W1 (.cells #[.int .u64 (chi r), .int .u64 (clo r)] 101)
  have h4 : Two (W1.alloc (.cells #[.int .u64 (chi r), .int .u64 (clo r)] 101)) (w.heap.size + 1) r := by
    rw [← z1]
    have e := heap_alloc_new W1 (.cells #[.int .u64 (chi r), .int .u64 (clo r)] 101)
    exact ⟨by rw [cell_of_row _ _ _ _ _ _ e]; rfl, by rw [cell_of_row _ _ _ _ _ _ e]; rfl⟩
  obtain ⟨W2, hW2⟩ : ∃ W2, W1.alloc (.cells #[.int .u64 (chi r), .int .u64 (clo r)] 101) = W2 := ⟨_, rfl⟩
  rw [hW2] at h4 x4
  have HXT := hid (x3.trans x4)
  have HR := hid (h3.later (by rw [z16_length]; omega) x4)
  obtain ⟨G, hG⟩ : ∃ G, w.heap.size = G := ⟨_, rfl⟩
  obtain ⟨S, hS⟩ : ∃ S, G + 1 = S := ⟨_, rfl⟩
  rw [hG] at HR h4
  rw [hS] at h4
  have HS := hid h4
  have HG := hid hG
  have HW := hid (And.intro hW1 (And.intro hW2 (And.intro hG (show W1.heap.size = S by omega))))
  clear hW1 hW2 z1 x3 x4 h3 h4 hG hS hr hc
  go_enter Tryd.func50, Tryd.ntmps50
  go_wp2_with (first
    | (rw [← cells_z16, HW.out.1]; refine wpList_load_mid rfl 101 (.tmp 6) rfl 5 (r * 2) rfl [.int .u64 (chi r), .int .u64 (clo r)] _ HL.out Tryd.underlying101 rfl size101 ?_))
  rw [HW.out.2.1, HW.out.2.2.1, HW.out.2.2.2]
  clear HW HL htm
  refine region_tail 10 _ mixed rfl (by kernel_rfl) (by kernel_rfl) rfl rfl rfl (kV (conKs S r)) (kV_keep _) (forall_ops ⟨?_, ?_, ?_, ?_, ?_, ?_, ?_, ?_, ?_, ?_, fun h => absurd rfl h, trivial⟩) ?_
  · intro _ a w hk
    have s3 : a.tmps.getD 3 undef = .pointer (some ⟨S, 0, none⟩) := hk.was 3 (by kernel_rfl) rfl
    refine step_val (v := .pointer (some ⟨S, 0, none⟩)) (w' := w) rfl ?_ (Ext.refl w) rfl
    go_simp
  · intro _ a w hk
    have s8 := hk.eq_ 0 8 (by kernel_rfl) rfl
    refine step_val (v := .int .u64 (chi r)) (w' := w) rfl ?_ (Ext.refl w) rfl
    have hc := (HS.out.later hk.ext).1
    go_simp
  · intro _ a w hk
    have s9 := hk.eq_ 1 9 (by kernel_rfl) rfl
    exact step_call rfl rfl (by simp only [List.map_toArray, List.map_cons, List.map_nil, Act.eval, s9] <;> rfl) cf63 (putBe64_any (chi r) w) (fun e w1 h => RetB.k (spreadL_length _ _) e w1 h)
  · intro _ a w hk
    have s3 : a.tmps.getD 3 undef = .pointer (some ⟨S, 0, none⟩) := hk.was 3 (by kernel_rfl) rfl
    refine step_val (v := .pointer (some ⟨S, 1, none⟩)) (w' := w) rfl ?_ (Ext.refl w) rfl
    go_simp
  · intro _ a w hk
    have s11 := hk.eq_ 3 11 (by kernel_rfl) rfl
    refine step_val (v := .int .u64 (clo r)) (w' := w) rfl ?_ (Ext.refl w) rfl
    have hc := (HS.out.later hk.ext).2
    go_simp
  · intro _ a w hk
    have s12 := hk.eq_ 4 12 (by kernel_rfl) rfl
    exact step_call rfl rfl (by simp only [List.map_toArray, List.map_cons, List.map_nil, Act.eval, s12] <;> rfl) cf63 (putBe64_any (clo r) w) (fun e w1 h => RetB.k (spreadL_length _ _) e w1 h)
  · intro _ a w hk
    obtain ⟨A10, c10, s10, r10⟩ := hk.byt_ 2 10 (by kernel_rfl) rfl
    obtain ⟨A13, c13, s13, r13⟩ := hk.byt_ 5 13 (by kernel_rfl) rfl
    refine step_val (v := .slice (some ⟨w.heap.size, 0, none⟩) 2 2) (w' := w.alloc (.cells #[.slice A10 8 c10, .slice A13 8 c13] 22)) rfl ?_ (Ext.alloc _ _) ⟨_, rfl, RowsB.two w A10 A13 8 8 c10 c13 22 _ _ r10 r13⟩
    have e := build24 A10 A13 8 8 c10 c13 w
    simp only [execOp, Act.eval, List.map_toArray, List.map_cons, List.map_nil, s10, s13, Sem.run_bind, e, Sem.run_pure, Result.andThen]
  · intro _ a w hk
    obtain ⟨b14, s14, g14⟩ := hk.val 6 14 (by kernel_rfl) rfl
    exact step_call rfl rfl (by simp only [List.map_toArray, List.map_cons, List.map_nil, Act.eval, s14] <;> rfl) cf62 (concat2 g14 (by simp [spreadL_length])) (fun e w1 h => RetB.k (by simp [spreadL_length]) e w1 h)
  · intro _ a w hk
    obtain ⟨A15, c15, s15, r15⟩ := hk.byt_ 7 15 (by kernel_rfl) rfl
    obtain ⟨b, o, rfl, _, _⟩ := r15.at_ (by omega)
    exact step_val (v := .pointer (some ⟨b, o, none⟩)) (w' := w) rfl (exec_atp rfl s15 Tryd.underlying55 (Nat.le_refl _)) (Ext.refl w) ⟨b, o, rfl, rangeAt_of_rd r15⟩
  · intro _ a w hk
    obtain ⟨b16, o16, s16, g16⟩ := hk.val 8 16 (by kernel_rfl) rfl
    exact step_val (v := bv (spreadL (chi r) 8 ++ spreadL (clo r) 8)) (w' := w) rfl (exec_load_mid rfl s16 g16 Tryd.underlying55 (size55' (by simp [spreadL_length]))) (Ext.refl w) rfl
  · intro a w1 hf
    have s8 := hf.eq_ 0 8 (by kernel_rfl) rfl
    have s9 := hf.eq_ 1 9 (by kernel_rfl) rfl
    obtain ⟨A10, c10, s10, r10⟩ := hf.val 2 10 (by kernel_rfl) rfl
    have s11 := hf.eq_ 3 11 (by kernel_rfl) rfl
    have s12 := hf.eq_ 4 12 (by kernel_rfl) rfl
    obtain ⟨A13, c13, s13, r13⟩ := hf.val 5 13 (by kernel_rfl) rfl
    obtain ⟨b14, s14, g14⟩ := hf.val 6 14 (by kernel_rfl) rfl
    obtain ⟨A15, c15, s15, r15⟩ := hf.val 7 15 (by kernel_rfl) rfl
    obtain ⟨b16, o16, s16, g16⟩ := hf.val 8 16 (by kernel_rfl) rfl
    have s17 := hf.eq_ 9 17 (by kernel_rfl) rfl
    have hx := hf.ext
    have e := hf.frame
    clear hf
    simp only [regFrame, Act.put, List.setIfInBounds_toArray, List.set_cons_zero, List.set_cons_succ, s8, s9, s10, s11, s12, s13, s14, s15, s16, s17] at e
    clear s8 s9 s10 s11 s12 s13 s14 s15 s16 s17
    subst e
    have HXE := hid (below_setCells (B := w.heap.size) (b := G) (a := w) (by have := HG.out; omega) (cellsOf (spreadL (chi r) 8 ++ spreadL (clo r) 8)) 0 w1 (Ext.trans HXT.out hx))
    have hr := HR.out.later (by rw [z16_length]; omega) hx
    have hl : (spreadL (chi r) 8 ++ spreadL (clo r) 8).length = 16 := by simp [spreadL_length]
    have HS2 := hid (hr.store0 (spreadL (chi r) 8 ++ spreadL (clo r) 8) (by rw [hl, z16_length])).rd
    refine wp_store_arr 55 (.tmp 2) (.tmp 17) rfl rfl G 0 (spreadL (chi r) 8 ++ spreadL (clo r) 8) rfl rfl (by rw [hl]; exact hr.wr) (size55' hl) ?_
    clear hx hr
    go_wp2_with fail
    refine ret_mid rfl rfl G (spreadL (chi r) 8 ++ spreadL (clo r) 8) rfl HS2.out Tryd.underlying55 (size55' hl) ⟨by rw [HCL.out], HXE.out⟩
end Go.Proofs.YtpfkcplldhdipaaDoor
