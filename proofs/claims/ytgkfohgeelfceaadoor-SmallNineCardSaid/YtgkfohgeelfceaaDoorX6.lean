/- Walks over slices.Grow, slices.Concat, and over cut, spread of the program; own lemmas of the verifier, no statement is proved here. -/
import Derived.Test.YtgkfohgeelfceaaDoorX5
import Derived.Lib.AppendZeros
namespace Go.Proofs.YtgkfohgeelfceaaDoor
open Go.RowKit
theorem getD_eq {α : Type} (l : List α) (d : α) (i : Nat) (h : i < l.length) : l.getD i d = l[i] := by simp [h]
theorem Own.nil (w : World) (base : Nat) : Own w base (.slice none 0 0) [] := World.ownsRow_nil _ _ _ _
theorem Ext.drew1 (w : World) : Ext w w.drew := ⟨rfl, rfl, rfl, Nat.le_refl _, fun _ _ => rfl⟩
/-- Rows of bytes in memory. -/
def RowsB (w : World) (b o : Nat) (ls : List (List UInt8)) : Prop :=
  ∀ i, i < ls.length → ∃ A c, w.cell? ⟨b, o + i, none⟩ = some (.slice A (ls.getD i []).length c) ∧ Rd w w.heap.size A (ls.getD i []).length (ls.getD i [])
theorem RowsB.later {w w' : World} {b o : Nat} {ls : List (List UInt8)} (h : RowsB w b o ls) (hx : Ext w w') : RowsB w' b o ls := fun i hi => by
  obtain ⟨A, c, h1, h2⟩ := h i hi
  exact ⟨A, c, (Below.cell hx (p := ⟨b, o + i, none⟩) (World.block_lt_of_cell? w _ h1)).trans h1, h2.later hx⟩
/-- How long the first k are together. -/
def lenTo {α : Type} (ls : List (List α)) (k : Nat) : Nat := (ls.take k).flatten.length
theorem take_more {α : Type} (ls : List (List α)) (k : Nat) (h : k < ls.length) : (ls.take (k + 1)).flatten = (ls.take k).flatten ++ ls.getD k [] := by
  rw [List.take_succ_eq_append_getElem h, List.flatten_append, getD_eq _ _ _ h]; simp
theorem lenTo_succ {α : Type} (ls : List (List α)) (k : Nat) (h : k < ls.length) : lenTo ls (k + 1) = lenTo ls k + (ls.getD k []).length := by
  unfold lenTo; rw [take_more ls k h, List.length_append]
theorem lenTo_le {α : Type} (ls : List (List α)) (k : Nat) (_h : k < ls.length) : lenTo ls (k + 1) ≤ ls.flatten.length := by
  unfold lenTo
  have e : ls.flatten = (ls.take (k + 1)).flatten ++ (ls.drop (k + 1)).flatten := by rw [← List.flatten_append, List.take_append_drop]
  rw [e, List.length_append]; omega
theorem lenTo_all {α : Type} (ls : List (List α)) : lenTo ls ls.length = ls.flatten.length := by unfold lenTo; rw [List.take_length]

theorem Own.base_mono {w : World} {base base' : Nat} {v : Value} {bs : List UInt8} (h : Own w base v bs) (hb : base' ≤ base) : Own w base' v bs := by
  refine ⟨h.1, ?_⟩
  rcases h.2 with hn | ⟨g, cap, cur, e, hbg, r⟩
  · exact .inl hn
  · exact .inr ⟨g, cap, cur, e, by omega, r⟩
theorem cell_lit (w : World) (vs : List Value) (e : TypeId) (i : Nat) (v : Value) (h : vs[i]? = some v) : (w.alloc (.cells vs.toArray e)).cell? ⟨w.heap.size, 0 + i, none⟩ = some v := by
  rw [Nat.zero_add, cell_of_heap (heap_alloc_new w (.cells vs.toArray e))]
  simpa using h
theorem RowsB.lit (w : World) (vs : List Value) (e : TypeId) (ls : List (List UInt8)) (h : ∀ i, i < ls.length → ∃ A c, vs[i]? = some (.slice A (ls.getD i []).length c) ∧ Rd w w.heap.size A (ls.getD i []).length (ls.getD i [])) :
    RowsB (w.alloc (.cells vs.toArray e)) w.heap.size 0 ls := fun i hi => by
  obtain ⟨A, c, h1, h2⟩ := h i hi
  exact ⟨A, c, cell_lit w vs e i _ h1, h2.later (Ext.alloc _ _)⟩
/-- Two rows. -/
theorem RowsB.two (w : World) (A1 A2 : Option Addr) (n1 n2 c1 c2 : Nat) (e : TypeId) (xs ys : List UInt8) (h1 : Rd w w.heap.size A1 n1 xs) (h2 : Rd w w.heap.size A2 n2 ys) :
    RowsB (w.alloc (.cells #[.slice A1 n1 c1, .slice A2 n2 c2] e)) w.heap.size 0 [xs, ys] := by
  have e1 := h1.len; have e2 := h2.len
  subst e1 e2
  refine RowsB.lit w [.slice A1 xs.length c1, .slice A2 ys.length c2] e [xs, ys] fun i hi => ?_
  match i, hi with
  | 0, _ => exact ⟨A1, c1, rfl, h1⟩
  | 1, _ => exact ⟨A2, c2, rfl, h2⟩
set_option maxHeartbeats 1000000 in
theorem growB_any (n : Nat) (w : World) (h0 : 0 < n) (hn : n ≤ 1000) :
    Calls Tryd.prog 52 #[.slice none 0 0, .int .i64 n] w fun e w' => ∃ v, e = .returned v ∧ Own w' w.heap.size v [] ∧ Below w.heap.size w w' := by
  obtain ⟨i0, hi0, hz0, hz1, hz2⟩ := info_parts Tryd.info5
  have hr := fun ty => Lib.run_append_nil_zeros (P := Tryd.prog) w 22 3 ty 5 i0 (.int .u8 0) .i64 .i64 Tryd.underlying22 Tryd.underlying3 hi0 hz0 n h0 (by omega) (by omega) (by rw [hz2]; omega)
  have hc1 := grownCap_ge w n 0 5
  have hc2 := grownCap_le_maxLen w n 0 5 (by unfold maxLen; omega)
  obtain ⟨G, hG⟩ : ∃ G, G = grownCap w n 0 5 := ⟨_, rfl⟩
  rw [← hG] at hc1 hc2 hr
  have hown : Own (w.drew.alloc (.cells (Builtin.zeroCells (Value.int .u8 0).cells n ++ Builtin.zeroCells (Value.int .u8 0).cells (G - n)) 5)) w.heap.size (.slice (some ⟨w.heap.size, 0, none⟩) 0 G) [] :=
    World.ownsRow_made (w := w.drew) (e := 5) (size := 1) _ G (Nat.le_refl _) hc2 (by
      have e1 : (Value.int .u8 0).cells.size = 1 := rfl
      simp [Builtin.zeroCells, e1]
      omega)
  have hb : Below w.heap.size w (w.drew.alloc (.cells (Builtin.zeroCells (Value.int .u8 0).cells n ++ Builtin.zeroCells (Value.int .u8 0).cells (G - n)) 5)) := (Ext.drew1 w).trans (Ext.alloc _ _)
  have HO := hid hown
  have HB := hid hb
  unfold maxLen at hc2
  clear hown hb hG hi0 hz0 hz1 hz2
  go_enter Tryd.func52, Tryd.ntmps52
  go_wp2_with (at_builtin; refine Lib.wpList_append_run _ rfl _ _ _ _ rfl _ _ rfl rfl _ _ (hr _) ?_)
  go_ret
  exact ⟨_, rfl, HO.out, HB.out⟩
set_option maxHeartbeats 1000000 in
theorem concatB_any (b o m c : Nat) (ls : List (List UInt8)) (w : World) (hm : m = ls.length) (h : RowsB w b o ls) (h0 : 0 < ls.flatten.length) (hl : ls.flatten.length ≤ 1000) (hm2 : m ≤ 1000) :
    Calls Tryd.prog 35 #[.slice (some ⟨b, o, none⟩) m c] w fun e w' => ∃ v, e = .returned v ∧ Own w' w.heap.size v ls.flatten ∧ Below w.heap.size w w' := by
  go_enter Tryd.func35, Tryd.ntmps35
  go_wp2_with fail
  go_loopw [3, 11] (fun s i wr => ∃ k : Nat, k ≤ m ∧ i = .int .i64 k ∧ s = .int .i64 (lenTo ls k : Nat) ∧ Ext w wr) (fun _ i _ => m - (intOf i).toNat)
  case atStart => exact ⟨0, Nat.zero_le _, rfl, rfl, Below.refl _ _⟩
  case round =>
    obtain ⟨k, hk, rfl, rfl, hx⟩ := hrel
    by_cases hlt : k < m
    · obtain ⟨A, c1, hc, hrd⟩ := (h.later hx) k (by omega)
      have hs := lenTo_succ ls k (by omega)
      have hle := lenTo_le ls k (by omega)
      obtain ⟨S, hS⟩ : ∃ S, lenTo ls k = S := ⟨_, rfl⟩
      obtain ⟨L, hL⟩ : ∃ L, (ls.getD k []).length = L := ⟨_, rfl⟩
      obtain ⟨S2, hS2⟩ : ∃ S2, lenTo ls (k + 1) = S2 := ⟨_, rfl⟩
      rw [hL] at hc hs
      rw [hS] at hs ⊢
      rw [hS2] at hs hle
      have HX := hid hx
      have HS2 := hid hS2
      clear hL hS hS2 hrd hx h
      go_wp2_with fail
      go_roundw
      case rel => exact ⟨k + 1, by omega, by go_num, by rw [HS2.out, hs]; go_num, HX.out⟩
      case measure => simp [intOf]; omega
    · obtain rfl : k = m := by omega
      have hall : lenTo ls k = ls.flatten.length := by rw [hm]; exact lenTo_all ls
      rw [hall]
      obtain ⟨T, hT⟩ : ∃ T, ls.flatten.length = T := ⟨_, rfl⟩
      rw [hT] at h0 hl ⊢
      have HX := hid hx
      clear hx hall
      have h1000 : (T : Int) ≤ 1000 := by omega
      go_wp2_with (go_at_call 52; refine (growB_any _ _ h0 hl).mono ?_; rintro e w1 ⟨v1, rfl, hown1, hb1⟩)
      have HX1 := hid (Ext.trans HX.out hb1)
      have hown1 : Own w1 w.heap.size v1 [] := hown1.base_mono (Below.size HX.out)
      clear HX hb1
      go_wp2_with fail
      go_loopw [6, 27] (fun v i wr => ∃ j : Nat, j ≤ k ∧ i = .int .i64 j ∧ Own wr w.heap.size v (ls.take j).flatten ∧ Below w.heap.size w wr) (fun _ i _ => k - (intOf i).toNat)
      case atStart => exact ⟨0, Nat.zero_le _, rfl, by simpa using hown1, HX1.out⟩
      case round =>
        clear hown1 HX1
        obtain ⟨j, hj, rfl, hown, hb⟩ := hrel
        by_cases hjt : j < k
        · obtain ⟨A, c1, hc, hrd⟩ := (h.later hb) j (by omega)
          have hle := lenTo_le ls j (by omega)
          have hss := lenTo_succ ls j (by omega)
          have ht := take_more ls j (by omega)
          obtain ⟨L, hL⟩ : ∃ L, ls.getD j [] = L := ⟨_, rfl⟩
          rw [hL] at hc hrd hss ht
          have hsz := hb.size
          have HB := hid hb
          have HT := hid ht
          have hxl : (ls.take j).flatten.length = lenTo ls j := rfl
          obtain ⟨X, hX⟩ : ∃ X, (ls.take j).flatten = X := ⟨_, rfl⟩
          rw [hX] at hown hxl
          have HXX := hid hX
          obtain ⟨M, hM⟩ : ∃ M, L.length = M := ⟨_, rfl⟩
          rw [hM] at hc hrd hss
          rw [hT] at hle
          clear hb ht hX h hL
          go_wp2_with (at_builtin; refine wpL_append _ rfl (.tmp 31) (.tmp 32) 22 rfl Tryd.underlying22 Tryd.info5 w.heap.size _ X rfl hown _ A M c1 L rfl hrd (by omega) (by omega) ?_; intro v2 w2 hown2 hb2)
          have HO2 := hid hown2
          have HB2 := hid (HB.out.trans hb2)
          clear hown2 hb2
          go_roundw
          case rel => exact ⟨j + 1, by omega, by go_num, by rw [HT.out, HXX.out]; exact HO2.out, HB2.out⟩
          case measure => simp [intOf]; omega
        · obtain rfl : j = k := by omega
          have e : ls.take j = ls := by rw [hm, List.take_length]
          rw [e] at hown
          have HO := hid hown
          have HB := hid hb
          clear hown hb e
          go_wp2_with fail
          go_ret
          exact ⟨_, rfl, HO.out, HB.out⟩


theorem Tryd.info43 : (Tryd.prog.info? 43).map (fun i => (i.zero, i.size, i.bytes)) = some (some (.int .u32 0), 1, 4) := by kernel_rfl
/-- Words, as the model's numbers. -/
def nW (ks : List UInt32) : List Int := ks.map fun x => ((x.toNat : Nat) : Int)
theorem nW_length (ks : List UInt32) : (nW ks).length = ks.length := by simp [nW]
theorem nW_get (ks : List UInt32) (j : Nat) (h : j < ks.length) : (nW ks).getD j 0 = ((ks.getD j 0).toNat : Nat) := by simp [nW, h]
theorem nW_set (ks : List UInt32) (j : Nat) (x : UInt32) : (nW ks).set j (x.toNat : Nat) = nW (ks.set j x) := by simp [nW, List.map_set]
theorem nW_append (xs ys : List UInt32) : nW (xs ++ ys) = nW xs ++ nW ys := by simp [nW]
theorem nW_zero (n : Nat) : nW (List.replicate n 0) = List.replicate n 0 := by simp [nW]
/-- Words that the call made. -/
def OwnW (w : World) (base : Nat) (v : Value) (ks : List UInt32) : Prop := OwnN .u32 43 w base v (nW ks)
theorem OwnW.kw {w : World} {base g n c : Nat} {ks : List UInt32} (h : OwnW w base (.slice (some ⟨g, 0, none⟩) n c) ks) (hn : ks.length = n) : KW w g 0 ks := fun j hj => by
  rw [Nat.zero_add, OwnN.celln h (by rw [nW_length]; exact hn) j (by omega), nW_get ks j hj]
theorem OwnW.set_ {w : World} {base g n c : Nat} {ks : List UInt32} (h : OwnW w base (.slice (some ⟨g, 0, none⟩) n c) ks) (hn : ks.length = n) (j : Nat) (x : UInt32) :
    OwnW (w.setCell ⟨g, j, none⟩ (.int .u32 (x.toNat : Nat))) base (.slice (some ⟨g, 0, none⟩) n c) (ks.set j x) := by
  have := OwnN.setn h (by rw [nW_length]; exact hn) j (x.toNat : Nat)
  rw [nW_set] at this
  exact this
def fillW (f : Nat → UInt32) (n k : Nat) : List UInt32 := (List.range n).map fun i => if i < k then f i else 0
theorem fillW_length (f : Nat → UInt32) (n k : Nat) : (fillW f n k).length = n := by simp [fillW]
theorem fillW_zero (f : Nat → UInt32) (n : Nat) : fillW f n 0 = List.replicate n 0 := by
  apply List.ext_getElem <;> simp [fillW]
theorem fillW_full (f : Nat → UInt32) (n : Nat) : fillW f n n = (List.range n).map f := by
  apply List.ext_getElem
  · simp [fillW]
  · intro i h1 h2
    have : i < n := by simpa [fillW] using h1
    simp [fillW, this]
theorem fillW_set (f : Nat → UInt32) (n k : Nat) : (fillW f n k).set k (f k) = fillW f n (k + 1) := by
  apply List.ext_getElem
  · simp [fillW]
  · intro i h1 h2
    simp only [fillW, List.getElem_set, List.getElem_map, List.getElem_range]
    by_cases h : k = i
    · subst h; simp
    · rw [if_neg h]
      by_cases h' : i < k
      · rw [if_pos h', if_pos (by omega)]
      · rw [if_neg h', if_neg (by omega)]
set_option maxHeartbeats 1000000 in
theorem gatherT_any (t : T3) (A : Option Addr) (c B : Nat) (l : List UInt8) (w : World) (h : Rd w B A 4 l) :
    Calls Tryd.prog 46 #[.int .i64 t.code, .slice A 4 c] w fun e w' => e = .returned (.int .u32 ((wd t l).toNat : Nat)) ∧ w = w' := by
  have hb := be32_any A 4 c B l w h (by omega)
  have hl := le32_any A 4 c B l w h (by omega)
  have e1 : be32N l 4 = be l 4 := rfl
  have e2 : le32N l 4 = le l 4 4 := rfl
  rw [e1] at hb
  rw [e2] at hl
  clear h e1 e2
  cases t
  · show Calls Tryd.prog 46 #[.int .i64 4, _] w _
    rw [wd_be l .x (by decide)]
    have HB := hid hb
    clear hb hl
    go_enter Tryd.func46, Tryd.ntmps46
    go_wp2_with (go_at_call 60; refine HB.out.mono ?_; rintro e w' ⟨rfl, rfl⟩)
    go_ret
    exact ⟨rfl, rfl⟩
  · show Calls Tryd.prog 46 #[.int .i64 5, _] w _
    rw [wd_be l .m (by decide)]
    have HB := hid hb
    clear hb hl
    go_enter Tryd.func46, Tryd.ntmps46
    go_wp2_with (go_at_call 60; refine HB.out.mono ?_; rintro e w' ⟨rfl, rfl⟩)
    go_ret
    exact ⟨rfl, rfl⟩
  · show Calls Tryd.prog 46 #[.int .i64 8, _] w _
    rw [wd_le l]
    have HB := hid hl
    clear hb hl
    go_enter Tryd.func46, Tryd.ntmps46
    go_wp2_with (go_at_call 59; refine HB.out.mono ?_; rintro e w' ⟨rfl, rfl⟩)
    go_ret
    exact ⟨rfl, rfl⟩
set_option maxHeartbeats 1000000 in
theorem spreadT_any (t : T3) (v : UInt32) (w : World) :
    Calls Tryd.prog 36 #[.int .i64 t.code, .int .u32 (v.toNat : Nat)] w (RetB w (put t v)) := by
  have hv := wlt v
  have hb := putBe32_any (v.toNat : Nat) w (by omega) (by omega)
  have hl := putLe32_any (v.toNat : Nat) w (by omega) (by omega)
  have HB := hid hb
  have HL := hid hl
  clear hb hl
  cases t
  · show Calls Tryd.prog 36 #[.int .i64 4, _] w _
    go_enter Tryd.func36, Tryd.ntmps36
    go_wp2_with (go_at_call 54; refine HB.out.mono ?_; rintro e w' ⟨v2, rfl, ho, hx⟩)
    go_ret
    exact ⟨_, rfl, ho, hx⟩
  · show Calls Tryd.prog 36 #[.int .i64 5, _] w _
    go_enter Tryd.func36, Tryd.ntmps36
    go_wp2_with (go_at_call 54; refine HB.out.mono ?_; rintro e w' ⟨v2, rfl, ho, hx⟩)
    go_ret
    exact ⟨_, rfl, ho, hx⟩
  · show Calls Tryd.prog 36 #[.int .i64 8, _] w _
    go_enter Tryd.func36, Tryd.ntmps36
    go_wp2_with (go_at_call 53; refine HL.out.mono ?_; rintro e w' ⟨v2, rfl, ho, hx⟩)
    go_ret
    exact ⟨_, rfl, ho, hx⟩
theorem drop_drop4 (bs : List UInt8) (k : Nat) : (bs.drop (4 * k)).drop 4 = bs.drop (4 * (k + 1)) := by
  rw [List.drop_drop]; congr 1
set_option maxRecDepth 100000 in
set_option maxHeartbeats 2000000 in
theorem cut_any (t : T3) (A : Option Addr) (m c : Nat) (bs : List UInt8) (w : World) (h : Rd w w.heap.size A (4 * m) bs) (hm : m ≤ 1000) (hc : 4 * m ≤ c) (hcb : c ≤ 9223372036854775807) :
    Calls Tryd.prog 27 #[.int .i64 t.code, .slice A (4 * m : Nat) c] w fun e w' => e = .returned (.slice (some ⟨w.heap.size, 0, none⟩) m m) ∧ OwnW w' w.heap.size (.slice (some ⟨w.heap.size, 0, none⟩) m m) (words t bs m) ∧ Below w.heap.size w w' := by
  have h2 : ((4 * m : Nat) : Int) / 4 = (m : Int) := by omega
  go_enter Tryd.func27, Tryd.ntmps27
  go_wp2_with (at_make; refine wpL_makeN rfl (.tmp 9) (.tmp 9) 59 rfl Tryd.underlying59 4 Tryd.info43 .i64 m m rfl rfl rfl (by omega) (by unfold maxLen; omega) w.heap.size (Nat.le_refl _) ?_; intro w1 hown1 hb1)
  rw [← nW_zero] at hown1
  obtain ⟨T, hT⟩ : ∃ T, t.code = T := ⟨_, rfl⟩
  have HT := hid hT
  rw [hT]
  clear hT
  go_loopw [1, 13] (fun b i wr => ∃ (k : Nat) (Ak : Option Addr) (ck : Nat), k ≤ m ∧ i = .int .i64 k ∧ b = .slice Ak (4 * (m - k) : Nat) ck ∧ 4 * (m - k) ≤ ck ∧ ck ≤ 9223372036854775807 ∧ Rd wr w.heap.size Ak (4 * (m - k)) (bs.drop (4 * k)) ∧
      OwnW wr w.heap.size (.slice (some ⟨w.heap.size, 0, none⟩) m m) (fillW (kw t bs) m k) ∧ Below w.heap.size w wr) (fun _ i _ => m - (intOf i).toNat)
  case atStart => exact ⟨0, A, c, Nat.zero_le _, rfl, rfl, hc, hcb, by simpa using h.below hb1 (Nat.le_refl _), by rw [fillW_zero]; exact hown1, hb1⟩
  case round =>
    obtain ⟨k, Ak, ck, hk, rfl, rfl, hck, hck2, hrd, hown, hb⟩ := hrel
    by_cases hlt : k < m
    · have hr4 := hrd.cuthi 4 (by omega)
      have hr5 := hrd.cutlo (c := ck) (l := 4) (by omega) (by omega)
      rw [drop_drop4] at hr5
      have hl := fillW_length (kw t bs) m k
      have hcell := OwnW.kw hown hl k (by omega)
      have hfree := OwnN.free hown k
      have hset := OwnW.set_ hown hl k (kw t bs k)
      rw [fillW_set] at hset
      rw [Nat.zero_add] at hcell
      have hg := fun (c : Nat) => gatherT_any t Ak c w.heap.size _ wr hr4
      rw [HT.out] at hg
      obtain ⟨v, hv⟩ : ∃ v, kw t bs k = v := ⟨_, rfl⟩
      rw [show wd t ((bs.drop (4 * k)).take 4) = v from hv] at hg
      rw [hv] at hset
      obtain ⟨b0, o0, rfl, hb0, _⟩ := hrd.at_ (by omega)
      have HG := hid hg
      have HSET := hid hset
      have hr6 := hr5.below ((Below.refl w.heap.size wr).setCell (p := ⟨w.heap.size, k, none⟩) (by simp) (.int .u32 (v.toNat : Nat))) (Nat.le_refl _)
      rw [show 4 * (m - k) - 4 = 4 * (m - (k + 1)) by omega, show Option.map (fun x : Addr => x.add (4 * 1)) (some ⟨b0, o0, none⟩) = some ⟨b0, o0 + 4, none⟩ by simp [add_off]] at hr6
      have HR5 := hid hr6
      clear hr6
      have HB := hid hb
      obtain ⟨q, hq⟩ : ∃ q, 4 * (m - k) = q := ⟨_, rfl⟩
      rw [hq] at hck ⊢
      have hq4 : 4 ≤ q := by omega
      have HQ := hid hq
      clear hg hset hr5 hb hown hr4 hrd h hown1 hb1 hv hq
      go_wp2_with fail
      refine (HG.out _).mono ?_
      rintro e w' ⟨rfl, rfl⟩
      have hq4c : 4 ≤ ck := by omega
      have HQ4 := hid hq4
      go_wp2_with fail
      go_roundw
      case rel => exact ⟨k + 1, if ck = 4 then some ⟨b0, o0, none⟩ else some ⟨b0, o0 + 4, none⟩, ck - 4, by omega, by go_num, by rw [show 4 * (m - (k + 1)) = q - 4 by have := HQ.out; omega], by have := HQ.out; omega, by omega, HR5.out, HSET.out, HB.out.setCell (by simp) _⟩
      case measure => simp [intOf]; omega
    · obtain rfl : k = m := by omega
      rw [fillW_full] at hown
      have HH := hid (And.intro hown hb)
      clear hown hb hown1 hb1 hrd h
      go_wp2_with fail
      go_ret
      exact ⟨rfl, HH.out.1, HH.out.2⟩
end Go.Proofs.YtgkfohgeelfceaaDoor
