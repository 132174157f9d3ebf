/- Walk over New of the program; own lemmas of the verifier, no statement is proved here. -/
import Derived.Test.YtgkfohgeelfceaaDoorX10
namespace Go.Proofs.YtgkfohgeelfceaaDoor
open Go.RowKit
set_option maxHeartbeats 1000000 in
theorem bytes_x (w : World) : Calls Tryd.prog 26 #[.int .i64 4] w fun e w' => e = .returned (.int .i64 16) ∧ w = w' := by
  go_enter Tryd.func26, Tryd.ntmps26
  go_wp2
  go_ret
  exact ⟨rfl, rfl⟩
set_option maxHeartbeats 1000000 in
theorem bytes_m (w : World) : Calls Tryd.prog 26 #[.int .i64 5] w fun e w' => e = .returned (.int .i64 32) ∧ w = w' := by
  go_enter Tryd.func26, Tryd.ntmps26
  go_wp2
  go_ret
  exact ⟨rfl, rfl⟩
set_option maxHeartbeats 1000000 in
theorem bytes_r (w : World) : Calls Tryd.prog 26 #[.int .i64 8] w fun e w' => e = .returned (.int .i64 16) ∧ w = w' := by
  go_enter Tryd.func26, Tryd.ntmps26
  go_wp2
  go_ret
  exact ⟨rfl, rfl⟩
set_option maxHeartbeats 1000000 in
theorem bytes_bad (n : Int) (w : World) (h4 : n ≠ 4) (h5 : n ≠ 5) (h8 : n ≠ 8) : Calls Tryd.prog 26 #[.int .i64 n] w fun e w' => e = .returned (.int .i64 0) ∧ w = w' := by
  have g4 : (n == 4) = false := by simp; omega
  have g5 : (n == 5) = false := by simp; omega
  have g8 : (n == 8) = false := by simp; omega
  go_enter Tryd.func26, Tryd.ntmps26
  go_wp2
  go_ret
  exact ⟨rfl, rfl⟩
theorem bytes_any (t : T3) (w : World) : Calls Tryd.prog 26 #[.int .i64 t.code] w fun e w' => e = .returned (.int .i64 t.size) ∧ w = w' := by
  cases t
  · exact bytes_x w
  · exact bytes_m w
  · exact bytes_r w
set_option maxHeartbeats 1000000 in
theorem new_tag (n : Int) (A : Option Addr) (m c : Nat) (w : World) (h4 : n ≠ 4) (h5 : n ≠ 5) (h8 : n ≠ 8) :
    Calls Tryd.prog 14 #[.int .i64 n, .slice A m c] w fun e w' => e = .returned (.tuple #[.pointer none, .int .i64 2]) ∧ Ext w w' := by
  go_enter Tryd.func14, Tryd.ntmps14
  go_wp2_with (go_at_call 26; refine (bytes_bad n _ h4 h5 h8).mono ?_; rintro e w' ⟨rfl, rfl⟩)
  go_ret2
  exact ⟨rfl, Ext.refl _⟩
set_option maxHeartbeats 1000000 in
theorem new_key (t : T3) (A : Option Addr) (m c : Nat) (w : World) (h : m ≠ t.size) :
    Calls Tryd.prog 14 #[.int .i64 t.code, .slice A m c] w fun e w' => e = .returned (.tuple #[.pointer none, .int .i64 4]) ∧ Ext w w' := by
  have hb := fun w => bytes_any t w
  have hs : 0 < t.size := by cases t <;> decide
  obtain ⟨s, hse⟩ : ∃ s, t.size = s := ⟨_, rfl⟩
  obtain ⟨T, hT⟩ : ∃ T, t.code = T := ⟨_, rfl⟩
  rw [hse] at h hb hs
  rw [hT] at hb ⊢
  have g0 : ((s : Int) == 0) = false := by simp; omega
  have g1 : ((m : Int) != (s : Int)) = true := by simp; omega
  have HB := hid hb
  clear hb hse hT
  go_enter Tryd.func14, Tryd.ntmps14
  go_wp2_with (go_at_call 26; refine (HB.out _).mono ?_; rintro e w' ⟨rfl, rfl⟩)
  go_ret2
  exact ⟨rfl, Ext.refl _⟩
theorem xkeys_eq (key : List UInt8) : KS (fun i => (words .x key 4).getD i 0) 64 = keysOf .x key := by
  unfold KS keysOf
  refine List.map_congr_left fun j _ => ?_
  unfold keyX
  split
  · show _ + (words .x key 4).getD _ 0 = _
    rw [words_get _ _ _ _ (Nat.mod_lt _ (by omega))]
  · show _ + (words .x key 4).getD _ 0 = _
    rw [words_get _ _ _ _ (Nat.mod_lt _ (by omega))]
theorem mkeys_eq (key : List UInt8) : words .m key 8 ++ words .m key 8 ++ words .m key 8 ++ (words .m key 8).reverse = keysOf .m key := by
  rw [← magma_keys _ (words_length _ _ _)]
  unfold keysOf
  refine List.map_congr_left fun j hj => ?_
  have hj := List.mem_range.1 hj
  unfold keyM
  split
  · show (words .m key 8).getD _ 0 = _
    rw [words_get _ _ _ _ (Nat.mod_lt _ (by omega))]
  · show (words .m key 8).getD _ 0 = _
    rw [words_get _ _ _ _ (by omega)]
/-- What New hands back. -/
def NewRet (w : World) (t : T3) (key : List UInt8) (e : Ending) (w' : World) : Prop := ∃ p, e = .returned (.tuple #[.pointer (some ⟨p, 0, none⟩), .int .i64 0]) ∧ IsSmall w' p t (aheadOf t key) (keysOf t key) ∧ Ext w w'
/-- The block of a Small, and its keys apart from it. -/
theorem small_of {w : World} {p b o c : Nat} {t : T3} {ah : W2} {ks : List UInt32} (hp : w.heap[p]? = some (.cells #[.int .i64 t.code, .int .u32 (ah.a.toNat : Nat), .int .u32 (ah.b.toNat : Nat), .slice (some ⟨b, o, none⟩) ks.length c] 61 (0, 0)))
    (hc : ks.length ≤ c) (hk : KW w b o ks) : IsSmall w p t ah ks :=
  ⟨b, o, c, ⟨by rw [cell_of_heap hp]; rfl, by rw [cell_of_heap hp]; rfl, by rw [cell_of_heap hp]; rfl, by rw [cell_of_heap hp]; rfl, hc, hk⟩⟩
theorem KW.setne {w : World} {b o : Nat} {ks : List UInt32} (h : KW w b o ks) (p : Addr) (v : Value) (hne : b ≠ p.block) : KW (w.setCell p v) b o ks := fun j hj => by
  have := h j hj
  rw [← this]
  exact World.cell?_of_block (heap_setCell_other w p b v hne)
set_option maxRecDepth 100000 in
set_option maxHeartbeats 4000000 in
theorem new_x (A : Option Addr) (c : Nat) (key : List UInt8) (w : World) (h : Rd w w.heap.size A 16 key) (hc : 16 ≤ c) (hcb : c ≤ 9223372036854775807) :
    Calls Tryd.prog 14 #[.int .i64 4, .slice A 16 c] w (NewRet w .x key) := by
  have hx0 := Ext.alloc w (.cells #[.int .i64 4, .int .u32 0, .int .u32 0, .slice none 0 0] 61)
  have hp0 := heap_alloc_new w (.cells #[.int .i64 4, .int .u32 0, .int .u32 0, .slice none 0 0] 61)
  have hcut := cut_any .x A 4 c key (w.alloc (.cells #[.int .i64 4, .int .u32 0, .int .u32 0, .slice none 0 0] 61)) (h.later hx0) (by omega) hc hcb
  rw [show T3.x.code = 4 from rfl, show 4 * 4 = 16 from rfl] at hcut
  have HCUT := hid hcut
  have HX0 := hid hx0
  have HP0 := hid hp0
  clear h hx0 hp0 hcut
  go_enter Tryd.func14, Tryd.ntmps14
  go_wp2_with (first
    | (go_at_call 26; refine (bytes_x _).mono ?_; rintro e w' ⟨rfl, rfl⟩)
    | (go_at_call 27; refine HCUT.out.mono ?_; rintro e w1 ⟨rfl, ho1, hb1⟩))
  have hz1 := Below.size hb1
  have hsz : (w.alloc (.cells #[.int .i64 4, .int .u32 0, .int .u32 0, .slice none 0 0] 61)).heap.size = w.heap.size + 1 := by simp
  rw [hsz] at ho1 hb1 hz1
  obtain ⟨p, hp⟩ : ∃ p, w.heap.size = p := ⟨_, rfl⟩
  have hbw := bw_of_own ho1
  have hkw := OwnW.kw ho1 (words_length .x key 4)
  rw [hp] at ho1 hb1 hz1 hbw hkw HP0 ⊢
  have hp1 : w1.heap[p]? = some (.cells #[.int .i64 4, .int .u32 0, .int .u32 0, .slice none 0 0] 61 (0, 0)) := (hb1.block p (by omega)).trans HP0.out
  have hx1 : Below p w w1 := Below.trans (by rw [← hp]; exact HX0.out) (Below.mono hb1 (by omega))
  have HP := hid hp
  have HX1 := hid hx1
  have HP1 := hid hp1
  have HBW := hid hbw
  have HKW := hid hkw
  clear ho1 hb1 hp hbw hkw hp1 hx1 HX0 HP0 HCUT
  have hg28 := xkeys_any (p + 1) 4 (words .x key 4) w1 HKW.out (words_length _ _ _)
  refine hg28.mono ?_
  clear hg28
  rintro e w2 ⟨g2, c2, rfl, hc, _, ho2, hx2⟩
  have hb2 : Below (p + 1) w1 w2 := Below.mono hx2 hz1
  have hp2 : w2.heap[p]? = some (.cells #[.int .i64 4, .int .u32 0, .int .u32 0, .slice none 0 0] 61 (0, 0)) := (hb2.block p (by omega)).trans HP1.out
  have hf2 := frozen_of_row w2 p 3 _ 61 hp2
  have hc2 : w2.cell? ⟨p, 3, none⟩ = some (.slice none 0 0) := by rw [cell_of_heap hp2]; rfl
  have hp3 := heap_setCell_same w2 p 3 _ 61 (.slice (some ⟨g2, 0, none⟩) 64 c2) hp2
  have hgb := OwnN.base_le ho2
  have hk3 := (OwnW.kw ho2 (by rw [xkeys_eq, keysOf_length]; rfl)).setne ⟨p, 3, none⟩ (.slice (some ⟨g2, 0, none⟩) 64 c2) (by simp; omega)
  rw [xkeys_eq] at hk3
  have hl := keysOf_length .x key
  rw [show nKeys .x = 64 from rfl] at hl
  have hx3 : Below p w (w2.setCell ⟨p, 3, none⟩ (.slice (some ⟨g2, 0, none⟩) 64 c2)) := (Below.trans HX1.out (Below.mono hb2 (by omega))).setCell (by simp) _
  have hsm : IsSmall (w2.setCell ⟨p, 3, none⟩ (.slice (some ⟨g2, 0, none⟩) 64 c2)) p .x (aheadOf .x key) (keysOf .x key) := by
    refine small_of (b := g2) (o := 0) (c := c2) ?_ (by rw [hl]; exact hc) hk3
    rw [hl]; exact hp3
  have HH := hid (And.intro hsm hx3)
  clear hsm hx3 hk3 hp3 hp2 ho2 hb2 hgb hl
  go_wp2_with fail
  go_ret2
  have e9 := HP.out
  subst e9
  exact ⟨_, rfl, HH.out.1, HH.out.2⟩
set_option maxRecDepth 100000 in
set_option maxHeartbeats 4000000 in
theorem new_m (A : Option Addr) (c : Nat) (key : List UInt8) (w : World) (h : Rd w w.heap.size A 32 key) (hc : 32 ≤ c) (hcb : c ≤ 9223372036854775807) :
    Calls Tryd.prog 14 #[.int .i64 5, .slice A 32 c] w (NewRet w .m key) := by
  have hx0 := Ext.alloc w (.cells #[.int .i64 5, .int .u32 0, .int .u32 0, .slice none 0 0] 61)
  have hp0 := heap_alloc_new w (.cells #[.int .i64 5, .int .u32 0, .int .u32 0, .slice none 0 0] 61)
  have hcut := cut_any .m A 8 c key (w.alloc (.cells #[.int .i64 5, .int .u32 0, .int .u32 0, .slice none 0 0] 61)) (h.later hx0) (by omega) hc hcb
  rw [show T3.m.code = 5 from rfl, show 4 * 8 = 32 from rfl] at hcut
  have HCUT := hid hcut
  have HX0 := hid hx0
  have HP0 := hid hp0
  clear h hx0 hp0 hcut
  go_enter Tryd.func14, Tryd.ntmps14
  go_wp2_with (first
    | (go_at_call 26; refine (bytes_m _).mono ?_; rintro e w' ⟨rfl, rfl⟩)
    | (go_at_call 27; refine HCUT.out.mono ?_; rintro e w1 ⟨rfl, ho1, hb1⟩))
  have hz1 := Below.size hb1
  have hsz : (w.alloc (.cells #[.int .i64 5, .int .u32 0, .int .u32 0, .slice none 0 0] 61)).heap.size = w.heap.size + 1 := by simp
  rw [hsz] at ho1 hb1 hz1
  obtain ⟨p, hp⟩ : ∃ p, w.heap.size = p := ⟨_, rfl⟩
  have hbw := bw_of_own ho1
  have hkw := OwnW.kw ho1 (words_length .m key 8)
  rw [hp] at ho1 hb1 hz1 hbw hkw HP0 ⊢
  have hp1 : w1.heap[p]? = some (.cells #[.int .i64 5, .int .u32 0, .int .u32 0, .slice none 0 0] 61 (0, 0)) := (hb1.block p (by omega)).trans HP0.out
  have hx1 : Below p w w1 := Below.trans (by rw [← hp]; exact HX0.out) (Below.mono hb1 (by omega))
  have HP := hid hp
  have HX1 := hid hx1
  have HP1 := hid hp1
  have HBW := hid hbw
  have HKW := hid hkw
  clear ho1 hb1 hp hbw hkw hp1 hx1 HX0 HP0 HCUT
  have hg28 := mkeys_any (p + 1) (words .m key 8) w1 HBW.out (words_length _ _ _)
  refine hg28.mono ?_
  clear hg28
  rintro e w2 ⟨g2, c2, rfl, hc, ho2, hb2⟩
  have hp2 : w2.heap[p]? = some (.cells #[.int .i64 5, .int .u32 0, .int .u32 0, .slice none 0 0] 61 (0, 0)) := (hb2.block p (by omega)).trans HP1.out
  have hf2 := frozen_of_row w2 p 3 _ 61 hp2
  have hc2 : w2.cell? ⟨p, 3, none⟩ = some (.slice none 0 0) := by rw [cell_of_heap hp2]; rfl
  have hp3 := heap_setCell_same w2 p 3 _ 61 (.slice (some ⟨g2, 0, none⟩) 32 c2) hp2
  have hgb := OwnN.base_le ho2
  have hk3 := (OwnW.kw ho2 (by rw [mkeys_eq, keysOf_length]; rfl)).setne ⟨p, 3, none⟩ (.slice (some ⟨g2, 0, none⟩) 32 c2) (by simp; omega)
  rw [mkeys_eq] at hk3
  have hl := keysOf_length .m key
  rw [show nKeys .m = 32 from rfl] at hl
  have hx3 : Below p w (w2.setCell ⟨p, 3, none⟩ (.slice (some ⟨g2, 0, none⟩) 32 c2)) := (Below.trans HX1.out (Below.mono hb2 (by omega))).setCell (by simp) _
  have hsm : IsSmall (w2.setCell ⟨p, 3, none⟩ (.slice (some ⟨g2, 0, none⟩) 32 c2)) p .m (aheadOf .m key) (keysOf .m key) := by
    refine small_of (b := g2) (o := 0) (c := c2) ?_ (by rw [hl]; exact hc) hk3
    rw [hl]; exact hp3
  have HH := hid (And.intro hsm hx3)
  clear hsm hx3 hk3 hp3 hp2 ho2 hb2 hgb hl
  go_wp2_with fail
  go_ret2
  have e9 := HP.out
  subst e9
  exact ⟨_, rfl, HH.out.1, HH.out.2⟩
set_option maxRecDepth 100000 in
set_option maxHeartbeats 4000000 in
theorem new_r (A : Option Addr) (c : Nat) (key : List UInt8) (w : World) (h : Rd w w.heap.size A 16 key) (hc : 16 ≤ c) (hcb : c ≤ 9223372036854775807) :
    Calls Tryd.prog 14 #[.int .i64 8, .slice A 16 c] w (NewRet w .r key) := by
  have hx0 := Ext.alloc w (.cells #[.int .i64 8, .int .u32 0, .int .u32 0, .slice none 0 0] 61)
  have hp0 := heap_alloc_new w (.cells #[.int .i64 8, .int .u32 0, .int .u32 0, .slice none 0 0] 61)
  have hcut := cut_any .r A 4 c key (w.alloc (.cells #[.int .i64 8, .int .u32 0, .int .u32 0, .slice none 0 0] 61)) (h.later hx0) (by omega) hc hcb
  rw [show T3.r.code = 8 from rfl, show 4 * 4 = 16 from rfl] at hcut
  have HCUT := hid hcut
  have HX0 := hid hx0
  have HP0 := hid hp0
  clear h hx0 hp0 hcut
  go_enter Tryd.func14, Tryd.ntmps14
  go_wp2_with (first
    | (go_at_call 26; refine (bytes_r _).mono ?_; rintro e w' ⟨rfl, rfl⟩)
    | (go_at_call 27; refine HCUT.out.mono ?_; rintro e w1 ⟨rfl, ho1, hb1⟩))
  have hz1 := Below.size hb1
  have hsz : (w.alloc (.cells #[.int .i64 8, .int .u32 0, .int .u32 0, .slice none 0 0] 61)).heap.size = w.heap.size + 1 := by simp
  rw [hsz] at ho1 hb1 hz1
  obtain ⟨p, hp⟩ : ∃ p, w.heap.size = p := ⟨_, rfl⟩
  have hbw := bw_of_own ho1
  have hkw := OwnW.kw ho1 (words_length .r key 4)
  rw [hp] at ho1 hb1 hz1 hbw hkw HP0 ⊢
  have hp1 : w1.heap[p]? = some (.cells #[.int .i64 8, .int .u32 0, .int .u32 0, .slice none 0 0] 61 (0, 0)) := (hb1.block p (by omega)).trans HP0.out
  have hx1 : Below p w w1 := Below.trans (by rw [← hp]; exact HX0.out) (Below.mono hb1 (by omega))
  have HP := hid hp
  have HX1 := hid hx1
  have HP1 := hid hp1
  have HBW := hid hbw
  have HKW := hid hkw
  clear ho1 hb1 hp hbw hkw hp1 hx1 HX0 HP0 HCUT
  have hg28 := rkeys_any (p + 1) (words .r key 4) w1 HBW.out (words_length _ _ _)
  refine hg28.mono ?_
  clear hg28
  rintro e w2 ⟨g2, c2, rfl, hc, ho2, hb2⟩
  rw [show (rcAt (rcBegin (words .r key 4)) 78).s = rc5S key from rfl] at ho2
  have hp2 : w2.heap[p]? = some (.cells #[.int .i64 8, .int .u32 0, .int .u32 0, .slice none 0 0] 61 (0, 0)) := (hb2.block p (by omega)).trans HP1.out
  have hf1 := frozen_of_row w2 p 1 _ 61 hp2
  have hf2 := frozen_of_row w2 p 2 _ 61 hp2
  have hf3 := frozen_of_row w2 p 3 _ 61 hp2
  have hc1 : w2.cell? ⟨p, 1, none⟩ = some (.int .u32 0) := by rw [cell_of_heap hp2]; rfl
  have hc2 : w2.cell? ⟨p, 2, none⟩ = some (.int .u32 0) := by rw [cell_of_heap hp2]; rfl
  have hc3 : w2.cell? ⟨p, 3, none⟩ = some (.slice none 0 0) := by rw [cell_of_heap hp2]; rfl
  have hkw2 := OwnW.kw ho2 (rc5S_length key)
  have hs0 := hkw2 0 (by rw [rc5S_length]; omega)
  have hs1 := hkw2 1 (by rw [rc5S_length]; omega)
  rw [Nat.add_zero] at hs0
  rw [Nat.zero_add] at hs1
  have hgb := OwnN.base_le ho2
  have HP2 := hid hp2
  have HKW2 := hid hkw2
  have HB2 := hid hb2
  have hne : ¬ p = g2 := by omega
  have hne2 : ¬ g2 = p := by omega
  obtain ⟨s0, hs0e⟩ : ∃ s, (rc5S key).getD 0 0 = s := ⟨_, rfl⟩
  obtain ⟨s1, hs1e⟩ : ∃ s, (rc5S key).getD 1 0 = s := ⟨_, rfl⟩
  rw [hs0e] at hs0
  rw [hs1e] at hs1
  have HE0 := hid hs0e
  have HE1 := hid hs1e
  clear ho2 hp2 hkw2 hb2 hs0e hs1e
  go_wp2_with fail
  have hat := fun w => run_arrayAt (P := Tryd.prog) w 58 43 2 (some ⟨g2, 0, none⟩) 26 c2 Tryd.underlying58 (by omega)
  have hat2 : (if c2 = 2 then some (⟨g2, 0, none⟩ : Addr) else some ⟨g2, 2, none⟩) = some ⟨g2, 2, none⟩ := if_neg (by omega)
  go_region
  have hp3 := heap_setCell_same w2 p 1 _ 61 (.int .u32 (s0.toNat : Nat)) HP2.out
  have hp4 := heap_setCell_same _ p 2 _ 61 (.int .u32 (s1.toNat : Nat)) hp3
  have hp5 := heap_setCell_same _ p 3 _ 61 (.slice (some ⟨g2, 2, none⟩) 24 (c2 - 2)) hp4
  have hk5 := ((HKW2.out.setne ⟨p, 1, none⟩ (.int .u32 (s0.toNat : Nat)) hne2).setne ⟨p, 2, none⟩ (.int .u32 (s1.toNat : Nat)) hne2).setne ⟨p, 3, none⟩ (.slice (some ⟨g2, 2, none⟩) 24 (c2 - 2)) hne2
  have hx5 : Below p w (((w2.setCell ⟨p, 1, none⟩ (.int .u32 (s0.toNat : Nat))).setCell ⟨p, 2, none⟩ (.int .u32 (s1.toNat : Nat))).setCell ⟨p, 3, none⟩ (.slice (some ⟨g2, 2, none⟩) 24 (c2 - 2))).drew :=
    ((((Below.trans HX1.out (Below.mono HB2.out (by omega))).setCell (by simp) _).setCell (by simp) _).setCell (by simp) _).drew
  have hl := keysOf_length .r key
  rw [show nKeys .r = 24 from rfl] at hl
  have hah : aheadOf .r key = ⟨s0, s1⟩ := by rw [← HE0.out, ← HE1.out]; rfl
  have hsm : IsSmall (((w2.setCell ⟨p, 1, none⟩ (.int .u32 (s0.toNat : Nat))).setCell ⟨p, 2, none⟩ (.int .u32 (s1.toNat : Nat))).setCell ⟨p, 3, none⟩ (.slice (some ⟨g2, 2, none⟩) 24 (c2 - 2))).drew p .r (aheadOf .r key) (keysOf .r key) := by
    rw [hah]
    refine small_of (b := g2) (o := 2) (c := c2 - 2) ?_ (by rw [hl]; omega) ?_
    · rw [hl]; exact hp5
    · intro j hj
      rw [hl] at hj
      have h9 := hk5 (2 + j) (by rw [rc5S_length]; omega)
      rw [Nat.zero_add] at h9
      rw [show (keysOf .r key).getD j 0 = (rc5S key).getD (2 + j) 0 by simp [keysOf]]
      exact h9
  have HH := hid (And.intro hsm hx5)
  clear hsm hx5 hk5 hp5 hp4 hp3 hl hah
  go_wp2_with fail
  go_ret2
  have e9 := HP.out
  subst e9
  exact ⟨_, rfl, HH.out.1, HH.out.2⟩
end Go.Proofs.YtgkfohgeelfceaaDoor
