/- New of the program once more: its blocks are its own; own lemmas of the verifier, no statement is proved here. -/
import Derived.Test.YtgkfohgeelfceaaDoorX13
namespace Go.Proofs.YtgkfohgeelfceaaDoor
open Go.RowKit
/-- A Small in blocks of its own, from block H on. -/
def IsNew (H : Nat) (w : World) (p : Nat) (t : T3) (ah : W2) (ks : List UInt32) : Prop := H ≤ p ∧ ∃ b o c, H ≤ b ∧ Small_ w p b o c t ah ks
theorem IsNew.small {H : Nat} {w : World} {p : Nat} {t : T3} {ah : W2} {ks : List UInt32} (h : IsNew H w p t ah ks) : IsSmall w p t ah ks := by
  obtain ⟨_, b, o, c, _, h⟩ := h
  exact ⟨b, o, c, h⟩
theorem IsNew.later {H : Nat} {w w' : World} {p : Nat} {t : T3} {ah : W2} {ks : List UInt32} (h : IsNew H w p t ah ks) (hx : Ext w w') : IsNew H w' p t ah ks := by
  obtain ⟨h1, b, o, c, h2, h⟩ := h
  exact ⟨h1, b, o, c, h2, h.later hx⟩
/-- What New hands back. -/
def NewRetO (w : World) (t : T3) (key : List UInt8) (e : Ending) (w' : World) : Prop := ∃ p, e = .returned (.tuple #[.pointer (some ⟨p, 0, none⟩), .int .i64 0]) ∧ IsNew w.heap.size w' p t (aheadOf t key) (keysOf t key) ∧ Ext w w'
/-- The block of a Small, and its keys apart from it. -/
theorem small_ofO {w : World} {H p b o c : Nat} {t : T3} {ah : W2} {ks : List UInt32} (hH : H ≤ p) (hb : H ≤ b) (hp : w.heap[p]? = some (.cells #[.int .i64 t.code, .int .u32 (ah.a.toNat : Nat), .int .u32 (ah.b.toNat : Nat), .slice (some ⟨b, o, none⟩) ks.length c] 61 (0, 0)))
    (hc : ks.length ≤ c) (hk : KW w b o ks) : IsNew H w p t ah ks :=
  ⟨hH, b, o, c, hb, ⟨by rw [cell_of_heap hp]; rfl, by rw [cell_of_heap hp]; rfl, by rw [cell_of_heap hp]; rfl, by rw [cell_of_heap hp]; rfl, hc, hk⟩⟩
set_option maxRecDepth 100000 in
set_option maxHeartbeats 4000000 in
theorem new_xO (A : Option Addr) (c : Nat) (key : List UInt8) (w : World) (h : Rd w w.heap.size A 16 key) (hc : 16 ≤ c) (hcb : c ≤ 9223372036854775807) :
    Calls Tryd.prog 14 #[.int .i64 4, .slice A 16 c] w (NewRetO w .x key) := by
  have hx0 := Ext.alloc w (.cells #[.int .i64 4, .int .u32 0, .int .u32 0, .slice none 0 0] 61)
  have hp0 := heap_alloc_new w (.cells #[.int .i64 4, .int .u32 0, .int .u32 0, .slice none 0 0] 61)
  have hcut := cut_any .x A 4 c key (w.alloc (.cells #[.int .i64 4, .int .u32 0, .int .u32 0, .slice none 0 0] 61)) (h.later hx0) (by omega) hc hcb
  rw [show T3.x.code = 4 from rfl, show 4 * 4 = 16 from rfl] at hcut
  have HCUT := hid hcut
  have HX0 := hid hx0
  have HP0 := hid hp0
  clear h hx0 hp0 hcut
  go_enter Tryd.func14, Tryd.ntmps14
  go_wp2_with (first
    | (go_at_call 26; refine (bytes_x _).mono ?_; rintro e w' ⟨rfl, rfl⟩)
    | (go_at_call 27; refine HCUT.out.mono ?_; rintro e w1 ⟨rfl, ho1, hb1⟩))
  have hz1 := Below.size hb1
  have hsz : (w.alloc (.cells #[.int .i64 4, .int .u32 0, .int .u32 0, .slice none 0 0] 61)).heap.size = w.heap.size + 1 := by simp
  rw [hsz] at ho1 hb1 hz1
  obtain ⟨p, hp⟩ : ∃ p, w.heap.size = p := ⟨_, rfl⟩
  have hbw := bw_of_own ho1
  have hkw := OwnW.kw ho1 (words_length .x key 4)
  rw [hp] at ho1 hb1 hz1 hbw hkw HP0 ⊢
  have hp1 : w1.heap[p]? = some (.cells #[.int .i64 4, .int .u32 0, .int .u32 0, .slice none 0 0] 61 (0, 0)) := (hb1.block p (by omega)).trans HP0.out
  have hx1 : Below p w w1 := Below.trans (by rw [← hp]; exact HX0.out) (Below.mono hb1 (by omega))
  have HP := hid hp
  have HX1 := hid hx1
  have HP1 := hid hp1
  have HBW := hid hbw
  have HKW := hid hkw
  clear ho1 hb1 hp hbw hkw hp1 hx1 HX0 HP0 HCUT
  have hg28 := xkeys_any (p + 1) 4 (words .x key 4) w1 HKW.out (words_length _ _ _)
  refine hg28.mono ?_
  clear hg28
  rintro e w2 ⟨g2, c2, rfl, hc, _, ho2, hx2⟩
  have hb2 : Below (p + 1) w1 w2 := Below.mono hx2 hz1
  have hp2 : w2.heap[p]? = some (.cells #[.int .i64 4, .int .u32 0, .int .u32 0, .slice none 0 0] 61 (0, 0)) := (hb2.block p (by omega)).trans HP1.out
  have hf2 := frozen_of_row w2 p 3 _ 61 hp2
  have hc2 : w2.cell? ⟨p, 3, none⟩ = some (.slice none 0 0) := by rw [cell_of_heap hp2]; rfl
  have hp3 := heap_setCell_same w2 p 3 _ 61 (.slice (some ⟨g2, 0, none⟩) 64 c2) hp2
  have hgb := OwnN.base_le ho2
  have hk3 := (OwnW.kw ho2 (by rw [xkeys_eq, keysOf_length]; rfl)).setne ⟨p, 3, none⟩ (.slice (some ⟨g2, 0, none⟩) 64 c2) (by simp; omega)
  rw [xkeys_eq] at hk3
  have hl := keysOf_length .x key
  rw [show nKeys .x = 64 from rfl] at hl
  have hx3 : Below p w (w2.setCell ⟨p, 3, none⟩ (.slice (some ⟨g2, 0, none⟩) 64 c2)) := (Below.trans HX1.out (Below.mono hb2 (by omega))).setCell (by simp) _
  have hsm : IsNew p (w2.setCell ⟨p, 3, none⟩ (.slice (some ⟨g2, 0, none⟩) 64 c2)) p .x (aheadOf .x key) (keysOf .x key) := by
    refine small_ofO (b := g2) (Nat.le_refl _) (by omega) (o := 0) (c := c2) ?_ (by rw [hl]; exact hc) hk3
    rw [hl]; exact hp3
  have HH := hid (And.intro hsm hx3)
  clear hsm hx3 hk3 hp3 hp2 ho2 hb2 hgb hl
  go_wp2_with fail
  go_ret2
  have e9 := HP.out
  subst e9
  exact ⟨_, rfl, HH.out.1, HH.out.2⟩
set_option maxRecDepth 100000 in
set_option maxHeartbeats 4000000 in
theorem new_mO (A : Option Addr) (c : Nat) (key : List UInt8) (w : World) (h : Rd w w.heap.size A 32 key) (hc : 32 ≤ c) (hcb : c ≤ 9223372036854775807) :
    Calls Tryd.prog 14 #[.int .i64 5, .slice A 32 c] w (NewRetO w .m key) := by
  have hx0 := Ext.alloc w (.cells #[.int .i64 5, .int .u32 0, .int .u32 0, .slice none 0 0] 61)
  have hp0 := heap_alloc_new w (.cells #[.int .i64 5, .int .u32 0, .int .u32 0, .slice none 0 0] 61)
  have hcut := cut_any .m A 8 c key (w.alloc (.cells #[.int .i64 5, .int .u32 0, .int .u32 0, .slice none 0 0] 61)) (h.later hx0) (by omega) hc hcb
  rw [show T3.m.code = 5 from rfl, show 4 * 8 = 32 from rfl] at hcut
  have HCUT := hid hcut
  have HX0 := hid hx0
  have HP0 := hid hp0
  clear h hx0 hp0 hcut
  go_enter Tryd.func14, Tryd.ntmps14
  go_wp2_with (first
    | (go_at_call 26; refine (bytes_m _).mono ?_; rintro e w' ⟨rfl, rfl⟩)
    | (go_at_call 27; refine HCUT.out.mono ?_; rintro e w1 ⟨rfl, ho1, hb1⟩))
  have hz1 := Below.size hb1
  have hsz : (w.alloc (.cells #[.int .i64 5, .int .u32 0, .int .u32 0, .slice none 0 0] 61)).heap.size = w.heap.size + 1 := by simp
  rw [hsz] at ho1 hb1 hz1
  obtain ⟨p, hp⟩ : ∃ p, w.heap.size = p := ⟨_, rfl⟩
  have hbw := bw_of_own ho1
  have hkw := OwnW.kw ho1 (words_length .m key 8)
  rw [hp] at ho1 hb1 hz1 hbw hkw HP0 ⊢
  have hp1 : w1.heap[p]? = some (.cells #[.int .i64 5, .int .u32 0, .int .u32 0, .slice none 0 0] 61 (0, 0)) := (hb1.block p (by omega)).trans HP0.out
  have hx1 : Below p w w1 := Below.trans (by rw [← hp]; exact HX0.out) (Below.mono hb1 (by omega))
  have HP := hid hp
  have HX1 := hid hx1
  have HP1 := hid hp1
  have HBW := hid hbw
  have HKW := hid hkw
  clear ho1 hb1 hp hbw hkw hp1 hx1 HX0 HP0 HCUT
  have hg28 := mkeys_any (p + 1) (words .m key 8) w1 HBW.out (words_length _ _ _)
  refine hg28.mono ?_
  clear hg28
  rintro e w2 ⟨g2, c2, rfl, hc, ho2, hb2⟩
  have hp2 : w2.heap[p]? = some (.cells #[.int .i64 5, .int .u32 0, .int .u32 0, .slice none 0 0] 61 (0, 0)) := (hb2.block p (by omega)).trans HP1.out
  have hf2 := frozen_of_row w2 p 3 _ 61 hp2
  have hc2 : w2.cell? ⟨p, 3, none⟩ = some (.slice none 0 0) := by rw [cell_of_heap hp2]; rfl
  have hp3 := heap_setCell_same w2 p 3 _ 61 (.slice (some ⟨g2, 0, none⟩) 32 c2) hp2
  have hgb := OwnN.base_le ho2
  have hk3 := (OwnW.kw ho2 (by rw [mkeys_eq, keysOf_length]; rfl)).setne ⟨p, 3, none⟩ (.slice (some ⟨g2, 0, none⟩) 32 c2) (by simp; omega)
  rw [mkeys_eq] at hk3
  have hl := keysOf_length .m key
  rw [show nKeys .m = 32 from rfl] at hl
  have hx3 : Below p w (w2.setCell ⟨p, 3, none⟩ (.slice (some ⟨g2, 0, none⟩) 32 c2)) := (Below.trans HX1.out (Below.mono hb2 (by omega))).setCell (by simp) _
  have hsm : IsNew p (w2.setCell ⟨p, 3, none⟩ (.slice (some ⟨g2, 0, none⟩) 32 c2)) p .m (aheadOf .m key) (keysOf .m key) := by
    refine small_ofO (b := g2) (Nat.le_refl _) (by omega) (o := 0) (c := c2) ?_ (by rw [hl]; exact hc) hk3
    rw [hl]; exact hp3
  have HH := hid (And.intro hsm hx3)
  clear hsm hx3 hk3 hp3 hp2 ho2 hb2 hgb hl
  go_wp2_with fail
  go_ret2
  have e9 := HP.out
  subst e9
  exact ⟨_, rfl, HH.out.1, HH.out.2⟩
set_option maxRecDepth 100000 in
set_option maxHeartbeats 4000000 in
theorem new_rO (A : Option Addr) (c : Nat) (key : List UInt8) (w : World) (h : Rd w w.heap.size A 16 key) (hc : 16 ≤ c) (hcb : c ≤ 9223372036854775807) :
    Calls Tryd.prog 14 #[.int .i64 8, .slice A 16 c] w (NewRetO w .r key) := by
  have hx0 := Ext.alloc w (.cells #[.int .i64 8, .int .u32 0, .int .u32 0, .slice none 0 0] 61)
  have hp0 := heap_alloc_new w (.cells #[.int .i64 8, .int .u32 0, .int .u32 0, .slice none 0 0] 61)
  have hcut := cut_any .r A 4 c key (w.alloc (.cells #[.int .i64 8, .int .u32 0, .int .u32 0, .slice none 0 0] 61)) (h.later hx0) (by omega) hc hcb
  rw [show T3.r.code = 8 from rfl, show 4 * 4 = 16 from rfl] at hcut
  have HCUT := hid hcut
  have HX0 := hid hx0
  have HP0 := hid hp0
  clear h hx0 hp0 hcut
  go_enter Tryd.func14, Tryd.ntmps14
  go_wp2_with (first
    | (go_at_call 26; refine (bytes_r _).mono ?_; rintro e w' ⟨rfl, rfl⟩)
    | (go_at_call 27; refine HCUT.out.mono ?_; rintro e w1 ⟨rfl, ho1, hb1⟩))
  have hz1 := Below.size hb1
  have hsz : (w.alloc (.cells #[.int .i64 8, .int .u32 0, .int .u32 0, .slice none 0 0] 61)).heap.size = w.heap.size + 1 := by simp
  rw [hsz] at ho1 hb1 hz1
  obtain ⟨p, hp⟩ : ∃ p, w.heap.size = p := ⟨_, rfl⟩
  have hbw := bw_of_own ho1
  have hkw := OwnW.kw ho1 (words_length .r key 4)
  rw [hp] at ho1 hb1 hz1 hbw hkw HP0 ⊢
  have hp1 : w1.heap[p]? = some (.cells #[.int .i64 8, .int .u32 0, .int .u32 0, .slice none 0 0] 61 (0, 0)) := (hb1.block p (by omega)).trans HP0.out
  have hx1 : Below p w w1 := Below.trans (by rw [← hp]; exact HX0.out) (Below.mono hb1 (by omega))
  have HP := hid hp
  have HX1 := hid hx1
  have HP1 := hid hp1
  have HBW := hid hbw
  have HKW := hid hkw
  clear ho1 hb1 hp hbw hkw hp1 hx1 HX0 HP0 HCUT
  have hg28 := rkeys_any (p + 1) (words .r key 4) w1 HBW.out (words_length _ _ _)
  refine hg28.mono ?_
  clear hg28
  rintro e w2 ⟨g2, c2, rfl, hc, ho2, hb2⟩
  rw [show (rcAt (rcBegin (words .r key 4)) 78).s = rc5S key from rfl] at ho2
  have hp2 : w2.heap[p]? = some (.cells #[.int .i64 8, .int .u32 0, .int .u32 0, .slice none 0 0] 61 (0, 0)) := (hb2.block p (by omega)).trans HP1.out
  have hf1 := frozen_of_row w2 p 1 _ 61 hp2
  have hf2 := frozen_of_row w2 p 2 _ 61 hp2
  have hf3 := frozen_of_row w2 p 3 _ 61 hp2
  have hc1 : w2.cell? ⟨p, 1, none⟩ = some (.int .u32 0) := by rw [cell_of_heap hp2]; rfl
  have hc2 : w2.cell? ⟨p, 2, none⟩ = some (.int .u32 0) := by rw [cell_of_heap hp2]; rfl
  have hc3 : w2.cell? ⟨p, 3, none⟩ = some (.slice none 0 0) := by rw [cell_of_heap hp2]; rfl
  have hkw2 := OwnW.kw ho2 (rc5S_length key)
  have hs0 := hkw2 0 (by rw [rc5S_length]; omega)
  have hs1 := hkw2 1 (by rw [rc5S_length]; omega)
  rw [Nat.add_zero] at hs0
  rw [Nat.zero_add] at hs1
  have hgb := OwnN.base_le ho2
  have HP2 := hid hp2
  have HKW2 := hid hkw2
  have HB2 := hid hb2
  have hne : ¬ p = g2 := by omega
  have hne2 : ¬ g2 = p := by omega
  obtain ⟨s0, hs0e⟩ : ∃ s, (rc5S key).getD 0 0 = s := ⟨_, rfl⟩
  obtain ⟨s1, hs1e⟩ : ∃ s, (rc5S key).getD 1 0 = s := ⟨_, rfl⟩
  rw [hs0e] at hs0
  rw [hs1e] at hs1
  have HE0 := hid hs0e
  have HE1 := hid hs1e
  clear ho2 hp2 hkw2 hb2 hs0e hs1e
  go_wp2_with fail
  have hat := fun w => run_arrayAt (P := Tryd.prog) w 58 43 2 (some ⟨g2, 0, none⟩) 26 c2 Tryd.underlying58 (by omega)
  have hat2 : (if c2 = 2 then some (⟨g2, 0, none⟩ : Addr) else some ⟨g2, 2, none⟩) = some ⟨g2, 2, none⟩ := if_neg (by omega)
  go_region
  have hp3 := heap_setCell_same w2 p 1 _ 61 (.int .u32 (s0.toNat : Nat)) HP2.out
  have hp4 := heap_setCell_same _ p 2 _ 61 (.int .u32 (s1.toNat : Nat)) hp3
  have hp5 := heap_setCell_same _ p 3 _ 61 (.slice (some ⟨g2, 2, none⟩) 24 (c2 - 2)) hp4
  have hk5 := ((HKW2.out.setne ⟨p, 1, none⟩ (.int .u32 (s0.toNat : Nat)) hne2).setne ⟨p, 2, none⟩ (.int .u32 (s1.toNat : Nat)) hne2).setne ⟨p, 3, none⟩ (.slice (some ⟨g2, 2, none⟩) 24 (c2 - 2)) hne2
  have hx5 : Below p w (((w2.setCell ⟨p, 1, none⟩ (.int .u32 (s0.toNat : Nat))).setCell ⟨p, 2, none⟩ (.int .u32 (s1.toNat : Nat))).setCell ⟨p, 3, none⟩ (.slice (some ⟨g2, 2, none⟩) 24 (c2 - 2))).drew :=
    ((((Below.trans HX1.out (Below.mono HB2.out (by omega))).setCell (by simp) _).setCell (by simp) _).setCell (by simp) _).drew
  have hl := keysOf_length .r key
  rw [show nKeys .r = 24 from rfl] at hl
  have hah : aheadOf .r key = ⟨s0, s1⟩ := by rw [← HE0.out, ← HE1.out]; rfl
  have hsm : IsNew p (((w2.setCell ⟨p, 1, none⟩ (.int .u32 (s0.toNat : Nat))).setCell ⟨p, 2, none⟩ (.int .u32 (s1.toNat : Nat))).setCell ⟨p, 3, none⟩ (.slice (some ⟨g2, 2, none⟩) 24 (c2 - 2))).drew p .r (aheadOf .r key) (keysOf .r key) := by
    rw [hah]
    refine small_ofO (b := g2) (Nat.le_refl _) (by omega) (o := 2) (c := c2 - 2) ?_ (by rw [hl]; omega) ?_
    · rw [hl]; exact hp5
    · intro j hj
      rw [hl] at hj
      have h9 := hk5 (2 + j) (by rw [rc5S_length]; omega)
      rw [Nat.zero_add] at h9
      rw [show (keysOf .r key).getD j 0 = (rc5S key).getD (2 + j) 0 by simp [keysOf]]
      exact h9
  have HH := hid (And.intro hsm hx5)
  clear hsm hx5 hk5 hp5 hp4 hp3 hl hah
  go_wp2_with fail
  go_ret2
  have e9 := HP.out
  subst e9
  exact ⟨_, rfl, HH.out.1, HH.out.2⟩
theorem newO_any (t : T3) (A : Option Addr) (c : Nat) (key : List UInt8) (w : World) (h : Rd w w.heap.size A t.size key) (hc : t.size ≤ c) (hcb : c ≤ 9223372036854775807) :
    Calls Tryd.prog 14 #[.int .i64 t.code, .slice A t.size c] w (NewRetO w t key) := by
  cases t
  · exact new_xO A c key w h hc hcb
  · exact new_mO A c key w h hc hcb
  · exact new_rO A c key w h hc hcb
/-- The same, in a slot. -/
def NewO (H : Nat) (t : T3) (key : List UInt8) (w : World) (v : Value) : Prop := ∃ p, v = .tuple #[.pointer (some ⟨p, 0, none⟩), .int .i64 0] ∧ IsNew H w p t (aheadOf t key) (keysOf t key)
theorem NewO.keep (H : Nat) (t : T3) (key : List UInt8) : ∀ w w' v, Ext w w' → NewO H t key w v → NewO H t key w' v := fun _ _ _ hx ⟨p, h1, h2⟩ => ⟨p, h1, h2.later hx⟩
def PtrO (H : Nat) (t : T3) (key : List UInt8) (w : World) (v : Value) : Prop := ∃ p, v = .pointer (some ⟨p, 0, none⟩) ∧ IsNew H w p t (aheadOf t key) (keysOf t key)
theorem PtrO.keep (H : Nat) (t : T3) (key : List UInt8) : ∀ w w' v, Ext w w' → PtrO H t key w v → PtrO H t key w' v := fun _ _ _ hx ⟨p, h1, h2⟩ => ⟨p, h1, h2.later hx⟩
theorem retNewO {w : World} {t : T3} {key : List UInt8} {H : Nat} (hH : H ≤ w.heap.size) (e : Ending) (w' : World) (h : NewRetO w t key e w') : ∃ v, e = .returned v ∧ Ext w w' ∧ K.holds (.gen (NewO H t key) (NewO.keep _ _ _)) w' v := by
  obtain ⟨p, rfl, ⟨h1, b, o, c, h2, h3⟩, hx⟩ := h
  exact ⟨_, rfl, hx, p, rfl, Nat.le_trans hH h1, b, o, c, Nat.le_trans hH h2, h3⟩
/-- Nothing but block g has turned, and memory has at most grown. -/
structure Keeps (g : Nat) (w w' : World) : Prop where
  size : w.heap.size ≤ w'.heap.size
  block : ∀ q, q ≠ g → q < w.heap.size → w'.heap[q]? = w.heap[q]?
theorem Keeps.refl (g : Nat) (w : World) : Keeps g w w := ⟨Nat.le_refl _, fun _ _ _ => rfl⟩
theorem Keeps.set {g : Nat} {w w' : World} (h : Keeps g w w') (j : Nat) (v : Value) : Keeps g w (w'.setCell ⟨g, j, none⟩ v) :=
  ⟨by simp; exact h.size, fun q hq hl => (heap_setCell_other w' ⟨g, j, none⟩ q v hq).trans (h.block q hq hl)⟩
theorem Keeps.cell {g : Nat} {w w' : World} (h : Keeps g w w') {p : Addr} {v : Value} (hp : p.block ≠ g) (hc : w.cell? p = some v) : w'.cell? p = some v :=
  (World.cell?_of_block (h.block _ hp (World.block_lt_of_cell? w _ hc))).trans hc
theorem Small_.keeps {g : Nat} {w w' : World} {p b o c : Nat} {t : T3} {ah : W2} {ks : List UInt32} (h : Small_ w p b o c t ah ks) (hk : Keeps g w w') (hp : p ≠ g) (hb : b ≠ g) : Small_ w' p b o c t ah ks :=
  ⟨hk.cell hp h.tag, hk.cell hp h.a0, hk.cell hp h.a1, hk.cell hp h.keys, h.room, fun j hj => hk.cell hb (h.at_ j hj)⟩
theorem IsNew.keeps {H g : Nat} {w w' : World} {p : Nat} {t : T3} {ah : W2} {ks : List UInt32} (h : IsNew H w p t ah ks) (hk : Keeps g w w') (hg : g < H) : IsNew H w' p t ah ks := by
  obtain ⟨h1, b, o, c, h2, h⟩ := h
  exact ⟨h1, b, o, c, h2, h.keeps hk (by omega) (by omega)⟩
theorem nKeys_pos (t : T3) : 0 < nKeys t := by cases t <;> decide
/-- What stood ahead of block S is apart from all blocks from S on. -/
theorem IsNew.keeps_hi {H g : Nat} {w0 w w' : World} {p : Nat} {t : T3} {key : List UInt8} {ah : W2} (h0 : IsNew H w0 p t ah (keysOf t key)) (hx : Ext w0 w) (hk : Keeps g w w') (hS : w0.heap.size ≤ g) : IsNew H w' p t ah (keysOf t key) := by
  obtain ⟨h1, b, o, c, h2, h⟩ := h0
  have hp : p < w0.heap.size := World.block_lt_of_cell? w0 ⟨p, 0, none⟩ h.tag
  have hb : b < w0.heap.size := World.block_lt_of_cell? w0 ⟨b, o + 0, none⟩ (h.at_ 0 (by rw [keysOf_length]; exact nKeys_pos t))
  exact ⟨h1, b, o, c, h2, (h.later hx).keeps hk (by omega) (by omega)⟩
theorem GRows.keeps {g : Nat} {w w' : World} (h : GRows w) (hk : Keeps g w w') (hg : 0 ≠ g) : GRows w' := fun j hj => hk.cell hg (h j hj)
theorem Rd.keeps {g b n : Nat} {w w' : World} {B : Nat} {bs : List UInt8} (h : Rd w B (some ⟨b, 0, none⟩) n bs) (hk : Keeps g w w') (hb : b ≠ g) (hB : b < w'.heap.size) : Rd w' w'.heap.size (some ⟨b, 0, none⟩) n bs := by
  refine ⟨h.len, fun hn => ?_⟩
  obtain ⟨b', o', e, _, hc⟩ := h.at_ hn
  obtain rfl := (Addr.mk.inj (Option.some.inj e)).1
  obtain rfl := (Addr.mk.inj (Option.some.inj e)).2.1
  exact ⟨b, 0, rfl, hB, fun k hk' => hk.cell hb (hc k hk')⟩
theorem Own.keeps {g g' base n c : Nat} {w w' : World} {bs : List UInt8} (h : Own w base (.slice (some ⟨g', 0, none⟩) n c) bs) (hk : Keeps g w w') (hne : g' ≠ g) : Own w' base (.slice (some ⟨g', 0, none⟩) n c) bs := by
  refine ⟨h.1, ?_⟩
  rcases h.2 with hn | ⟨g1, cap, cur, h1, hbg, hh, r⟩
  · exact .inl hn
  · simp only [Value.slice.injEq, Option.some.injEq, Addr.mk.injEq, and_true] at h1
    obtain ⟨rfl, rfl, rfl⟩ := h1
    exact .inr ⟨g', c, cur, rfl, hbg, by rw [hk.block g' hne (Array.getElem?_eq_some_iff.1 hh).1]; exact hh, r⟩
/-- Own bytes, one at least: where they stand. -/
theorem Own.at_ {w : World} {base n : Nat} {v : Value} {bs : List UInt8} (h : Own w base v bs) (hn : bs.length = n) (h0 : 0 < n) : ∃ g c, v = .slice (some ⟨g, 0, none⟩) n c ∧ base ≤ g ∧ g < w.heap.size ∧ n ≤ c ∧ c ≤ 9223372036854775807 ∧ Own w base (.slice (some ⟨g, 0, none⟩) n c) bs ∧ Rd w w.heap.size (some ⟨g, 0, none⟩) n bs := by
  obtain ⟨A, c, rfl, h1, h2, h3⟩ := h.rdm hn
  rcases h.2 with ⟨h4, h5⟩ | ⟨g, cap, cur, h4, _⟩
  · simp only [Value.slice.injEq] at h4
    omega
  · simp only [Value.slice.injEq] at h4
    obtain ⟨rfl, _, rfl⟩ := h4
    have hb := Own.base_le (show Own w base (.slice (some ⟨g, 0, none⟩) n c) bs from h)
    exact ⟨g, c, rfl, hb.1, hb.2, h1, h2, h, h3⟩
end Go.Proofs.YtgkfohgeelfceaaDoor
