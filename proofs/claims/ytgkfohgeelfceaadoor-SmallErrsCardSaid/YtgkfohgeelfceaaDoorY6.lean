/- Walks over the reference's New and Block; own lemmas of the verifier, no statement is proved here. -/
import Derived.Test.YtgkfohgeelfceaaDoorY5
namespace Go.Proofs.YtgkfohgeelfceaaDoor
open Go.RowKit
def refKs : T3 → List UInt8 → List UInt32
  | .x, key => words .x key 4
  | .m, key => words .m key 8
  | .r, key => rc5S key
def refN : T3 → Nat
  | .x => 4
  | .m => 8
  | .r => 26
def IsRef (w : World) (p : Nat) (t : T3) (key : List UInt8) : Prop := ∃ g c, RefS w p g (refN t) c t (refKs t key)
theorem IsRef.later {w w' : World} {p : Nat} {t : T3} {key : List UInt8} (h : IsRef w p t key) (hx : Ext w w') : IsRef w' p t key := by
  obtain ⟨g, c, h⟩ := h
  exact ⟨g, c, h.later hx⟩
/-- What the reference's New hands back. -/
def RNew (w : World) (t : T3) (key : List UInt8) (e : Ending) (w' : World) : Prop := ∃ p, e = .returned (.tuple #[.pointer (some ⟨p, 0, none⟩), .int .i64 0]) ∧ IsRef w' p t key ∧ Ext w w'
theorem refs_of {w : World} {g n c : Nat} {t : T3} {ks : List UInt32} (ho : OwnW w g (.slice (some ⟨g, 0, none⟩) n c) ks) (hl : ks.length = n) (hc : n ≤ c) :
    RefS (w.alloc (.cells #[.int .i64 t.code, .slice (some ⟨g, 0, none⟩) n c] 66)) w.heap.size g n c t ks :=
  have hp := heap_alloc_new w (.cells #[.int .i64 t.code, .slice (some ⟨g, 0, none⟩) n c] 66)
  ⟨by rw [cell_of_heap hp]; rfl, by rw [cell_of_heap hp]; rfl, hc, hl, (OwnW.kw ho hl).later (Ext.alloc _ _)⟩
theorem OwnW.self {w : World} {base g n c : Nat} {ks : List UInt32} (h : OwnW w base (.slice (some ⟨g, 0, none⟩) n c) ks) : OwnW w g (.slice (some ⟨g, 0, none⟩) n c) ks := by
  refine ⟨h.1, ?_⟩
  rcases h.2 with hn | ⟨g', cap, cur, h1, hbg, r⟩
  · exact .inl hn
  · simp only [Value.slice.injEq, Option.some.injEq, Addr.mk.injEq, and_true] at h1
    obtain ⟨rfl, h2, h3⟩ := h1
    exact .inr ⟨g, cap, cur, by rw [h2, h3], Nat.le_refl _, r⟩
set_option maxHeartbeats 1000000 in
theorem rnew_x (A : Option Addr) (c : Nat) (key : List UInt8) (w : World) (h : Rd w w.heap.size A 16 key) (hc : 16 ≤ c) (hcb : c ≤ 9223372036854775807) :
    Calls Tryd.prog 17 #[.int .i64 4, .slice A 16 c] w (RNew w .x key) := by
  have hb := rbig_any .x (by decide) A 4 c key w h (by omega) (by omega) hc hcb
  rw [show 4 * 4 = 16 from rfl] at hb
  have HB := hid hb
  clear h hb
  go_enter Tryd.func17, Tryd.ntmps17
  go_wp2_with fail
  refine HB.out.mono ?_
  rintro e w1 ⟨g, c1, rfl, hc1, hm1, ho, hx⟩
  have hr := refs_of (t := .x) (OwnW.self ho) (words_length _ _ _) hc1
  have hx2 := Ext.trans hx (Ext.alloc w1 (.cells #[.int .i64 T3.x.code, .slice (some ⟨g, 0, none⟩) 4 c1] 66))
  have HR := hid hr
  have HX := hid hx2
  clear hr hx2 ho hx
  go_wp2_with fail
  go_ret2
  exact ⟨_, rfl, ⟨g, c1, HR.out⟩, HX.out⟩
set_option maxHeartbeats 1000000 in
theorem rnew_m (A : Option Addr) (c : Nat) (key : List UInt8) (w : World) (h : Rd w w.heap.size A 32 key) (hc : 32 ≤ c) (hcb : c ≤ 9223372036854775807) :
    Calls Tryd.prog 17 #[.int .i64 5, .slice A 32 c] w (RNew w .m key) := by
  have hb := rbig_any .m (by decide) A 8 c key w h (by omega) (by omega) hc hcb
  rw [show 4 * 8 = 32 from rfl] at hb
  have HB := hid hb
  clear h hb
  go_enter Tryd.func17, Tryd.ntmps17
  go_wp2_with fail
  refine HB.out.mono ?_
  rintro e w1 ⟨g, c1, rfl, hc1, hm1, ho, hx⟩
  have hr := refs_of (t := .m) (OwnW.self ho) (words_length _ _ _) hc1
  have hx2 := Ext.trans hx (Ext.alloc w1 (.cells #[.int .i64 T3.m.code, .slice (some ⟨g, 0, none⟩) 8 c1] 66))
  have HR := hid hr
  have HX := hid hx2
  clear hr hx2 ho hx
  go_wp2_with fail
  go_ret2
  exact ⟨_, rfl, ⟨g, c1, HR.out⟩, HX.out⟩
set_option maxHeartbeats 1000000 in
theorem rnew_r (A : Option Addr) (c : Nat) (key : List UInt8) (w : World) (h : Rd w w.heap.size A 16 key) (hc : 16 ≤ c) (hcb : c ≤ 9223372036854775807) :
    Calls Tryd.prog 17 #[.int .i64 8, .slice A 16 c] w (RNew w .r key) := by
  have hb := stretched_any A c key w h hc hcb
  have HB := hid hb
  clear h hb
  go_enter Tryd.func17, Tryd.ntmps17
  go_wp2_with fail
  refine HB.out.mono ?_
  rintro e w1 ⟨g, c1, rfl, hc1, hm1, ho, hx⟩
  have hr := refs_of (t := .r) (OwnW.self ho) (rc5S_length _) hc1
  have hx2 := Ext.trans hx (Ext.alloc w1 (.cells #[.int .i64 T3.r.code, .slice (some ⟨g, 0, none⟩) 26 c1] 66))
  have HR := hid hr
  have HX := hid hx2
  clear hr hx2 ho hx
  go_wp2_with fail
  go_ret2
  exact ⟨_, rfl, ⟨g, c1, HR.out⟩, HX.out⟩
theorem rnew_any (t : T3) (A : Option Addr) (c : Nat) (key : List UInt8) (w : World) (h : Rd w w.heap.size A t.size key) (hc : t.size ≤ c) (hcb : c ≤ 9223372036854775807) :
    Calls Tryd.prog 17 #[.int .i64 t.code, .slice A t.size c] w (RNew w t key) := by
  cases t
  · exact rnew_x A c key w h hc hcb
  · exact rnew_m A c key w h hc hcb
  · exact rnew_r A c key w h hc hcb
set_option maxHeartbeats 1000000 in
theorem rnew_tag (n : Int) (A : Option Addr) (m c : Nat) (w : World) (h4 : n ≠ 4) (h5 : n ≠ 5) (h8 : n ≠ 8) :
    Calls Tryd.prog 17 #[.int .i64 n, .slice A m c] w fun e w' => e = .returned (.tuple #[.pointer none, .int .i64 2]) ∧ Ext w w' := by
  have g4 : (n == 4) = false := by simp; omega
  have g5 : (n == 5) = false := by simp; omega
  have g8 : (n == 8) = false := by simp; omega
  go_enter Tryd.func17, Tryd.ntmps17
  go_wp2_with fail
  go_ret2
  exact ⟨rfl, Ext.refl _⟩
set_option maxHeartbeats 1000000 in
theorem rnew_key_x (A : Option Addr) (m c : Nat) (w : World) (h : m ≠ 16) :
    Calls Tryd.prog 17 #[.int .i64 4, .slice A m c] w fun e w' => e = .returned (.tuple #[.pointer none, .int .i64 4]) ∧ Ext w w' := by
  have g1 : ((m : Int) != 16) = true := by simp; omega
  go_enter Tryd.func17, Tryd.ntmps17
  go_wp2_with fail
  go_ret2
  exact ⟨rfl, Ext.refl _⟩
set_option maxHeartbeats 1000000 in
theorem rnew_key_m (A : Option Addr) (m c : Nat) (w : World) (h : m ≠ 32) :
    Calls Tryd.prog 17 #[.int .i64 5, .slice A m c] w fun e w' => e = .returned (.tuple #[.pointer none, .int .i64 4]) ∧ Ext w w' := by
  have g1 : ((m : Int) != 32) = true := by simp; omega
  go_enter Tryd.func17, Tryd.ntmps17
  go_wp2_with fail
  go_ret2
  exact ⟨rfl, Ext.refl _⟩
set_option maxHeartbeats 1000000 in
theorem rnew_key_r (A : Option Addr) (m c : Nat) (w : World) (h : m ≠ 16) :
    Calls Tryd.prog 17 #[.int .i64 8, .slice A m c] w fun e w' => e = .returned (.tuple #[.pointer none, .int .i64 4]) ∧ Ext w w' := by
  have g1 : ((m : Int) != 16) = true := by simp; omega
  go_enter Tryd.func17, Tryd.ntmps17
  go_wp2_with fail
  go_ret2
  exact ⟨rfl, Ext.refl _⟩
theorem rnew_key (t : T3) (A : Option Addr) (m c : Nat) (w : World) (h : m ≠ t.size) :
    Calls Tryd.prog 17 #[.int .i64 t.code, .slice A m c] w fun e w' => e = .returned (.tuple #[.pointer none, .int .i64 4]) ∧ Ext w w' := by
  cases t
  · exact rnew_key_x A m c w h
  · exact rnew_key_m A m c w h
  · exact rnew_key_r A m c w h
/-- The reference's Small, with no errno, in a slot. -/
def RefP (t : T3) (key : List UInt8) (w : World) (v : Value) : Prop := ∃ p, v = .tuple #[.pointer (some ⟨p, 0, none⟩), .int .i64 0] ∧ IsRef w p t key
theorem RefP.keep (t : T3) (key : List UInt8) : ∀ w w' v, Ext w w' → RefP t key w v → RefP t key w' v := fun _ _ _ hx ⟨p, h1, h2⟩ => ⟨p, h1, h2.later hx⟩
def RefQ (t : T3) (key : List UInt8) (w : World) (v : Value) : Prop := ∃ p, v = .pointer (some ⟨p, 0, none⟩) ∧ IsRef w p t key
theorem RefQ.keep (t : T3) (key : List UInt8) : ∀ w w' v, Ext w w' → RefQ t key w v → RefQ t key w' v := fun _ _ _ hx ⟨p, h1, h2⟩ => ⟨p, h1, h2.later hx⟩
theorem retRef {w : World} {t : T3} {key : List UInt8} (e : Ending) (w' : World) (h : RNew w t key e w') : ∃ v, e = .returned v ∧ Ext w w' ∧ K.holds (.gen (RefP t key) (RefP.keep _ _)) w' v := by
  obtain ⟨p, rfl, hs, hx⟩ := h
  exact ⟨_, rfl, hx, p, rfl, hs⟩
theorem cf17 (vs : Array Value) (w : World) : (callFunc 17 vs).run Tryd.prog w = .ok (.enter 17 vs) w := by go_simp
theorem cf19 (vs : Array Value) (w : World) : (callFunc 19 vs).run Tryd.prog w = .ok (.enter 19 vs) w := by go_simp
theorem cf38 (vs : Array Value) (w : World) : (callFunc 38 vs).run Tryd.prog w = .ok (.enter 38 vs) w := by go_simp
theorem rxtea_any (p g c : Nat) (key : List UInt8) (back : Bool) (z : W2) (w : World) (h : RefS w p g 4 c .x (words .x key 4)) :
    Calls Tryd.prog 40 #[.pointer (some ⟨p, 0, none⟩), .int .u32 (z.a.toNat : Nat), .int .u32 (z.b.toNat : Nat), .bool back] w (Two w (turnW .x key back z)) := by
  cases back
  · rw [turn_xt]; exact xtea_there p g c key z w h
  · rw [turn_xb]; exact xtea_back p g c key z w h
theorem rmagma_any (p g c : Nat) (key : List UInt8) (back : Bool) (z : W2) (w : World) (h : RefS w p g 8 c .m (words .m key 8)) :
    Calls Tryd.prog 41 #[.pointer (some ⟨p, 0, none⟩), .int .u32 (z.a.toNat : Nat), .int .u32 (z.b.toNat : Nat), .bool back] w (Two w (turnW .m key back z)) := by
  rw [turn_m]
  cases back
  · exact rmagma_false p g c key z w h
  · exact rmagma_true p g c key z w h
theorem rrc5_any (p g c : Nat) (key : List UInt8) (back : Bool) (z : W2) (w : World) (h : RefS w p g 26 c .r (rc5S key)) :
    Calls Tryd.prog 38 #[.pointer (some ⟨p, 0, none⟩), .int .u32 (z.a.toNat : Nat), .int .u32 (z.b.toNat : Nat), .bool back] w (Two w (turnW .r key back z)) := by
  cases back
  · rw [turn_rf]; exact rc5_there p g c (rc5S key) z w h
  · rw [turn_rb]; exact rc5_back p g c (rc5S key) z w h
def rb5 (p g8 c8 : Nat) (back : Bool) (z y : W2) : List K := [.eq (.pointer (some ⟨p, 0, none⟩)), .eq (.slice (some ⟨g8, 0, none⟩) 2 c8), .eq (.pointer (some ⟨g8, 0, none⟩)), .eq (.int .u32 (z.a.toNat : Nat)), .eq (.slice (some ⟨g8, 0, none⟩) 2 c8), .eq (.pointer (some ⟨g8, 1, none⟩)), .eq (.int .u32 (z.b.toNat : Nat)), .eq (.bool back), .eq (.tuple #[.int .u32 (y.a.toNat : Nat), .int .u32 (y.b.toNat : Nat)]), .eq (.tuple #[.int .u32 (y.a.toNat : Nat), .int .u32 (y.b.toNat : Nat)]), .eq (.int .u32 (y.a.toNat : Nat)), .eq (.int .u32 (y.b.toNat : Nat)), .eq (.int .u32 (y.a.toNat : Nat)), .eq (.int .u32 (y.b.toNat : Nat))]
set_option maxRecDepth 100000 in
set_option maxHeartbeats 4000000 in
theorem rblock_x (p : Nat) (key : List UInt8) (back : Bool) (A : Option Addr) (cc : Nat) (bs : List UInt8) (w : World) (h : IsRef w p .x key) (hr : Rd w w.heap.size A 8 bs) (hc8 : 8 ≤ cc) (hcb : cc ≤ 9223372036854775807) :
    Calls Tryd.prog 19 #[.pointer (some ⟨p, 0, none⟩), .slice A 8 cc, .bool back] w (BlkRet w (blockL .x key back bs)) := by
  obtain ⟨g, c, h⟩ := h
  have hs : RefS w p g 4 c .x (words .x key 4) := h
  have ct : w.cell? ⟨p, 0, none⟩ = some (.int .i64 4) := h.tag
  have hb := rbig_any .x (by decide) A 2 cc bs w hr (by omega) (by omega) hc8 hcb
  rw [show 4 * 2 = 8 from rfl] at hb
  have HB := hid hb
  have HS0 := hid hs
  clear h hb hr hs
  go_enter Tryd.func19, Tryd.ntmps19
  go_wp2_with fail
  refine HB.out.mono ?_
  rintro e w1 ⟨g8, c8, rfl, hc8', hm8, ho, hx⟩
  have hkw := OwnW.kw ho (words_length _ _ _)
  have hc0 := hkw 0 (by rw [words_length]; omega)
  have hc1 := hkw 1 (by rw [words_length]; omega)
  rw [words_get _ _ _ _ (by omega)] at hc0 hc1
  obtain ⟨z, hz⟩ : ∃ z, inW .x bs = z := ⟨_, rfl⟩
  rw [show kw .x bs 0 = z.a by rw [← hz]; rfl, Nat.zero_add] at hc0
  rw [show kw .x bs 1 = z.b by rw [← hz]; rfl, Nat.zero_add] at hc1
  obtain ⟨y, hy⟩ : ∃ y, turnW .x key back z = y := ⟨_, rfl⟩
  have HOUT := hid (show blockL .x key back bs = put .x y.a ++ put .x y.b by unfold blockL; rw [hz, hy]; rfl)
  have HY := hid hy
  have HX1 := hid hx
  have HS := hid (HS0.out.later hx)
  have ct1 := cell_at hx ct
  clear ho hkw hx hz hy HB
  go_wp2_with fail
  go_quiet (fail)
  obtain ⟨W, hW⟩ : ∃ W, w1.drewN nq = W := ⟨_, rfl⟩
  have hx2 : Ext w1 W := by rw [← hW]; exact Ext.drewN (Ext.refl _) nq
  have ct2 := cell_at hx2 ct1
  have HS2 := hid (HS.out.later hx2)
  have HX2 := hid (Ext.trans HX1.out hx2)
  rw [hW]
  clear hW hx2 ct1 hc0 hc1 ct
  go_wp2_with fail
  refine (rxtea_any p g c key back z _ HS2.out).mono ?_
  rw [HY.out]
  rintro e w3 ⟨rfl, hx3⟩
  have HX3 := hid (Ext.trans HX2.out hx3)
  clear hx3 ct2
  go_wp2_with fail
  refine (rput_wd .x (by decide) y.a _).mono ?_
  rintro e w4 ⟨v1, rfl, ho1, hx4⟩
  have HO1 := hid ho1
  have HX4 := hid hx4
  clear ho1 hx4
  go_wp2_with fail
  refine (rput_wd .x (by decide) y.b _).mono ?_
  rintro e w5 ⟨v2, rfl, ho2, hx5⟩
  have ho1 := HO1.out.kept hx5
  obtain ⟨A2, c2, rfl, _, _, hr2⟩ := ho2.rdm (n := 4) (put_length _ _)
  have hl1 : (put .x y.a).length = 4 := put_length _ _
  have HX5 := hid (Ext.trans HX4.out hx5)
  have HZ := hid (Below.size HX3.out)
  clear ho2 hx5 HX4 HO1
  go_wp2_with (at_builtin; refine wpL_append _ rfl (.tmp 71) (.tmp 73) 22 rfl Tryd.underlying22 Tryd.info5 w3.heap.size _ (put .x y.a) rfl ho1 _ A2 4 c2 (put .x y.b) rfl hr2 (by omega) (Below.size HX5.out) ?_; intro v6 w6 hown6 hb6; have HO6 := hid hown6; have HX6 := hid (show Ext w w6 from Ext.trans HX3.out (Below.trans (show Below w3.heap.size w3 w5 from HX5.out) hb6)); clear ho1 hr2 hown6 hb6)
  go_ret2
  rw [HOUT.out]
  exact ⟨v6, rfl, HO6.out.base_mono HZ.out, HX6.out⟩
set_option maxRecDepth 100000 in
set_option maxHeartbeats 4000000 in
theorem rblock_m (p : Nat) (key : List UInt8) (back : Bool) (A : Option Addr) (cc : Nat) (bs : List UInt8) (w : World) (h : IsRef w p .m key) (hr : Rd w w.heap.size A 8 bs) (hc8 : 8 ≤ cc) (hcb : cc ≤ 9223372036854775807) :
    Calls Tryd.prog 19 #[.pointer (some ⟨p, 0, none⟩), .slice A 8 cc, .bool back] w (BlkRet w (blockL .m key back bs)) := by
  obtain ⟨g, c, h⟩ := h
  have hs : RefS w p g 8 c .m (words .m key 8) := h
  have ct : w.cell? ⟨p, 0, none⟩ = some (.int .i64 5) := h.tag
  have hb := rbig_any .m (by decide) A 2 cc bs w hr (by omega) (by omega) hc8 hcb
  rw [show 4 * 2 = 8 from rfl] at hb
  have HB := hid hb
  have HS0 := hid hs
  clear h hb hr hs
  go_enter Tryd.func19, Tryd.ntmps19
  go_wp2_with fail
  refine HB.out.mono ?_
  rintro e w1 ⟨g8, c8, rfl, hc8', hm8, ho, hx⟩
  have hkw := OwnW.kw ho (words_length _ _ _)
  have hc0 := hkw 0 (by rw [words_length]; omega)
  have hc1 := hkw 1 (by rw [words_length]; omega)
  rw [words_get _ _ _ _ (by omega)] at hc0 hc1
  obtain ⟨z, hz⟩ : ∃ z, inW .m bs = z := ⟨_, rfl⟩
  rw [show kw .m bs 0 = z.a by rw [← hz]; rfl, Nat.zero_add] at hc0
  rw [show kw .m bs 1 = z.b by rw [← hz]; rfl, Nat.zero_add] at hc1
  obtain ⟨y, hy⟩ : ∃ y, turnW .m key back z = y := ⟨_, rfl⟩
  have HOUT := hid (show blockL .m key back bs = put .m y.a ++ put .m y.b by unfold blockL; rw [hz, hy]; rfl)
  have HY := hid hy
  have HX1 := hid hx
  have HS := hid (HS0.out.later hx)
  have ct1 := cell_at hx ct
  clear ho hkw hx hz hy HB
  go_wp2_with fail
  go_quiet (fail)
  obtain ⟨W, hW⟩ : ∃ W, w1.drewN nq = W := ⟨_, rfl⟩
  have hx2 : Ext w1 W := by rw [← hW]; exact Ext.drewN (Ext.refl _) nq
  have ct2 := cell_at hx2 ct1
  have HS2 := hid (HS.out.later hx2)
  have HX2 := hid (Ext.trans HX1.out hx2)
  rw [hW]
  clear hW hx2 ct1 hc0 hc1 ct
  go_wp2_with fail
  refine (rmagma_any p g c key back z _ HS2.out).mono ?_
  rw [HY.out]
  rintro e w3 ⟨rfl, hx3⟩
  have HX3 := hid (Ext.trans HX2.out hx3)
  clear hx3 ct2
  go_wp2_with fail
  refine (rput_wd .m (by decide) y.a _).mono ?_
  rintro e w4 ⟨v1, rfl, ho1, hx4⟩
  have HO1 := hid ho1
  have HX4 := hid hx4
  clear ho1 hx4
  go_wp2_with fail
  refine (rput_wd .m (by decide) y.b _).mono ?_
  rintro e w5 ⟨v2, rfl, ho2, hx5⟩
  have ho1 := HO1.out.kept hx5
  obtain ⟨A2, c2, rfl, _, _, hr2⟩ := ho2.rdm (n := 4) (put_length _ _)
  have hl1 : (put .m y.a).length = 4 := put_length _ _
  have HX5 := hid (Ext.trans HX4.out hx5)
  have HZ := hid (Below.size HX3.out)
  clear ho2 hx5 HX4 HO1
  go_wp2_with (at_builtin; refine wpL_append _ rfl (.tmp 71) (.tmp 73) 22 rfl Tryd.underlying22 Tryd.info5 w3.heap.size _ (put .m y.a) rfl ho1 _ A2 4 c2 (put .m y.b) rfl hr2 (by omega) (Below.size HX5.out) ?_; intro v6 w6 hown6 hb6; have HO6 := hid hown6; have HX6 := hid (show Ext w w6 from Ext.trans HX3.out (Below.trans (show Below w3.heap.size w3 w5 from HX5.out) hb6)); clear ho1 hr2 hown6 hb6)
  go_ret2
  rw [HOUT.out]
  exact ⟨v6, rfl, HO6.out.base_mono HZ.out, HX6.out⟩
set_option maxRecDepth 100000 in
set_option maxHeartbeats 4000000 in
theorem rblock_r (p : Nat) (key : List UInt8) (back : Bool) (A : Option Addr) (cc : Nat) (bs : List UInt8) (w : World) (h : IsRef w p .r key) (hr : Rd w w.heap.size A 8 bs) (hc8 : 8 ≤ cc) (hcb : cc ≤ 9223372036854775807) :
    Calls Tryd.prog 19 #[.pointer (some ⟨p, 0, none⟩), .slice A 8 cc, .bool back] w (BlkRet w (blockL .r key back bs)) := by
  obtain ⟨g, c, h⟩ := h
  have hs : RefS w p g 26 c .r (rc5S key) := h
  have ct : w.cell? ⟨p, 0, none⟩ = some (.int .i64 8) := h.tag
  have hb := rlittle_any A 2 cc bs w hr (by omega) (by omega) hc8 hcb
  rw [show 4 * 2 = 8 from rfl] at hb
  have HB := hid hb
  have HS0 := hid hs
  clear h hb hr hs
  go_enter Tryd.func19, Tryd.ntmps19
  go_wp2_with fail
  refine HB.out.mono ?_
  rintro e w1 ⟨g8, c8, rfl, hc8', hm8, ho, hx⟩
  have hkw := OwnW.kw ho (words_length _ _ _)
  have hc0 := hkw 0 (by rw [words_length]; omega)
  have hc1 := hkw 1 (by rw [words_length]; omega)
  rw [words_get _ _ _ _ (by omega)] at hc0 hc1
  obtain ⟨z, hz⟩ : ∃ z, inW .r bs = z := ⟨_, rfl⟩
  rw [show kw .r bs 0 = z.a by rw [← hz]; rfl, Nat.zero_add] at hc0
  rw [show kw .r bs 1 = z.b by rw [← hz]; rfl, Nat.zero_add] at hc1
  obtain ⟨y, hy⟩ : ∃ y, turnW .r key back z = y := ⟨_, rfl⟩
  have HOUT := hid (show blockL .r key back bs = put .r y.a ++ put .r y.b by unfold blockL; rw [hz, hy]; rfl)
  have HY := hid hy
  have HX1 := hid hx
  have HS := hid (HS0.out.later hx)
  have ct1 := cell_at hx ct
  clear ho hkw hx hz hy HB
  have HC0 := hid hc0
  have HC1 := hid hc1
  have HCALL := hid (fun w (h : RefS w p g 26 c .r (rc5S key)) => rrc5_any p g c key back z w h)
  rw [HY.out] at HCALL
  clear hc0 hc1 ct ct1
  go_wp2_with fail
  refine region_inv mixed rfl (by kernel_rfl) (kV (rb5 p g8 c8 back z y)) (kV_keep _) (forall_ops ⟨?_, ?_, ?_, ?_, ?_, ?_, ?_, ?_, ?_, ?_, ?_, ?_, ?_, ?_, trivial⟩) ?_
  · intro a w hk
    have s0 : a.tmps.getD 0 undef = .pointer (some ⟨p, 0, none⟩) := hk.was 0 (by kernel_rfl) rfl
    exact step_move rfl rfl s0 rfl
  · intro a w hk
    have s8 : a.tmps.getD 8 undef = .slice (some ⟨g8, 0, none⟩) 2 c8 := hk.was 8 (by kernel_rfl) rfl
    exact step_move rfl rfl s8 rfl
  · intro a w hk
    have s26 := hk.eq_ 1 26 (by kernel_rfl) rfl
    refine step_val (v := .pointer (some ⟨g8, 0, none⟩)) (w' := w) rfl ?_ (Ext.refl w) rfl
    go_simp
  · intro a w hk
    have s27 := hk.eq_ 2 27 (by kernel_rfl) rfl
    refine step_val (v := .int .u32 (z.a.toNat : Nat)) (w' := w) rfl ?_ (Ext.refl w) rfl
    have hc := cell_at hk.ext HC0.out
    go_simp
  · intro a w hk
    have s8 : a.tmps.getD 8 undef = .slice (some ⟨g8, 0, none⟩) 2 c8 := hk.was 8 (by kernel_rfl) rfl
    exact step_move rfl rfl s8 rfl
  · intro a w hk
    have s29 := hk.eq_ 4 29 (by kernel_rfl) rfl
    refine step_val (v := .pointer (some ⟨g8, 1, none⟩)) (w' := w) rfl ?_ (Ext.refl w) rfl
    go_simp
  · intro a w hk
    have s30 := hk.eq_ 5 30 (by kernel_rfl) rfl
    refine step_val (v := .int .u32 (z.b.toNat : Nat)) (w' := w) rfl ?_ (Ext.refl w) rfl
    have hc := cell_at hk.ext HC1.out
    go_simp
  · intro a w hk
    have s2 : a.tmps.getD 2 undef = .bool back := hk.was 2 (by kernel_rfl) rfl
    exact step_move rfl rfl s2 rfl
  · intro a w hk
    have s25 := hk.eq_ 0 25 (by kernel_rfl) rfl
    have s28 := hk.eq_ 3 28 (by kernel_rfl) rfl
    have s31 := hk.eq_ 6 31 (by kernel_rfl) rfl
    have s32 := hk.eq_ 7 32 (by kernel_rfl) rfl
    exact step_call rfl rfl (by simp only [List.map_toArray, List.map_cons, List.map_nil, Act.eval, s25, s28, s31, s32] <;> rfl) cf38 (HCALL.out w (HS.out.later hk.ext)) (fun e w1 h => ⟨_, h.1, h.2, rfl⟩)
  · intro a w hk
    have s33 := hk.eq_ 8 33 (by kernel_rfl) rfl
    exact step_move rfl rfl s33 rfl
  · intro a w hk
    have s24 := hk.eq_ 9 24 (by kernel_rfl) rfl
    exact step_extract rfl rfl s24 rfl rfl
  · intro a w hk
    have s24 := hk.eq_ 9 24 (by kernel_rfl) rfl
    exact step_extract rfl rfl s24 rfl rfl
  · intro a w hk
    have s34 := hk.eq_ 10 34 (by kernel_rfl) rfl
    exact step_assign rfl rfl s34 rfl
  · intro a w hk
    have s35 := hk.eq_ 11 35 (by kernel_rfl) rfl
    exact step_assign rfl rfl s35 rfl
  · intro a w3 hf
    have s25 := hf.eq_ 0 25 (by kernel_rfl) rfl
    have s26 := hf.eq_ 1 26 (by kernel_rfl) rfl
    have s27 := hf.eq_ 2 27 (by kernel_rfl) rfl
    have s28 := hf.eq_ 3 28 (by kernel_rfl) rfl
    have s29 := hf.eq_ 4 29 (by kernel_rfl) rfl
    have s30 := hf.eq_ 5 30 (by kernel_rfl) rfl
    have s31 := hf.eq_ 6 31 (by kernel_rfl) rfl
    have s32 := hf.eq_ 7 32 (by kernel_rfl) rfl
    have s33 := hf.eq_ 8 33 (by kernel_rfl) rfl
    have s24 := hf.eq_ 9 24 (by kernel_rfl) rfl
    have s34 := hf.eq_ 10 34 (by kernel_rfl) rfl
    have s35 := hf.eq_ 11 35 (by kernel_rfl) rfl
    have s9 := hf.eq_ 12 9 (by kernel_rfl) rfl
    have s10 := hf.eq_ 13 10 (by kernel_rfl) rfl
    have hx := hf.ext
    have e := hf.frame
    clear hf
    simp only [regFrame, Act.put, List.setIfInBounds_toArray, List.set_cons_zero, List.set_cons_succ, s25, s26, s27, s28, s29, s30, s31, s32, s33, s24, s34, s35, s9, s10] at e
    clear s25 s26 s27 s28 s29 s30 s31 s32 s33 s24 s34 s35 s9 s10
    subst e
    have HX3 := hid (Ext.trans HX1.out hx)
    clear hx
    go_wp2_with fail
    refine (rputL_wd y.a _).mono ?_
    rintro e w4 ⟨v1, rfl, ho1, hx4⟩
    have HO1 := hid ho1
    have HX4 := hid hx4
    clear ho1 hx4
    go_wp2_with fail
    refine (rputL_wd y.b _).mono ?_
    rintro e w5 ⟨v2, rfl, ho2, hx5⟩
    have ho1 := HO1.out.kept hx5
    obtain ⟨A2, c2, rfl, _, _, hr2⟩ := ho2.rdm (n := 4) (put_length _ _)
    have hl1 : (put .r y.a).length = 4 := put_length _ _
    have HX5 := hid (Ext.trans HX4.out hx5)
    have HZ := hid (Below.size HX3.out)
    clear ho2 hx5 HX4 HO1
    go_wp2_with (at_builtin; refine wpL_append _ rfl (.tmp 37) (.tmp 39) 22 rfl Tryd.underlying22 Tryd.info5 w3.heap.size _ (put .r y.a) rfl ho1 _ A2 4 c2 (put .r y.b) rfl hr2 (by omega) (Below.size HX5.out) ?_; intro v6 w6 hown6 hb6; have HO6 := hid hown6; have HX6 := hid (show Ext w w6 from Ext.trans HX3.out (Below.trans (show Below w3.heap.size w3 w5 from HX5.out) hb6)); clear ho1 hr2 hown6 hb6)
    go_ret2
    rw [HOUT.out]
    exact ⟨v6, rfl, HO6.out.base_mono HZ.out, HX6.out⟩
theorem rblock_any (t : T3) (p : Nat) (key : List UInt8) (back : Bool) (A : Option Addr) (cc : Nat) (bs : List UInt8) (w : World) (h : IsRef w p t key) (hr : Rd w w.heap.size A 8 bs) (hc8 : 8 ≤ cc) (hcb : cc ≤ 9223372036854775807) :
    Calls Tryd.prog 19 #[.pointer (some ⟨p, 0, none⟩), .slice A 8 cc, .bool back] w (BlkRet w (blockL t key back bs)) := by
  cases t
  · exact rblock_x p key back A cc bs w h hr hc8 hcb
  · exact rblock_m p key back A cc bs w h hr hc8 hcb
  · exact rblock_r p key back A cc bs w h hr hc8 hcb
end Go.Proofs.YtgkfohgeelfceaaDoor
