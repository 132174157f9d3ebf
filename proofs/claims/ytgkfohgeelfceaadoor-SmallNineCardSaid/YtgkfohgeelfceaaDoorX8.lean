/- Walk over the keys of XTEA, of the program; own lemmas of the verifier, no statement is proved here. -/
import Derived.Test.YtgkfohgeelfceaaDoorX7
namespace Go.Proofs.YtgkfohgeelfceaaDoor
open Go.RowKit
theorem one_rd (w : World) (x : UInt32) : RdN .u32 (w.alloc (.cells #[.int .u32 (x.toNat : Nat)] 43)) (w.heap.size + 1) (some ⟨w.heap.size, 0, none⟩) 1 (nW [x]) :=
  ⟨rfl, fun _ => ⟨w.heap.size, 0, rfl, by omega, fun j hj => by
    obtain rfl : j = 0 := by omega
    rw [Nat.add_zero, cell_of_heap (heap_alloc_new w _)]; rfl⟩⟩
def KS (k : Nat → UInt32) (j : Nat) : List UInt32 := (List.range j).map (keyX k)
theorem KS_length (k : Nat → UInt32) (j : Nat) : (KS k j).length = j := by simp [KS]
theorem KS_succ (k : Nat → UInt32) (j : Nat) : KS k (j + 1) = KS k j ++ [keyX k j] := by simp [KS, List.range_succ]
theorem keyX_even (k : Nat → UInt32) (j : Nat) : keyX k (2 * j) = sumX j + k ((sumX j).toNat % 4) := by
  unfold keyX
  rw [if_pos (by omega), show 2 * j / 2 = j by omega]
theorem keyX_odd (k : Nat → UInt32) (j : Nat) : keyX k (2 * j + 1) = sumX (j + 1) + k ((sumX (j + 1)).toNat / 2048 % 4) := by
  unfold keyX
  rw [if_neg (by omega), show (2 * j + 1) / 2 = j by omega]
def lenAt (k : Nat) (a : Act) : Nat := match a.tmps.getD k undef with | .slice _ n _ => n | _ => 0
def XkJ (g c : Nat) (l : List UInt32) (w : World) (a : Act) (w1 : World) : Prop :=
  ∃ (j : Nat) (Av : Option Addr) (cv : Nat) (u5 u6 u7 u8 u9 u10 u11 u12 u13 u14 u15 u16 u17 u18 u19 u20 u21 u22 u23 u24 u25 u26 u27 u28 u29 u30 u31 u32 : Value),
    a = { tmps := #[.slice (some ⟨g, 0, none⟩) 4 c, undef, .slice none 0 0, .slice Av (2 * j : Nat) cv, .int .u32 ((sumX j).toNat : Nat), u5, u6, u7, u8, u9, u10, u11, u12, u13, u14, u15, u16, u17, u18, u19, u20, u21, u22, u23, u24, u25, u26, u27, u28, u29, u30, u31, u32], defers := [] } ∧ j < 32 ∧
    OwnW w1 w.heap.size (.slice Av (2 * j : Nat) cv) (KS (fun i => l.getD i 0) (2 * j)) ∧ Ext w w1
/-- What a function that makes words hands back. -/
def WRet (n : Nat) (w : World) (ks : List UInt32) (e : Ending) (w' : World) : Prop := ∃ g c, e = .returned (.slice (some ⟨g, 0, none⟩) n c) ∧ n ≤ c ∧ c ≤ 9223372036854775807 ∧ OwnW w' w.heap.size (.slice (some ⟨g, 0, none⟩) n c) ks ∧ Ext w w'
theorem OwnW.room {w : World} {base n c : Nat} {A : Option Addr} {ks : List UInt32} (h : OwnW w base (.slice A n c) ks) : c ≤ 9223372036854775807 := by
  rcases h.2 with ⟨h1, _⟩ | ⟨g, cap, cur, h1, _, _, _, hcm, _, _⟩
  · cases h1; omega
  · cases h1; unfold maxLen at hcm; omega
set_option maxRecDepth 100000 in
set_option maxHeartbeats 4000000 in
theorem xkeys_any (g c : Nat) (l : List UInt32) (w : World) (hk : KW w g 0 l) (hl : l.length = 4) :
    Calls Tryd.prog 28 #[.slice (some ⟨g, 0, none⟩) 4 c] w (WRet 64 w (KS (fun i => l.getD i 0) 64)) := by
  have HK := hid hk
  have HL := hid hl
  obtain ⟨i0, hi0, hz0, hz1, hz2⟩ := info_parts Tryd.info43
  have HI := hid (And.intro hi0 (And.intro hz0 (And.intro hz1 hz2)))
  clear hk hl hi0 hz0 hz1 hz2
  go_enter Tryd.func28, Tryd.ntmps28
  go_wp2_with fail
  refine wp_scope_jumps2 0 (XkJ g c l w) (fun a _ => 64 - lenAt 3 a) rfl ?_ ?_
  · rintro a w1 ⟨j, Av, cv, u5, u6, u7, u8, u9, u10, u11, u12, u13, u14, u15, u16, u17, u18, u19, u20, u21, u22, u23, u24, u25, u26, u27, u28, u29, u30, u31, u32, rfl, hj, hown, hx⟩
    have hlen := KS_length (fun i => l.getD i 0) (2 * j)
    have hlen1 := KS_length (fun i => l.getD i 0) (2 * j + 1)
    have hlen2 := KS_length (fun i => l.getD i 0) (2 * (j + 1))
    have HS1 := hid (show KS (fun i => l.getD i 0) (2 * j) ++ [sumX j + l.getD ((sumX j).toNat % 4) 0] = KS (fun i => l.getD i 0) (2 * j + 1) by rw [KS_succ, keyX_even])
    have HS2 := hid (show KS (fun i => l.getD i 0) (2 * j + 1) ++ [sumX (j + 1) + l.getD ((sumX (j + 1)).toNat / 2048 % 4) 0] = KS (fun i => l.getD i 0) (2 * (j + 1)) by rw [show 2 * (j + 1) = 2 * j + 1 + 1 by omega, KS_succ _ (2 * j + 1), keyX_odd])
    have hss := sumX_succ j
    obtain ⟨S, hS⟩ : ∃ S, sumX j = S := ⟨_, rfl⟩
    obtain ⟨S2, hS2⟩ : ∃ S2, sumX (j + 1) = S2 := ⟨_, rfl⟩
    rw [hS] at HS1 hss
    rw [hS2] at HS2 hss
    have hs2 : ((S.toNat : Int) + 2654435769) % 4294967296 = (S2.toNat : Int) := by rw [hss]; exact w_add S gold
    obtain ⟨i1, hi1⟩ : ∃ i1, S.toNat % 4 = i1 := ⟨_, rfl⟩
    obtain ⟨i2, hi2⟩ : ∃ i2, S2.toNat / 2048 % 4 = i2 := ⟨_, rfl⟩
    rw [hi1] at HS1
    rw [hi2] at HS2
    have e1 : (S.toNat : Int) % 4 = (i1 : Int) := by omega
    have e2 : (S2.toNat : Int) / 2048 % 4 = (i2 : Int) := by omega
    have l1 : i1 < 4 := by omega
    have l2 : i2 < 4 := by omega
    have hc1 := (HK.out.later hx) i1 (by rw [HL.out]; exact l1)
    rw [Nat.zero_add] at hc1
    obtain ⟨k1, hk1⟩ : ∃ k1, l.getD i1 0 = k1 := ⟨_, rfl⟩
    obtain ⟨k2, hk2⟩ : ∃ k2, l.getD i2 0 = k2 := ⟨_, rfl⟩
    rw [hk1] at hc1 HS1
    rw [hk2] at HS2
    have hsum1 := w_add S k1
    have hsum2 := w_add S2 k2
    obtain ⟨X1, hX1⟩ : ∃ X1, S + k1 = X1 := ⟨_, rfl⟩
    obtain ⟨X2, hX2⟩ : ∃ X2, S2 + k2 = X2 := ⟨_, rfl⟩
    rw [hX1] at hsum1 HS1
    rw [hX2] at hsum2 HS2
    have hal1 := Ext.alloc w1 (.cells #[.int .u32 (X1.toNat : Nat)] 43)
    have hown1 := OwnN.kept hown hal1
    have hrd1 := one_rd w1 X1
    have b1 := wlt S
    have b2 := wlt k1
    have b3 := wlt S2
    have b4 := wlt k2
    have hz1 := Below.size hx
    have HX := hid hx
    have HS := hid hS
    have HSS2 := hid hS2
    have HK2 := hid hk2
    clear hX1 hX2 hss hS hS2 hi1 hi2 hk1 hk2 hown hx
    have HAL2 := hid (fun (W : World) => Ext.alloc W (.cells #[.int .u32 (X2.toNat : Nat)] 43))
    have HRD2 := hid (fun (W : World) => one_rd W X2)
    have HCC := hid (fun (W : World) (hW : Ext w W) => show W.cell? ⟨g, i2, none⟩ = some (.int .u32 (k2.toNat : Nat)) by
      have := (HK.out.later hW) i2 (by rw [HL.out]; exact l2)
      rw [Nat.zero_add, HK2.out] at this; exact this)
    rw [HS.out]
    by_cases hlast : j + 1 < 32
    · have h64 : ((2 * (j + 1) : Nat) : Int) < 64 := by omega
      go_wp2_with (first
        | (at_builtin; refine wpL_appendN _ rfl (.tmp 6) (.tmp 14) 59 rfl Tryd.underlying59 4 Tryd.info43 w.heap.size _ (nW (KS (fun i => l.getD i 0) (2 * j))) rfl hown1 _ _ 1 1 (nW [X1]) rfl hrd1 (by rw [nW_length, hlen]; omega) (by rw [nW_length, hlen]; unfold maxLen; omega) (by simp; omega) ?_; intro v2 w2 hown2 hb2; rw [← nW_append, HS1.out] at hown2; obtain ⟨A2, c2, rfl, hcc2, _, hown2⟩ := OwnN.rdc (n := 2 * j + 1) hown2 (by rw [nW_length, hlen1]); have hx2 := (show Ext w w2 from (Below.trans HX.out (Below.mono hal1 hz1)).trans hb2); have hc2 := HCC.out w2 hx2; have hown3 := OwnN.kept hown2 (HAL2.out w2); have hrd3 := HRD2.out w2; have hz2 := Below.size hx2; have HX2 := hid hx2; clear hx2 hb2 hown1 hrd1 hal1)
        | (at_builtin; refine wpL_appendN _ rfl (.tmp 18) (.tmp 27) 59 rfl Tryd.underlying59 4 Tryd.info43 w.heap.size _ (nW (KS (fun i => l.getD i 0) (2 * j + 1))) rfl hown3 _ _ 1 1 (nW [X2]) rfl hrd3 (by rw [nW_length, hlen1]; omega) (by rw [nW_length, hlen1]; unfold maxLen; omega) (by simp; omega) ?_; intro v4 w4 hown4 hb4; rw [← nW_append, HS2.out] at hown4; obtain ⟨A4, c4, rfl, hcc4, _, hown4⟩ := OwnN.rdc (n := 2 * (j + 1)) hown4 (by rw [nW_length, hlen2]); have HX4 := hid (show Ext w w4 from (Below.trans HX2.out (Below.mono (HAL2.out w2) hz2)).trans hb4); have HO4 := hid hown4; clear hb4 hown4 hown3 hrd3))
      go_wp2_with fail
      go_step3
      (try simp only [Exit.jump])
      refine ⟨rfl, ⟨j + 1, A4, c4, _, _, _, _, _, _, _, _, _, _, _, _, _, _, _, _, _, _, _, _, _, _, _, _, _, _, _, _, by rw [HSS2.out], hlast, HO4.out, HX4.out⟩, ?_⟩
      simp [lenAt]; omega
    · have h64 : ¬ ((2 * (j + 1) : Nat) : Int) < 64 := by omega
      go_wp2_with (first
        | (at_builtin; refine wpL_appendN _ rfl (.tmp 6) (.tmp 14) 59 rfl Tryd.underlying59 4 Tryd.info43 w.heap.size _ (nW (KS (fun i => l.getD i 0) (2 * j))) rfl hown1 _ _ 1 1 (nW [X1]) rfl hrd1 (by rw [nW_length, hlen]; omega) (by rw [nW_length, hlen]; unfold maxLen; omega) (by simp; omega) ?_; intro v2 w2 hown2 hb2; rw [← nW_append, HS1.out] at hown2; obtain ⟨A2, c2, rfl, hcc2, _, hown2⟩ := OwnN.rdc (n := 2 * j + 1) hown2 (by rw [nW_length, hlen1]); have hx2 := (show Ext w w2 from (Below.trans HX.out (Below.mono hal1 hz1)).trans hb2); have hc2 := HCC.out w2 hx2; have hown3 := OwnN.kept hown2 (HAL2.out w2); have hrd3 := HRD2.out w2; have hz2 := Below.size hx2; have HX2 := hid hx2; clear hx2 hb2 hown1 hrd1 hal1)
        | (at_builtin; refine wpL_appendN _ rfl (.tmp 18) (.tmp 27) 59 rfl Tryd.underlying59 4 Tryd.info43 w.heap.size _ (nW (KS (fun i => l.getD i 0) (2 * j + 1))) rfl hown3 _ _ 1 1 (nW [X2]) rfl hrd3 (by rw [nW_length, hlen1]; omega) (by rw [nW_length, hlen1]; unfold maxLen; omega) (by simp; omega) ?_; intro v4 w4 hown4 hb4; rw [← nW_append, HS2.out] at hown4; obtain ⟨A4, c4, rfl, hcc4, _, hown4⟩ := OwnN.rdc (n := 2 * (j + 1)) hown4 (by rw [nW_length, hlen2]); have HX4 := hid (show Ext w w4 from (Below.trans HX2.out (Below.mono (HAL2.out w2) hz2)).trans hb4); have HO4 := hid hown4; clear hb4 hown4 hown3 hrd3))
      have h32 : 2 * (j + 1) = 64 := by omega
      have HO := hid HO4.out
      rw [h32] at HO
      clear HO4
      (try simp only [Exit.jump])
      go_ret
      obtain ⟨g9, c9, e9, hc9, _, _⟩ := OwnN.head HO.out (by rw [nW_length, KS_length]) (by omega)
      simp only [Value.slice.injEq] at e9
      obtain ⟨rfl, _, rfl⟩ := e9
      exact ⟨g9, c4, by rw [h32]; rfl, hc9, OwnW.room HO.out, HO.out, HX4.out⟩
  · intro hfirst
    obtain ⟨h2, h3, h4, h5⟩ := HI.out
    go_wp2_with (refine wpList_make_own _ rfl (.const (.int .i64 0)) (.const (.int .i64 64)) 59 rfl w.heap.size 43 i0 (.int .u32 0) 1 Tryd.underlying59 h2 h3 h4 .i64 .i64 64 64 rfl rfl rfl (by rw [h5]; omega) (by unfold maxLen; omega) (Nat.le_refl _) ?_; intro w1 hown1 hg1)
    have HX1 := hid (show Ext w w1 from (Ext.refl w).grown hg1 (Nat.le_refl _) (by simp))
    have HO1 := hid (show OwnW w1 w.heap.size (.slice (some ⟨w.heap.size, 0, none⟩) (2 * 0 : Nat) 64) (KS (fun i => l.getD i 0) (2 * 0)) from hown1)
    go_wp2_with fail
    go_step3
    simp only [Exit.then]
    rename_i hK
    refine hK _ _ ?_
    exact hfirst.out _ _ ⟨0, _, _, _, _, _, _, _, _, _, _, _, _, _, _, _, _, _, _, _, _, _, _, _, _, _, _, _, _, _, _, rfl, by omega, HO1.out, HX1.out⟩
end Go.Proofs.YtgkfohgeelfceaaDoor
