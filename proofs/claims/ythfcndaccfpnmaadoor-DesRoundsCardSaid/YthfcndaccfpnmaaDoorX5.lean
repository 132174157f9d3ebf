/- Walk over the program's keys; own lemmas of the verifier, no statement is proved here. -/
import Derived.Test.YthfcndaccfpnmaaDoorX4
namespace Go.Proofs.YthfcndaccfpnmaaDoor
open Go.RowKit
theorem Own.grown {w w' : World} {base g : Nat} {v : Value} {bs : List UInt8} (h : Own w base v bs) (hg : w.grownBy w' (some g)) (hl : g < base) : Own w' base v bs := by
  refine ⟨h.1, ?_⟩
  rcases h.2 with hn | ⟨b, cap, cur, rfl, hbg, hh, r⟩
  · exact .inl hn
  · exact .inr ⟨b, cap, cur, rfl, hbg, by rw [hg.block b (Array.getElem?_eq_some_iff.1 hh).1 (fun e => by cases e; omega)]; exact hh, r⟩
/-- A slice of slices of its own. -/
def OwnV (e : TypeId) (w : World) (base : Nat) (v : Value) (vs : List Value) : Prop := w.ownsRow base e 1 v vs.length vs
theorem Tryd.info22 : (Tryd.prog.info? 22).map (fun i => (i.zero, i.size, i.bytes)) = some (some (.slice none 0 0), 1, 24) := by kernel_rfl
theorem OwnV.grown {e : TypeId} {w w' : World} {base g K n c : Nat} {vs : List Value} (h : OwnV e w base (.slice (some ⟨K, 0, none⟩) n c) vs) (hg : w.grownBy w' (some g)) (hne : K ≠ g) : OwnV e w' base (.slice (some ⟨K, 0, none⟩) n c) vs := by
  have hlt := World.ownsRow.lt h K rfl
  refine ⟨h.1, ?_⟩
  rcases h.2 with ⟨h1, _⟩ | ⟨g', cap, cur, e1, hbg, hh, r⟩
  · cases h1
  · simp only [Value.slice.injEq, Option.some.injEq, Addr.mk.injEq, and_true] at e1
    obtain ⟨rfl, e2, e3⟩ := e1
    exact .inr ⟨K, cap, cur, by rw [e2, e3], hbg, by rw [hg.block K hlt.2 (fun e => by cases e; exact hne rfl)]; exact hh, r⟩
theorem OwnV.kept {e : TypeId} {w w' : World} {base : Nat} {v : Value} {vs : List Value} (h : OwnV e w base v vs) (hb : Ext w w') : OwnV e w' base v vs := by
  refine ⟨h.1, ?_⟩
  rcases h.2 with hn | ⟨g, cap, cur, rfl, hbg, hh, r⟩
  · exact .inl hn
  · exact .inr ⟨g, cap, cur, rfl, hbg, by rw [Below.block hb g (Array.getElem?_eq_some_iff.1 hh).1]; exact hh, r⟩
theorem OwnV.setn {e : TypeId} {w : World} {base g n c : Nat} {vs : List Value} (h : OwnV e w base (.slice (some ⟨g, 0, none⟩) n c) vs) (hn : vs.length = n) (j : Nat) (x : Value) :
    OwnV e (w.setCell ⟨g, j, none⟩ x) base (.slice (some ⟨g, 0, none⟩) n c) (vs.set j x) := by
  subst hn
  have := (World.ownsRow.stored h j x).1
  unfold OwnV
  simpa using this
theorem OwnV.celln {e : TypeId} {w : World} {base g n c : Nat} {vs : List Value} (h : OwnV e w base (.slice (some ⟨g, 0, none⟩) n c) vs) (hn : vs.length = n) (j : Nat) (hj : j < n) : w.cell? ⟨g, j, none⟩ = vs[j]? := by
  subst hn
  exact World.ownsRow.cellAt h j (by omega)
theorem OwnV.free {e : TypeId} {w : World} {base g n c : Nat} {vs : List Value} (h : OwnV e w base (.slice (some ⟨g, 0, none⟩) n c) vs) (hn : vs.length = n) (j : Nat) : w.frozen? ⟨g, j, none⟩ = false := by
  subst hn
  exact World.ownsRow.frozenAt h j
theorem grown_set (w : World) (g j : Nat) (x : Value) : w.grownBy (w.setCell ⟨g, j, none⟩ x) (some g) :=
  ⟨rfl, rfl, rfl, by simp, fun k _ hk => heap_setCell_other w ⟨g, j, none⟩ k x (fun e => hk (by rw [e]))⟩
/-- Sixteen keys in a row. -/
def KR (w : World) (b o : Nat) (kf : Nat → List UInt8) : Prop := b < w.heap.size ∧ ∀ i, i < 16 → ∃ A c, w.cell? ⟨b, o + i, none⟩ = some (.slice A 6 c) ∧ Rd w w.heap.size A 6 (kf i)
theorem KR.later {w w' : World} {b o : Nat} {kf : Nat → List UInt8} (h : KR w b o kf) (hx : Ext w w') : KR w' b o kf :=
  ⟨Nat.lt_of_lt_of_le h.1 (Below.size hx), fun i hi => by
    obtain ⟨A, c, h1, h2⟩ := h.2 i hi
    exact ⟨A, c, (Below.cell hx (p := ⟨b, o + i, none⟩) h.1).trans h1, h2.later hx⟩⟩
/-- Sixteen keys in a row, all in blocks by themselves. -/
def KO (w : World) (b : Nat) (kf : Nat → List UInt8) : Prop :=
  ∃ c vs, vs.length = 16 ∧ OwnV 22 w 0 (.slice (some ⟨b, 0, none⟩) 16 c) vs ∧ ∀ i, i < 16 → (kf i).length = 6 ∧ ∃ v, vs[i]? = some v ∧ Own w 0 v (kf i)
theorem KO.later {w w' : World} {b : Nat} {kf : Nat → List UInt8} (h : KO w b kf) (hx : Ext w w') : KO w' b kf := by
  obtain ⟨c, vs, h1, h2, h3⟩ := h
  exact ⟨c, vs, h1, h2.kept hx, fun i hi => by
    obtain ⟨h4, v, h5, h6⟩ := h3 i hi
    exact ⟨h4, v, h5, h6.kept hx⟩⟩
theorem KO.kr {w : World} {b : Nat} {kf : Nat → List UInt8} (h : KO w b kf) : KR w b 0 kf := by
  obtain ⟨c, vs, h1, h2, h3⟩ := h
  refine ⟨(World.ownsRow.lt h2 b rfl).2, fun i hi => ?_⟩
  obtain ⟨h4, v, h5, h6⟩ := h3 i hi
  obtain ⟨A, c2, rfl, h7, _⟩ := h6.rdn h4
  exact ⟨A, c2, by rw [Nat.zero_add, h2.celln h1 i hi]; exact h5, h7⟩
theorem OwnV.base_mono {e : TypeId} {w : World} {base base' : Nat} {v : Value} {vs : List Value} (h : OwnV e w base v vs) (hb : base' ≤ base) : OwnV e w base' v vs := by
  refine ⟨h.1, ?_⟩
  rcases h.2 with hn | ⟨g, cap, cur, e, hbg, r⟩
  · exact .inl hn
  · exact .inr ⟨g, cap, cur, e, by omega, r⟩
theorem perm_own (A A' : Option Addr) (n m c c' : Nat) (bs : List UInt8) (ts : List Int) (w : World) (h : Rd w w.heap.size A n bs) (ht : Tab w A' m c' ts) (hok : okT n ts = true) :
    Calls Tryd.prog 27 #[.slice A n c, .slice A' m c'] w (fun e w' => ∃ v, e = .returned (.tuple #[v, .bool true]) ∧ Own w' w.heap.size v (permL bs ts) ∧ Ext w w') := by
  refine (perm_any A A' n m c c' bs ts w h ht.1 (by have := ht.2.2.1; omega) ht.2.1 ht.2.2.2).mono ?_
  unfold permR
  rw [h.len, hok]
  rintro e w' ⟨v, rfl, ho, hb⟩
  exact ⟨v, rfl, ho, hb⟩
theorem tab_own {w : World} {base g n c : Nat} {xs : List Int} (h : OwnN .i64 3 w base (.slice (some ⟨g, 0, none⟩) n c) xs) (hc : n ≤ c) (hn : n ≤ 1000) (hb : ∀ t ∈ xs, 1 ≤ t ∧ t ≤ 1000) : Tab w (some ⟨g, 0, none⟩) n c xs := by
  have hl := h.len_eq
  obtain ⟨A, c2, e, hr, _⟩ := h.rdn hl
  cases e
  refine ⟨hr, hc, hn, fun j hj => ?_⟩
  have := getD_of_all hb (j := j) (by omega)
  exact wf_of (by omega) (by omega)
/-- What Keys hands back of eight bytes. -/
def KeyRet (w : World) (key : List UInt8) (e : Ending) (w' : World) : Prop :=
  ∃ b c, e = .returned (.tuple #[.slice (some ⟨b, 0, none⟩) 16 c, .int .i64 0]) ∧ 16 ≤ c ∧ KO w' b (keyF key) ∧ Ext w w'
set_option maxHeartbeats 400000 in
theorem keys_bad (A : Option Addr) (n c : Nat) (w : World) (hn : n ≠ 8) :
    Calls Tryd.prog 11 #[.slice A n c] w fun e w' => e = .returned (.tuple #[.slice none 0 0, .int .i64 4]) ∧ Ext w w' := by
  have h5 : ((n : Int) != 8) = true := by simp; omega
  go_enter Tryd.func11, Tryd.ntmps11
  go_wp2
  go_ret2
  exact ⟨rfl, Ext.refl _⟩
set_option maxRecDepth 100000 in
set_option maxHeartbeats 4000000 in
theorem keys_any (A : Option Addr) (c : Nat) (key : List UInt8) (w : World) (h : Rd w w.heap.size A 8 key) :
    Calls Tryd.prog 11 #[.slice A 8 c] w (KeyRet w key) := by
  obtain ⟨i0, hi0, hz0, hz1, hz2⟩ := info_parts Tryd.info22
  go_enter Tryd.func11, Tryd.ntmps11
  go_wp2_with (at_make; refine wpList_make_full _ rfl (.const (.int .i64 16)) (.const (.int .i64 16)) 24 rfl w.heap.size 22 i0 (.slice none 0 0) 1 Tryd.underlying24 hi0 hz0 hz1 .i64 .i64 16 16 16 rfl rfl rfl rfl (by rw [hz2]; omega) (by unfold maxLen; omega) (Nat.le_refl _) ?_; intro w1 hown1 hg1)
  have hb1 : Ext w w1 := (Below.refl _ _).grown hg1 (Nat.le_refl _) (by simp)
  have hv1 : OwnV 22 w1 w.heap.size (.slice (some ⟨w.heap.size, 0, none⟩) 16 16) (List.replicate 16 (.slice none 0 0)) := by
    have e1 : (madeCells #[Value.slice none 0 0] 16).toList = List.replicate 16 (.slice none 0 0) := toList_madeCells_one _ _
    have hown2 : w1.ownsRow w.heap.size 22 1 (.slice (some ⟨w.heap.size, 0, none⟩) 16 16) 16 (madeCells #[Value.slice none 0 0] 16).toList := hown1
    rw [e1] at hown2
    exact hown2
  have hK1 : w.heap.size < w1.heap.size := (World.ownsRow.lt hv1 w.heap.size rfl).2
  obtain ⟨K, hK⟩ : ∃ K, w.heap.size = K := ⟨_, rfl⟩
  have HKW := hid hK
  rw [hK] at hv1 hK1 ⊢
  have HV1 := hid hv1
  have HB1 := hid hb1
  clear hown1 hg1 hv1 hb1 hi0 hz0 hz1 hz2 hK
  go_wp2_with fail
  refine (halves_any _).mono ?_
  rintro e w2 ⟨v2, rfl, ho2, hb2⟩
  obtain ⟨G, C, rfl, hC, hG1, hG2⟩ := ho2.head c1_len (by omega)
  have HV2 := hid (HV1.out.kept hb2)
  have HB2 := hid (HB1.out.trans hb2)
  have HO2 := hid (OwnN.base_mono ho2 (Nat.le_of_lt hK1))
  have hKG : K < G := by omega
  clear ho2 hb2 HV1 HB1 hG1 hK1
  go_wp2_with fail
  go_loopw [16] (fun i wr => ∃ (k : Nat) (vs : List Value), k ≤ 16 ∧ i = .int .i64 k ∧ vs.length = 16 ∧ OwnV 22 wr K (.slice (some ⟨K, 0, none⟩) 16 16) vs ∧ OwnN .i64 3 wr K (.slice (some ⟨G, 0, none⟩) 56 C) (tabP k) ∧ Below w.heap.size w wr ∧
      (∀ j, j < k → ∃ v, vs[j]? = some v ∧ Own wr (G + 1) v (keyF key j))) (fun i _ => 16 - (intOf i).toNat)
  case atStart => exact ⟨0, _, by omega, rfl, by simp, HV2.out, HO2.out, HB2.out, fun j hj => absurd hj (by omega)⟩
  case round =>
    clear HV2 HO2 HB2 hG2
    obtain ⟨k, vs, hk, rfl, hvl, hov, hot, hb, hrows⟩ := hrel
    by_cases hlt : k < 16
    · have hbl := byOf_le k
      have HOV := hid hov
      have HOT := hid hot
      have HB := hid hb
      have HR := hid hrows
      clear hov hot hb hrows
      go_wp2_with fail
      refine (turnOf_any k _ (by omega)).mono ?_
      rintro e w3 ⟨rfl, rfl⟩
      go_wp2_with fail
      refine (turnHalves_any G (byOf k) K C (tabP k) _ HOT.out (by omega) hC).mono ?_
      rintro e w4 ⟨⟨v4, rfl⟩, ho4, hg4⟩
      have hsz0 := HB.out.size
      have hG0 := HOT.out.base_le.2
      have HOV4 := hid (HOV.out.grown hg4 (by omega))
      have HB4 := hid (HB.out.grown hg4 hsz0 (fun q hq => by cases hq; have := HKW.out; omega))
      have HR4 := hid (show ∀ j, j < k → ∃ v, vs[j]? = some v ∧ Own w4 (G + 1) v (keyF key j) from fun j hj => by
        obtain ⟨v, h1, h2⟩ := HR.out j hj
        exact ⟨v, h1, h2.grown hg4 (by omega)⟩)
      have HO4 := hid (show OwnN .i64 3 w4 K (.slice (some ⟨G, 0, none⟩) 56 C) (tabP (k + 1)) from ho4)
      have HT4 := hid (tab_own HO4.out hC (by omega) (fun t ht => by have := c1_in t (tabP_mem _ t ht); omega))
      have HD4 := hid ((h.below HB4.out (Nat.le_refl _)).more HB4.out.size)
      have hGz : G < w4.heap.size := HO4.out.base_le.2
      clear ho4 hg4 HOV HOT HB HR hG0 hsz0
      go_wp2_with fail
      refine (perm_rd _ _ 8 56 _ _ _ _ 7 _ HD4.out HT4.out (tabP_ok (k + 1)) (by omega)).mono ?_
      rintro e w5 ⟨A5, c5, rfl, hc5, hr5, hx5⟩
      have HX5 := hid hx5
      have HR5 := hid hr5
      clear hx5 hr5
      go_wp2_with fail
      refine (choice_any _).mono ?_
      rintro e w6 ⟨A6, c6, rfl, ht6, hx6⟩
      have HX6 := hid (Ext.trans HX5.out hx6)
      have HR6 := hid (HR5.out.later hx6)
      have HT6 := hid ht6
      clear hx6 ht6 HR5 HX5
      go_wp2_with fail
      refine (perm_own _ _ 7 48 _ _ _ _ _ HR6.out HT6.out c2_ok).mono ?_
      rintro e w7 ⟨v7, rfl, ho7, hx7⟩
      have HX7 := hid (Ext.trans HX6.out hx7)
      have hsz6 := Below.size HX6.out
      have hkl := keyF_len key k
      obtain ⟨A7, cc7, rfl, _, ho7⟩ := ho7.rdn hkl
      have hov7 := HOV4.out.kept HX7.out
      have hset := hov7.setn hvl k (.slice A7 6 cc7)
      have hcell := hov7.celln hvl k hlt
      rw [List.getElem?_eq_getElem (by omega)] at hcell
      have hfree := hov7.free hvl k
      obtain ⟨old, hold⟩ : ∃ old, vs[k]'(by omega) = old := ⟨_, rfl⟩
      rw [hold] at hcell
      have HS := hid hset
      have HO7 := hid (HO4.out.kept HX7.out)
      have HB7 := hid (HB4.out.trans (Below.mono HX7.out HB4.out.size))
      have HR7 := hid (show ∀ j, j < k → ∃ v, vs[j]? = some v ∧ Own w7 (G + 1) v (keyF key j) from fun j hj => by
        obtain ⟨v, h1, h2⟩ := HR4.out j hj
        exact ⟨v, h1, h2.kept HX7.out⟩)
      have HC7 := hid (ho7.base_mono (show G + 1 ≤ w6.heap.size by omega))
      clear hset hov7 hold ho7 hx7 HX6 HX7 HR4 HO4 HB4 HOV4
      go_wp2_with fail
      go_roundw
      case rel =>
        refine ⟨k + 1, vs.set k (.slice A7 6 cc7), by omega, by go_num, by simp [hvl], HS.out, ?_, HB7.out.setCell (by simp; have := HKW.out; omega) _, ?_⟩
        · have hot := HO7.out
          refine ⟨hot.1, ?_⟩
          rcases hot.2 with hn | ⟨g, cap, cur, e, hbg, hh, r⟩
          · exact .inl hn
          · refine .inr ⟨g, cap, cur, e, hbg, ?_, r⟩
            rw [heap_setCell_other _ ⟨K, k, none⟩ g _ (by simp at e; simp; omega)]
            exact hh
        · intro j hj
          by_cases hjk : j = k
          · subst hjk
            exact ⟨_, by simp [hvl, hlt], HC7.out.grown (grown_set _ _ _ _) (by omega)⟩
          · obtain ⟨v, h1, h2⟩ := HR7.out j (by omega)
            exact ⟨v, by rw [List.getElem?_set_ne (by omega)]; exact h1, h2.grown (grown_set _ _ _ _) (by omega)⟩
      case measure => simp [intOf]; omega
    · obtain rfl : k = 16 := by omega
      have hkr : KO wr K (keyF key) := ⟨16, vs, hvl, hov.base_mono (Nat.zero_le _), fun i hi => by
        obtain ⟨v, h1, h2⟩ := hrows i hi
        exact ⟨keyF_len _ _, v, h1, h2.base_mono (Nat.zero_le _)⟩⟩
      have HH := hid (And.intro hkr hb)
      clear hkr hov hot hb hrows
      go_wp2_with fail
      go_ret2
      exact ⟨K, 16, rfl, Nat.le_refl _, HH.out.1, HH.out.2⟩
end Go.Proofs.YthfcndaccfpnmaaDoor
