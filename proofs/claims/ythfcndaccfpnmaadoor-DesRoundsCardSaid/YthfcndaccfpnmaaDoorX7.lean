/- Walk over the reference's keys, the rest; own lemmas of the verifier, no statement is proved here. -/
import Derived.Test.YthfcndaccfpnmaaDoorX6
namespace Go.Proofs.YthfcndaccfpnmaaDoor
open Go.RowKit
/-- append(x, u), x a slice of slices of the call's own. -/
theorem wpL_appendV {P : Program} (w : World) {ops : Array Oper} {rest : List Oper} {o : Oper} {a : Act} {Q : Exit → Act → World → Prop} (hgd : o.guard = none) (s x : Operand) (t e : TypeId)
    (ho : o.op = .call { callee := .builtin .append, args := #[s, x], argTypes := #[t, t] }) (hu : P.underlying t = some (.slice e))
    (hin : (P.info? e).map (fun i => (i.zero, i.size, i.bytes)) = some (some (.slice none 0 0), 1, 24))
    (base : Nat) (v : Value) (xs : List Value) (hs : a.eval s = v) (hown : OwnV e w base v xs)
    (g c : Nat) (u : Value) (hx : a.eval x = .slice (some ⟨g, 0, none⟩) 1 c) (hc : w.cell? ⟨g, 0, none⟩ = some u) (h1 : u.oneCell' = true) (hlen : xs.length ≤ 1000) (hbase : base ≤ w.heap.size)
    (h : ∀ v' w', OwnV e w' base v' (xs ++ [u]) → w.grownBy w' v.ownBlock → wpList P ops Q rest (a.put o.dst v') w') : wpList P ops Q (o :: rest) a w := by
  obtain ⟨i0, hi0, hz0, hz1, hz2⟩ := info_parts hin
  refine wpList_append_own w hgd s x t ho base e i0 (.slice none 0 0) 1 24 hu hi0 hz0 hz1 hz2 rfl (by omega) v xs.length xs hs hown ⟨g, 0, none⟩ 1 c [u] hx rfl ?_ (by intro y hy; simp at hy; subst hy; exact h1) (by unfold maxLen; omega) (by omega) hbase ?_
  · intro j y hy
    match j with
    | 0 => simp at hy; subst hy; rw [add_at]; exact hc
    | j + 1 => simp at hy
  · intro v' w' h2 h3 _
    exact h v' w' (by simpa [OwnV] using h2) h3
theorem OwnV.block_ne {e : TypeId} {w : World} {base : Nat} {v : Value} {vs : List Value} (h : OwnV e w base v vs) {b : Nat} {cur : Array Value} {e2 : TypeId} {f : Nat × Nat} (hb : w.heap[b]? = some (.cells cur e2 f)) (hne : e2 ≠ e) : some b ≠ v.ownBlock := by
  rcases h.2 with ⟨rfl, _⟩ | ⟨g, cap, cur2, rfl, _, hh, _⟩
  · simp [Value.ownBlock]
  · simp only [Value.ownBlock, ne_eq, Option.some.injEq]
    rintro rfl
    rw [hh] at hb
    cases hb
    exact hne rfl
theorem Own.typed {e : TypeId} {w w' : World} {base base2 : Nat} {v r : Value} {vs : List Value} {bs : List UInt8} (h : Own w base r bs) (hv : OwnV e w base2 v vs) (hne : 5 ≠ e) (hg : w.grownBy w' v.ownBlock) : Own w' base r bs := by
  refine ⟨h.1, ?_⟩
  rcases h.2 with hn | ⟨b, cap, cur, rfl, hbg, hh, rr⟩
  · exact .inl hn
  · exact .inr ⟨b, cap, cur, rfl, hbg, by rw [hg.block b (Array.getElem?_eq_some_iff.1 hh).1 (hv.block_ne hh hne)]; exact hh, rr⟩
theorem OwnV.typed {e e2 : TypeId} {w w' : World} {base base2 : Nat} {v r : Value} {vs rs : List Value} (h : OwnV e2 w base r rs) (hv : OwnV e w base2 v vs) (hne : e2 ≠ e) (hg : w.grownBy w' v.ownBlock) : OwnV e2 w' base r rs := by
  refine ⟨h.1, ?_⟩
  rcases h.2 with hn | ⟨b, cap, cur, rfl, hbg, hh, rr⟩
  · exact .inl hn
  · exact .inr ⟨b, cap, cur, rfl, hbg, by rw [hg.block b (Array.getElem?_eq_some_iff.1 hh).1 (hv.block_ne hh hne)]; exact hh, rr⟩
theorem KO.typed {e : TypeId} {w w' : World} {base b : Nat} {kf : Nat → List UInt8} {v : Value} {vs : List Value} (h : KO w b kf) (hv : OwnV e w base v vs) (h5 : 5 ≠ e) (h22 : 22 ≠ e) (hg : w.grownBy w' v.ownBlock) : KO w' b kf := by
  obtain ⟨c, rs, h1, h2, h3⟩ := h
  exact ⟨c, rs, h1, h2.typed hv h22 hg, fun i hi => by
    obtain ⟨h4, y, h6, h7⟩ := h3 i hi
    exact ⟨h4, y, h6, h7.typed hv h5 hg⟩⟩
theorem OwnV.below {e : TypeId} {w w' : World} {base : Nat} {v : Value} {vs : List Value} (hv : OwnV e w base v vs) (hbase : base ≤ w.heap.size) (hg : w.grownBy w' v.ownBlock) : Below base w w' :=
  (Below.refl _ _).grown hg hbase fun k hk => (World.ownsRow.lt hv k hk).1
def byC : Nat → Nat
  | 0 => 0
  | k + 1 => byC k + byOf k
theorem byC_le : ∀ k, byC k ≤ 2 * k
  | 0 => Nat.le_refl _
  | k + 1 => by have := byC_le k; have := byOf_le k; rw [byC]; omega
def turF (m j : Nat) : Int := c1L.getD (28 * (j / 28) + (j - 28 * (j / 28) + byC m) % 28) 0
def turL (m j : Nat) : List Int := (List.range j).map (turF m)
theorem turL_succ (m j : Nat) : turL m (j + 1) = turL m j ++ [turF m j] := by simp [turL, List.range_succ]
theorem turL_len (m j : Nat) : (turL m j).length = j := by simp [turL]
set_option maxRecDepth 100000 in
theorem turL_all : ∀ k, k < 16 → turL (k + 1) 56 = tabP (k + 1) := by decide +kernel
theorem turF_in (m j : Nat) (hj : j < 56) : 1 ≤ turF m j ∧ turF m j ≤ 63 := by
  have := getD_of_all c1_in (j := 28 * (j / 28) + (j - 28 * (j / 28) + byC m) % 28) (by rw [c1_len]; omega)
  exact ⟨this.1, this.2.1⟩
set_option maxHeartbeats 400000 in
theorem by_own (A A' : Option Addr) (n m c c' : Nat) (bs : List UInt8) (ts : List Int) (w : World) (h : Rd w w.heap.size A n bs) (hn : n ≤ 1000000) (ht : Tab w A' m c' ts) (hok : okT n ts = true) :
    Calls Tryd.prog 21 #[.slice A n c, .slice A' m c'] w (RetB w (permL bs ts)) := by
  have hl := h.len
  go_enter Tryd.func21, Tryd.ntmps21
  go_wp2_with fail
  refine (rperm_any A A' n m c c' bs ts w h ht.1 (by omega) (by have := ht.2.2.1; omega) ht.2.2.2).mono ?_
  unfold permR
  rw [hl, hok]
  rintro e w' ⟨v, rfl, ho, hb⟩
  have H := hid (And.intro ho hb)
  clear ho hb ht h
  go_wp2_with fail
  go_ret
  exact ⟨_, rfl, H.out.1, H.out.2⟩
set_option maxHeartbeats 400000 in
theorem rkeys_bad (A : Option Addr) (n c : Nat) (w : World) (hn : n ≠ 8) :
    Calls Tryd.prog 13 #[.slice A n c] w fun e w' => e = .returned (.tuple #[.slice none 0 0, .int .i64 4]) ∧ Ext w w' := by
  have h5 : ((n : Int) != 8) = true := by simp; omega
  go_enter Tryd.func13, Tryd.ntmps13
  go_wp2
  go_ret2
  exact ⟨rfl, Ext.refl _⟩
set_option maxRecDepth 100000 in
set_option maxHeartbeats 4000000 in
theorem rkeys_any (A : Option Addr) (c : Nat) (key : List UInt8) (w : World) (h : Rd w w.heap.size A 8 key) :
    Calls Tryd.prog 13 #[.slice A 8 c] w (KeyRet w key) := by
  go_enter Tryd.func13, Tryd.ntmps13
  go_wp2_with fail
  refine (chosen_any _).mono ?_
  rintro e w3 ⟨A4, c4, rfl, ht4, hx4⟩
  have HX4 := hid hx4
  have HT4 := hid ht4
  have HK4 := hid (h.later hx4)
  clear ht4 hx4 h
  go_wp2_with fail
  go_loopw [5, 6, 7] (fun by_ v i wr => ∃ (k : Nat) (vs : List Value), k ≤ 16 ∧ i = .int .i64 ((k : Int) + 1) ∧ by_ = .int .i64 (byC k : Nat) ∧ vs.length = k ∧ OwnV 22 wr w3.heap.size v vs ∧ Below w3.heap.size w3 wr ∧
      (∀ j, j < k → ∃ v, vs[j]? = some v ∧ Own wr w3.heap.size v (keyF key j))) (fun _ _ i _ => 17 - (intOf i).toNat)
  case atStart => exact ⟨0, [], by omega, rfl, rfl, rfl, World.ownsRow_nil _ _ _ _, Below.refl _ _, fun j hj => absurd hj (by omega)⟩
  case round =>
    obtain ⟨k, vs, hk, rfl, rfl, hvl, hov, hb, hrows⟩ := hrel
    by_cases hlt : k < 16
    · have hbl := byOf_le k
      have hbc := byC_le k
      have hnext : byC (k + 1) = byC k + byOf k := rfl
      have HOV := hid hov
      have HB := hid hb
      have HR := hid hrows
      have HT := hid (HT4.out.later hb)
      have HK := hid (HK4.out.later hb)
      obtain ⟨m, hm⟩ : ∃ m, byC k = m := ⟨_, rfl⟩
      obtain ⟨m2, hm2⟩ : ∃ m2, byC (k + 1) = m2 := ⟨_, rfl⟩
      rw [hm, hm2] at hnext
      rw [hm] at hbc ⊢
      have HM2 := hid hm2
      clear hov hb hrows hm hm2
      have hcase : (((k : Int) + 1 == 1) = true ∧ byOf k = 1) ∨ (((k : Int) + 1 == 1) = false ∧ ((k : Int) + 1 == 2) = true ∧ byOf k = 1) ∨ (((k : Int) + 1 == 1) = false ∧ ((k : Int) + 1 == 2) = false ∧ ((k : Int) + 1 == 9) = true ∧ byOf k = 1) ∨
          (((k : Int) + 1 == 1) = false ∧ ((k : Int) + 1 == 2) = false ∧ ((k : Int) + 1 == 9) = false ∧ ((k : Int) + 1 == 16) = true ∧ byOf k = 1) ∨ (((k : Int) + 1 == 1) = false ∧ ((k : Int) + 1 == 2) = false ∧ ((k : Int) + 1 == 9) = false ∧ ((k : Int) + 1 == 16) = false ∧ byOf k = 2) := by
        unfold byOf
        by_cases h0 : k = 0
        · refine .inl ⟨by simp; omega, if_pos (.inl h0)⟩
        · by_cases h1 : k = 1
          · refine .inr (.inl ⟨by simp; omega, by simp; omega, if_pos (.inr (.inl h1))⟩)
          · by_cases h2 : k = 8
            · refine .inr (.inr (.inl ⟨by simp; omega, by simp; omega, by simp; omega, if_pos (.inr (.inr (.inl h2)))⟩))
            · by_cases h3 : k = 15
              · refine .inr (.inr (.inr (.inl ⟨by simp; omega, by simp; omega, by simp; omega, by simp; omega, if_pos (.inr (.inr (.inr h3)))⟩)))
              · refine .inr (.inr (.inr (.inr ⟨by simp; omega, by simp; omega, by simp; omega, by simp; omega, if_neg (by omega)⟩)))
      have HN := hid hnext
      have hm60 : m2 ≤ 60 := by omega
      clear hnext hbl
      have hz := HB.out.size
      obtain ⟨W, rfl⟩ : ∃ W, W = wr := ⟨_, rfl⟩
      rcases hcase with ⟨g1, hby⟩ | ⟨g1, g2, hby⟩ | ⟨g1, g2, g3, hby⟩ | ⟨g1, g2, g3, g4, hby⟩ | ⟨g1, g2, g3, g4, hby⟩
      all_goals
        have hm2 := HN.out
        rw [hby] at hm2
        clear hby
        go_wp2_with fail
        first
          | rw [show (m : Int) + 2 - 1 = m2 by omega]
          | rw [show (m : Int) + 2 = m2 by omega]
        clear hm2
        try rw [show decide ((k : Int) + 1 ≤ 16) = true by simp; omega]
        go_loopw [8, 9] (fun v i wi => ∃ j : Nat, j ≤ 56 ∧ i = .int .i64 j ∧ OwnN .i64 3 wi W.heap.size v (turL (k + 1) j) ∧ Below W.heap.size W wi) (fun _ i _ => 56 - (intOf i).toNat)
        case atStart => exact ⟨0, by omega, rfl, World.ownsRow_nil _ _ _ _, Below.refl _ _⟩
        case round =>
          obtain ⟨j, hj, rfl, hown, hbi⟩ := hrel
          by_cases hjt : j < 56
          · have ht := HT.out.later hbi
            have hTF : turF (k + 1) j = c1L.getD (28 * (j / 28) + (j - 28 * (j / 28) + m2) % 28) 0 := by unfold turF; rw [HM2.out]
            have hs := turL_succ (k + 1) j
            have hl := turL_len (k + 1) j
            obtain ⟨b4, o4, rfl, hb4, hc4⟩ := ht.1.at_ (by omega)
            have hcell := hc4 (28 * (j / 28) + (j - 28 * (j / 28) + m2) % 28) (by omega)
            have hC4 := ht.2.1
            rw [← hTF] at hcell
            have hTb := turF_in (k + 1) j hjt
            obtain ⟨X, hX⟩ : ∃ X, turF (k + 1) j = X := ⟨_, rfl⟩
            rw [hX] at hcell hs hTb
            have hown2 := OwnN.kept hown (Ext.alloc1 wr X)
            have hone := one_rd wr X
            have hzi := hbi.size
            have HBI := hid (hbi.trans (Below.mono (Ext.alloc1 wr X) hzi))
            have HS := hid hs
            by_cases h28 : j < 28
            · have q0 : (j : Int) / 28 = 0 := by omega
              have q1 : 28 * (j / 28) + (j - 28 * (j / 28) + m2) % 28 = (j + m2) % 28 := by omega
              rw [q1] at hcell
              obtain ⟨q, hq⟩ : ∃ q, (j + m2) % 28 = q := ⟨_, rfl⟩
              have q2 : ((j : Int) + m2) % 28 = q := by omega
              rw [hq] at hcell
              have q3 : q < 56 := by omega
              clear hs hTF q1 hq ht hc4 hown hbi hX
              go_wp2_with (at_builtin; refine wpL_appendN _ rfl (.tmp 44) (.tmp 56) 46 rfl Tryd.underlying46 8 Tryd.info3 W.heap.size _ (turL (k + 1) j) rfl hown2 _ _ 1 1 [X] rfl hone (by omega) (by unfold maxLen; omega) (by simp; omega) ?_; intro v2 w2 hown3 hb2)
              rw [← HS.out] at hown3
              have HB2 := hid (HBI.out.trans hb2)
              clear hb2
              go_roundw
              case rel => exact ⟨j + 1, by omega, by go_num, hown3, HB2.out⟩
              case measure => simp [intOf]; omega
            · have q0 : (j : Int) / 28 = 1 := by omega
              have q1 : 28 * (j / 28) + (j - 28 * (j / 28) + m2) % 28 = 28 + (j - 28 + m2) % 28 := by omega
              rw [q1] at hcell
              obtain ⟨r, hq⟩ : ∃ r, 28 + (j - 28 + m2) % 28 = r := ⟨_, rfl⟩
              have q2 : ((j : Int) - 28 + m2) % 28 = (r : Int) - 28 := by omega
              have q5 : (28 : Int) + ((r : Int) - 28) = r := by omega
              rw [hq] at hcell
              have q3 : r < 56 := by omega
              have q6 : 28 ≤ r := by omega
              clear hs hTF q1 hq ht hc4 hown hbi hX
              go_wp2_with (at_builtin; refine wpL_appendN _ rfl (.tmp 44) (.tmp 56) 46 rfl Tryd.underlying46 8 Tryd.info3 W.heap.size _ (turL (k + 1) j) rfl hown2 _ _ 1 1 [X] rfl hone (by omega) (by unfold maxLen; omega) (by simp; omega) ?_; intro v2 w2 hown3 hb2)
              rw [← HS.out] at hown3
              have HB2 := hid (HBI.out.trans hb2)
              clear hb2
              go_roundw
              case rel => exact ⟨j + 1, by omega, by go_num, hown3, HB2.out⟩
              case measure => simp [intOf]; omega
          · obtain rfl : j = 56 := by omega
            have hrows := turL_all k hlt
            rw [hrows] at hown
            obtain ⟨A8, c8, rfl, ht8⟩ := tab_of hown (tabP_len _) (by omega) (fun t ht => by have := c1_in t (tabP_mem _ t ht); omega)
            have HT8 := hid ht8
            have HXi := hid (show Ext W wr from hbi)
            have HKi := hid (HK.out.later hbi)
            clear hown hbi ht8
            go_wp2_with fail
            refine (by_rd _ _ 8 56 _ _ _ _ 7 _ HKi.out (by omega) HT8.out (tabP_ok (k + 1)) (by omega)).mono ?_
            rintro e w5 ⟨A5, c5, rfl, hc5, hr5, hx5⟩
            have HX5 := hid (Ext.trans HXi.out hx5)
            have HR5 := hid hr5
            clear hx5 hr5 HXi
            go_wp2_with fail
            refine (last_any _).mono ?_
            rintro e w6 ⟨A6, c6, rfl, ht6, hx6⟩
            have HX6 := hid (Ext.trans HX5.out hx6)
            have HR6 := hid (HR5.out.later hx6)
            have HT6 := hid ht6
            clear hx6 ht6 HR5 HX5
            go_wp2_with fail
            refine (by_own _ _ 7 48 _ _ _ _ _ HR6.out (by omega) HT6.out c2_ok).mono ?_
            rintro e w7 ⟨v7, rfl, ho7, hx7⟩
            have HX7 := hid (Ext.trans HX6.out hx7)
            obtain ⟨A7, c7, rfl, _, ho7⟩ := ho7.rdn (keyF_len key k)
            have hz6 := Below.size HX6.out
            have hz7 := Below.size hx7
            have hx8 : Ext w7 (w7.alloc (.cells #[.slice A7 6 c7] 22)) := Ext.alloc _ _
            have hX8 := Ext.trans HX7.out hx8
            have hov8 := HOV.out.kept hX8
            have hcell8 := cell_lit w7 [.slice A7 6 c7] 22 0 (.slice A7 6 c7) rfl
            rw [Nat.zero_add] at hcell8
            have hb8 : w3.heap.size ≤ (w7.alloc (.cells #[.slice A7 6 c7] 22)).heap.size := by simp; omega
            have HO8 := hid ((ho7.base_mono (show w3.heap.size ≤ w6.heap.size by omega)).kept hx8)
            have HB8 := hid (HB.out.trans (Below.mono hX8 hz))
            have HR8 := hid (show ∀ j, j < k → ∃ v, vs[j]? = some v ∧ Own (w7.alloc (.cells #[.slice A7 6 c7] 22)) w3.heap.size v (keyF key j) from fun j hj => by
              obtain ⟨v, h1, h2⟩ := HR.out j hj
              exact ⟨v, h1, h2.kept hX8⟩)
            clear hx8 hX8 HX7 hx7 HX6 ho7 HR HB HOV
            go_wp2_with (at_builtin; refine wpL_appendV _ rfl (.tmp 58) (.tmp 64) 24 22 rfl Tryd.underlying24 Tryd.info22 w3.heap.size _ vs rfl hov8 _ 1 (.slice A7 6 c7) rfl hcell8 rfl (by omega) hb8 ?_; intro v9 w9 hown9 hg9)
            have HH := hid (And.intro hown9 (And.intro (HB8.out.trans (hov8.below hb8 hg9)) (show ∀ j, j < k + 1 → ∃ v, (vs ++ [Value.slice A7 6 c7])[j]? = some v ∧ Own w9 w3.heap.size v (keyF key j) from fun j hj => by
              by_cases hjk : j = k
              · subst hjk
                exact ⟨_, by simp [hvl], HO8.out.typed hov8 (by decide) hg9⟩
              · obtain ⟨v, h1, h2⟩ := HR8.out j (by omega)
                exact ⟨v, by rw [List.getElem?_append_left (by omega)]; exact h1, h2.typed hov8 (by decide) hg9⟩)))
            clear hown9 hg9 hov8 hcell8
            go_roundw
            case rel => exact ⟨k + 1, _, by omega, by go_num, by rw [HM2.out], by simp [hvl], HH.out.1, HH.out.2.1, HH.out.2.2⟩
            case measure => simp [intOf]; omega
    · obtain rfl : k = 16 := by omega
      obtain ⟨b9, c9, rfl, hc9⟩ : ∃ b c, u6 = .slice (some ⟨b, 0, none⟩) 16 c ∧ 16 ≤ c := by
        rcases hov.2 with ⟨_, hn⟩ | ⟨g, cap, cur, rfl, _, _, hnc, _⟩
        · omega
        · exact ⟨g, cap, by rw [hvl], by omega⟩
      have hko : KO wr b9 (keyF key) := ⟨c9, vs, hvl, hov.base_mono (Nat.zero_le _), fun i hi => by
        obtain ⟨v, h1, h2⟩ := hrows i hi
        exact ⟨keyF_len _ _, v, h1, h2.base_mono (Nat.zero_le _)⟩⟩
      have HH := hid (And.intro hko (Ext.trans HX4.out hb))
      clear hko hov hb hrows
      go_wp2_with fail
      go_ret2
      exact ⟨b9, c9, rfl, hc9, HH.out.1, HH.out.2⟩
end Go.Proofs.YthfcndaccfpnmaaDoor
