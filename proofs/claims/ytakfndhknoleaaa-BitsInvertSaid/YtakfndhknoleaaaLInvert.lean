/- The law on whether a table can be undone, walked; own text of the verifier. -/
import Derived.Test.YtakfndhknoleaaaB9
namespace Go.Proofs.Ytakfndhknoleaaa
open Go.RowKit
def HasU (w1 : World) (j : Nat) (v : Value) (w : World) : Prop := ∃ (us : List Int) (A : Option Addr) (cu : Nat), v = .slice A j cu ∧ Tab w A j cu us ∧ Ext w1 w
theorem lit_tab (w : World) (ys : List Int) (cs : Array Value) (n : Nat) (hcs : cs.toList = cN .i64 ys) (hn : ys.length = n) (hm : n ≤ 1000) (h : (ys.all fun t => (Lit.int .i64 t).wf) = true) :
    Tab (w.alloc (.cells cs 3)) (some ⟨w.heap.size, 0, none⟩) n n ys := by
  obtain ⟨A, c, hA, hc, hR, _⟩ := (OwnN.lit (e := 3) w ys cs n w.heap.size hcs hn (by unfold maxLen; omega) (Nat.le_refl _)).rdc hn
  cases hA
  exact ⟨hR, hc, hm, wf_list hn h⟩
set_option maxRecDepth 100000 in
set_option maxHeartbeats 4000000 in
theorem invert_walk (a0 : Option Addr) (len0 cap0 : Nat) (z0 : List Int) (a1 : Int) (a2 : Option Addr) (len2 cap2 : Nat) (z2 : List Int) (a3 : Int) (a4 : Int) (w : World)
    (w0 : IsRow .i64 w a0 len0 cap0 z0) (_w1 : (Lit.int .i64 a1).wf = true) (w2 : IsRow .i64 w a2 len2 cap2 z2) (_w3 : (Lit.int .i64 a3).wf = true) (_w4 : (Lit.int .i64 a4).wf = true) :
    Calls Try.prog 4 #[.slice a0 len0 cap0, .int .i64 a1, .slice a2 len2 cap2, .int .i64 a3, .int .i64 a4] w fun e w' => e = .returned (.bool true) ∧ Below w.heap.size w w' := by
  obtain ⟨ns, hrn, hmax0, hcap0, _⟩ := w0.rdN
  obtain ⟨raw, hrr, hmax2, hcap2, hwr⟩ := w2.rdN
  unfold maxLen at hmax0 hmax2
  clear w0 w2
  go_enter Try.func4, Try.ntmps4
  go_wp2_with fail
  refine (known_any _).mono ?_
  rintro e wk ⟨rfl, hbk⟩
  by_cases h200 : 200 < len2
  · go_wp2_with fail
    go_ret
    exact ⟨rfl, hbk⟩
  · have HN0 := hid (hrn.later hbk)
    have HR0 := hid hrr
    have HWR := hid hwr
    have HK := hid hbk
    obtain ⟨n, hn⟩ : ∃ n : Nat, a1 % 64 = n := ⟨(a1 % 64).toNat, by omega⟩
    have hn64 : n < 64 := by omega
    have HN := hid hn
    clear hrn hrr hwr hbk hn
    go_wp2_with fail
    refine (within_any _ _ _ (by omega) (by omega)).mono ?_
    rintro e w' ⟨rfl, rfl⟩
    rw [HN.out]
    go_wp2_with fail
    refine (order_tab _ n _ _ _ _ _ rfl HN0.out (by omega) (by omega)).mono ?_
    rintro e w2 ⟨At, ct, rfl, ht, hx2⟩
    have HX2 := hid (Ext.trans HK.out hx2)
    have hct := ht.2.1
    have HL := hid (ht.1.len)
    have HO0 := OwnN.lit (kd := .i64) (e := 3) w2 [] #[] 0 w2.heap.size rfl rfl (by unfold maxLen; omega) (Nat.le_refl _)
    have HRT0 := ht.1.later (Ext.alloc w2 (.cells #[] 3))
    have HT := hid ht
    clear hx2 ht
    have HLN := hid (show ([] ++ ordL n ns).length = n by rw [List.nil_append]; exact ordL_length n ns)
    have HBD := hid (show ∀ t ∈ [] ++ ordL n ns, 1 ≤ t ∧ t ≤ (n : Int) from fun t ht => perm_bound (ordL_isPerm n ns) t (by simpa using ht))
    go_upto_if 33 with (at_builtin; refine wpL_appendN _ rfl (.tmp 28) (.tmp 29) 23 rfl Try.underlying23 8 Try.info3 w2.heap.size _ [] rfl HO0 _ At n ct (ordL n ns) rfl HRT0 (by simp; omega) (by unfold maxLen; simp; omega) (by simp) ?_; intro v3 w3 hown3 hb3; obtain ⟨A3, c3, hv3, hc3, hr3, hown3⟩ := hown3.rdc HLN.out; subst hv3; have hown3h := hid hown3; have hr3h := hid hr3; have hb3h := hid hb3; clear hown3 hr3 hb3)
    have HX3 := hid (show Ext w2 w3 from Below.trans (Ext.alloc w2 (.cells #[] 3)) hb3h.out)
    clear HO0 HRT0 hb3h
    go_cut [12] (fun v wx => HasU w2 n v wx)
    case first =>
      rcases Nat.eq_zero_or_pos n with h0 | h0
      · have hnp : ¬ 0 < n := by omega
        have HH := hid (show HasU w2 n (.slice A3 n c3) w3 from ⟨_, A3, c3, rfl, ⟨hr3h.out, hc3, by omega, fun j hj => absurd hj (by omega)⟩, HX3.out⟩)
        clear h0
        go_wp2_with fail
        go_meet
        exact HH.out
      · obtain ⟨p, hp⟩ : ∃ p : Nat, a3 % (n : Int) = p := ⟨(a3 % (n : Int)).toNat, by have := Int.emod_nonneg a3 (show (n : Int) ≠ 0 by omega); omega⟩
        have hpn : p < n := by have := Int.emod_lt_of_pos a3 (show (0 : Int) < n by omega); omega
        obtain ⟨y, hy⟩ : ∃ y : Nat, a4 % 70 = y := ⟨(a4 % 70).toNat, by omega⟩
        have hy70 : y < 70 := by omega
        obtain ⟨g, c4, he, hc4, hg1, hg2⟩ := hown3h.out.head HLN.out h0
        have hown := hown3h.out
        rw [he] at hown
        simp only [Value.slice.injEq, true_and] at he
        obtain ⟨hA3, hcc⟩ := he
        subst hA3 hcc
        have hcell := hown.celln HLN.out p hpn
        have hfree := hown.free p
        have hset := hid (hown.setn HLN.out p ((y : Int) - 2))
        have HP := hid hp
        have HY := hid hy
        clear hp hy hown
        go_wp2_with fail
        refine (within_any _ _ _ (by omega) (by omega)).mono ?_
        rintro e w' ⟨rfl, rfl⟩
        rw [HP.out]
        go_wp2_with fail
        refine (within_any _ _ _ (by omega) (by omega)).mono ?_
        rintro e w' ⟨rfl, rfl⟩
        rw [HY.out]
        go_wp2_with fail
        go_meet
        obtain ⟨A5, c5, he5, ht5⟩ := tab_of hset.out (n := n) (by rw [List.length_set]; exact HLN.out) (by omega) (fun t ht => by
          rcases List.mem_or_eq_of_mem_set ht with h | h
          · have := HBD.out t h; omega
          · omega)
        cases he5
        exact ⟨_, _, _, rfl, ht5, Below.setCell HX3.out (by simpa using hg1) _⟩
    case rest =>
      obtain ⟨us, Au, cu, rfl, hu, hxu⟩ := hcut
      obtain ⟨W1, hW1⟩ : ∃ W1, wc.alloc (.cells #[.int .i64 1] 3) = W1 := ⟨_, rfl⟩
      obtain ⟨W2, hW2⟩ : ∃ W2, W1.alloc (.cells #[.int .i64 0] 3) = W2 := ⟨_, rfl⟩
      obtain ⟨W3, hW3⟩ : ∃ W3, W2.alloc (.cells #[.int .i64 2] 3) = W3 := ⟨_, rfl⟩
      obtain ⟨W4, hW4⟩ : ∃ W4, W3.alloc (.cells #[.int .i64 2, .int .i64 1] 3) = W4 := ⟨_, rfl⟩
      obtain ⟨W5, hW5⟩ : ∃ W5, W4.alloc (.cells #[.int .i64 1, .int .i64 1] 3) = W5 := ⟨_, rfl⟩
      have t1 := lit_tab wc [1] #[.int .i64 1] 1 rfl rfl (by omega) (by decide +kernel)
      have t2 := lit_tab W1 [0] #[.int .i64 0] 1 rfl rfl (by omega) (by decide +kernel)
      have t3 := lit_tab W2 [2] #[.int .i64 2] 1 rfl rfl (by omega) (by decide +kernel)
      have t4 := lit_tab W3 [2, 1] #[.int .i64 2, .int .i64 1] 2 rfl rfl (by omega) (by decide +kernel)
      have t5 := lit_tab W4 [1, 1] #[.int .i64 1, .int .i64 1] 2 rfl rfl (by omega) (by decide +kernel)
      have x1 : Ext wc W1 := hW1 ▸ Ext.alloc _ _
      have x2 : Ext W1 W2 := hW2 ▸ Ext.alloc _ _
      have x3 : Ext W2 W3 := hW3 ▸ Ext.alloc _ _
      have x4 : Ext W3 W4 := hW4 ▸ Ext.alloc _ _
      have x5 : Ext W4 W5 := hW5 ▸ Ext.alloc _ _
      rw [hW1] at t1
      rw [hW2] at t2
      rw [hW3] at t3
      rw [hW4] at t4
      rw [hW5] at t5
      have z1 : W1.heap.size = wc.heap.size + 1 := by rw [← hW1]; simp
      have z2 : W2.heap.size = wc.heap.size + 1 + 1 := by rw [← hW2]; simp [z1]
      have z3 : W3.heap.size = wc.heap.size + 1 + 1 + 1 := by rw [← hW3]; simp [z2]
      have z4 : W4.heap.size = wc.heap.size + 1 + 1 + 1 + 1 := by rw [← hW4]; simp [z3]
      have z5 : W5.heap.size = wc.heap.size + 1 + 1 + 1 + 1 + 1 := by rw [← hW5]; simp [z4]
      have x45 := Ext.trans x4 x5
      have x35 := Ext.trans x3 x45
      have x25 := Ext.trans x2 x35
      have x15 := Ext.trans x1 x25
      rw [z1] at t2
      rw [z2] at t3
      rw [z3] at t4
      rw [z4] at t5
      have hT : Tabs (W5.alloc (.cells #[.slice At n ct, .slice Au n cu, .slice a2 len2 cap2, .slice none 0 0, .slice (some ⟨wc.heap.size, 0, none⟩) 1 1, .slice (some ⟨wc.heap.size + 1, 0, none⟩) 1 1, .slice (some ⟨wc.heap.size + 1 + 1, 0, none⟩) 1 1, .slice (some ⟨wc.heap.size + 1 + 1 + 1, 0, none⟩) 2 2, .slice (some ⟨wc.heap.size + 1 + 1 + 1 + 1, 0, none⟩) 2 2] 23)) W5.heap.size 9 := Tabs.lit W5 [.slice At n ct, .slice Au n cu, .slice a2 len2 cap2, .slice none 0 0, .slice (some ⟨wc.heap.size, 0, none⟩) 1 1, .slice (some ⟨wc.heap.size + 1, 0, none⟩) 1 1, .slice (some ⟨wc.heap.size + 1 + 1, 0, none⟩) 1 1, .slice (some ⟨wc.heap.size + 1 + 1 + 1, 0, none⟩) 2 2, .slice (some ⟨wc.heap.size + 1 + 1 + 1 + 1, 0, none⟩) 2 2] 9 (fun i hi => by
        match i, hi with
        | 0, _ => exact ⟨_, _, _, _, rfl, HT.out.later (Ext.trans hxu x15)⟩
        | 1, _ => exact ⟨_, _, _, _, rfl, hu.later x15⟩
        | 2, _ => exact ⟨_, _, _, raw, rfl, HR0.out.later (Ext.trans HX2.out (Ext.trans hxu x15)), hcap2, by omega, HWR.out⟩
        | 3, _ => exact ⟨none, 0, 0, [], rfl, ⟨RdN.nil _ _ _, by omega, by omega, fun j hj => absurd hj (by omega)⟩⟩
        | 4, _ => exact ⟨_, _, _, _, rfl, t1.later x25⟩
        | 5, _ => exact ⟨_, _, _, _, rfl, t2.later x35⟩
        | 6, _ => exact ⟨_, _, _, _, rfl, t3.later x45⟩
        | 7, _ => exact ⟨_, _, _, _, rfl, t4.later x5⟩
        | 8, _ => exact ⟨_, _, _, _, rfl, t5⟩)
      obtain ⟨W6, hW6⟩ : ∃ W6, W5.alloc (.cells #[.slice At n ct, .slice Au n cu, .slice a2 len2 cap2, .slice none 0 0, .slice (some ⟨wc.heap.size, 0, none⟩) 1 1, .slice (some ⟨wc.heap.size + 1, 0, none⟩) 1 1, .slice (some ⟨wc.heap.size + 1 + 1, 0, none⟩) 1 1, .slice (some ⟨wc.heap.size + 1 + 1 + 1, 0, none⟩) 2 2, .slice (some ⟨wc.heap.size + 1 + 1 + 1 + 1, 0, none⟩) 2 2] 23) = W6 := ⟨_, rfl⟩
      have x6 : Ext W5 W6 := hW6 ▸ Ext.alloc _ _
      rw [hW6, z5] at hT
      have HTS := hid hT
      have HX6 := hid (Ext.trans HX2.out (Ext.trans hxu (Ext.trans x15 x6)))
      have HW1 := hid hW1
      have HW2 := hid hW2
      have HW3 := hid hW3
      have HW4 := hid hW4
      have HW5 := hid hW5
      have HW6 := hid hW6
      clear hT x1 x2 x3 x4 x5 x6 x15 x25 x35 x45 t1 t2 t3 t4 t5 z1 z2 z3 z4 z5 hW1 hW2 hW3 hW4 hW5 hW6 hu hxu
      go_wp2_with fail
      rw [HW1.out, HW2.out, HW3.out, HW4.out, HW5.out, HW6.out]
      obtain ⟨L, hL⟩ : ∃ L, wc.heap.size + 1 + 1 + 1 + 1 + 1 = L := ⟨_, rfl⟩
      rw [hL]
      have HTS2 := hid (hL ▸ HTS.out)
      clear hL HW1 HW2 HW3 HW4 HW5 HW6 HTS
      go_loopw [14] (fun i wr => ∃ (q : Nat), q ≤ 9 ∧ i = .int .i64 q ∧ Ext W6 wr) (fun i _ => 9 - (intOf i).toNat)
      case atStart => exact ⟨0, by omega, rfl, Ext.refl _⟩
      case round =>
        obtain ⟨q, hq, rfl, hx⟩ := hrel
        by_cases hqt : q < 9
        · obtain ⟨hLz, hTb⟩ := HTS2.out.later hx
          obtain ⟨A, nt, ct', tt, hcell, ht⟩ := hTb q hqt
          have htt := hid ht
          have hn2 := hid ht.2.2.1
          have hxh := hid hx
          clear hTb hx ht
          go_wp2_with fail
          refine (inv_any _ _ _ _ _ htt.out.1 (by have := hn2.out; omega) htt.out.2.2.2).mono ?_
          cases hR : invG tt nt nt with
          | none =>
            have HR := hid hR
            clear hR
            rintro e w5 ⟨rfl, hb5⟩
            have hxh6 := hid (Ext.trans hxh.out hb5)
            have hcell2 := (Below.cell hb5 (p := ⟨L, q, none⟩) hLz).trans hcell
            have ht6 := hid (htt.out.later hb5)
            clear hb5
            go_wp2_with fail
            refine (rinv_any _ _ _ _ _ ht6.out.1 (by have := hn2.out; omega) ht6.out.2.2.2).mono ?_
            rw [HR.out]
            rintro e w6 ⟨rfl, hb6⟩
            have hxh7 := hid (Ext.trans hxh6.out hb6)
            clear hb6
            go_wp2_with fail
            refine (ints_any _ _ _ _ _ _ _ _ _ (RdN.nil _ _ _) (RdN.nil _ _ _) (by omega) (by omega)).mono ?_
            rintro e w7 ⟨rfl, hb7⟩
            rw [show eqL [] [] = true by simp [eqL]]
            have hxh8 := hid (Ext.trans hxh7.out hb7)
            clear hb7
            go_wp2_with fail
            go_roundw
            case rel => exact ⟨q + 1, by omega, by go_num, hxh8.out⟩
            case measure => simp [intOf]; omega
          | some out =>
            have HR := hid hR
            have HLo := hid (invG_len _ _ _ _ hR)
            clear hR
            rintro e w5 ⟨v5, rfl, ho5, hb5⟩
            obtain ⟨A5, c5, rfl, hr5, _⟩ := ho5.rdn HLo.out
            have hxh6 := hid (Ext.trans hxh.out hb5)
            have hcell2 := (Below.cell hb5 (p := ⟨L, q, none⟩) hLz).trans hcell
            have ht6 := hid (htt.out.later hb5)
            have hr5h := hid hr5
            clear hb5 ho5 hr5
            go_wp2_with fail
            refine (rinv_any _ _ _ _ _ ht6.out.1 (by have := hn2.out; omega) ht6.out.2.2.2).mono ?_
            rw [HR.out]
            rintro e w6 ⟨v6, rfl, ho6, hb6⟩
            obtain ⟨A6, c6, rfl, hr6, _⟩ := ho6.rdn HLo.out
            have hxh7 := hid (Ext.trans hxh6.out hb6)
            have hr6h := hid hr6
            have hr5h6 := hid (hr5h.out.later hb6)
            clear hb6 ho6 hr6
            go_wp2_with fail
            refine (ints_any _ _ _ _ _ _ _ _ _ hr5h6.out hr6h.out (by have := hn2.out; omega) (by have := hn2.out; omega)).mono ?_
            rintro e w7 ⟨rfl, hb7⟩
            rw [show eqL out out = true by simp [eqL]]
            have hxh8 := hid (Ext.trans hxh7.out hb7)
            clear hb7
            go_wp2_with fail
            go_roundw
            case rel => exact ⟨q + 1, by omega, by go_num, hxh8.out⟩
            case measure => simp [intOf]; omega
        · obtain rfl : q = 9 := by omega
          have HXX := hid (Ext.trans HX6.out hx)
          clear hx
          go_wp2_with fail
          go_ret
          exact ⟨rfl, HXX.out⟩
end Go.Proofs.Ytakfndhknoleaaa
