/- The law on bits and tables of bits, walked; own text of the verifier. -/
import Derived.Test.YtakfndhknoleaaaB7
import Derived.Deep.DeepCutAuto
namespace Go.Proofs.Ytakfndhknoleaaa
open Go.RowKit
def HasTab (wk : World) (v : Value) (w : World) : Prop := ∃ (ts : List Int) (A : Option Addr) (j c : Nat), v = .slice A j c ∧ ts.length = j ∧ Tab w A j c ts ∧ j ≤ 100 ∧ Ext wk w
set_option maxRecDepth 100000 in
set_option maxHeartbeats 4000000 in
theorem all_walk (a0 : Option Addr) (len0 cap0 : Nat) (z0 : List Int) (a1 : Option Addr) (len1 cap1 : Nat) (z1 : List Int) (a2 : Option Addr) (len2 cap2 : Nat) (z2 : List Int) (a3 : Int) (w : World)
    (w0 : IsRow .u8 w a0 len0 cap0 z0) (w1 : IsRow .i64 w a1 len1 cap1 z1) (w2 : IsRow .i64 w a2 len2 cap2 z2) (w3 : (Lit.int .i64 a3).wf = true) :
    Calls Try.prog 3 #[.slice a0 len0 cap0, .slice a1 len1 cap1, .slice a2 len2 cap2, .int .i64 a3] w fun e w' => e = .returned (.bool true) ∧ Below w.heap.size w w' := by
  obtain ⟨bs, hrb, hmax0, _⟩ := w0.rdc
  obtain ⟨ns, hrn, hmax1, hcap1, hwn⟩ := w1.rdN
  obtain ⟨raw, hrr, hmax2, hcap2, hwr⟩ := w2.rdN
  unfold maxLen at hmax0 hmax1 hmax2
  have h3 := wf_i64 w3
  clear w0 w1 w2
  go_enter Try.func3, Try.ntmps3
  go_wp2_with fail
  refine (known_any _).mono ?_
  rintro e wk ⟨rfl, hbk⟩
  by_cases h40 : 40 < len0
  · go_wp2_with fail
    go_ret
    exact ⟨rfl, hbk⟩
  · by_cases h200 : 200 < len2
    · go_wp2_with fail
      go_ret
      exact ⟨rfl, hbk⟩
    · have HB0 := hid hrb
      have HN0 := hid hrn
      have HR0 := hid hrr
      have HWN := hid hwn
      have HWR := hid hwr
      have HK := hid hbk
      clear hrb hrn hrr hwn hwr hbk
      go_wp2_with fail
      go_loop [9] (fun i => ∃ (k : Nat), k ≤ 8 * len0 + 5 ∧ i = .int .i64 ((k : Int) - 2)) (fun i => (8 * (len0 : Int) + 3 - intOf i).toNat)
      case atStart => exact ⟨0, by omega, rfl⟩
      case round =>
        obtain ⟨k, hk, rfl⟩ := hrel
        by_cases hlt : k < 8 * len0 + 5
        · have hr := hid (HB0.out.later HK.out)
          go_wp2_with fail
          refine (bit_any _ _ _ _ _ _ hr.out (by omega) (by omega)).mono ?_
          rintro e w' ⟨rfl, rfl⟩
          go_wp2_with fail
          refine (rbit_any _ _ _ _ _ _ hr.out (by omega) (by omega) (by omega)).mono ?_
          rintro e w' ⟨rfl, rfl⟩
          obtain ⟨Y, hY⟩ : ∃ Y, bitN bs ((k : Int) - 2) = Y := ⟨_, rfl⟩
          rw [hY]
          clear hY
          go_wp2_with fail
          go_round
          case rel => exact ⟨k + 1, by omega, by go_num⟩
          case measure => simp [intOf]; omega
        · obtain rfl : k = 8 * len0 + 5 := by omega
          clear hk hlt
          go_upto_region 10 with fail
          go_cut [10] (fun v wx => v = .slice none 0 0 ∧ wx = wk)
          case first =>
            go_wp2_with fail
            go_meet
            exact ⟨rfl, rfl⟩
          rename_i hKK
          obtain ⟨rfl, hwc⟩ := hcut
          have hwc := hwc.symm
          subst hwc
          apply hKK
          refine wp_seq_k fun K2 hK2 => ?_
          go_cut [10] (fun v wx => HasTab wk v wx)
          case first =>
            go_wp2_with fail
            go_loopw [10, 11] (fun v i wr => ∃ (j : Nat) (ts : List Int), j ≤ 100 ∧ i = .int .i64 j ∧ ts.length = j ∧ OwnN .i64 3 wr wk.heap.size v ts ∧ (∀ t ∈ ts, 1 ≤ t ∧ t ≤ 320) ∧ Ext wk wr) (fun _ i _ => 100 - (intOf i).toNat)
            case atStart => exact ⟨0, [], by omega, rfl, rfl, World.ownsRow_nil _ _ _ _, by simp, Ext.refl _⟩
            case round =>
              obtain ⟨j, ts, hj, rfl, htl, hown, hall, hx⟩ := hrel
              by_cases hgo : j < len1 ∧ j < 100 ∧ 0 < len0
              · obtain ⟨h1, h2, h0⟩ := hgo
                obtain ⟨b1, o1, rfl, hb1', hc1⟩ := (HN0.out.below (Ext.trans HK.out hx) (Nat.le_refl _)).at_ (by omega)
                have hck := hc1 j h1
                obtain ⟨x, hxx⟩ : ∃ x, ns.getD j 0 = x := ⟨_, rfl⟩
                rw [hxx] at hck
                have hm := Int.emod_nonneg x (show (8 * (len0 : Int)) ≠ 0 by omega)
                have hm2 := Int.emod_lt_of_pos x (show 0 < (8 * (len0 : Int)) by omega)
                have HO := hid hown
                have HT := hid (And.intro htl hall)
                have HX := hid hx
                have hz := hx.size
                obtain ⟨y, hy⟩ : ∃ y, x % (8 * (len0 : Int)) = y := ⟨_, rfl⟩
                rw [hy] at hm hm2
                have HY := hid hy
                have hLt := OwnN.lit (e := 3) wr [1 + y] #[.int .i64 (1 + y)] 1 wr.heap.size rfl rfl (by unfold maxLen; omega) (Nat.le_refl _)
                obtain ⟨A1, c1, hA, _, hR, _⟩ := hLt.rdc (n := 1) rfl
                cases hA
                have hO := HO.out.kept (Ext.alloc wr (.cells #[.int .i64 (1 + y)] 3))
                have hxa := Ext.trans HX.out (Ext.alloc wr (.cells #[.int .i64 (1 + y)] 3))
                have HXA := hid hxa
                have htn : ts.length ≤ 100 := by omega
                clear hxx hy hc1 hown htl hall hx hLt hxa
                go_wp2_with fail
                refine (within_any _ _ _ (by omega) (by omega)).mono ?_
                rintro e w' ⟨rfl, rfl⟩
                rw [HY.out]
                go_wp2_with (at_builtin; refine wpL_appendN _ rfl (.tmp 58) (.tmp 68) 23 rfl Try.underlying23 8 Try.info3 wk.heap.size _ ts rfl hO _ _ 1 1 [1 + y] rfl hR (by omega) (by unfold maxLen; omega) (by simp; omega) ?_; intro v2 w2 hown2 hb2)
                have HX2 := hid (Below.trans HXA.out hb2)
                go_roundw
                case rel =>
                  refine ⟨j + 1, _, by omega, by go_num, by rw [List.length_append, HT.out.1]; rfl, hown2, ?_, HX2.out⟩
                  intro t ht
                  rcases List.mem_append.1 ht with h | h
                  · exact HT.out.2 t h
                  · have := List.mem_singleton.1 h; omega
                case measure => simp [intOf]; omega
              · obtain ⟨At, ct, rfl, hct, hrt, _⟩ := hown.rdc htl
                have hways : len1 ≤ j ∨ (j < len1 ∧ 100 ≤ j) ∨ (j < len1 ∧ j < 100 ∧ ¬ 0 < len0) := by omega
                have HH := hid (show HasTab wk (.slice At j ct) wr from ⟨ts, At, j, ct, rfl, htl, ⟨hrt, hct, by omega, fun i hi => by
                  have := getD_of_all hall (j := i) (by omega)
                  exact wf_of (by omega) (by omega)⟩, by omega, hx⟩)
                clear hown htl hall hx hrt hgo
                rcases hways with h1 | ⟨h1, h2⟩ | ⟨h1, h2, h0⟩
                all_goals
                  go_wp2_with fail
                  go_meet
                  exact HH.out
          case rest =>
            obtain ⟨ts, At, j, ct, rfl, htl, ht, hj, hx⟩ := hcut
            have HT := hid htl
            have HTT := hid ht
            have HX := hid hx
            have hct := ht.2.1
            have HO0 := OwnN.lit (kd := .i64) (e := 3) wc [] #[] 0 wc.heap.size rfl rfl (by unfold maxLen; omega) (Nat.le_refl _)
            have HRT0 := ht.1.later (Ext.alloc wc (.cells #[] 3))
            have HTN := hid (show ([] ++ ts).length ≤ 100 by simp; omega)
            have HLN := hid (show (([] ++ ts) ++ [a3]).length = j + 1 by simp; omega)
            clear htl ht hx
            go_wp2_with (first
              | (at_builtin; refine wpL_appendN _ rfl (.tmp 72) (.tmp 73) 23 rfl Try.underlying23 8 Try.info3 wc.heap.size _ [] rfl HO0 _ At j ct ts rfl HRT0 (by simp; omega) (by unfold maxLen; simp; omega) (by simp) ?_; intro v1 w1 hown1 hb1; have HO2 := hown1.kept (Ext.alloc w1 (.cells #[.int .i64 a3] 3)); have hz1 := hb1.size; have HR2 := one_rd w1 a3; have htn : ([] ++ ts).length ≤ 100 := HTN.out; clear hown1)
              | (at_builtin; refine wpL_appendN _ rfl (.tmp 74) (.tmp 76) 23 rfl Try.underlying23 8 Try.info3 wc.heap.size _ ([] ++ ts) rfl HO2 _ _ 1 1 [a3] rfl HR2 (by omega) (by unfold maxLen; omega) (by simp at hz1 ⊢; omega) ?_; intro v2 w2 hown2 hb2; obtain ⟨A2, c2, hv2, hc2, hr2, _⟩ := hown2.rdc (n := j + 1) (HLN.out); subst hv2; clear hown2))
            have hle : wc.heap.size ≤ w1.heap.size := by simp at hz1; omega
            have hx2 : Ext wc w2 := Below.trans (Below.trans (Ext.alloc wc (.cells #[] 3)) hb1) (Below.trans (Below.mono (Ext.alloc w1 (.cells #[.int .i64 a3] 3)) hle) hb2)
            have hT3 : Tabs (w2.alloc (.cells #[.slice At j ct, .slice a2 len2 cap2, .slice A2 (j + 1) c2, .slice none 0 0] 23)) w2.heap.size 4 :=
              Tabs.lit w2 [.slice At j ct, .slice a2 len2 cap2, .slice A2 (j + 1) c2, .slice none 0 0] 4 (fun i hi => by
                match i, hi with
                | 0, _ => exact ⟨At, j, ct, ts, rfl, HTT.out.later hx2⟩
                | 1, _ => exact ⟨a2, len2, cap2, raw, rfl, HR0.out.later (Ext.trans HK.out (Ext.trans HX.out hx2)), hcap2, by omega, HWR.out⟩
                | 2, _ => exact ⟨A2, j + 1, c2, _, rfl, hr2, hc2, by omega, fun i hi => by
                    have hlen := HLN.out
                    have : ∀ t ∈ ([] ++ ts) ++ [a3], -9223372036854775808 ≤ t ∧ t ≤ 9223372036854775807 := by
                      intro t ht
                      rcases List.mem_append.1 ht with h | h
                      · rw [List.nil_append] at h
                        obtain ⟨k, hk, rfl⟩ := List.mem_iff_getElem.1 h
                        have := wf_i64 (HTT.out.2.2.2 k (by have := HT.out; omega))
                        simpa [List.getD, List.getElem?_eq_getElem hk] using this
                      · have := List.mem_singleton.1 h
                        rw [this]; exact h3
                    have := getD_of_all this (j := i) (by omega)
                    exact wf_of this.1 this.2⟩
                | 3, _ => exact ⟨none, 0, 0, [], rfl, ⟨RdN.nil _ _ _, by omega, by omega, fun j hj => absurd hj (by omega)⟩⟩)
            have hx3 : Ext wc (w2.alloc (.cells #[.slice At j ct, .slice a2 len2 cap2, .slice A2 (j + 1) c2, .slice none 0 0] 23)) := Ext.trans hx2 (Ext.alloc _ _)
            have HT3 := hid hT3
            have HX3 := hid (Ext.trans HK.out (Ext.trans HX.out hx3))
            have hb0 := hid (HB0.out.below HX3.out (Nat.le_refl _))
            clear hT3 hx3 hx2 hle hb1 hb2 hr2 hz1 htn HRT0 HO0 HR2 HO2
            go_loopw [13] (fun i wr => ∃ (q : Nat), q ≤ 4 ∧ i = .int .i64 q ∧ Ext (w2.alloc (.cells #[.slice At j ct, .slice a2 len2 cap2, .slice A2 (j + 1) c2, .slice none 0 0] 23)) wr) (fun i _ => 4 - (intOf i).toNat)
            case atStart => exact ⟨0, by omega, rfl, Ext.refl _⟩
            case round =>
              obtain ⟨q, hq, rfl, hx⟩ := hrel
              by_cases hqt : q < 4
              · obtain ⟨hLz, hT⟩ := HT3.out.later hx
                obtain ⟨A, nt, ct', tt, hcell, ht⟩ := hT q hqt
                have hrB := hid (HB0.out.later (Ext.trans HX3.out hx))
                have htt := hid ht
                have hn1 := hid ht.2.1
                have hn2 := hid ht.2.2.1
                have HX5 := hid (Ext.trans HX3.out hx)
                have hxh := hid hx
                clear hT hx ht
                go_wp2_with fail
                refine (perm_any _ _ _ _ _ _ _ _ _ hrB.out htt.out.1 (by have := hn2.out; omega) hn1.out htt.out.2.2.2).mono ?_
                cases hR : permR bs tt with
                | none =>
                  have HR := hid hR
                  clear hR
                  rintro e w5 ⟨rfl, hb5⟩
                  have HX6 := hid (Ext.trans HX5.out hb5)
                  have hxh6 := hid (Ext.trans hxh.out hb5)
                  have hcell2 := (Below.cell hb5 (p := ⟨w2.heap.size, q, none⟩) hLz).trans hcell
                  have hrB6 := hid (hrB.out.later hb5)
                  have ht6 := hid (htt.out.later hb5)
                  clear hb5
                  go_wp2_with fail
                  refine (rperm_any _ _ _ _ _ _ _ _ _ hrB6.out ht6.out.1 (by omega) (by have := hn2.out; omega) ht6.out.2.2.2).mono ?_
                  rw [HR.out]
                  rintro e w6 ⟨rfl, hb6⟩
                  have hxh7 := hid (Ext.trans hxh6.out hb6)
                  have hs5 := run_str (P := Try.prog) w6 22 9 (by kernel_rfl) (by kernel_rfl) (by kernel_rfl) 0 none 0 0 [] (Rd.nil _ _ _)
                  clear hb6
                  go_wp2_with fail
                  go_roundw
                  case rel => exact ⟨q + 1, by omega, by go_num, hxh7.out⟩
                  case measure => simp [intOf]; omega
                | some out =>
                  have HR := hid hR
                  clear hR
                  rintro e w5 ⟨v5, rfl, ho5, hb5⟩
                  obtain ⟨A5, c5, rfl, hr5, _⟩ := ho5.rd
                  have HX6 := hid (Ext.trans HX5.out hb5)
                  have hxh6 := hid (Ext.trans hxh.out hb5)
                  have hcell2 := (Below.cell hb5 (p := ⟨w2.heap.size, q, none⟩) hLz).trans hcell
                  have hrB6 := hid (hrB.out.later hb5)
                  have ht6 := hid (htt.out.later hb5)
                  have hr5h := hid hr5
                  clear hb5 ho5 hr5
                  go_wp2_with fail
                  refine (rperm_any _ _ _ _ _ _ _ _ _ hrB6.out ht6.out.1 (by omega) (by have := hn2.out; omega) ht6.out.2.2.2).mono ?_
                  rw [HR.out]
                  rintro e w6 ⟨v6, rfl, ho6, hb6⟩
                  obtain ⟨A6, c6, rfl, hr6, _⟩ := ho6.rd
                  have hxh7 := hid (Ext.trans hxh6.out hb6)
                  have hs5 := run_str (P := Try.prog) w6 22 9 (by kernel_rfl) (by kernel_rfl) (by kernel_rfl) _ _ _ c5 _ (hr5h.out.later hb6)
                  have hs6 := run_str (P := Try.prog) w6 22 9 (by kernel_rfl) (by kernel_rfl) (by kernel_rfl) _ _ _ c6 _ hr6
                  clear hb6 ho6 hr6
                  go_wp2_with fail
                  go_roundw
                  case rel => exact ⟨q + 1, by omega, by go_num, hxh7.out⟩
                  case measure => simp [intOf]; omega
              · obtain rfl : q = 4 := by omega
                have hrB := hid (HB0.out.later (Ext.trans HX3.out hx))
                have HX5 := hid (Ext.trans HX3.out hx)
                clear hx
                go_wp2_with fail
                refine (bit_any _ _ _ _ _ _ hrB.out h3.1 h3.2).mono ?_
                rintro e w' ⟨rfl, rfl⟩
                go_wp2_with fail
                refine (rbit_any _ _ _ _ _ _ hrB.out h3.1 h3.2 (by omega)).mono ?_
                rintro e w' ⟨rfl, rfl⟩
                obtain ⟨Y, hY⟩ : ∃ Y, bitN bs a3 = Y := ⟨_, rfl⟩
                rw [hY]
                clear hY
                go_wp2_with fail
                go_ret
                exact ⟨rfl, HX5.out⟩
end Go.Proofs.Ytakfndhknoleaaa
