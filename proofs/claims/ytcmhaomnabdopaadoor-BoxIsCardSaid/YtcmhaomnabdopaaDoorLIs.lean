/- The law on what a table is, and what undoes it, walked; own text of the verifier. -/
import Derived.Test.YtcmhaomnabdopaaDoorX7
import Derived.Deep.DeepCutAuto
import Derived.Deep.CutBlock
namespace Go.Proofs.YtcmhaomnabdopaaDoor
open Go.RowKit
noncomputable def isKs (L k mb mx : Nat) (B : Bool) (bs : List UInt8) : List K := [.eq (.slice (some ⟨L, 0, none⟩) 7 7), .eq (.int .i64 k), .eq (.pointer (some ⟨L, k, none⟩)), .byt mb (bs), .eq (.bool B), .eq (.slice (some ⟨L, 0, none⟩) 7 7), .eq (.int .i64 k), .eq (.pointer (some ⟨L, k, none⟩)), .byt mb (bs), .eq (.bool B), .eq (.bool false), .eq (.bool false), .eq (.bool B), .eq (.bool B), .eq (.bool false), .eq (.bool false), .eq (.bool false), .byt mx (outB bs), .eq (.string (str (outB bs))), .byt mx (outB bs), .eq (.string (str (outB bs))), .eq (.bool false), .eq (.bool false)]
/-- A row of k slices of bytes. -/
def TabsB (w : World) (L k : Nat) : Prop := L < w.heap.size ∧ ∀ i, i < k → ∃ A n c bs, w.cell? ⟨L, i, none⟩ = some (.slice A n c) ∧ Rd w w.heap.size A n bs ∧ n ≤ 140737488355328
theorem TabsB.later {w w' : World} {L k : Nat} (h : TabsB w L k) (hx : Ext w w') : TabsB w' L k :=
  ⟨Nat.lt_of_lt_of_le h.1 (Below.size hx), fun i hi => by
    obtain ⟨A, n, c, bs, h1, h2, h3⟩ := h.2 i hi
    exact ⟨A, n, c, bs, (Below.cell hx (p := ⟨L, i, none⟩) h.1).trans h1, h2.later hx, h3⟩⟩
theorem Rd.lit (w : World) (bs : List UInt8) (cs : Array Value) (n : Nat) (hcs : cs.toList = cellsOf bs) (hn : bs.length = n) (hm : n ≤ maxLen) :
    Rd (w.alloc (.cells cs 5)) (w.alloc (.cells cs 5)).heap.size (some ⟨w.heap.size, 0, none⟩) n bs := by
  obtain ⟨A, c, e, hr, _⟩ := (Own.lit w bs cs n w.heap.size hcs hn hm (Nat.le_refl _)).rdn hn
  cases e
  exact hr
theorem ext7 (w : World) (o : Obj) : Ext w ((((w.alloc (.cells #[.int .u8 0] 5)).alloc (.cells #[.int .u8 1] 5)).alloc (.cells #[.int .u8 0, .int .u8 0] 5)).alloc o) :=
  Ext.trans (Ext.trans (Ext.trans (Ext.alloc _ _) (Ext.alloc _ _)) (Ext.alloc _ _)) (Ext.alloc _ _)
theorem tabs7 (w : World) {At Au a2 : Option Addr} {n len2 : Nat} {t us raw : List UInt8} (hn : n ≤ 140737488355328) (hl : len2 ≤ 140737488355328) (r1 : Rd w w.heap.size At n t) (r2 : Rd w w.heap.size Au n us) (r3 : Rd w w.heap.size a2 len2 raw) (ct cu cap2 : Nat) :
    TabsB ((((w.alloc (.cells #[.int .u8 0] 5)).alloc (.cells #[.int .u8 1] 5)).alloc (.cells #[.int .u8 0, .int .u8 0] 5)).alloc (.cells #[.slice At n ct, .slice Au n cu, .slice a2 len2 cap2, .slice none 0 0, .slice (some ⟨w.heap.size, 0, none⟩) 1 1, .slice (some ⟨w.heap.size + 1, 0, none⟩) 1 1, .slice (some ⟨w.heap.size + 2, 0, none⟩) 2 2] 23)) (w.heap.size + 3) 7 := by
  have q1 := Rd.lit w [0] #[.int .u8 0] 1 rfl rfl (by unfold maxLen; omega)
  have q2 := Rd.lit (w.alloc (.cells #[.int .u8 0] 5)) [1] #[.int .u8 1] 1 rfl rfl (by unfold maxLen; omega)
  have q3 := Rd.lit ((w.alloc (.cells #[.int .u8 0] 5)).alloc (.cells #[.int .u8 1] 5)) [0, 0] #[.int .u8 0, .int .u8 0] 2 rfl rfl (by unfold maxLen; omega)
  have e0 := Ext.alloc w (.cells #[.int .u8 0] 5)
  have e1 := Ext.alloc (w.alloc (.cells #[.int .u8 0] 5)) (.cells #[.int .u8 1] 5)
  have e2 := Ext.alloc ((w.alloc (.cells #[.int .u8 0] 5)).alloc (.cells #[.int .u8 1] 5)) (.cells #[.int .u8 0, .int .u8 0] 5)
  have z1 : (w.alloc (.cells #[.int .u8 0] 5)).heap.size = w.heap.size + 1 := by simp
  have z2 : ((w.alloc (.cells #[.int .u8 0] 5)).alloc (.cells #[.int .u8 1] 5)).heap.size = w.heap.size + 2 := by simp
  have z3 : (((w.alloc (.cells #[.int .u8 0] 5)).alloc (.cells #[.int .u8 1] 5)).alloc (.cells #[.int .u8 0, .int .u8 0] 5)).heap.size = w.heap.size + 3 := by simp
  generalize w.alloc (.cells #[.int .u8 0] 5) = w1 at *
  generalize w1.alloc (.cells #[.int .u8 1] 5) = w2 at *
  generalize w2.alloc (.cells #[.int .u8 0, .int .u8 0] 5) = w3 at *
  rw [z1] at q2
  rw [z2] at q3
  have e4 := Ext.alloc w3 (.cells #[.slice At n ct, .slice Au n cu, .slice a2 len2 cap2, .slice none 0 0, .slice (some ⟨w.heap.size, 0, none⟩) 1 1, .slice (some ⟨w.heap.size + 1, 0, none⟩) 1 1, .slice (some ⟨w.heap.size + 2, 0, none⟩) 2 2] 23)
  have hh := heap_alloc_new w3 (.cells #[.slice At n ct, .slice Au n cu, .slice a2 len2 cap2, .slice none 0 0, .slice (some ⟨w.heap.size, 0, none⟩) 1 1, .slice (some ⟨w.heap.size + 1, 0, none⟩) 1 1, .slice (some ⟨w.heap.size + 2, 0, none⟩) 2 2] 23)
  rw [z3] at hh
  generalize w3.alloc (.cells #[.slice At n ct, .slice Au n cu, .slice a2 len2 cap2, .slice none 0 0, .slice (some ⟨w.heap.size, 0, none⟩) 1 1, .slice (some ⟨w.heap.size + 1, 0, none⟩) 1 1, .slice (some ⟨w.heap.size + 2, 0, none⟩) 2 2] 23) = w4 at *
  refine ⟨(Array.getElem?_eq_some_iff.1 hh).1, fun i hi => ?_⟩
  have x01 : Ext w w3 := Ext.trans (Ext.trans e0 e1) e2
  match i, hi with
  | 0, _ => exact ⟨_, _, _, _, by rw [cell_of_row _ _ _ _ _ _ hh]; rfl, (r1.later x01).later e4, hn⟩
  | 1, _ => exact ⟨_, _, _, _, by rw [cell_of_row _ _ _ _ _ _ hh]; rfl, (r2.later x01).later e4, hn⟩
  | 2, _ => exact ⟨_, _, _, _, by rw [cell_of_row _ _ _ _ _ _ hh]; rfl, (r3.later x01).later e4, hl⟩
  | 3, _ => exact ⟨_, _, _, _, by rw [cell_of_row _ _ _ _ _ _ hh]; rfl, Rd.nil _ _ _, by omega⟩
  | 4, _ => exact ⟨_, _, _, _, by rw [cell_of_row _ _ _ _ _ _ hh]; rfl, ((q1.later e1).later e2).later e4, by omega⟩
  | 5, _ => exact ⟨_, _, _, _, by rw [cell_of_row _ _ _ _ _ _ hh]; rfl, (q2.later e2).later e4, by omega⟩
  | 6, _ => exact ⟨_, _, _, _, by rw [cell_of_row _ _ _ _ _ _ hh]; rfl, q3.later e4, by omega⟩
set_option maxRecDepth 100000 in
set_option maxHeartbeats 8000000 in
theorem is_walk (a0 : Int) (a1 : Option Addr) (len1 cap1 : Nat) (z1 : List Int) (a2 : Option Addr) (len2 cap2 : Nat) (z2 : List Int) (a3 a4 : Int) (w : World) (_w0 : (Lit.int .i64 a0).wf = true) (w1 : IsRow .i64 w a1 len1 cap1 z1) (w2 : IsRow .u8 w a2 len2 cap2 z2) (_w3 : (Lit.int .i64 a3).wf = true) (w4 : (Lit.int .u8 a4).wf = true) (ho : Odd w) :
    Calls Tryd.prog 3 #[.int .i64 a0, .slice a1 len1 cap1, .slice a2 len2 cap2, .int .i64 a3, .int .u8 a4] w fun e w' => e = .returned (.bool true) ∧ Below w.heap.size w w' := by
  obtain ⟨by_, rfl, hby⟩ := byte_arg w4
  obtain ⟨ns, hrn, hmax, hcap, hwf⟩ := w1.rdN
  obtain ⟨raw, hrw, hmax2, hcap2⟩ := w2.rdc
  unfold maxLen at hmax hmax2
  clear w1 w2 w4 hwf _w0 _w3
  go_enter Tryd.func3, Tryd.ntmps3
  go_wp2_with fail
  refine (known_any _ ho).mono ?_
  rintro e wk ⟨rfl, hxk⟩
  have HXK := hid hxk
  have HRN := hid (hrn.later hxk)
  have HRW := hid (hrw.later hxk)
  clear hxk ho hrn hrw
  by_cases hbig : 300 < len2
  · go_wp2_with fail
    go_ret
    exact ⟨rfl, HXK.out⟩
  · obtain ⟨n, hn⟩ : ∃ n : Nat, a0 % 257 = n := ⟨(a0 % 257).toNat, by omega⟩
    have hn2 : n ≤ 256 := by omega
    have HN := hid hn
    clear hn
    go_wp2_with fail
    refine (within_any _ _ _ (by omega) (by omega)).mono ?_
    rintro e w' ⟨rfl, rfl⟩
    rw [HN.out]
    go_wp2_with fail
    refine (table_rd _ n _ _ ns _ HRN.out hn2 (by omega)).mono ?_
    rintro e wt ⟨At, ct, rfl, hct, hrt, hxt⟩
    have hT := tabL_isT n ns hn2
    obtain ⟨t, ht⟩ : ∃ t, tabL n ns = t := ⟨_, rfl⟩
    rw [ht] at hrt hT
    have HXT := hid (Ext.trans HXK.out hxt)
    have HT := hid hT
    have HRT := hid hrt
    have HRW2 := hid (HRW.out.later hxt)
    clear hxt ht hT hrt HRN HRW
    have hO0 := Own.lit wt [] #[] 0 wt.heap.size rfl rfl (by unfold maxLen; omega) (Nat.le_refl _)
    have hx0 := Ext.alloc wt (.cells #[] 5)
    have hrt0 := HRT.out.later hx0
    have hlt := hid HT.out.len
    go_upto_if 33 with (at_builtin; refine wpL_append _ rfl (.tmp 28) (.tmp 29) 23 rfl Tryd.underlying23 Tryd.info5 wt.heap.size _ [] rfl hO0 _ At n ct t rfl hrt0 (by simp; omega) (by simp) ?_; intro v2 wu hown2 hb2; obtain ⟨Au, cu, hv2, hcu, hr2, hown2⟩ := hown2.rdc (n := n) hlt.out; subst hv2; have HOU := hid hown2; have HRU := hid hr2; have HXU := hid (Below.trans hx0 hb2); clear hown2 hr2 hb2)
    have hO0c := hO0
    clear hO0 hO0c hrt0 hx0
    go_cut [] (fun wx => ∃ us, Rd wx wx.heap.size Au n us ∧ Ext wt wx)
    case first =>
      rcases Nat.eq_zero_or_pos n with h0 | h0
      · subst h0
        go_wp2_with fail
        go_meet
        exact ⟨_, HRU.out, HXU.out⟩
      · obtain ⟨g, c2, hve, hc2, hg1, hg2⟩ := HOU.out.head (n := n) hlt.out h0
        cases hve
        obtain ⟨j, hj⟩ : ∃ j : Nat, a3 % (n : Int) = j := ⟨(a3 % (n : Int)).toNat, by have := Int.emod_nonneg a3 (show (n : Int) ≠ 0 by omega); omega⟩
        have hjn : j < n := by have := Int.emod_lt_of_pos a3 (show (0 : Int) < n by omega); omega
        have hcell := HOU.out.celln hlt.out j hjn
        have hfr := HOU.out.freen j
        have hbl := nb_lt t j
        have hset := HOU.out.setn j (u8 ((nb t j : Int) + by_))
        rw [u8_toNat] at hset
        obtain ⟨A9, c9, hv9, hr9, _⟩ := hset.rdn (n := n) (by rw [List.length_set]; exact hlt.out)
        cases hv9
        obtain ⟨q, hq⟩ : ∃ q, nb t j = q := ⟨_, rfl⟩
        rw [List.nil_append, hq] at hcell
        rw [hq] at hbl hr9
        have HR9 := hid hr9
        have HX9 := hid (show Ext wt (wu.setCell ⟨g, j, none⟩ (.int .u8 (((q : Int) + by_) % 256))) from Below.setCell HXU.out hg1 _)
        have HJ := hid hj
        clear hset hr9 hq hj
        have hn0 : (0 : Int) < n := by omega
        go_wp2_with fail
        refine (within_any _ _ _ (by omega) (by omega)).mono ?_
        rintro e w' ⟨rfl, rfl⟩
        rw [HJ.out]
        go_wp2_with fail
        go_meet
        exact ⟨_, HR9.out, HX9.out⟩
    case rest =>
      obtain ⟨us, hru, hxc⟩ := hcut
      have HXC := hid (Ext.trans HXT.out hxc)
      have HRTC := hid (HRT.out.later hxc)
      have r1 := HRT.out.later hxc
      have r2 := hru
      have r3 := HRW2.out.later hxc
      have h7 := tabs7 wc (by omega) (by omega) r1 r2 r3 ct cu cap2
      have x7 := ext7 wc (.cells #[.slice At n ct, .slice Au n cu, .slice a2 len2 cap2, .slice none 0 0, .slice (some ⟨wc.heap.size, 0, none⟩) 1 1, .slice (some ⟨wc.heap.size + 1, 0, none⟩) 1 1, .slice (some ⟨wc.heap.size + 2, 0, none⟩) 2 2] 23)
      clear hxc r1 r2 r3 hru
      rename_i hK
      apply hK
      clear hK
      go_upto_region 11 with fail
      obtain ⟨W4, hW4⟩ : ∃ W4, (((wc.alloc (.cells #[.int .u8 0] 5)).alloc (.cells #[.int .u8 1] 5)).alloc (.cells #[.int .u8 0, .int .u8 0] 5)).alloc (.cells #[.slice At n ct, .slice Au n cu, .slice a2 len2 cap2, .slice none 0 0, .slice (some ⟨wc.heap.size, 0, none⟩) 1 1, .slice (some ⟨wc.heap.size + 1, 0, none⟩) 1 1, .slice (some ⟨wc.heap.size + 2, 0, none⟩) 2 2] 23) = W4 := ⟨_, rfl⟩
      rw [hW4] at h7 x7 ⊢
      obtain ⟨L, hL⟩ : ∃ L, wc.heap.size + 3 = L := ⟨_, rfl⟩
      rw [hL] at h7 ⊢
      have H7 := hid h7
      have HX4 := hid (Ext.trans HXC.out x7)
      have HRT4 := hid (HRTC.out.later x7)
      clear hW4 hL h7 x7 hown2
      go_loopw [14] (fun i wr => ∃ k : Nat, k ≤ 7 ∧ i = .int .i64 k ∧ Ext W4 wr) (fun i _ => 7 - (intOf i).toNat)
      case atStart => exact ⟨0, by omega, rfl, Ext.refl _⟩
      case round =>
        obtain ⟨k, hk, rfl, hx⟩ := hrel
        by_cases hlt7 : k < 7
        · have h7 := H7.out.later hx
          have hLW := h7.1
          obtain ⟨Ab, mb, cb, bs, hc, hr, hmb⟩ := h7.2 k hlt7
          have HR := hid hr
          have HXA := hid hx
          clear h7 hx hr
          go_wp2_with fail
          refine (back_any Ab mb cb bs _ HR.out hmb).mono ?_
          rintro e wx ⟨Ax, cx, rfl, hrx, hxx⟩
          obtain ⟨mx, hmx⟩ : ∃ mx, (outB bs).length = mx := ⟨_, rfl⟩
          obtain ⟨B, hB⟩ : ∃ B, isB bs = B := ⟨_, rfl⟩
          rw [hmx] at hrx ⊢
          rw [hB]
          have HMX := hid hmx
          have HB := hid hB
          have hc2 := (Below.cell hxx (p := ⟨L, k, none⟩) hLW).trans hc
          have hLW2 := Nat.lt_of_lt_of_le hLW (Below.size hxx)
          have HR2 := hid (HR.out.later hxx)
          have HX0 := hid hrx
          have HXB := hid (Ext.trans HXA.out hxx)
          clear hc hLW hxx hrx hmx hB HR HXA
          go_wp2_with fail
          refine (rback_any Ab mb cb bs _ HR2.out hmb).mono ?_
          rintro e wy ⟨Ay, cy, rfl, hry, hxy⟩
          rw [HMX.out] at hry ⊢
          rw [HB.out]
          have HC := hid ((Below.cell hxy (p := ⟨L, k, none⟩) hLW2).trans hc2)
          have hLW := Nat.lt_of_lt_of_le hLW2 (Below.size hxy)
          have HR := hid (HR2.out.later hxy)
          have HX := hid (HX0.out.later hxy)
          have HY := hid hry
          have HXE := hid (Ext.trans HXB.out hxy)
          clear hc2 hLW2 hxy hry HX0 HR2 HXB
          go_upto_region 15 with fail
          refine region_inv mixed rfl (by kernel_rfl) (kV (isKs L k mb mx B bs)) (kV_keep _) (forall_ops ⟨?_, ?_, ?_, ?_, ?_, ?_, ?_, ?_, ?_, ?_, ?_, ?_, ?_, ?_, ?_, ?_, ?_, ?_, ?_, ?_, ?_, ?_, ?_, trivial⟩) ?_
          · intro a w hk
            have s13 : a.tmps.getD 13 undef = .slice (some ⟨L, 0, none⟩) 7 7 := hk.was 13 (by kernel_rfl) rfl
            exact step_move rfl rfl s13 rfl
          · intro a w hk
            have s14 : a.tmps.getD 14 undef = .int .i64 k := hk.was 14 (by kernel_rfl) rfl
            exact step_move rfl rfl s14 rfl
          · intro a w hk
            have s73 := hk.eq_ 0 73 (by kernel_rfl) rfl
            have s74 := hk.eq_ 1 74 (by kernel_rfl) rfl
            refine step_val (v := .pointer (some ⟨L, k, none⟩)) (w' := w) rfl ?_ (Ext.refl w) rfl
            have hlti : (k : Int) < 7 := by omega
            go_simp
          · intro a w hk
            have s75 := hk.eq_ 2 75 (by kernel_rfl) rfl
            have hc := (Below.cell hk.ext (p := ⟨L, k, none⟩) hLW).trans HC.out
            refine step_val (v := .slice Ab mb cb) (w' := w) rfl ?_ (Ext.refl w) ⟨_, _, rfl, HR.out.later hk.ext⟩
            go_simp
          · intro a w hk
            obtain ⟨A76, c76, s76, r76⟩ := hk.byt_ 3 76 (by kernel_rfl) rfl
            exact step_call rfl rfl (by simp only [List.map_toArray, List.map_cons, List.map_nil, Act.eval, s76] <;> rfl) cf17 (is_any A76 mb c76 bs w r76 hmb) (fun e w' h => retX e w' ⟨h.1.trans (by rw [HB.out]), h.2⟩)
          · intro a w hk
            have s13 : a.tmps.getD 13 undef = .slice (some ⟨L, 0, none⟩) 7 7 := hk.was 13 (by kernel_rfl) rfl
            exact step_move rfl rfl s13 rfl
          · intro a w hk
            have s14 : a.tmps.getD 14 undef = .int .i64 k := hk.was 14 (by kernel_rfl) rfl
            exact step_move rfl rfl s14 rfl
          · intro a w hk
            have s78 := hk.eq_ 5 78 (by kernel_rfl) rfl
            have s79 := hk.eq_ 6 79 (by kernel_rfl) rfl
            refine step_val (v := .pointer (some ⟨L, k, none⟩)) (w' := w) rfl ?_ (Ext.refl w) rfl
            have hlti : (k : Int) < 7 := by omega
            go_simp
          · intro a w hk
            have s80 := hk.eq_ 7 80 (by kernel_rfl) rfl
            have hc := (Below.cell hk.ext (p := ⟨L, k, none⟩) hLW).trans HC.out
            refine step_val (v := .slice Ab mb cb) (w' := w) rfl ?_ (Ext.refl w) ⟨_, _, rfl, HR.out.later hk.ext⟩
            go_simp
          · intro a w hk
            obtain ⟨A81, c81, s81, r81⟩ := hk.byt_ 8 81 (by kernel_rfl) rfl
            exact step_call rfl rfl (by simp only [List.map_toArray, List.map_cons, List.map_nil, Act.eval, s81] <;> rfl) cf18 (ris_any A81 mb c81 bs w r81 hmb) (fun e w' h => retX e w' ⟨h.1.trans (by rw [HB.out]), h.2⟩)
          · intro a w hk
            have s77 := hk.eq_ 4 77 (by kernel_rfl) rfl
            have s82 := hk.eq_ 9 82 (by kernel_rfl) rfl
            refine step_val (v := .bool false) (w' := w) rfl ?_ (Ext.refl w) rfl
            go_simp
          · intro a w hk
            have s83 := hk.eq_ 10 83 (by kernel_rfl) rfl
            exact step_move rfl rfl s83 rfl
          · intro a w hk
            refine hk.run 11 84 false false rfl (by kernel_rfl) rfl fun hw => ?_
            have s16 : a.tmps.getD 16 undef = .bool B := hk.was 16 (by kernel_rfl) rfl
            exact step_move hw rfl s16 rfl
          · intro a w hk
            refine hk.run 11 84 false false rfl (by kernel_rfl) rfl fun hw => ?_
            have s18 : a.tmps.getD 18 undef = .bool B := hk.was 18 (by kernel_rfl) rfl
            exact step_move hw rfl s18 rfl
          · intro a w hk
            refine hk.run 11 84 false false rfl (by kernel_rfl) rfl fun hw => ?_
            have s85 := hk.eq_ 12 85 (by kernel_rfl) rfl
            have s86 := hk.eq_ 13 86 (by kernel_rfl) rfl
            refine step_val (v := .bool false) (w' := w) hw ?_ (Ext.refl w) rfl
            go_simp
          · intro a w hk
            have s84 := hk.eq_ 11 84 (by kernel_rfl) rfl
            have s87 := hk.eq_ 14 87 (by kernel_rfl) rfl
            exact step_pick (b := false) rfl rfl s84 s87 rfl
          · intro a w hk
            have s88 := hk.eq_ 15 88 (by kernel_rfl) rfl
            exact step_move rfl rfl s88 rfl
          · intro a w hk
            refine hk.run 16 89 false false rfl (by kernel_rfl) rfl fun hw => ?_
            have s15 : a.tmps.getD 15 undef = .slice Ax mx cx := hk.was 15 (by kernel_rfl) rfl
            have r15 := (HX.out).later hk.ext
            exact step_move hw rfl s15 ⟨_, _, rfl, r15⟩
          · intro a w hk
            refine hk.run 16 89 false false rfl (by kernel_rfl) rfl fun hw => ?_
            obtain ⟨A90, c90, s90, r90⟩ := hk.byt_ 17 90 (by kernel_rfl) rfl
            exact step_conv hw rfl s90 (strq r90) rfl
          · intro a w hk
            refine hk.run 16 89 false false rfl (by kernel_rfl) rfl fun hw => ?_
            have s17 : a.tmps.getD 17 undef = .slice Ay mx cy := hk.was 17 (by kernel_rfl) rfl
            have r17 := (HY.out).later hk.ext
            exact step_move hw rfl s17 ⟨_, _, rfl, r17⟩
          · intro a w hk
            refine hk.run 16 89 false false rfl (by kernel_rfl) rfl fun hw => ?_
            obtain ⟨A92, c92, s92, r92⟩ := hk.byt_ 19 92 (by kernel_rfl) rfl
            exact step_conv hw rfl s92 (strq r92) rfl
          · intro a w hk
            refine hk.run 16 89 false false rfl (by kernel_rfl) rfl fun hw => ?_
            have s91 := hk.eq_ 18 91 (by kernel_rfl) rfl
            have s93 := hk.eq_ 20 93 (by kernel_rfl) rfl
            refine step_val (v := .bool false) (w' := w) hw ?_ (Ext.refl w) rfl
            go_simp
          · intro a w hk
            have s89 := hk.eq_ 16 89 (by kernel_rfl) rfl
            have s94 := hk.eq_ 21 94 (by kernel_rfl) rfl
            exact step_pick (b := false) rfl rfl s89 s94 rfl
          · intro a w1 hf
            have s73 := hf.eq_ 0 73 (by kernel_rfl) rfl
            have s74 := hf.eq_ 1 74 (by kernel_rfl) rfl
            have s75 := hf.eq_ 2 75 (by kernel_rfl) rfl
            obtain ⟨A76, c76, s76, r76⟩ := hf.val 3 76 (by kernel_rfl) rfl
            have s77 := hf.eq_ 4 77 (by kernel_rfl) rfl
            have s78 := hf.eq_ 5 78 (by kernel_rfl) rfl
            have s79 := hf.eq_ 6 79 (by kernel_rfl) rfl
            have s80 := hf.eq_ 7 80 (by kernel_rfl) rfl
            obtain ⟨A81, c81, s81, r81⟩ := hf.val 8 81 (by kernel_rfl) rfl
            have s82 := hf.eq_ 9 82 (by kernel_rfl) rfl
            have s83 := hf.eq_ 10 83 (by kernel_rfl) rfl
            have s84 := hf.eq_ 11 84 (by kernel_rfl) rfl
            have s85 := hf.eq_ 12 85 (by kernel_rfl) rfl
            have s86 := hf.eq_ 13 86 (by kernel_rfl) rfl
            have s87 := hf.eq_ 14 87 (by kernel_rfl) rfl
            have s88 := hf.eq_ 15 88 (by kernel_rfl) rfl
            have s89 := hf.eq_ 16 89 (by kernel_rfl) rfl
            obtain ⟨A90, c90, s90, r90⟩ := hf.val 17 90 (by kernel_rfl) rfl
            have s91 := hf.eq_ 18 91 (by kernel_rfl) rfl
            obtain ⟨A92, c92, s92, r92⟩ := hf.val 19 92 (by kernel_rfl) rfl
            have s93 := hf.eq_ 20 93 (by kernel_rfl) rfl
            have s94 := hf.eq_ 21 94 (by kernel_rfl) rfl
            have s95 := hf.eq_ 22 95 (by kernel_rfl) rfl
            have hx := hf.ext
            have e := hf.frame
            clear hf
            simp only [regFrame, Act.put, List.setIfInBounds_toArray, List.set_cons_zero, List.set_cons_succ, s73, s74, s75, s76, s77, s78, s79, s80, s81, s82, s83, s84, s85, s86, s87, s88, s89, s90, s91, s92, s93, s94, s95] at e
            clear s73 s74 s75 s76 s77 s78 s79 s80 s81 s82 s83 s84 s85 s86 s87 s88 s89 s90 s91 s92 s93 s94 s95
            subst e
            have HX6 := hid (Ext.trans HXE.out hx)
            clear hx
            go_wp2_with fail
            go_roundw
            case rel => exact ⟨k + 1, by omega, by go_num, HX6.out⟩
            case measure => simp [intOf]; omega
        · obtain rfl : k = 7 := by omega
          have HX6 := hid (Ext.trans HX4.out hx)
          have HRT5 := hid (HRT4.out.later hx)
          clear hx
          go_wp2_with fail
          refine (is_tab _ _ _ _ _ HRT5.out HT.out).mono ?_
          rintro e w9 ⟨rfl, hx9⟩
          have HX9 := hid (Ext.trans HX6.out hx9)
          clear hx9
          go_wp2_with fail
          go_ret
          exact ⟨rfl, HX9.out⟩
end Go.Proofs.YtcmhaomnabdopaaDoor
