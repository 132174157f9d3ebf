/- The law on reading words, walked; own text of the verifier. -/
import Derived.Test.YtllkbfhkpnncgaaReg2
namespace Go.Proofs.Ytllkbfhkpnncgaa.R2
open Go.RowKit
theorem under22 : Try.prog.underlying 22 = some (.slice 5) := by kernel_rfl
theorem info5 : (Try.prog.info? 5).map (fun i => (i.zero, i.size, i.bytes)) = some (some (.int .u8 0), 1, 1) := by kernel_rfl
def readsKs (H la ca : Nat) (a0 : Option Addr) (xs : List UInt8) : List K := [.eq (.slice a0 la ca), .lit0, .eq (.slice a0 la ca), .eq (.slice a0 la ca), .eq (.int .i64 (la : Int)), .eq (.int .i64 ((min la 4) : Nat)), .bytH H (min la 4) (xs.take (min la 4)), .low (min la 4) (xs.take (min la 4)), .lit0, .eq (.slice a0 la ca), .eq (.slice a0 la ca), .eq (.int .i64 (la : Int)), .eq (.int .i64 ((min la 8) : Nat)), .bytH H (min la 8) (xs.take (min la 8)), .low (min la 8) (xs.take (min la 8)), .lit0, .eq (.slice a0 la ca), .app H la xs, .byt 4 [1, 2, 3, 4], .low (la + 4) (xs ++ [1, 2, 3, 4]), .rows 200 4, .rows 200 4]
theorem readsKs_keep (w0 : World) (H la ca : Nat) (a0 : Option Addr) (xs : List UInt8) (i j : Nat) (w w' : World) (v : Value) (_hx : Ext w0 w) (he : EE 19 H la i w w') (hij : i ≠ j)
    (hsp : (i, j) ∉ [(19, 17), (19, 18)]) (hla : (i, j) ∉ [(19, 20), (19, 21)]) (hv : kV (readsKs H la ca a0 xs) j w v) : kV (readsKs H la ca a0 xs) j w' v := by
  rcases he.cases with ⟨rfl, hk⟩ | hk
  · refine K.keep2 _ ?_ hk hv
    match j, hij, hsp, hla with
    | 0, _, _, _ | 1, _, _, _ | 2, _, _, _ | 3, _, _, _ | 4, _, _, _ | 5, _, _, _ | 8, _, _, _ | 9, _, _, _ | 10, _, _, _ | 11, _, _, _ | 12, _, _, _ | 15, _, _, _ | 16, _, _, _ => exact trivial
    | 6, _, _, _ | 13, _, _, _ => exact rfl
    | 7, _, _, _ => exact Nat.min_le_left _ _
    | 14, _, _, _ => exact Nat.min_le_left _ _
    | 17, _, h, _ => exact absurd (by simp) h
    | 18, _, h, _ => exact absurd (by simp) h
    | 19, h, _, _ => exact absurd rfl h
    | 20, _, _, h => exact absurd (by simp) h
    | 21, _, _, h => exact absurd (by simp) h
    | n + 22, _, _, _ => exact trivial
  · exact K.keep _ hk hv
set_option maxRecDepth 100000 in
set_option maxHeartbeats 4000000 in
theorem reads_walk (a0 : Option Addr) (la ca : Nat) (z0 : List Int) (w : World) (w0 : IsRow .u8 w a0 la ca z0) :
    Calls Try.prog 3 #[.slice a0 la ca] w fun e w' => e = .returned (.bool true) ∧ Below w.heap.size w w' := by
  obtain ⟨xs, hxs, hma, hca⟩ := w0.rdc
  unfold maxLen at hma
  clear w0
  go_enter Try.func3, Try.ntmps3
  go_wp2_with fail
  refine (known_any _).mono ?_
  rintro e w1 ⟨rfl, hb1⟩
  have hxs1 := hxs.later hb1
  clear hxs
  by_cases h100 : 100 < la
  · go_wp2_with fail
    go_ret
    exact ⟨rfl, hb1⟩
  · have HA := hid hxs1
    have HE := hid hb1
    clear hxs1 hb1
    go_wp2_with fail
    refine region_inv mixed rfl (by kernel_rfl) (EE 19 w1.heap.size la) [(19, 17), (19, 18)] [(19, 20), (19, 21)] (by kernel_rfl) (kV (readsKs w1.heap.size la ca a0 xs)) (fun _ _ _ hx he => EE.go hx he) (readsKs_keep _ _ _ _ _ _) (forall_ops ⟨?_, ?_, ?_, ?_, ?_, ?_, ?_, ?_, ?_, ?_, ?_, ?_, ?_, ?_, ?_, ?_, ?_, ?_, ?_, ?_, ?_, ?_, trivial⟩) ?_
    · intro a w hk
      have s0 : a.tmps.getD 0 undef = .slice a0 la ca := hk.was 0 (by kernel_rfl) rfl
      exact step_move rfl rfl s0 (EE.of (Ext.refl w)) rfl
    · intro a w hk
      refine step_val (v := .slice (some ⟨w.heap.size, 0, none⟩) 0 0) (w' := w.alloc (.cells #[] 5)) rfl ?_ (EE.of (Ext.alloc _ _)) ⟨_, rfl⟩
      go_simp
    · intro a w hk
      have s0 : a.tmps.getD 0 undef = .slice a0 la ca := hk.was 0 (by kernel_rfl) rfl
      exact step_move rfl rfl s0 (EE.of (Ext.refl w)) rfl
    · intro a w hk
      have s0 : a.tmps.getD 0 undef = .slice a0 la ca := hk.was 0 (by kernel_rfl) rfl
      exact step_move rfl rfl s0 (EE.of (Ext.refl w)) rfl
    · intro a w hk
      have s25 := hk.eq_ 3 25 (by kernel_rfl) rfl
      refine step_val (v := .int .i64 (la : Int)) (w' := w) rfl ?_ (EE.of (Ext.refl w)) rfl
      go_simp
    · intro a w hk
      have s26 := hk.eq_ 4 26 (by kernel_rfl) rfl
      exact step_min (.tmp 26) (.const (.int .i64 4)) _ rfl rfl la 4 _ s26 rfl (by split <;> omega) (EE.of (Ext.refl w)) rfl
    · intro a w hk
      have s24 := hk.eq_ 2 24 (by kernel_rfl) rfl
      have s27 := hk.eq_ 5 27 (by kernel_rfl) rfl
      exact step_slice_hi (l := (min la 4)) rfl rfl s24 s27 elem22 size22 (Nat.min_le_left _ _) hca (HA.out.below hk.ext (Nat.le_refl _)) (Below.size hk.ext) (EE.of (Ext.refl w)) (fun _ h => h)
    · intro a w hk
      obtain ⟨g23, s23⟩ := hk.val 1 23 (by kernel_rfl) rfl
      obtain ⟨A28, c28, s28, q28, r28⟩ := hk.val 6 28 (by kernel_rfl) rfl
      obtain ⟨v', w', hr, hx, hv⟩ := run_append_lit (P := Try.prog) w 22 22 under22 info5 g23 _ (min la 4) c28 A28 _ r28 (by omega)
      obtain ⟨g, c, ev, hr2, _⟩ := hv 0 (Nat.zero_le _)
      exact step_append rfl rfl s23 s28 hr (EE.of hx) ⟨g, c, ev, hr2⟩
    · intro a w hk
      refine step_val (v := .slice (some ⟨w.heap.size, 0, none⟩) 0 0) (w' := w.alloc (.cells #[] 5)) rfl ?_ (EE.of (Ext.alloc _ _)) ⟨_, rfl⟩
      go_simp
    · intro a w hk
      have s0 : a.tmps.getD 0 undef = .slice a0 la ca := hk.was 0 (by kernel_rfl) rfl
      exact step_move rfl rfl s0 (EE.of (Ext.refl w)) rfl
    · intro a w hk
      have s0 : a.tmps.getD 0 undef = .slice a0 la ca := hk.was 0 (by kernel_rfl) rfl
      exact step_move rfl rfl s0 (EE.of (Ext.refl w)) rfl
    · intro a w hk
      have s32 := hk.eq_ 10 32 (by kernel_rfl) rfl
      refine step_val (v := .int .i64 (la : Int)) (w' := w) rfl ?_ (EE.of (Ext.refl w)) rfl
      go_simp
    · intro a w hk
      have s33 := hk.eq_ 11 33 (by kernel_rfl) rfl
      exact step_min (.tmp 33) (.const (.int .i64 8)) _ rfl rfl la 8 _ s33 rfl (by split <;> omega) (EE.of (Ext.refl w)) rfl
    · intro a w hk
      have s31 := hk.eq_ 9 31 (by kernel_rfl) rfl
      have s34 := hk.eq_ 12 34 (by kernel_rfl) rfl
      exact step_slice_hi (l := (min la 8)) rfl rfl s31 s34 elem22 size22 (Nat.min_le_left _ _) hca (HA.out.below hk.ext (Nat.le_refl _)) (Below.size hk.ext) (EE.of (Ext.refl w)) (fun _ h => h)
    · intro a w hk
      obtain ⟨g30, s30⟩ := hk.val 8 30 (by kernel_rfl) rfl
      obtain ⟨A35, c35, s35, q35, r35⟩ := hk.val 13 35 (by kernel_rfl) rfl
      obtain ⟨v', w', hr, hx, hv⟩ := run_append_lit (P := Try.prog) w 22 22 under22 info5 g30 _ (min la 8) c35 A35 _ r35 (by omega)
      obtain ⟨g, c, ev, hr2, _⟩ := hv 0 (Nat.zero_le _)
      exact step_append rfl rfl s30 s35 hr (EE.of hx) ⟨g, c, ev, hr2⟩
    · intro a w hk
      refine step_val (v := .slice (some ⟨w.heap.size, 0, none⟩) 0 0) (w' := w.alloc (.cells #[] 5)) rfl ?_ (EE.of (Ext.alloc _ _)) ⟨_, rfl⟩
      go_simp
    · intro a w hk
      have s0 : a.tmps.getD 0 undef = .slice a0 la ca := hk.was 0 (by kernel_rfl) rfl
      exact step_move rfl rfl s0 (EE.of (Ext.refl w)) rfl
    · intro a w hk
      obtain ⟨g37, s37⟩ := hk.val 15 37 (by kernel_rfl) rfl
      have s38 := hk.eq_ 16 38 (by kernel_rfl) rfl
      obtain ⟨v', w', hr, hx, hv⟩ := run_append_lit (P := Try.prog) w 22 22 under22 info5 g37 _ la ca a0 xs (HA.out.below hk.ext (Nat.le_refl _)) (by omega)
      exact step_append rfl rfl s37 s38 hr (EE.of hx) (hv _ (Below.size hk.ext))
    · intro a w hk
      refine step_val (v := .slice (some ⟨w.heap.size, 0, none⟩) 4 4) (w' := w.alloc (.cells #[.int .u8 1, .int .u8 2, .int .u8 3, .int .u8 4] 5)) rfl ?_ (EE.of (Ext.alloc _ _)) ?_
      · go_simp
      · obtain ⟨A, c, e, hr, _⟩ := (Own.lit w [1, 2, 3, 4] #[.int .u8 1, .int .u8 2, .int .u8 3, .int .u8 4] 4 w.heap.size rfl rfl (by unfold maxLen; omega) (Nat.le_refl _)).rdn rfl
        exact ⟨A, c, e, hr⟩
    · intro a w hk
      have v39 := hk.val 17 39 (by kernel_rfl) rfl
      obtain ⟨A40, c40, s40, r40⟩ := hk.val 18 40 (by kernel_rfl) rfl
      obtain ⟨v', w', hr, hx, hv⟩ := run_append_four (P := Try.prog) w 22 22 under22 info5 w1.heap.size _ la c40 A40 xs _ _ v39 r40 (by omega) (Below.size hk.ext)
      exact step_append rfl rfl rfl s40 hr (EE.at_ hx) hv
    · intro a w hk
      have s22 := hk.eq_ 0 22 (by kernel_rfl) rfl
      obtain ⟨g29, c29, s29, r29⟩ := hk.val 7 29 (by kernel_rfl) rfl
      obtain ⟨g36, c36, s36, r36⟩ := hk.val 14 36 (by kernel_rfl) rfl
      obtain ⟨g41, c41, s41, r41⟩ := hk.val 19 41 (by kernel_rfl) rfl
      refine step_val (v := .slice (some ⟨w.heap.size, 0, none⟩) 4 4) (w' := w.alloc (.cells #[.slice a0 la ca, .slice (some ⟨g29, 0, none⟩) (min la 4) c29, .slice (some ⟨g36, 0, none⟩) (min la 8) c36, .slice (some ⟨g41, 0, none⟩) (la + 4) c41] 22)) rfl ?_ (EE.of (Ext.alloc _ _)) ?_
      · simp only [execOp, List.map_toArray, List.map_cons, List.map_nil, Act.eval, s22, s29, s36, s41]
        go_simp
      · refine ⟨_, rfl, by simp, fun i hi => ?_⟩
        match i, hi with
        | 0, _ => exact ⟨a0, la, ca, xs, by simp, ((HA.out.later hk.ext).later (Ext.alloc _ _)), by omega⟩
        | 1, _ => exact ⟨_, _, c29, _, by simp, (r29.later (Ext.alloc _ _)), by omega⟩
        | 2, _ => exact ⟨_, _, c36, _, by simp, (r36.later (Ext.alloc _ _)), by omega⟩
        | 3, _ => exact ⟨_, _, c41, _, by simp, (r41.later (Ext.alloc _ _)), by omega⟩
    · intro a w hk
      obtain ⟨b42, s42, h42, g42⟩ := hk.val 20 42 (by kernel_rfl) rfl
      exact step_assign rfl rfl s42 (EE.of (Ext.refl w)) ⟨b42, rfl, h42, g42⟩
    · intro a w2 hf
      obtain ⟨b3, s3, h3, g3⟩ := hf.val 21 3 (by kernel_rfl) rfl
      have hx := hf.ext
      have e := hf.frame
      clear hf
      simp only [regFrame, Act.put, List.setIfInBounds_toArray, List.set_cons_zero, List.set_cons_succ, s3] at e
      generalize a.tmps.getD 22 undef = u22 at e
      generalize a.tmps.getD 23 undef = u23 at e
      generalize a.tmps.getD 24 undef = u24 at e
      generalize a.tmps.getD 25 undef = u25 at e
      generalize a.tmps.getD 26 undef = u26 at e
      generalize a.tmps.getD 27 undef = u27 at e
      generalize a.tmps.getD 28 undef = u28 at e
      generalize a.tmps.getD 29 undef = u29 at e
      generalize a.tmps.getD 30 undef = u30 at e
      generalize a.tmps.getD 31 undef = u31 at e
      generalize a.tmps.getD 32 undef = u32 at e
      generalize a.tmps.getD 33 undef = u33 at e
      generalize a.tmps.getD 34 undef = u34 at e
      generalize a.tmps.getD 35 undef = u35 at e
      generalize a.tmps.getD 36 undef = u36 at e
      generalize a.tmps.getD 37 undef = u37 at e
      generalize a.tmps.getD 38 undef = u38 at e
      generalize a.tmps.getD 39 undef = u39 at e
      generalize a.tmps.getD 40 undef = u40 at e
      generalize a.tmps.getD 41 undef = u41 at e
      generalize a.tmps.getD 42 undef = u42 at e
      clear s3
      subst e
      have HE2 := hid (Ext.trans HE.out hx)
      have H3 := hid h3
      have G3 := hid g3
      clear hx h3 g3 HA HE
      rename_i hK
      apply hK
      go_wp2_with fail
      go_loopw [4] (fun v wr => ∃ i : Nat, i ≤ 4 ∧ v = .int .i64 i ∧ Ext w2 wr) (fun v _ => 4 - (intOf v).toNat)
      case atStart => exact ⟨0, Nat.zero_le _, rfl, Ext.refl _⟩
      case round =>
        obtain ⟨i, hi, rfl, hxr⟩ := hrel
        rename_i wr _
        have HXr := hid hxr
        clear hxr
        by_cases hlt : i < 4
        · obtain ⟨A, n, c, bs, hcell, hrd, hn⟩ := G3.out i hlt
          have hcr := (Below.cell HXr.out (p := ⟨b3, i, none⟩) H3.out).trans hcell
          have HRD := hid (hrd.later HXr.out)
          have hn2 : n ≤ 140737488355328 := by omega
          clear hcell hrd hn
          go_wp2_with (first
            | (go_at_call 15; refine (be32_any _ _ _ _ _ _ HRD.out hn2).mono ?_; rintro e w' ⟨rfl, rfl⟩)
            | (go_at_call 16; refine (rbe32_any _ _ _ _ _ _ HRD.out hn2).mono ?_; rintro e w' ⟨rfl, rfl⟩)
            | (go_at_call 17; refine (le32_any _ _ _ _ _ _ HRD.out hn2).mono ?_; rintro e w' ⟨rfl, rfl⟩)
            | (go_at_call 18; refine (rle32_any _ _ _ _ _ _ HRD.out hn2).mono ?_; rintro e w' ⟨rfl, rfl⟩)
            | (go_at_call 19; refine (be64_any _ _ _ _ _ _ HRD.out hn2).mono ?_; rintro e w' ⟨rfl, rfl⟩)
            | (go_at_call 20; refine (rbe64_any _ _ _ _ _ _ HRD.out hn2).mono ?_; rintro e w' ⟨rfl, rfl⟩))
          go_roundw
          case rel => exact ⟨i + 1, by omega, by go_num, HXr.out⟩
          case measure => simp [intOf]; omega
        · obtain rfl : i = 4 := by omega
          go_wp2_with fail
          go_ret
          exact ⟨rfl, Ext.trans HE2.out HXr.out⟩
end Go.Proofs.Ytllkbfhkpnncgaa.R2
