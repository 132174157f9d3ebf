/- The law on turns, sums, powers, biases, walked; own text of the verifier. -/
import Derived.Test.YthfiijmmebgmoaaE8
import Derived.Test.YthfiijmmebgmoaaE9
namespace Go.Proofs.Ythfiijmmebgmoaa
open Go.RowKit
/-- The law's numbers. -/
def lsA (a n : Int) : List Int := [a, n, 0, 1, 2, 3, -1, 9223372036854775807, -9223372036854775808]
theorem lsA_in (a n : Int) (ha : -9223372036854775808 ≤ a ∧ a ≤ 9223372036854775807) (hn : -9223372036854775808 ≤ n ∧ n ≤ 9223372036854775807) (k : Nat) (hk : k < 9) : -9223372036854775808 ≤ (lsA a n).getD k 0 ∧ (lsA a n).getD k 0 ≤ 9223372036854775807 := by
  match k, hk with
  | 0, _ => exact ha
  | 1, _ => exact hn
  | 2, _ | 3, _ | 4, _ | 5, _ | 6, _ | 7, _ | 8, _ => simp [lsA]
set_option maxRecDepth 100000 in
set_option maxHeartbeats 4000000 in
theorem all_walk (a0 : Option Addr) (len0 cap0 : Nat) (z0 : List Int) (a1 : Int) (a2 : Int) (a3 : Int) (a4 : Int) (w : World) (w0 : IsRow .u8 w a0 len0 cap0 z0) (w1 : (Lit.int .i64 a1).wf = true) (w2 : (Lit.int .i64 a2).wf = true) (w3 : (Lit.int .u8 a3).wf = true) (w4 : (Lit.int .u8 a4).wf = true) :
    Calls Try.prog 3 #[.slice a0 len0 cap0, .int .i64 a1, .int .i64 a2, .int .u8 a3, .int .u8 a4] w fun e w' => e = .returned (.bool true) ∧ Below w.heap.size w w' := by
  obtain ⟨x, rfl, hx⟩ := byte_arg w3
  obtain ⟨y, rfl, hy⟩ := byte_arg w4
  obtain ⟨bs, hrb, hmax⟩ := w0.rd
  have i1 := wf_i64 w1
  have i2 := wf_i64 w2
  unfold maxLen at hmax
  clear w0 w1 w2 w3 w4
  go_enter Try.func3, Try.ntmps3
  go_wp2_with fail
  refine (known_any _).mono ?_
  rintro e wk ⟨rfl, hbk⟩
  have HB := hid hbk
  have HRB := hid hrb
  have HL := hid (lsA_in a1 a2 i1 i2)
  clear hbk hrb i1 i2
  by_cases hlong : 600 < len0
  · go_wp2_with fail
    go_ret
    exact ⟨rfl, HB.out⟩
  · have hO := OwnN.lit (kd := .i64) (e := 3) wk (lsA a1 a2) #[.int .i64 a1, .int .i64 a2, .int .i64 0, .int .i64 1, .int .i64 2, .int .i64 3, .int .i64 (-1), .int .i64 9223372036854775807, .int .i64 (-9223372036854775808)] 9 wk.heap.size rfl rfl (by unfold maxLen; omega) (Nat.le_refl _)
    have hX := Ext.alloc wk (.cells #[.int .i64 a1, .int .i64 a2, .int .i64 0, .int .i64 1, .int .i64 2, .int .i64 3, .int .i64 (-1), .int .i64 9223372036854775807, .int .i64 (-9223372036854775808)] 3)
    have hlt : wk.heap.size < (wk.alloc (.cells #[.int .i64 a1, .int .i64 a2, .int .i64 0, .int .i64 1, .int .i64 2, .int .i64 3, .int .i64 (-1), .int .i64 9223372036854775807, .int .i64 (-9223372036854775808)] 3)).heap.size := by simp
    obtain ⟨W1, hW1⟩ : ∃ W1, wk.alloc (.cells #[.int .i64 a1, .int .i64 a2, .int .i64 0, .int .i64 1, .int .i64 2, .int .i64 3, .int .i64 (-1), .int .i64 9223372036854775807, .int .i64 (-9223372036854775808)] 3) = W1 := ⟨_, rfl⟩
    rw [hW1] at hO hX hlt
    obtain ⟨G, hG⟩ : ∃ G, wk.heap.size = G := ⟨_, rfl⟩
    have HC := hid (show ∀ k, k < 9 → W1.cell? ⟨G, k, none⟩ = some (.int .i64 ((lsA a1 a2).getD k 0)) from fun k hk => by rw [← hG]; exact hO.celln rfl k hk)
    have HX := hid (HB.out.trans (Below.mono hX HB.out.size))
    have HGL := hid (show G < W1.heap.size by omega)
    have HW1 := hid hW1
    have HG := hid hG
    clear hO hX hlt hW1 hG
    go_wp2_with fail
    rw [HW1.out, HG.out]
    go_loopw [12, 13] (fun i z wr => ∃ k : Nat, k ≤ 9 ∧ i = .int .i64 k ∧ Below W1.heap.size W1 wr) (fun i _ _ => 9 - (intOf i).toNat)
    case atStart => exact ⟨0, by omega, rfl, Below.refl _ _⟩
    case round =>
      obtain ⟨k, hk, rfl, hb⟩ := hrel
      have HBB := hid hb
      have hR := (HRB.out.below (HX.out.trans (Below.mono hb HX.out.size)) (Nat.le_refl _))
      by_cases hlt : k < 9
      · have hc := HC.out k hlt
        have hc2 := (hb.cell (p := ⟨G, k, none⟩) HGL.out).trans hc
        obtain ⟨v, hv⟩ : ∃ v, (lsA a1 a2).getD k 0 = v := ⟨_, rfl⟩
        have hin := HL.out k hlt
        rw [hv] at hc2 hin
        have q1 := eR_abs bs v len0
        have q2 := eI_abs bs v len0
        have C13 := hid (echo_any a0 len0 cap0 bs v wr _ hR (by omega))
        have C17 := hid (fun m => recho_any a0 len0 cap0 bs v (wr.drewN m) _ (hR.drewN m) (by omega))
        obtain ⟨X, hXe⟩ : ∃ X, eR bs v len0 = X := ⟨_, rfl⟩
        obtain ⟨Y, hYe⟩ : ∃ Y, eI bs v len0 = Y := ⟨_, rfl⟩
        rw [hXe, hYe] at C13 C17
        rw [hXe] at q1
        rw [hYe] at q2
        have C18 := hid (fun w => power_any X Y w (by omega) (by omega))
        have C19 := hid (fun w => rpower_any X Y w (by omega) (by omega))
        obtain ⟨P, hP⟩ : ∃ P, X * X + Y * Y = P := ⟨_, rfl⟩
        rw [hP] at C18 C19
        have t1 := tR_abs v
        have t2 := tI_abs v
        have C16 := hid (fun w => rturn_any v w hin)
        have hki : (k : Int) < 9 := by omega
        clear hc hv hXe hYe hP hin hb hR
        go_wp2_with fail
        refine C13.out.mono ?_
        rintro e w' ⟨rfl, rfl⟩
        go_wp2_with fail
        go_quiet (first
          | (go_at_call 15; exact quietSame (turn_any _ _))
          | (go_at_call 16; exact quietSame (C16.out _))
          | (go_at_call 14; exact quietSame (same_any _ _ _ (by omega) (by omega)))
          | (go_at_call 17; exact quietSame (C17.out _))
          | (go_at_call 18; exact quietSame (C18.out _))
          | (go_at_call 19; exact quietSame (C19.out _)))
        go_wp2_with fail
        go_roundw
        case rel => exact ⟨k + 1, by omega, by go_num, below_drewN' HBB.out nq⟩
        case measure => simp [intOf]; omega
      · obtain rfl : k = 9 := by omega
        have C20 := hid (bias_any a0 len0 cap0 bs x y wr _ hR (by omega) hx hy)
        have C21 := hid (fun m => rbias_any a0 len0 cap0 bs x y (wr.drewN m) _ (hR.drewN m) (by omega) hx hy)
        have C21' := hid (rbias_any a0 len0 cap0 bs x y wr _ hR (by omega) hx hy)
        clear hb hR
        go_wp2_with fail
        refine C20.out.mono ?_
        rintro e w' ⟨rfl, rfl⟩
        go_wp2_with fail
        refine C21'.out.mono ?_
        rintro e w' ⟨rfl, m, rfl⟩
        go_wp2_with fail
        go_ret
        exact ⟨rfl, below_drewN' (HX.out.trans (Below.mono HBB.out HX.out.size)) m⟩
end Go.Proofs.Ythfiijmmebgmoaa
