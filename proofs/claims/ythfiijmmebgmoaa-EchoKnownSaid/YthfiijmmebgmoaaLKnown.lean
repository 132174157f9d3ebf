/- The law on known turns, sums, biases, walked; own text of the verifier. -/
import Derived.Test.YthfiijmmebgmoaaE7
namespace Go.Proofs.Ythfiijmmebgmoaa
open Go.RowKit
theorem echo_lit (bs : List UInt8) (cs : Array Value) (n : Nat) (a : Int) (W : World) (x y : Nat) (hcs : cs.toList = cellsOf bs) (hn : bs.length = n) (hm : n ≤ 4096)
    (hx : flv false (eR bs a n) = x) (hy : flv false (eI bs a n) = y) :
    Calls Try.prog 13 #[.slice (some ⟨W.heap.size, 0, none⟩) n n, .int .i64 a] (W.alloc (.cells cs 5)) fun e w' => e = .returned (.complex .f64 x y) ∧ Below W.heap.size W w' := by
  subst hn
  have HL := Own.lit W bs cs bs.length W.heap.size hcs rfl (by unfold maxLen; omega) (Nat.le_refl _)
  obtain ⟨A1, c1, hA, hR, _⟩ := HL.rd
  cases hA
  refine (echo_any _ _ _ _ _ _ _ hR hm).mono ?_
  rintro e w' ⟨rfl, rfl⟩
  exact ⟨by rw [hx, hy], Ext.alloc _ _⟩
theorem bias_lit (bs : List UInt8) (cs : Array Value) (n a b : Nat) (W : World) (x : Int) (hcs : cs.toList = cellsOf bs) (hn : bs.length = n) (hm : n ≤ 4096) (ha : a < 256) (hb : b < 256)
    (hx : biasS bs a b n = x) :
    Calls Try.prog 20 #[.slice (some ⟨W.heap.size, 0, none⟩) n n, .int .u8 a, .int .u8 b] (W.alloc (.cells cs 5)) fun e w' => e = .returned (.int .i64 x) ∧ Below W.heap.size W w' := by
  subst hn
  have HL := Own.lit W bs cs bs.length W.heap.size hcs rfl (by unfold maxLen; omega) (Nat.le_refl _)
  obtain ⟨A1, c1, hA, hR, _⟩ := HL.rd
  cases hA
  refine (bias_any _ _ _ _ _ _ _ _ hR hm ha hb).mono ?_
  rintro e w' ⟨rfl, rfl⟩
  exact ⟨by rw [hx], Ext.alloc _ _⟩
theorem q44 : (FloatKind.f64.format.order 4616189618054758400 4616189618054758400 == some .eq) = true := by decide +kernel
theorem q33 : (FloatKind.f64.format.order 4613937818241073152 4613937818241073152 == some .eq) = true := by decide +kernel
theorem qmm : (FloatKind.f64.format.order 13830554455654793216 13830554455654793216 == some .eq) = true := by decide +kernel
theorem ten_cells (w : World) (k : Nat) (h : k < 10) : (w.alloc (.cells #[.bool true, .bool true, .bool true, .bool true, .bool true, .bool true, .bool true, .bool true, .bool true, .bool true] 4)).cell? ⟨w.heap.size, k, none⟩ = some (.bool true) := by
  match k, h with
  | 0, _ | 1, _ | 2, _ | 3, _ | 4, _ | 5, _ | 6, _ | 7, _ | 8, _ | 9, _ => go_simp
set_option maxRecDepth 100000 in
set_option maxHeartbeats 4000000 in
theorem known_walk (a0 : Int) (_w0 : (Lit.int .i64 a0).wf = true) (w : World) :
    Calls Try.prog 9 #[.int .i64 a0] w fun e w' => e = .returned (.bool true) ∧ Below w.heap.size w w' := by
  go_enter Try.func9, Try.ntmps9
  go_wp2_with fail
  refine (known_any _).mono ?_
  rintro e wk ⟨rfl, hbk⟩
  have HB := hid hbk
  clear hbk
  have h1 := q00
  have h2 := q11
  have h3 := q44
  have h4 := q33
  have h5 := qmm
  obtain ⟨k, hk⟩ : ∃ k : Nat, a0 % 10 = k := ⟨(a0 % 10).toNat, by omega⟩
  have hk10 : k < 10 := by omega
  have hk10i : (k : Int) < 10 := by omega
  have HK := hid hk
  clear hk
  go_wp2_with fail
  refine (turn_any 2 _).mono ?_
  rintro e w' ⟨rfl, rfl⟩
  rw [show tR 2 = -1 from rfl, show tI 2 = 0 from rfl, f_m1, f_0]
  go_wp2_with fail
  refine (turn_any (-1) _).mono ?_
  rintro e w' ⟨rfl, rfl⟩
  rw [show tR (-1) = 0 from rfl, show tI (-1) = -1 from rfl, f_m1, f_0]
  go_wp2_with fail
  refine (echo_lit [0, 1, 2, 3] _ 4 1 _ _ _ rfl rfl (by omega) f_4 f_0).mono ?_
  rintro e W1 ⟨rfl, hb1⟩
  have HB1 := hid (HB.out.trans (hb1.mono HB.out.size))
  clear hb1
  go_wp2_with fail
  refine (echo_lit [0, 1, 2, 3] _ 4 0 _ _ _ rfl rfl (by omega) f_0 f_0).mono ?_
  rintro e W2 ⟨rfl, hb2⟩
  have HB2 := hid (HB1.out.trans (hb2.mono HB1.out.size))
  clear hb2
  go_wp2_with fail
  refine (echo_lit [1, 1, 1] _ 3 0 _ _ _ rfl rfl (by omega) f_0 f_3).mono ?_
  rintro e W3 ⟨rfl, hb3⟩
  have HB3 := hid (HB2.out.trans (hb3.mono HB2.out.size))
  clear hb3
  go_wp2_with fail
  have hp := power_any 3 (-4) W3 (by decide) (by decide)
  rw [f_3, f_m4] at hp
  refine hp.mono ?_
  rintro e w' ⟨rfl, rfl⟩
  clear hp
  go_wp2_with fail
  refine (bias_lit [0, 1] _ 2 1 1 _ _ rfl rfl (by omega) (by omega) (by omega) (show _ = (2 : Int) by decide +kernel)).mono ?_
  rintro e W4 ⟨rfl, hb4⟩
  have HB4 := hid (HB3.out.trans (hb4.mono HB3.out.size))
  clear hb4
  go_wp2_with fail
  refine (bias_lit [1, 0] _ 2 1 1 _ _ rfl rfl (by omega) (by omega) (by omega) (show _ = (-2 : Int) by decide +kernel)).mono ?_
  rintro e W5 ⟨rfl, hb5⟩
  have HB5 := hid (HB4.out.trans (hb5.mono HB4.out.size))
  clear hb5
  go_wp2_with fail
  refine (bias_lit [0, 0] _ 2 1 1 _ _ rfl rfl (by omega) (by omega) (by omega) (show _ = (0 : Int) by decide +kernel)).mono ?_
  rintro e W6 ⟨rfl, hb6⟩
  have HB6 := hid (HB5.out.trans (hb6.mono HB5.out.size))
  clear hb6
  go_wp2_with fail
  refine (bias_any none 0 0 [] 3 3 _ W6.heap.size (Rd.nil _ _ _) (by omega) (by omega) (by omega)).mono ?_
  rintro e w' ⟨rfl, rfl⟩
  rw [show biasS [] 3 3 0 = 0 from rfl]
  have hc := ten_cells W6 k hk10
  have HX := hid (Ext.alloc W6 (.cells #[.bool true, .bool true, .bool true, .bool true, .bool true, .bool true, .bool true, .bool true, .bool true, .bool true] 4))
  go_wp2_with fail
  refine (within_any _ _ _ (by omega) (by omega)).mono ?_
  rintro e w' ⟨rfl, rfl⟩
  rw [HK.out]
  go_wp2_with fail
  go_ret
  exact ⟨rfl, HB6.out.trans (HX.out.mono HB6.out.size)⟩
end Go.Proofs.Ythfiijmmebgmoaa
