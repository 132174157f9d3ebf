/- The law on products, powers, what undoes a byte, walked; own text of the verifier. -/
import Derived.Test.YtgdhbnnjafoifaaF3
import Derived.BigQuiet
namespace Go.Proofs.Ytgdhbnnjafoifaa
open Go.RowKit
theorem quietSame {P : Program} {f : FuncId} {args : Array Value} {w : World} {n : Nat} {v : Value}
    (h : Calls P f args (w.drewN n) fun e w' => e = .returned v ∧ w.drewN n = w') : Calls P f args (w.drewN n) fun e w'' => e = .returned v ∧ ∃ m, w'' = w.drewN m :=
  h.mono fun _ _ ⟨he, hm⟩ => ⟨he, n, hm.symm⟩
theorem two_cells (w : World) (x y : Int) : (w.alloc (.cells #[.int .i64 x, .int .i64 y] 3)).cell? ⟨w.heap.size, 0, none⟩ = some (.int .i64 x) ∧
    (w.alloc (.cells #[.int .i64 x, .int .i64 y] 3)).cell? ⟨w.heap.size, 1, none⟩ = some (.int .i64 y) := by constructor <;> go_simp
theorem below_drewN' {B : Nat} {a w : World} (h : Below B a w) (n : Nat) : Below B a (w.drewN n) := ⟨h.os, h.tape, h.output, h.size, h.block⟩
set_option maxRecDepth 100000 in
set_option maxHeartbeats 4000000 in
theorem all_walk (a0 a1 a2 a3 : Int) (w0 : (Lit.int .u8 a0).wf = true) (w1 : (Lit.int .u8 a1).wf = true) (_w2 : (Lit.int .i64 a2).wf = true) (_w3 : (Lit.int .i64 a3).wf = true) (w : World) :
    Calls Try.prog 3 #[.int .u8 a0, .int .u8 a1, .int .i64 a2, .int .i64 a3] w fun e w' => e = .returned (.bool true) ∧ Below w.heap.size w w' := by
  obtain ⟨a, rfl, ha⟩ := byte_arg w0
  clear w0
  obtain ⟨b, rfl, hb⟩ := byte_arg w1
  clear w1
  go_enter Try.func3, Try.ntmps3
  go_wp2_with fail
  refine (known_any _).mono ?_
  rintro e wk ⟨rfl, rfl⟩
  go_wp2_with fail
  refine (mod_any _ _).mono ?_
  rintro e w2 ⟨rfl, hb2⟩
  have HB2 := hid hb2
  have hF0 := modF_field a2
  obtain ⟨m1, hm1⟩ : ∃ m, modF a2 = m := ⟨_, rfl⟩
  rw [hm1] at hF0 ⊢
  have HM1 := hid hF0.toIsRest
  clear hm1 hF0 hb2
  obtain ⟨q, hq⟩ : ∃ q : Nat, a2 % 256 = q := ⟨(a2 % 256).toNat, by omega⟩
  have hq2 : q < 256 := by omega
  have HQ := hid hq
  clear hq
  go_wp2_with fail
  refine (within_any _ _ _ (by omega) (by omega)).mono ?_
  rintro e w' ⟨rfl, rfl⟩
  rw [HQ.out]
  obtain ⟨W1, hW1⟩ : ∃ W1, w2.alloc (.cells #[.int .i64 m1, .int .i64 (256 + (q : Int))] 3) = W1 := ⟨_, rfl⟩
  have hx : Ext w2 W1 := hW1 ▸ Ext.alloc _ _
  have HC := hid (show ∀ i : Nat, i < 2 → ∃ m : Nat, IsRest m ∧ W1.cell? ⟨w2.heap.size, i, none⟩ = some (.int .i64 m) from fun i hi => by
    match i, hi with
    | 0, _ => exact ⟨m1, HM1.out, hW1 ▸ (two_cells w2 m1 (256 + (q : Int))).1⟩
    | 1, _ => exact ⟨256 + q, by constructor <;> omega, by rw [show ((256 + q : Nat) : Int) = 256 + (q : Int) by omega]; exact hW1 ▸ (two_cells w2 m1 (256 + (q : Int))).2⟩)
  have hz : w2.heap.size < W1.heap.size := by rw [← hW1]; simp
  have HX := hid (Ext.trans HB2.out hx)
  have HW := hid hW1
  clear hx hW1
  go_wp2_with fail
  rw [HW.out]
  obtain ⟨G, hG⟩ : ∃ G, w2.heap.size = G := ⟨_, rfl⟩
  have HC2 := hid (hG ▸ HC.out)
  rw [hG] at hz ⊢
  clear HC HW hG
  go_loopw [10] (fun i wr => ∃ k : Nat, k ≤ 2 ∧ i = .int .i64 k ∧ Ext W1 wr) (fun i _ => 2 - natOf i)
  case atStart => exact ⟨0, by omega, rfl, Ext.refl _⟩
  case round =>
    obtain ⟨k, hk, rfl, hx⟩ := hrel
    by_cases hlt : k < 2
    · obtain ⟨m, hm, hc⟩ := HC2.out k hlt
      have hc2 := (Below.cell hx (p := ⟨G, k, none⟩) hz).trans hc
      have HM := hid hm
      have hlo := hm.lo
      have hhi := hm.hi
      have HXX := hid hx
      obtain ⟨n, hn⟩ : ∃ n : Nat, a3 % 1000001 = n := ⟨(a3 % 1000001).toNat, by omega⟩
      have hn2 : n ≤ 1000000 := by omega
      have HN := hid hn
      have hki : (k : Int) < 2 := by omega
      clear hm hc hx hn
      go_wp2_with fail
      refine (within_any _ _ _ (by omega) (by omega)).mono ?_
      rintro e w' ⟨rfl, rfl⟩
      rw [HN.out]
      go_wp2_with fail
      go_quiet (first
        | (go_at_call 15; exact quietSame (mul_any a b m _ HM.out ha hb))
        | (go_at_call 16; exact quietSame (rmul_any a b m _ HM.out ha hb))
        | (go_at_call 17; exact quietSame (pow_any a n m _ HM.out ha hn2))
        | (go_at_call 18; exact quietSame (rpow_any a n m _ HM.out ha hn2))
        | (go_at_call 19; exact quietSame (inv_any a m _ HM.out ha))
        | (go_at_call 20; exact quietSame (rinv_any a m _ HM.out ha)))
      go_wp2_with fail
      go_roundw
      case rel => exact ⟨k + 1, by omega, by go_num, below_drewN' HXX.out nq⟩
      case measure => simp [natOf]; omega
    · obtain rfl : k = 2 := by omega
      have HXX := hid (Ext.trans HX.out hx)
      clear hx
      go_wp2_with fail
      go_ret
      exact ⟨rfl, HXX.out⟩
end Go.Proofs.Ytgdhbnnjafoifaa
