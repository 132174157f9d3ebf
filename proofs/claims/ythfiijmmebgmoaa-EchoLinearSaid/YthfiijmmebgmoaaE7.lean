/- Walks over the law's own helpers; own lemmas of the verifier, no statement is proved here. -/
import Derived.Test.YthfiijmmebgmoaaE2
import Derived.Test.YthfiijmmebgmoaaE4
import Derived.Test.YthfiijmmebgmoaaE6
import Derived.BigQuiet
namespace Go.Proofs.Ythfiijmmebgmoaa
open Go.RowKit
theorem tmod_neg (a n : Int) (hn : 0 < n) (h : a.tmod n < 0) : a.tmod n + n = a % n := by
  have h := @Int.tmod_eq_emod a n
  have h1 := Int.emod_nonneg a (Int.ne_of_gt hn)
  have h2 := Int.emod_lt_of_pos a hn
  split at h <;> omega
theorem tmod_pos (a n : Int) (hn : 0 < n) (h : ¬ a.tmod n < 0) : a.tmod n = a % n := by
  have h := @Int.tmod_eq_emod a n
  have h1 := Int.emod_nonneg a (Int.ne_of_gt hn)
  have h2 := Int.emod_lt_of_pos a hn
  split at h <;> omega
theorem below_drewN' {B : Nat} {a w : World} (h : Below B a w) (n : Nat) : Below B a (w.drewN n) := ⟨h.os, h.tape, h.output, h.size, h.block⟩
set_option maxHeartbeats 400000 in
theorem within_any (a n : Int) (w : World) (h0 : 0 < n) (h1 : n ≤ 9223372036854775807) :
    Calls Try.prog 22 #[.int .i64 a, .int .i64 n] w fun e w' => e = .returned (.int .i64 (a % n)) ∧ w = w' := by
  have b1 := Int.tmod_lt_of_pos a h0
  by_cases hc : a.tmod n < 0
  · have hf := tmod_neg a n h0 hc
    have b2 := Int.emod_nonneg a (Int.ne_of_gt h0)
    have b3 : 0 ≤ a.tmod n + n := by omega
    have HF := hid hf; clear hf b2
    go_enter Try.func22, Try.ntmps22
    go_wp2
    go_ret
    exact ⟨ret_int HF.out, rfl⟩
  · have hf := tmod_pos a n h0 hc
    have HF := hid hf; clear hf
    go_enter Try.func22, Try.ntmps22
    go_wp2
    go_ret
    exact ⟨ret_int HF.out, rfl⟩
set_option maxHeartbeats 400000 in
theorem within4_any (a n : Int) (w : World) (h0 : 0 < n) (h1 : n ≤ 9223372036854775807) :
    Calls Try.prog 30 #[.int .i64 a, .int .i64 n] w fun e w' => e = .returned (.int .i64 (a % n)) ∧ w = w' := by
  have b1 := Int.tmod_lt_of_pos a h0
  by_cases hc : a.tmod n < 0
  · have hf := tmod_neg a n h0 hc
    have b2 := Int.emod_nonneg a (Int.ne_of_gt h0)
    have b3 : 0 ≤ a.tmod n + n := by omega
    have HF := hid hf; clear hf b2
    go_enter Try.func30, Try.ntmps30
    go_wp2
    go_ret
    exact ⟨ret_int HF.out, rfl⟩
  · have hf := tmod_pos a n h0 hc
    have HF := hid hf; clear hf
    go_enter Try.func30, Try.ntmps30
    go_wp2
    go_ret
    exact ⟨ret_int HF.out, rfl⟩
theorem q00 : (FloatKind.f64.format.order 0 0 == some .eq) = true := by decide +kernel
theorem q11 : (FloatKind.f64.format.order 4607182418800017408 4607182418800017408 == some .eq) = true := by decide +kernel
theorem qinf : floatBits .quo .f64 4607182418800017408 0 = some 9218868437227405312 := by decide +kernel
theorem qinf0 : (FloatKind.f64.format.order 9218868437227405312 0 == some .lt) = false := by decide +kernel
set_option maxHeartbeats 400000 in
theorem nought_any (v : Int) (w : World) (hv : v.natAbs < 2 ^ 53) : Calls Try.prog 24 #[.float .f64 (flv false v)] w fun e w' => e = .returned (.int .i64 0) ∧ w = w' := by
  by_cases h0 : v = 0
  · subst h0
    rw [f_0]
    have h1 := q00
    have h2 := qinf0
    have hop := fun t w => run_float_arith (P := Try.prog) w .quo t .f64 _ _ _ qinf
    go_enter Try.func24, Try.ntmps24
    go_wp2_with (rw [hop])
    go_ret
    exact ⟨rfl, rfl⟩
  · have h1 := eqf false false v 0 hv (by omega)
    rw [decide_eq_false h0, f_0] at h1
    obtain ⟨X, hX⟩ : ∃ X, flv false v = X := ⟨_, rfl⟩
    rw [hX] at h1 ⊢
    go_enter Try.func24, Try.ntmps24
    go_wp2
    go_ret
    exact ⟨rfl, rfl⟩
set_option maxHeartbeats 1000000 in
theorem same_any (x y : Int) (w : World) (hx : x.natAbs < 2 ^ 53) (hy : y.natAbs < 2 ^ 53) :
    Calls Try.prog 14 #[.complex .f64 (flv false x) (flv false y), .complex .f64 (flv false x) (flv false y)] w fun e w' => e = .returned (.bool true) ∧ w = w' := by
  have h1 := eqf false false x x hx hx
  have h2 := eqf false false y y hy hy
  rw [decide_eq_true rfl] at h1 h2
  have c1 := fun w => nought_any x w hx
  have c2 := fun w => nought_any y w hy
  obtain ⟨X, hX⟩ : ∃ X, flv false x = X := ⟨_, rfl⟩
  obtain ⟨Y, hY⟩ : ∃ Y, flv false y = Y := ⟨_, rfl⟩
  rw [hX] at h1 c1 ⊢
  rw [hY] at h2 c2 ⊢
  go_enter Try.func14, Try.ntmps14
  go_wp2_with fail
  refine (c1 _).mono ?_
  rintro e w' ⟨rfl, rfl⟩
  go_wp2_with fail
  refine (c1 _).mono ?_
  rintro e w' ⟨rfl, rfl⟩
  go_wp2_with fail
  refine (c2 _).mono ?_
  rintro e w' ⟨rfl, rfl⟩
  go_wp2_with fail
  refine (c2 _).mono ?_
  rintro e w' ⟨rfl, rfl⟩
  go_wp2_with fail
  go_ret
  exact ⟨rfl, rfl⟩
theorem nil_echo : flv false (eR [] 3 0) = 0 ∧ flv false (eI [] 3 0) = 0 := ⟨f_0, f_0⟩
theorem one_echo : flv false (eR [0] 1 1) = 4607182418800017408 ∧ flv false (eI [0] 1 1) = 0 := ⟨by rw [show eR [0] 1 1 = 1 from rfl]; exact f_1, by rw [show eI [0] 1 1 = 0 from rfl]; exact f_0⟩
theorem turn_one : flv false (tR 1) = 0 ∧ flv false (tI 1) = 4607182418800017408 := ⟨f_0, f_1⟩
set_option maxHeartbeats 1000000 in
theorem known_any (w : World) : Calls Try.prog 12 #[] w fun e w' => e = .returned (.bool true) ∧ Below w.heap.size w w' := by
  have h1 := q00
  have h2 := q11
  go_enter Try.func12, Try.ntmps12
  go_wp2_with fail
  refine (turn_any 1 _).mono ?_
  rintro e w' ⟨rfl, rfl⟩
  rw [turn_one.1, turn_one.2]
  go_wp2_with fail
  refine (echo_any none 0 0 [] 3 _ w.heap.size (Rd.nil _ _ _) (by omega)).mono ?_
  rintro e w' ⟨rfl, rfl⟩
  rw [nil_echo.1, nil_echo.2]
  go_wp2_with fail
  have hp := power_any 0 1 w (by decide) (by decide)
  rw [f_0, f_1] at hp
  refine hp.mono ?_
  rintro e w' ⟨rfl, rfl⟩
  have HL := Own.lit w [0] #[.int .u8 0] 1 w.heap.size rfl rfl (by unfold maxLen; omega) (Nat.le_refl _)
  obtain ⟨A1, c1, hA, hR, _⟩ := HL.rd
  cases hA
  have HB := hid (Ext.alloc w (.cells #[.int .u8 0] 5))
  clear HL hp
  go_wp2_with fail
  refine (echo_any _ 1 1 [0] 1 _ _ hR (by omega)).mono ?_
  rintro e w' ⟨rfl, rfl⟩
  rw [one_echo.1, one_echo.2]
  go_wp2_with fail
  go_ret
  exact ⟨rfl, HB.out⟩
theorem Try.info5 : (Try.prog.info? 5).map (fun i => (i.zero, i.size, i.bytes)) = some (some (.int .u8 0), 1, 1) := by kernel_rfl
theorem tabF_succ (f : Nat → Nat) (n : Nat) : tabF f (n + 1) = tabF f n ++ [UInt8.ofNat (f n)] := by simp [tabF, List.range_succ]
theorem Own.len_eq {w : World} {base n c : Nat} {A : Option Addr} {xs : List UInt8} (h : Own w base (.slice A n c) xs) : xs.length = n := by
  rcases h.2 with ⟨h1, h2⟩ | ⟨g, cap, cur, h1, _⟩
  · cases h1; exact h2
  · cases h1; rfl
theorem Own.head {w : World} {base n : Nat} {v : Value} {xs : List UInt8} (h : Own w base v xs) (hn : xs.length = n) (hp : 0 < n) : ∃ g c, v = .slice (some ⟨g, 0, none⟩) n c ∧ n ≤ c ∧ base ≤ g ∧ g < w.heap.size := by
  subst hn
  have hl := World.ownsRow.lt h
  rcases h.2 with ⟨_, h2⟩ | ⟨g, cap, cur, rfl, hb, hh, hnc, _⟩
  · omega
  · exact ⟨g, cap, rfl, hnc, hb, (hl g rfl).2⟩
theorem Own.celln {w : World} {base g n c : Nat} {xs : List UInt8} (h : Own w base (.slice (some ⟨g, 0, none⟩) n c) xs) (hn : xs.length = n) (j : Nat) (hj : j < n) :
    w.cell? ⟨g, j, none⟩ = some (.int .u8 (nb xs j : Nat)) := by
  subst hn; exact h.cell j hj
theorem Own.freen {w : World} {base g n c : Nat} {xs : List UInt8} (h : Own w base (.slice (some ⟨g, 0, none⟩) n c) xs) (j : Nat) : w.frozen? ⟨g, j, none⟩ = false := by
  have := h.len_eq
  subst this
  exact h.free j
theorem Own.setn {w : World} {base g n c : Nat} {xs : List UInt8} (h : Own w base (.slice (some ⟨g, 0, none⟩) n c) xs) (j : Nat) (x : UInt8) :
    Own (w.setCell ⟨g, j, none⟩ (.int .u8 (x.toNat : Int))) base (.slice (some ⟨g, 0, none⟩) n c) (xs.set j x) := by
  have := h.len_eq
  subst this
  exact h.set_ j x
set_option maxRecDepth 100000 in
set_option maxHeartbeats 4000000 in
theorem table_any (A : Option Addr) (n m c : Nat) (ns : List Int) (w : World) (h : RdN .i64 w w.heap.size A m ns) (hn : n ≤ 256) (hm : m ≤ 9223372036854775807) :
    Calls Try.prog 23 #[.int .i64 n, .slice A m c] w (RetB w (tabL n ns)) := by
  have hl := hid h.len
  go_enter Try.func23, Try.ntmps23
  go_wp2_with fail
  go_loopw [5, 6] (fun v i wr => ∃ (k : Nat), k ≤ n ∧ i = .int .i64 k ∧ Own wr w.heap.size v (tabF (fun i => i) k) ∧ Below w.heap.size w wr) (fun _ i _ => n - (intOf i).toNat)
  case atStart => exact ⟨0, Nat.zero_le _, rfl, World.ownsRow_nil _ _ _ _, Below.refl _ _⟩
  case round =>
    obtain ⟨k, hk, rfl, hown, hb⟩ := hrel
    by_cases hlt : k < n
    · have HO := Own.kept hown ((Below.refl _ _).alloc (Nat.le_refl _) (.cells #[.int .u8 k] 5))
      have HL := Own.lit wr [UInt8.ofNat k] #[.int .u8 k] 1 wr.heap.size (by simp [cellsOf]; exact (u8_nat k (by omega)).symm) rfl (by unfold maxLen; omega) (Nat.le_refl _)
      obtain ⟨A1, c1, hA, _, hR, _⟩ := HL.rdc (n := 1) rfl
      cases hA
      have HB := hid (hb.alloc hb.size (.cells #[.int .u8 k] 5))
      have HU := hid (tabF_succ (fun i => i) k)
      have hz := hb.size
      have hku := tabF_length (fun i => i) k
      clear hown hb HL
      go_wp2_with (at_builtin; refine wpL_append _ rfl (.tmp 15) (.tmp 18) 22 rfl Try.underlying22 Try.info5 w.heap.size _ (tabF (fun i => i) k) rfl HO _ _ 1 1 [UInt8.ofNat k] rfl hR (by omega) (by simp; omega) ?_; intro v2 w2 hown2 hb2)
      rw [← HU.out] at hown2
      have HB2 := hid (HB.out.trans hb2)
      go_roundw
      case rel => exact ⟨k + 1, by omega, by go_num, hown2, HB2.out⟩
      case measure => simp [intOf]; omega
    · obtain rfl : k = n := by omega
      have hown0 := hid hown
      have hb0 := hid hb
      clear hown hb
      go_wp2_with fail
      go_loopw [7] (fun i wr => ∃ (j : Nat), j ≤ tabK k m ∧ i = .int .i64 j ∧ Own wr w.heap.size u5 (tabG k ns j) ∧ Below w.heap.size w wr) (fun i _ => tabK k m - (intOf i).toNat)
      case atStart => exact ⟨0, Nat.zero_le _, rfl, hown0.out, hb0.out⟩
      case round =>
        obtain ⟨j, hj, rfl, hown, hb⟩ := hrel
        by_cases hjt : j < tabK k m
        · have hk0 : 0 < k := by unfold tabK at hjt; split at hjt <;> omega
          have hjm : j < m := by unfold tabK at hjt; split at hjt <;> omega
          have hj300 : j < 300 := by unfold tabK at hjt; split at hjt <;> omega
          obtain ⟨b1, o1, rfl, hb1', hc1⟩ := (h.below hb (Nat.le_refl _)).at_ (by omega)
          have hck := hc1 j hjm
          obtain ⟨g, c2, rfl, hc2, hg1, hg2⟩ := hown.head (tabG_length k ns j) hk0
          obtain ⟨x, hx⟩ : ∃ x, ns.getD j 0 = x := ⟨_, rfl⟩
          rw [hx] at hck
          obtain ⟨p, hp⟩ : ∃ p : Nat, x % (k : Int) = p := ⟨(x % (k : Int)).toNat, by have := Int.emod_nonneg x (show (k : Int) ≠ 0 by omega); omega⟩
          have hpk : p < k := by have := Int.emod_lt_of_pos x (show (0 : Int) < k by omega); omega
          obtain ⟨q, hq⟩ : ∃ q : Nat, j % k = q := ⟨_, rfl⟩
          have hqk : q < k := by rw [← hq]; exact Nat.mod_lt _ hk0
          have hjq : (j : Int) % (k : Int) = q := by omega
          have hG : tabG k ns (j + 1) = swapB (tabG k ns j) q p := by rw [tabG, hx, hp, hq]; rfl
          have hol := tabG_length k ns j
          have hcq := hown.celln hol q hqk
          have hcp := hown.celln hol p hpk
          have hfq := hown.freen q
          have hfp := hown.freen p
          have hs1 := hown.setn q ((tabG k ns j).getD p 0)
          have hs2 := hs1.setn p ((tabG k ns j).getD q 0)
          rw [show ((tabG k ns j).set q ((tabG k ns j).getD p 0)).set p ((tabG k ns j).getD q 0) = tabG k ns (j + 1) by rw [hG]; rfl] at hs2
          obtain ⟨y, hy⟩ : ∃ y, nb (tabG k ns j) q = y := ⟨_, rfl⟩
          obtain ⟨z, hz⟩ : ∃ z, nb (tabG k ns j) p = z := ⟨_, rfl⟩
          have hs3 : Own ((wr.setCell ⟨g, q, none⟩ (.int .u8 (nb (tabG k ns j) p : Nat))).setCell ⟨g, p, none⟩ (.int .u8 (nb (tabG k ns j) q : Nat))) w.heap.size (.slice (some ⟨g, 0, none⟩) k c2) (tabG k ns (j + 1)) := hs2
          rw [hy] at hcq hs3
          rw [hz] at hcp hs3
          have HS := hid hs3
          have HB := hid hb
          have HJ := hid hjq
          have HX := hid hp
          clear hs1 hs2 hs3 hy hz hG hq hp hx hown hb hc1 h hol hjq hl hown0 hb0 hj
          go_wp2_with fail
          have hkz : ¬ k = 0 := by omega
          have hjt2 : (j : Int).tmod (k : Int) = q := by rw [Int.tmod_eq_emod_of_nonneg (by omega)]; exact HJ.out
          go_quiet ((go_at_call 30; exact quietSame (within4_any _ _ _ (by omega) (by omega))))
          clear hjt2 hkz
          rw [HX.out]
          go_wp2_with fail
          by_cases hpq : p = q
          · subst hpq
            have hyz : y = z := by rw [hcq] at hcp; cases hcp; rfl
            subst hyz
            clear hcp hfp
            go_region
            go_wp2_with fail
            go_roundw
            case rel => exact ⟨j + 1, by omega, by go_num, HS.out, ((below_drewN' HB.out _).setCell (by simp; omega) _).setCell (by simp; omega) _⟩
            case measure => simp [intOf]; omega
          · have hqp : ¬ q = p := fun e => hpq e.symm
            go_region
            go_wp2_with fail
            go_roundw
            case rel => exact ⟨j + 1, by omega, by go_num, HS.out, ((below_drewN' HB.out _).setCell (by simp; omega) _).setCell (by simp; omega) _⟩
            case measure => simp [intOf]; omega
        · have hjK : j = tabK k m := by omega
          have HH := hid (show Own wr w.heap.size u5 (tabL k ns) by unfold tabL; rw [hl.out, ← hjK]; exact hown)
          have HB := hid hb
          have hjd : k = 0 ∨ m ≤ j ∨ 300 ≤ j := by
            have := hjt
            unfold tabK at this
            split at this <;> omega
          clear hjK hown hb hown0 hb0 hl hj h hjt
          by_cases h1 : j < m
          · by_cases h2 : j < 300
            · obtain rfl : k = 0 := by omega
              go_wp2_with fail
              go_ret
              exact ⟨_, rfl, HH.out, HB.out⟩
            · go_wp2_with fail
              go_ret
              exact ⟨_, rfl, HH.out, HB.out⟩
          · go_wp2_with fail
            go_ret
            exact ⟨_, rfl, HH.out, HB.out⟩
end Go.Proofs.Ythfiijmmebgmoaa
