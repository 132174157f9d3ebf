/- Walk over the law's own helper that makes a table; own lemmas of the verifier, no statement is proved here. -/
import Derived.Test.YtcmhaomnabdopaaDoorX3
import Derived.StillTailTactics
import Derived.Deep.RegionWith
namespace Go.Proofs.YtcmhaomnabdopaaDoor
open Go.RowKit
theorem quietSame {P : Program} {f : FuncId} {args : Array Value} {w : World} {n : Nat} {v : Value}
    (h : Calls P f args (w.drewN n) fun e w' => e = .returned v ∧ w.drewN n = w') : Calls P f args (w.drewN n) fun e w'' => e = .returned v ∧ ∃ m, w'' = w.drewN m :=
  h.mono fun _ _ ⟨he, hm⟩ => ⟨he, n, hm.symm⟩
theorem tabF_succ (f : Nat → Nat) (n : Nat) : tabF f (n + 1) = tabF f n ++ [UInt8.ofNat (f n)] := by simp [tabF, List.range_succ]
theorem Own.len_eq {w : World} {base n c : Nat} {A : Option Addr} {xs : List UInt8} (h : Own w base (.slice A n c) xs) : xs.length = n := by
  rcases h.2 with ⟨h1, h2⟩ | ⟨g, cap, cur, h1, _⟩
  · cases h1; exact h2
  · cases h1; rfl
theorem Own.head {w : World} {base n : Nat} {v : Value} {xs : List UInt8} (h : Own w base v xs) (hn : xs.length = n) (hp : 0 < n) : ∃ g c, v = .slice (some ⟨g, 0, none⟩) n c ∧ n ≤ c ∧ base ≤ g ∧ g < w.heap.size := by
  subst hn
  have hl := World.ownsRow.lt h
  rcases h.2 with ⟨_, h2⟩ | ⟨g, cap, cur, rfl, hb, hh, hnc, _⟩
  · omega
  · exact ⟨g, cap, rfl, hnc, hb, (hl g rfl).2⟩
theorem Own.celln {w : World} {base g n c : Nat} {xs : List UInt8} (h : Own w base (.slice (some ⟨g, 0, none⟩) n c) xs) (hn : xs.length = n) (j : Nat) (hj : j < n) :
    w.cell? ⟨g, j, none⟩ = some (.int .u8 (nb xs j : Nat)) := by
  subst hn; exact h.cell j hj
theorem Own.freen {w : World} {base g n c : Nat} {xs : List UInt8} (h : Own w base (.slice (some ⟨g, 0, none⟩) n c) xs) (j : Nat) : w.frozen? ⟨g, j, none⟩ = false := by
  have := h.len_eq
  subst this
  exact h.free j
theorem Own.setn {w : World} {base g n c : Nat} {xs : List UInt8} (h : Own w base (.slice (some ⟨g, 0, none⟩) n c) xs) (j : Nat) (x : UInt8) :
    Own (w.setCell ⟨g, j, none⟩ (.int .u8 (x.toNat : Int))) base (.slice (some ⟨g, 0, none⟩) n c) (xs.set j x) := by
  have := h.len_eq
  subst this
  exact h.set_ j x
set_option maxRecDepth 100000 in
set_option maxHeartbeats 4000000 in
theorem table_any (A : Option Addr) (n m c : Nat) (ns : List Int) (w : World) (h : RdN .i64 w w.heap.size A m ns) (hn : n ≤ 256) (hm : m ≤ 9223372036854775807) :
    Calls Tryd.prog 13 #[.int .i64 n, .slice A m c] w (RetB w (tabL n ns)) := by
  have hl := hid h.len
  go_enter Tryd.func13, Tryd.ntmps13
  go_wp2_with fail
  go_loopw [5, 6] (fun v i wr => ∃ (k : Nat), k ≤ n ∧ i = .int .i64 k ∧ Own wr w.heap.size v (tabF (fun i => i) k) ∧ Below w.heap.size w wr) (fun _ i _ => n - (intOf i).toNat)
  case atStart => exact ⟨0, Nat.zero_le _, rfl, World.ownsRow_nil _ _ _ _, Below.refl _ _⟩
  case round =>
    obtain ⟨k, hk, rfl, hown, hb⟩ := hrel
    by_cases hlt : k < n
    · have HO := Own.kept hown ((Below.refl _ _).alloc (Nat.le_refl _) (.cells #[.int .u8 k] 5))
      have HL := Own.lit wr [UInt8.ofNat k] #[.int .u8 k] 1 wr.heap.size (by simp [cellsOf]; exact (u8_nat k (by omega)).symm) rfl (by unfold maxLen; omega) (Nat.le_refl _)
      obtain ⟨A1, c1, hA, _, hR, _⟩ := HL.rdc (n := 1) rfl
      cases hA
      have HB := hid (hb.alloc hb.size (.cells #[.int .u8 k] 5))
      have HU := hid (tabF_succ (fun i => i) k)
      have hz := hb.size
      have hku := tabF_length (fun i => i) k
      clear hown hb HL
      go_wp2_with (at_builtin; refine wpL_append _ rfl (.tmp 15) (.tmp 18) 23 rfl Tryd.underlying23 Tryd.info5 w.heap.size _ (tabF (fun i => i) k) rfl HO _ _ 1 1 [UInt8.ofNat k] rfl hR (by omega) (by simp; omega) ?_; intro v2 w2 hown2 hb2)
      rw [← HU.out] at hown2
      have HB2 := hid (HB.out.trans hb2)
      go_roundw
      case rel => exact ⟨k + 1, by omega, by go_num, hown2, HB2.out⟩
      case measure => simp [intOf]; omega
    · obtain rfl : k = n := by omega
      have hown0 := hid hown
      have hb0 := hid hb
      clear hown hb
      go_wp2_with fail
      go_loopw [7] (fun i wr => ∃ (j : Nat), j ≤ tabK k m ∧ i = .int .i64 j ∧ Own wr w.heap.size u5 (tabG k ns j) ∧ Below w.heap.size w wr) (fun i _ => tabK k m - (intOf i).toNat)
      case atStart => exact ⟨0, Nat.zero_le _, rfl, hown0.out, hb0.out⟩
      case round =>
        obtain ⟨j, hj, rfl, hown, hb⟩ := hrel
        by_cases hjt : j < tabK k m
        · have hk0 : 0 < k := by unfold tabK at hjt; split at hjt <;> omega
          have hjm : j < m := by unfold tabK at hjt; split at hjt <;> omega
          have hj300 : j < 300 := by unfold tabK at hjt; split at hjt <;> omega
          obtain ⟨b1, o1, rfl, hb1', hc1⟩ := (h.below hb (Nat.le_refl _)).at_ (by omega)
          have hck := hc1 j hjm
          obtain ⟨g, c2, rfl, hc2, hg1, hg2⟩ := hown.head (tabG_length k ns j) hk0
          obtain ⟨x, hx⟩ : ∃ x, ns.getD j 0 = x := ⟨_, rfl⟩
          rw [hx] at hck
          obtain ⟨p, hp⟩ : ∃ p : Nat, x % (k : Int) = p := ⟨(x % (k : Int)).toNat, by have := Int.emod_nonneg x (show (k : Int) ≠ 0 by omega); omega⟩
          have hpk : p < k := by have := Int.emod_lt_of_pos x (show (0 : Int) < k by omega); omega
          obtain ⟨q, hq⟩ : ∃ q : Nat, j % k = q := ⟨_, rfl⟩
          have hqk : q < k := by rw [← hq]; exact Nat.mod_lt _ hk0
          have hjq : (j : Int) % (k : Int) = q := by omega
          have hG : tabG k ns (j + 1) = swapB (tabG k ns j) q p := by rw [tabG, hx, hp, hq]; rfl
          have hol := tabG_length k ns j
          have hcq := hown.celln hol q hqk
          have hcp := hown.celln hol p hpk
          have hfq := hown.freen q
          have hfp := hown.freen p
          have hs1 := hown.setn q ((tabG k ns j).getD p 0)
          have hs2 := hs1.setn p ((tabG k ns j).getD q 0)
          rw [show ((tabG k ns j).set q ((tabG k ns j).getD p 0)).set p ((tabG k ns j).getD q 0) = tabG k ns (j + 1) by rw [hG]; rfl] at hs2
          obtain ⟨y, hy⟩ : ∃ y, nb (tabG k ns j) q = y := ⟨_, rfl⟩
          obtain ⟨z, hz⟩ : ∃ z, nb (tabG k ns j) p = z := ⟨_, rfl⟩
          have hs3 : Own ((wr.setCell ⟨g, q, none⟩ (.int .u8 (nb (tabG k ns j) p : Nat))).setCell ⟨g, p, none⟩ (.int .u8 (nb (tabG k ns j) q : Nat))) w.heap.size (.slice (some ⟨g, 0, none⟩) k c2) (tabG k ns (j + 1)) := hs2
          rw [hy] at hcq hs3
          rw [hz] at hcp hs3
          have HS := hid hs3
          have HB := hid hb
          have HJ := hid hjq
          have HX := hid hp
          clear hs1 hs2 hs3 hy hz hG hq hp hx hown hb hc1 h hol hjq hl hown0 hb0 hj
          go_wp2_with fail
          have hkz : ¬ k = 0 := by omega
          have hjt2 : (j : Int).tmod (k : Int) = q := by rw [Int.tmod_eq_emod_of_nonneg (by omega)]; exact HJ.out
          go_quiet ((go_at_call 14; exact quietSame (within_any _ _ _ (by omega) (by omega))))
          clear hjt2 hkz
          rw [HX.out]
          go_wp2_with fail
          by_cases hpq : p = q
          · subst hpq
            have hyz : y = z := by rw [hcq] at hcp; cases hcp; rfl
            subst hyz
            clear hcp hfp
            go_region
            go_wp2_with fail
            go_roundw
            case rel => exact ⟨j + 1, by omega, by go_num, HS.out, ((below_drewN' HB.out _).setCell (by simp; omega) _).setCell (by simp; omega) _⟩
            case measure => simp [intOf]; omega
          · have hqp : ¬ q = p := fun e => hpq e.symm
            go_region
            go_wp2_with fail
            go_roundw
            case rel => exact ⟨j + 1, by omega, by go_num, HS.out, ((below_drewN' HB.out _).setCell (by simp; omega) _).setCell (by simp; omega) _⟩
            case measure => simp [intOf]; omega
        · have hjK : j = tabK k m := by omega
          have HH := hid (show Own wr w.heap.size u5 (tabL k ns) by unfold tabL; rw [hl.out, ← hjK]; exact hown)
          have HB := hid hb
          have hjd : k = 0 ∨ m ≤ j ∨ 300 ≤ j := by
            have := hjt
            unfold tabK at this
            split at this <;> omega
          clear hjK hown hb hown0 hb0 hl hj h hjt
          by_cases h1 : j < m
          · by_cases h2 : j < 300
            · obtain rfl : k = 0 := by omega
              go_wp2_with fail
              go_ret
              exact ⟨_, rfl, HH.out, HB.out⟩
            · go_wp2_with fail
              go_ret
              exact ⟨_, rfl, HH.out, HB.out⟩
          · go_wp2_with fail
            go_ret
            exact ⟨_, rfl, HH.out, HB.out⟩
end Go.Proofs.YtcmhaomnabdopaaDoor
