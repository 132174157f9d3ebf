/- Walk over the law's own helper that makes an order; own lemmas of the verifier, no statement is proved here. -/
import Derived.Test.YtakfndhknoleaaaB2
import Derived.StillTailTactics
import Derived.Deep.RegionWith
namespace Go.Proofs.Ytakfndhknoleaaa
open Go.RowKit
theorem quietSame {P : Program} {f : FuncId} {args : Array Value} {w : World} {n : Nat} {v : Value}
    (h : Calls P f args (w.drewN n) fun e w' => e = .returned v ∧ w.drewN n = w') : Calls P f args (w.drewN n) fun e w'' => e = .returned v ∧ ∃ m, w'' = w.drewN m :=
  h.mono fun _ _ ⟨he, hm⟩ => ⟨he, n, hm.symm⟩
/-- 1 to n. -/
def upL (n : Nat) : List Int := (List.range n).map fun (i : Nat) => (i : Int) + 1
theorem upL_length (n : Nat) : (upL n).length = n := by simp [upL]
theorem upL_succ (n : Nat) : upL (n + 1) = upL n ++ [(n : Int) + 1] := by simp [upL, List.range_succ]
def swapL (l : List Int) (j k : Nat) : List Int := (l.set j (l.getD k 0)).set k (l.getD j 0)
theorem swapL_length (l : List Int) (j k : Nat) : (swapL l j k).length = l.length := by simp [swapL]
/-- The order behind k swaps. -/
def ordG (n : Nat) (ns : List Int) : Nat → List Int
  | 0 => upL n
  | k + 1 => swapL (ordG n ns k) (k % n) (ns.getD k 0 % (n : Int)).toNat
theorem ordG_length (n : Nat) (ns : List Int) : ∀ k, (ordG n ns k).length = n
  | 0 => upL_length n
  | k + 1 => by rw [ordG, swapL_length, ordG_length n ns k]
/-- How many swaps. -/
def ordK (n m : Nat) : Nat := if n = 0 then 0 else min m 100
def ordL (n : Nat) (ns : List Int) : List Int := ordG n ns (ordK n ns.length)
theorem ordL_length (n : Nat) (ns : List Int) : (ordL n ns).length = n := ordG_length _ _ _
set_option maxHeartbeats 1000000 in
theorem order_any (A : Option Addr) (n m c : Nat) (ns : List Int) (w : World) (h : RdN .i64 w w.heap.size A m ns) (hn : n ≤ 1000) (hm : m ≤ 9223372036854775807) :
    Calls Try.prog 17 #[.int .i64 n, .slice A m c] w (RetN .i64 3 w (ordL n ns)) := by
  have hl := hid h.len
  go_enter Try.func17, Try.ntmps17
  go_wp2_with fail
  go_loopw [5, 6] (fun v i wr => ∃ (k : Nat), k ≤ n ∧ i = .int .i64 (k + 1) ∧ OwnN .i64 3 wr w.heap.size v (upL k) ∧ Below w.heap.size w wr) (fun _ i _ => n + 1 - (intOf i).toNat)
  case atStart => exact ⟨0, Nat.zero_le _, rfl, World.ownsRow_nil _ _ _ _, Below.refl _ _⟩
  case round =>
    obtain ⟨k, hk, rfl, hown, hb⟩ := hrel
    by_cases hlt : k < n
    · have HO := OwnN.kept hown ((Below.refl _ _).alloc (Nat.le_refl _) (.cells #[.int .i64 (k + 1)] 3))
      have HL := OwnN.lit (e := 3) wr [(k : Int) + 1] #[.int .i64 (k + 1)] 1 wr.heap.size rfl rfl (by unfold maxLen; omega) (Nat.le_refl _)
      obtain ⟨A1, c1, hA, _, hR, _⟩ := HL.rdc (n := 1) rfl
      cases hA
      have HB := hid (hb.alloc hb.size (.cells #[.int .i64 (k + 1)] 3))
      have HU := hid (upL_succ k)
      have hz := hb.size
      have hku := upL_length k
      clear hown hb HL
      go_wp2_with (at_builtin; refine wpL_appendN _ rfl (.tmp 15) (.tmp 17) 23 rfl Try.underlying23 8 Try.info3 w.heap.size _ (upL k) rfl HO _ _ 1 1 [(k : Int) + 1] rfl hR (by omega) (by unfold maxLen; omega) (by simp; omega) ?_; intro v2 w2 hown2 hb2)
      rw [← HU.out] at hown2
      have HB2 := hid (HB.out.trans hb2)
      go_roundw
      case rel => exact ⟨k + 1, by omega, by go_num, hown2, HB2.out⟩
      case measure => simp [intOf]; omega
    · obtain rfl : k = n := by omega
      have hown0 := hid hown
      have hb0 := hid hb
      clear hown hb
      go_wp2_with fail
      go_loopw [7] (fun i wr => ∃ (j : Nat), j ≤ ordK k m ∧ i = .int .i64 j ∧ OwnN .i64 3 wr w.heap.size u5 (ordG k ns j) ∧ Below w.heap.size w wr) (fun i _ => ordK k m - (intOf i).toNat)
      case atStart => exact ⟨0, Nat.zero_le _, rfl, hown0.out, hb0.out⟩
      case round =>
        obtain ⟨j, hj, rfl, hown, hb⟩ := hrel
        by_cases hjt : j < ordK k m
        · have hk0 : 0 < k := by unfold ordK at hjt; split at hjt <;> omega
          have hjm : j < m := by unfold ordK at hjt; split at hjt <;> omega
          have hj100 : j < 100 := by unfold ordK at hjt; split at hjt <;> omega
          obtain ⟨b1, o1, rfl, hb1', hc1⟩ := (h.below hb (Nat.le_refl _)).at_ (by omega)
          have hck := hc1 j hjm
          obtain ⟨g, c2, rfl, hc2, hg1, hg2⟩ := hown.head (ordG_length k ns j) hk0
          obtain ⟨x, hx⟩ : ∃ x, ns.getD j 0 = x := ⟨_, rfl⟩
          rw [hx] at hck
          obtain ⟨p, hp⟩ : ∃ p : Nat, x % (k : Int) = p := ⟨(x % (k : Int)).toNat, by have := Int.emod_nonneg x (show (k : Int) ≠ 0 by omega); omega⟩
          have hpk : p < k := by have := Int.emod_lt_of_pos x (show (0 : Int) < k by omega); omega
          obtain ⟨q, hq⟩ : ∃ q : Nat, j % k = q := ⟨_, rfl⟩
          have hqk : q < k := by rw [← hq]; exact Nat.mod_lt _ hk0
          have hjq : (j : Int) % (k : Int) = q := by omega
          have hG : ordG k ns (j + 1) = swapL (ordG k ns j) q p := by rw [ordG, hx, hp, hq]; rfl
          have hol := ordG_length k ns j
          have hcq := hown.celln hol q hqk
          have hcp := hown.celln hol p hpk
          have hfq := hown.free q
          have hfp := hown.free p
          have hs1 := hown.setn hol q ((ordG k ns j).getD p 0)
          have hs2 := hs1.setn (by rw [List.length_set]; exact hol) p ((ordG k ns j).getD q 0)
          rw [show ((ordG k ns j).set q ((ordG k ns j).getD p 0)).set p ((ordG k ns j).getD q 0) = ordG k ns (j + 1) by rw [hG]; rfl] at hs2
          obtain ⟨y, hy⟩ : ∃ y, (ordG k ns j).getD q 0 = y := ⟨_, rfl⟩
          obtain ⟨z, hz⟩ : ∃ z, (ordG k ns j).getD p 0 = z := ⟨_, rfl⟩
          rw [hy] at hcq hs2
          rw [hz] at hcp hs2
          have HS := hid hs2
          have HB := hid hb
          have HJ := hid hjq
          have HX := hid hp
          clear hs1 hs2 hy hz hG hq hp hx hown hb hc1 h hol hjq hl hown0 hb0 hj
          go_wp2_with fail
          have hkz : ¬ k = 0 := by omega
          have hjt2 : (j : Int).tmod (k : Int) = q := by rw [Int.tmod_eq_emod_of_nonneg (by omega)]; exact HJ.out
          go_quiet ((go_at_call 14; exact quietSame (within_any _ _ _ (by omega) (by omega))))
          clear hjt2 hkz
          rw [HX.out]
          go_wp2_with fail
          by_cases hpq : p = q
          · subst hpq
            have hyz : y = z := by rw [hcq] at hcp; cases hcp; rfl
            subst hyz
            clear hcp hfp
            go_region
            go_wp2_with fail
            go_roundw
            case rel => exact ⟨j + 1, by omega, by go_num, HS.out, ((below_drewN' HB.out _).setCell (by simp; omega) _).setCell (by simp; omega) _⟩
            case measure => simp [intOf]; omega
          · have hqp : ¬ q = p := fun e => hpq e.symm
            go_region
            go_wp2_with fail
            go_roundw
            case rel => exact ⟨j + 1, by omega, by go_num, HS.out, ((below_drewN' HB.out _).setCell (by simp; omega) _).setCell (by simp; omega) _⟩
            case measure => simp [intOf]; omega
        · have hjK : j = ordK k m := by omega
          have HH := hid (show OwnN .i64 3 wr w.heap.size u5 (ordL k ns) by unfold ordL; rw [hl.out, ← hjK]; exact hown)
          have HB := hid hb
          have hjd : k = 0 ∨ m ≤ j ∨ 100 ≤ j := by
            have := hjt
            unfold ordK at this
            split at this <;> omega
          clear hjK hown hb hown0 hb0 hl hj h hjt
          by_cases h1 : j < m
          · by_cases h2 : j < 100
            · obtain rfl : k = 0 := by omega
              go_wp2_with fail
              go_ret
              exact ⟨_, rfl, HH.out, HB.out⟩
            · go_wp2_with fail
              go_ret
              exact ⟨_, rfl, HH.out, HB.out⟩
          · go_wp2_with fail
            go_ret
            exact ⟨_, rfl, HH.out, HB.out⟩
end Go.Proofs.Ytakfndhknoleaaa
