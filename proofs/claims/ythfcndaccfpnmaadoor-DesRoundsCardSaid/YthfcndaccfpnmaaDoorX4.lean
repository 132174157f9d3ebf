/- Walks over the turning of tables, and over the keys; own lemmas of the verifier, no statement is proved here. -/
import Derived.Test.YthfcndaccfpnmaaDoorRegK
namespace Go.Proofs.YthfcndaccfpnmaaDoor
open Go.RowKit
theorem ext_grown {w w1 w2 : World} {r : Option Nat} (h : Ext w w1) (g : w1.grownBy w2 r) : w.grownBy w2 r :=
  ⟨g.os.trans (Below.os h), g.tape.trans (Below.tape h), g.output.trans (Below.output h), Nat.le_trans (Below.size h) g.size,
    fun k hk hr => (g.block k (Nat.lt_of_lt_of_le hk (Below.size h)) hr).trans (Below.block h k hk)⟩
theorem grown_trans {w w1 w2 : World} {r : Option Nat} (h : w.grownBy w1 r) (g : w1.grownBy w2 r) : w.grownBy w2 r :=
  ⟨g.os.trans h.os, g.tape.trans h.tape, g.output.trans h.output, Nat.le_trans h.size g.size,
    fun k hk hr => (g.block k (Nat.lt_of_lt_of_le hk h.size) hr).trans (h.block k hk hr)⟩
theorem cf47 (vs : Array Value) (w : World) : (callFunc 47 vs).run Tryd.prog w = .ok (.enter 47 vs) w := by go_simp
def tlV (g off n cap k : Nat) (xs : List Int) : Nat → World → Value → Prop
  | 0, _, v => v = .slice (some ⟨g, off, none⟩) n cap
  | 1, _, v => v = .slice (some ⟨g, off, none⟩) n cap
  | 2, _, v => v = .int .i64 k
  | 3, w, v => ∃ A c, v = .slice A (n - k) c ∧ RdN .i64 w w.heap.size A (n - k) (xs.drop k)
  | 4, _, v => v = .slice (some ⟨g, off, none⟩) n cap
  | 5, _, v => v = .int .i64 k
  | 6, w, v => ∃ A c, v = .slice A k c ∧ RdN .i64 w w.heap.size A k (xs.take k)
  | 7, w, v => ∃ b, v = .slice (some ⟨b, 0, none⟩) 2 2 ∧ RowsN w b 0 [xs.drop k, xs.take k]
  | 8, w, v => ∃ A c, v = .slice A n c ∧ RdN .i64 w w.heap.size A n (rotL xs k)
  | _, _, _ => True
theorem tlV_keep (g off n cap k : Nat) (xs : List Int) : ∀ i w w' v, Ext w w' → tlV g off n cap k xs i w v → tlV g off n cap k xs i w' v := by
  intro i w w' v hx h
  match i with
  | 0 => exact h
  | 1 => exact h
  | 2 => exact h
  | 3 => obtain ⟨A, c, e, hr⟩ := h; exact ⟨A, c, e, hr.later hx⟩
  | 4 => exact h
  | 5 => exact h
  | 6 => obtain ⟨A, c, e, hr⟩ := h; exact ⟨A, c, e, hr.later hx⟩
  | 7 => obtain ⟨b, e, hr⟩ := h; exact ⟨b, e, hr.later hx⟩
  | 8 => obtain ⟨A, c, e, hr⟩ := h; exact ⟨A, c, e, hr.later hx⟩
  | _ + 9 => trivial
theorem own_part {w : World} {base g N C off n : Nat} {L : List Int} (hown : OwnN .i64 3 w base (.slice (some ⟨g, 0, none⟩) N C) L) (hfit : off + n ≤ N) :
    RdN .i64 w w.heap.size (some ⟨g, off, none⟩) n ((L.drop off).take n) := by
  have hl := hown.len_eq
  refine ⟨by simp; omega, fun _ => ⟨g, off, rfl, hown.base_le.2, fun j hj => ?_⟩⟩
  rw [hown.celln hl (off + j) (by omega)]
  simp [List.getD, hj]
set_option maxRecDepth 100000 in
set_option maxHeartbeats 1000000 in
theorem turnLeft_any (g off n cap k base N C : Nat) (L : List Int) (w : World) (hown : OwnN .i64 3 w base (.slice (some ⟨g, 0, none⟩) N C) L) (hfit : off + n ≤ N) (h0 : 0 < n) (hn : n ≤ 1000) (hk : k ≤ n) (hcap : n ≤ cap) :
    Calls Tryd.prog 49 #[.slice (some ⟨g, off, none⟩) n cap, .int .i64 k] w fun e w' => (∃ v, e = .returned v) ∧ OwnN .i64 3 w' base (.slice (some ⟨g, 0, none⟩) N C) (L.take off ++ (rotL ((L.drop off).take n) k ++ L.drop (off + n))) ∧ w.grownBy w' (some g) := by
  have hr := own_part hown hfit
  obtain ⟨xs, hxs⟩ : ∃ xs, (L.drop off).take n = xs := ⟨_, rfl⟩
  rw [hxs] at hr ⊢
  have hxl := hr.len
  have hfl : ([xs.drop k, xs.take k] : List (List Int)).flatten = rotL xs k := by simp [rotL]
  have hrl : (rotL xs k).length = n := by rw [rotL_len _ _ (by omega)]; exact hxl
  go_enter Tryd.func49, Tryd.ntmps49
  go_wp2_with fail
  refine region_tailK 9 _ mixed rfl (by kernel_rfl) (by kernel_rfl) rfl rfl (tlV g off n cap k xs) (tlV_keep _ _ _ _ _ _) (forall_ops ⟨?_, ?_, ?_, ?_, ?_, ?_, ?_, ?_, ?_, fun h => absurd rfl h, trivial⟩) ?_
  · intro _ a w hk
    have s0 : a.tmps.getD 0 undef = .slice (some ⟨g, off, none⟩) n cap := hk.was 0 (by kernel_rfl) rfl
    exact step_move rfl rfl s0 rfl
  · intro _ a w hk
    have s0 : a.tmps.getD 0 undef = .slice (some ⟨g, off, none⟩) n cap := hk.was 0 (by kernel_rfl) rfl
    exact step_move rfl rfl s0 rfl
  · intro _ a w hk
    have s1 := hk.was 1 (by kernel_rfl) (v := .int .i64 k) rfl
    exact step_move rfl rfl s1 rfl
  · intro _ a w hkn
    have s5 : a.eval (.tmp 5) = .slice (some ⟨g, off, none⟩) n cap := hkn.slot 1 5 (by kernel_rfl)
    have s6 : a.eval (.tmp 6) = .int .i64 k := hkn.slot 2 6 (by kernel_rfl)
    have hr2 := hr.later hkn.ext
    have e : (Instr.sliceAt 46 (.slice (some ⟨g, off, none⟩) n cap) (some (.int .i64 (k : Int))) none none).run Tryd.prog w = .ok (sliced (some ⟨g, off, none⟩) k n cap 1) w := by
      rw [run_sliceAt_slice w 46 _ _ _ _ elem46, run_slice_l w 46 _ n cap elem46 .i64 k (by omega) (by omega), size46]
      simp [Result.andThen]
    exact step_val (v := sliced (some ⟨g, off, none⟩) k n cap 1) (w' := w) rfl (by simp [execOp, s5, s6, e, Result.andThen]) (Ext.refl w) ⟨_, _, rfl, hr2.cutlo hk hcap⟩
  · intro _ a w hk
    have s0 : a.tmps.getD 0 undef = .slice (some ⟨g, off, none⟩) n cap := hk.was 0 (by kernel_rfl) rfl
    exact step_move rfl rfl s0 rfl
  · intro _ a w hk
    have s1 := hk.was 1 (by kernel_rfl) (v := .int .i64 k) rfl
    exact step_move rfl rfl s1 rfl
  · intro _ a w hkn
    have s8 : a.eval (.tmp 8) = .slice (some ⟨g, off, none⟩) n cap := hkn.slot 4 8 (by kernel_rfl)
    have s9 : a.eval (.tmp 9) = .int .i64 k := hkn.slot 5 9 (by kernel_rfl)
    have hr2 := hr.later hkn.ext
    have hc0 := hr2.cutlo (l := 0) (Nat.zero_le _) hcap
    have e : (Instr.sliceAt 46 (.slice (some ⟨g, off, none⟩) n cap) none (some (.int .i64 (k : Int))) none).run Tryd.prog w = .ok (sliced (some ⟨g, off, none⟩) 0 k cap 1) w := by
      rw [run_sliceAt_slice w 46 _ _ _ _ elem46, run_slice_h w 46 _ n cap elem46 .i64 k (by omega) (by omega), size46]
      simp [Result.andThen]
    exact step_val (v := sliced (some ⟨g, off, none⟩) 0 k cap 1) (w' := w) rfl (by simp [execOp, s8, s9, e, Result.andThen]) (Ext.refl w) ⟨_, _, rfl, by simpa using hc0.cuthi k (by omega)⟩
  · intro _ a w hkn
    obtain ⟨A7, c7, s7, r7⟩ := hkn.slot 3 7 (by kernel_rfl)
    obtain ⟨A10, c10, s10, r10⟩ := hkn.slot 6 10 (by kernel_rfl)
    have hrow := RowsN.two w A7 A10 (n - k) k c7 c10 46 _ _ r7 r10
    exact step_val (v := .slice (some ⟨w.heap.size, 0, none⟩) 2 2) (w' := w.alloc (.cells #[.slice A7 (n - k) c7, .slice A10 k c10] 46)) rfl (by simp only [execOp, Act.eval, List.map_toArray, List.map_cons, List.map_nil, s7, s10]; go_simp) (Ext.alloc _ _) ⟨_, rfl, hrow⟩
  · intro _ a w hkn
    obtain ⟨b, s11, hrow⟩ := hkn.slot 7 11 (by kernel_rfl)
    refine step_call rfl rfl (by simp only [List.map_toArray, List.map_cons, List.map_nil, Act.eval, s11] <;> rfl) cf47 (concatN_any b 0 2 2 _ w rfl hrow (by rw [hfl, hrl]; exact h0) (by rw [hfl, hrl]; exact hn) (by omega)) ?_
    rw [hfl]
    rintro e w' ⟨v, rfl, ho, hb⟩
    obtain ⟨A, c, rfl, hr2, _⟩ := ho.rdn hrl
    exact ⟨_, rfl, hb, A, c, rfl, hr2⟩
  · intro a w1 hkn
    have s4 := hkn.slot 0 4 (by kernel_rfl)
    obtain ⟨A, c, s12, r12⟩ := hkn.slot 8 12 (by kernel_rfl)
    refine wp_copy_into (.tmp 4) (.tmp 12) rfl g off n cap c base N C w1.heap.size A L (rotL xs k) s4 s12 (hown.kept hkn.ext) hfit h0 r12 ?_
    intro w' ho hg
    exact bodyPost_end (results_none rfl _ _ _) ((defers_put _ _ _).trans hkn.defers) ⟨⟨_, rfl⟩, ho, ext_grown hkn.ext hg⟩
theorem rotB_halves (L : List Int) (k : Nat) (h : L.length = 56) (hk : k ≤ 28) :
    (L.take 0 ++ (rotL ((L.drop 0).take 28) k ++ L.drop (0 + 28))).take 28 ++ (rotL (((L.take 0 ++ (rotL ((L.drop 0).take 28) k ++ L.drop (0 + 28))).drop 28).take 28) k ++ (L.take 0 ++ (rotL ((L.drop 0).take 28) k ++ L.drop (0 + 28))).drop (28 + 28)) = rotB L k := by
  have h1 : (rotL (L.take 28) k).length = 28 := by rw [rotL_len _ _ (by simp; omega)]; simp; omega
  have e0 : L.take 0 ++ (rotL ((L.drop 0).take 28) k ++ L.drop (0 + 28)) = rotL (L.take 28) k ++ L.drop 28 := by simp
  rw [e0]
  have e1 : (rotL (L.take 28) k ++ L.drop 28).take 28 = rotL (L.take 28) k := List.take_left' h1
  have e2 : (rotL (L.take 28) k ++ L.drop 28).drop 28 = L.drop 28 := List.drop_left' h1
  have e3 : (rotL (L.take 28) k ++ L.drop 28).drop (28 + 28) = [] := List.drop_eq_nil_of_le (by simp [h1]; omega)
  rw [e1, e2, e3, List.append_nil, List.take_of_length_le (show (L.drop 28).length ≤ 28 by simp; omega)]
  rfl
set_option maxHeartbeats 1000000 in
theorem turnHalves_any (g k base C : Nat) (L : List Int) (w : World) (hown : OwnN .i64 3 w base (.slice (some ⟨g, 0, none⟩) 56 C) L) (hk : k ≤ 28) (hc : 56 ≤ C) :
    Calls Tryd.prog 25 #[.slice (some ⟨g, 0, none⟩) 56 C, .int .i64 k] w fun e w' => (∃ v, e = .returned v) ∧ OwnN .i64 3 w' base (.slice (some ⟨g, 0, none⟩) 56 C) (rotB L k) ∧ w.grownBy w' (some g) := by
  have hl := hown.len_eq
  have hrot := hid (rotB_halves L k hl hk)
  have hc28 : ¬ C = 28 := by omega
  go_enter Tryd.func25, Tryd.ntmps25
  go_wp2_with fail
  refine (turnLeft_any g 0 28 C k base 56 C L w hown (by omega) (by omega) (by omega) hk (by omega)).mono ?_
  rintro e w1 ⟨⟨v, rfl⟩, ho1, hg1⟩
  have HG := hid hg1
  clear hown hg1
  go_wp2_with fail
  refine (turnLeft_any g 28 28 (C - 28) k base 56 C _ w1 ho1 (by omega) (by omega) (by omega) hk (by omega)).mono ?_
  rintro e w2 ⟨⟨v, rfl⟩, ho2, hg2⟩
  rw [hrot.out] at ho2
  have HG2 := hid (grown_trans HG.out hg2)
  have HO := hid ho2
  clear hg2 ho1 ho2
  go_wp2_with fail
  go_end0
  exact ⟨⟨_, rfl⟩, HO.out, HG2.out⟩
set_option maxHeartbeats 1000000 in
theorem turnOf_any (i : Nat) (w : World) (hi : i ≤ 1000) : Calls Tryd.prog 26 #[.int .i64 i] w fun e w' => e = .returned (.int .i64 (byOf i : Nat)) ∧ w = w' := by
  by_cases h0 : i = 0
  · subst h0
    go_enter Tryd.func26, Tryd.ntmps26
    go_wp2
    go_ret
    exact ⟨rfl, rfl⟩
  · by_cases h1 : i = 1
    · subst h1
      go_enter Tryd.func26, Tryd.ntmps26
      go_wp2
      go_ret
      exact ⟨rfl, rfl⟩
    · by_cases h2 : i = 8
      · subst h2
        go_enter Tryd.func26, Tryd.ntmps26
        go_wp2
        go_ret
        exact ⟨rfl, rfl⟩
      · by_cases h3 : i = 15
        · subst h3
          go_enter Tryd.func26, Tryd.ntmps26
          go_wp2
          go_ret
          exact ⟨rfl, rfl⟩
        · have hb : byOf i = 2 := by unfold byOf; rw [if_neg (by omega)]
          rw [hb]
          have g0 : ((i : Int) == 0) = false := by simp; omega
          have g1 : ((i : Int) == 1) = false := by simp; omega
          have g2 : ((i : Int) == 8) = false := by simp; omega
          have g3 : ((i : Int) == 15) = false := by simp; omega
          go_enter Tryd.func26, Tryd.ntmps26
          go_wp2
          go_ret
          exact ⟨rfl, rfl⟩
end Go.Proofs.YthfcndaccfpnmaaDoor
