/- Walk over the second Permute; own lemmas of the verifier, no statement is proved here. -/
import Derived.Test.YthfcndaccfpnmaaDoorB4
namespace Go.Proofs.YthfcndaccfpnmaaDoor
open Go.RowKit
/-- The p-th byte when k bits have been laid. -/
def rF (g : Nat → Nat) (k p : Nat) : Nat := acc g p (min (k - 8 * p) 8) * 2 ^ (8 - min (k - 8 * p) 8)
def rL (g : Nat → Nat) (M k : Nat) : List UInt8 := (List.range M).map fun p => UInt8.ofNat (rF g k p)
theorem rL_length (g : Nat → Nat) (M k : Nat) : (rL g M k).length = M := by simp [rL]
theorem rL_zero (g : Nat → Nat) (M : Nat) : rL g M 0 = List.replicate M 0 := by
  apply List.ext_getElem <;> simp [rL, rF, acc]
theorem rF_lt (g : Nat → Nat) (hg : ∀ q, g q ≤ 1) (k p : Nat) : rF g k p < 256 := by
  unfold rF
  have h1 := acc_lt g hg p (min (k - 8 * p) 8)
  have h2 : min (k - 8 * p) 8 ≤ 8 := Nat.min_le_right _ _
  generalize min (k - 8 * p) 8 = j at *
  have h3 : 0 < 2 ^ (8 - j) := Nat.two_pow_pos _
  have h4 := Nat.mul_lt_mul_of_pos_right h1 h3
  rw [← Nat.pow_add, show j + (8 - j) = 8 by omega] at h4
  exact h4
theorem rF_here (g : Nat → Nat) (k : Nat) : rF g k (k / 8) = acc g (k / 8) (k % 8) * 2 ^ (8 - k % 8) := by
  unfold rF
  rw [show min (k - 8 * (k / 8)) 8 = k % 8 by omega]
theorem rF_next (g : Nat → Nat) (k : Nat) : rF g (k + 1) (k / 8) = rF g k (k / 8) + g k * 2 ^ (7 - k % 8) := by
  rw [rF_here]
  unfold rF
  rw [show min (k + 1 - 8 * (k / 8)) 8 = k % 8 + 1 by omega, acc, show 8 - (k % 8 + 1) = 7 - k % 8 by omega, show 8 * (k / 8) + k % 8 = k by omega,
    show 8 - k % 8 = (7 - k % 8) + 1 by omega, Nat.pow_succ, Nat.add_mul, Nat.mul_comm 2 (acc g (k / 8) (k % 8)), Nat.mul_assoc, Nat.mul_comm 2 (2 ^ (7 - k % 8))]
theorem rF_else (g : Nat → Nat) (k p : Nat) (h : p ≠ k / 8) : rF g (k + 1) p = rF g k p := by
  unfold rF
  rw [show min (k + 1 - 8 * p) 8 = min (k - 8 * p) 8 by omega]
theorem rL_same (g : Nat → Nat) (M k : Nat) (h : g k = 0) : rL g M (k + 1) = rL g M k := by
  unfold rL
  apply List.map_congr_left
  intro p _
  by_cases hp : p = k / 8
  · subst hp; rw [rF_next, h, Nat.zero_mul, Nat.add_zero]
  · rw [rF_else _ _ _ hp]
theorem rL_set (g : Nat → Nat) (M k : Nat) : rL g M (k + 1) = (rL g M k).set (k / 8) (UInt8.ofNat (rF g (k + 1) (k / 8))) := by
  apply List.ext_getElem
  · simp [rL]
  · intro i h1 h2
    rw [List.getElem_set]
    simp only [rL, List.getElem_map, List.getElem_range]
    split
    · rename_i h; subst h; rfl
    · rename_i h; rw [rF_else _ _ _ (fun e => h e.symm)]
theorem rF_or (g : Nat → Nat) (k : Nat) (h : g k = 1) : rF g k (k / 8) ||| 2 ^ (7 - k % 8) = rF g (k + 1) (k / 8) := by
  rw [rF_next, h, Nat.one_mul, rF_here]
  have := Nat.two_pow_add_eq_or_of_lt (i := 8 - k % 8) (b := 2 ^ (7 - k % 8)) (Nat.pow_lt_pow_right (by omega) (by omega)) (acc g (k / 8) (k % 8))
  rw [Nat.mul_comm] at this
  exact this.symm
theorem acc_zeros (g : Nat → Nat) (p j : Nat) (h : ∀ i, j ≤ i → g (8 * p + i) = 0) : ∀ d, acc g p (j + d) = acc g p j * 2 ^ d
  | 0 => by simp
  | d + 1 => by
    rw [← Nat.add_assoc, acc, acc_zeros g p j h d, h (j + d) (by omega), Nat.pow_succ, Nat.add_zero, Nat.mul_comm 2, Nat.mul_assoc]
theorem rL_end (bs : List UInt8) (ts : List Int) (m : Nat) (hm : ts.length = m) : rL (tb bs ts) ((m + 7) / 8) m = permL bs ts := by
  unfold rL permL permF
  rw [hm]
  apply List.map_congr_left
  intro p hp
  have hp' : p < (m + 7) / 8 := List.mem_range.1 hp
  unfold rF
  rcases Nat.lt_or_ge (m - 8 * p) 8 with h | h
  · rw [Nat.min_eq_left (by omega)]
    have := acc_zeros (tb bs ts) p (m - 8 * p) (fun i hi => by unfold tb; rw [if_neg (by omega)]) (8 - (m - 8 * p))
    rw [show m - 8 * p + (8 - (m - 8 * p)) = 8 by omega] at this
    rw [this]
  · rw [Nat.min_eq_right h]; simp
theorem or_pow (Y s Y2 : Nat) (h : Y < 256) (hs : s ≤ 7) (ho : Y ||| 2 ^ s = Y2) : bits .or .u8 (Y : Int) (2 ^ s % 256) = (Y2 : Int) := by
  have h2 : 2 ^ s < 256 := Nat.lt_of_le_of_lt (Nat.pow_le_pow_right (by omega) hs) (by omega)
  have e : (2 : Int) ^ s % 256 = ((2 ^ s : Nat) : Int) := by
    have : ((2 ^ s : Nat) : Int) = (2 : Int) ^ s := by rw [Int.natCast_pow]; rfl
    rw [← this]
    generalize 2 ^ s = t at h2
    omega
  rw [e, u8_or_nat _ _ h h2, ho]
set_option maxHeartbeats 4000000 in
theorem rperm_any (A A' : Option Addr) (n m c c' : Nat) (bs : List UInt8) (ts : List Int) (w : World) (h : Rd w w.heap.size A n bs) (h' : RdN .i64 w w.heap.size A' m ts)
    (hn : n ≤ 140737488355328) (hm : m ≤ 1000000) (hx : ∀ j, j < m → (Lit.int .i64 (ts.getD j 0)).wf = true) :
    Calls Tryd.prog 46 #[.slice A n c, .slice A' m c'] w (PermRet w (permR bs ts)) := by
  have hl := hid h.len
  have hl' := hid h'.len
  obtain ⟨M, hM⟩ : ∃ M, (m + 7) / 8 = M := ⟨_, rfl⟩
  have hM2 : 8 * M ≤ m + 7 := by omega
  have hM3 : m ≤ 8 * M := by omega
  have HM := hid hM
  clear hM
  go_enter Tryd.func46, Tryd.ntmps46
  go_wp2_with (at_make; refine wpL_make rfl (.tmp 11) (.tmp 11) 22 rfl Tryd.underlying22 Tryd.info5 .i64 _ ((m + 7) / 8) rfl rfl (by omega) (by omega) w.heap.size (Nat.le_refl _) ?_; intro w1 hown1 hb1 _)
  rw [HM.out] at hown1
  rw [HM.out]
  obtain ⟨G, hG⟩ : ∃ G, w.heap.size = G := ⟨_, rfl⟩
  have hown1' : Own w1 w.heap.size (.slice (some ⟨G, 0, none⟩) M M) (rL (tb bs ts) M 0) := by rw [rL_zero, ← hG]; exact hown1
  rw [hG]
  have HG := hid hG
  clear hown1 hG
  go_loopw [7] (fun i wr => ∃ (k : Nat), k ≤ m ∧ i = .int .i64 k ∧ Below w.heap.size w wr ∧ Own wr w.heap.size (.slice (some ⟨G, 0, none⟩) M M) (rL (tb bs ts) M k) ∧ ∀ j, j < k → hasN n (ts.getD j 0) = true) (fun i _ => m - (intOf i).toNat)
  case atStart => exact ⟨0, Nat.zero_le _, rfl, hb1, hown1', fun j hj => absurd hj (by omega)⟩
  case round =>
    clear hb1 hown1'
    obtain ⟨k, hk, rfl, hb, hown, hall⟩ := hrel
    by_cases hlt : k < m
    · obtain ⟨b1, o1, rfl, hb1', hc1⟩ := (h'.below hb (Nat.le_refl _)).at_ (by omega)
      have hck1 := hc1 k hlt
      have hwf := wf_i64 (hx k hlt)
      cases hh : hasN n (ts.getD k 0) with
      | false =>
        have HF := hid (okT_bad (n := n) hl'.out hlt hh)
        obtain ⟨x, hxx⟩ : ∃ x, ts.getD k 0 = x := ⟨_, rfl⟩
        rw [hxx] at hck1 hwf hh
        obtain ⟨hlo, hhi⟩ := hwf
        have HB := hid hb
        unfold hasN at hh
        simp only [decide_eq_false_iff_not] at hh
        have hr := hid (And.intro hown hall)
        clear hxx hall hb h h' hc1 hx hown
        by_cases h1 : x < 1
        · clear hh
          go_wp2_with fail
          go_ret2
          unfold permR
          rw [hl.out, HF.out]
          exact ⟨rfl, HB.out⟩
        · have h2 : 8 * (n : Int) < x := by omega
          clear hh
          go_wp2_with fail
          go_ret2
          unfold permR
          rw [hl.out, HF.out]
          exact ⟨rfl, HB.out⟩
      | true =>
        have HH := hid (show ∀ j, j < k + 1 → hasN n (ts.getD j 0) = true from fun j hj => by
          rcases Nat.lt_or_ge j k with h1 | h1
          · exact hall j h1
          · obtain rfl : j = k := by omega
            exact hh)
        have htb : bitN bs (ts.getD k 0) = tb bs ts k := tb_bit bs ts k
        have hble := tb_le bs ts k
        obtain ⟨x, hxx⟩ : ∃ x, ts.getD k 0 = x := ⟨_, rfl⟩
        rw [hxx] at hck1 hwf hh htb
        obtain ⟨hlo, hhi⟩ := hwf
        have hh' := hh
        unfold hasN at hh'
        simp only [decide_eq_true_eq] at hh'
        have h1 : ¬ x < 1 := by omega
        have h2 : ¬ 8 * (n : Int) < x := by omega
        have hr := hid ((h.below hb (Nat.le_refl _)).more hb.size)
        have HB := hid hb
        rcases Nat.eq_zero_or_pos (tb bs ts k) with h0 | h0
        · have hbit := htb.trans h0
          have hs := rL_same (tb bs ts) M k h0
          have hown2 : Own wr w.heap.size (.slice (some ⟨G, 0, none⟩) M M) (rL (tb bs ts) M (k + 1)) := by rw [hs]; exact hown
          have HO := hid hown2
          have HBT := hid hbit
          clear hs hown2 hown hbit h0 htb hble hxx hh hh' hall hb h h' hc1 hx
          go_wp2_with (go_at_call 38; refine (rbit_any _ _ _ _ _ _ hr.out hlo hhi hn).mono ?_; rintro e w' ⟨rfl, rfl⟩; rw [HBT.out])
          go_roundw
          case rel => exact ⟨k + 1, by omega, by go_num, HB.out, HO.out, HH.out⟩
          case measure => simp [intOf]; omega
        · have h01 : tb bs ts k = 1 := by omega
          have hbit := htb.trans h01
          have hkM : k / 8 < M := by omega
          have hor := rF_or (tb bs ts) k h01
          have hY8 := rF_lt (tb bs ts) (tb_le bs ts) k (k / 8)
          have hY9 := rF_lt (tb bs ts) (tb_le bs ts) (k + 1) (k / 8)
          obtain ⟨cur, hcur⟩ : ∃ cur, rL (tb bs ts) M k = cur := ⟨_, rfl⟩
          have hset0 := rL_set (tb bs ts) M k
          rw [hcur] at hown hset0
          have hcl : cur.length = M := by rw [← hcur]; exact rL_length _ _ _
          have hown0 : Own wr w.heap.size (.slice (some ⟨G, 0, none⟩) cur.length M) cur := by rw [hcl]; exact hown
          have hcell := hown0.cell (k / 8) (by omega)
          have hfree := hown0.free (k / 8)
          have hset := hown0.set_ (k / 8) (UInt8.ofNat (rF (tb bs ts) (k + 1) (k / 8)))
          rw [← hset0, hcl, u8_nat _ hY9] at hset
          have hbyte : byteAt cur (k / 8) = (rF (tb bs ts) k (k / 8) : Nat) := by
            unfold byteAt
            rw [← hcur]
            have : (rL (tb bs ts) M k).getD (k / 8) 0 = UInt8.ofNat (rF (tb bs ts) k (k / 8)) := by simp [rL, List.getD, hkM]
            rw [this]; exact u8_nat _ hY8
          rw [hbyte] at hcell
          obtain ⟨Y, hY⟩ : ∃ Y, rF (tb bs ts) k (k / 8) = Y := ⟨_, rfl⟩
          obtain ⟨Y2, hY2⟩ : ∃ Y2, rF (tb bs ts) (k + 1) (k / 8) = Y2 := ⟨_, rfl⟩
          rw [hY] at hcell hor hY8
          rw [hY2] at hset hor
          have HO := hid hset
          have HBT := hid hbit
          have HQ := hid (or_pow Y (7 - k % 8) Y2 hY8 (by omega) hor)
          have hY7 : (Y : Int) < 256 := by omega
          clear hor hset hset0 hbyte hown0 hown hcl hcur hbit h0 h01 htb hble hxx hh hh' hall hb h h' hc1 hx hY hY2 hY8 hY9
          go_wp2_with (go_at_call 38; refine (rbit_any _ _ _ _ _ _ hr.out hlo hhi hn).mono ?_; rintro e w' ⟨rfl, rfl⟩; rw [HBT.out])
          go_roundw
          case rel => exact ⟨k + 1, by omega, by go_num, HB.out.setCell (by have := HG.out; simp; omega) _, by rw [HQ.out]; exact HO.out, HH.out⟩
          case measure => simp [intOf]; omega
    · obtain rfl : k = m := by omega
      have HF := hid (okT_good (n := n) hl'.out hall)
      have e8 : rL (tb bs ts) M k = permL bs ts := by rw [← HM.out]; exact rL_end bs ts k hl'.out
      rw [e8] at hown
      have HO := hid hown
      have HB := hid hb
      clear hown hb hall e8 h h' hx
      go_wp2_with fail
      go_ret2
      unfold permR
      rw [hl.out, HF.out]
      exact ⟨_, rfl, HO.out, HB.out⟩
end Go.Proofs.YthfcndaccfpnmaaDoor
