/- Walks over Invert, and over the law's own helpers; own lemmas of the verifier, no statement is proved here. -/
import Derived.Test.YthfcndaccfpnmaaDoorB1
import Derived.Deep.QuietTactic
import Derived.BigQuiet
namespace Go.Proofs.YthfcndaccfpnmaaDoor
open Go.RowKit
theorem Tryd.info3 : (Tryd.prog.info? 3).map (fun i => (i.zero, i.size, i.bytes)) = some (some (.int .i64 0), 1, 8) := by kernel_rfl
/-- One step of undoing a table: what has been laid down so far, if nothing stood against it. -/
def invS (n k : Nat) (x : Int) : Option (List Int) → Option (List Int)
  | none => none
  | some out => if x < 1 ∨ (n : Int) < x ∨ out.getD (x - 1).toNat 0 ≠ 0 then none else some (out.set (x - 1).toNat ((k : Int) + 1))
def invG (xs : List Int) (n : Nat) : Nat → Option (List Int)
  | 0 => some (List.replicate n 0)
  | k + 1 => invS n k (xs.getD k 0) (invG xs n k)
theorem invG_none (xs : List Int) (n k : Nat) (h : invG xs n k = none) (j : Nat) : invG xs n (k + j) = none := by
  induction j with
  | zero => exact h
  | succ j ih => rw [← Nat.add_assoc, invG, ih]; rfl
theorem invG_len (xs : List Int) (n : Nat) : ∀ (k : Nat) (out : List Int), invG xs n k = some out → out.length = n
  | 0, out, h => by simp only [invG, Option.some.injEq] at h; rw [← h]; simp
  | k + 1, out, h => by
    rw [invG] at h
    cases hg : invG xs n k with
    | none => rw [hg] at h; cases h
    | some o =>
      rw [hg] at h
      simp only [invS] at h
      split at h
      · cases h
      · cases h; rw [List.length_set]; exact invG_len xs n k o hg
/-- What Invert hands back. -/
def InvRet (w : World) (r : Option (List Int)) (e : Ending) (w' : World) : Prop :=
  match r with
  | none => e = .returned (.tuple #[.slice none 0 0, .bool false]) ∧ Below w.heap.size w w'
  | some out => ∃ v, e = .returned (.tuple #[v, .bool true]) ∧ OwnN .i64 3 w' w.heap.size v out ∧ Below w.heap.size w w'
set_option maxHeartbeats 1000000 in
theorem inv_any (A : Option Addr) (n c : Nat) (xs : List Int) (w : World) (h : RdN .i64 w w.heap.size A n xs) (hn : n ≤ 1000000)
    (hx : ∀ j, j < n → (Lit.int .i64 (xs.getD j 0)).wf = true) :
    Calls Tryd.prog 60 #[.slice A n c] w (InvRet w (invG xs n n)) := by
  go_enter Tryd.func60, Tryd.ntmps60
  go_wp2_with (at_make; refine wpL_makeN rfl (.tmp 8) (.tmp 8) 46 rfl Tryd.underlying46 8 Tryd.info3 .i64 n n rfl rfl rfl (by omega) (by unfold maxLen; omega) w.heap.size (Nat.le_refl _) ?_; intro w1 hown1 hb1)
  go_loopw [12] (fun i wr => ∃ (k : Nat) (out : List Int), k ≤ n ∧ i = .int .i64 k ∧ invG xs n k = some out ∧ OwnN .i64 3 wr w.heap.size (.slice (some ⟨w.heap.size, 0, none⟩) n n) out ∧ Below w.heap.size w wr) (fun i _ => n - (intOf i).toNat)
  case atStart => exact ⟨0, _, Nat.zero_le _, rfl, rfl, hown1, hb1⟩
  case round =>
    obtain ⟨k, out, hk, rfl, hg, hown, hb⟩ := hrel
    have hol := invG_len xs n k out hg
    by_cases hlt : k < n
    · obtain ⟨b1, o1, rfl, hb1', hc1⟩ := (h.below hb (Nat.le_refl _)).at_ (by omega)
      have hck1 := hc1 k hlt
      have hwf := hx k hlt
      have hG : invG xs n (k + 1) = invS n k (xs.getD k 0) (some out) := by rw [invG, hg]
      obtain ⟨x, hxx⟩ : ∃ x, xs.getD k 0 = x := ⟨_, rfl⟩
      rw [hxx] at hck1 hwf hG
      simp only [Lit.wf, IntKind.min, IntKind.max, IntKind.bits, IntKind.signed] at hwf
      simp at hwf
      have hlo : -9223372036854775808 ≤ x := by omega
      have hhi : x ≤ 9223372036854775807 := by omega
      clear hwf hxx
      simp only [invS] at hG
      by_cases h1 : x < 1
      · rw [if_pos (.inl h1)] at hG
        have hN := invG_none xs n (k + 1) hG (n - (k + 1))
        rw [show k + 1 + (n - (k + 1)) = n by omega] at hN
        have HH := hid (And.intro hN hb)
        clear hG hN hown hb hown1 hb1 h hc1 hx hg
        go_wp2
        go_ret2
        rw [HH.out.1]; exact ⟨rfl, HH.out.2⟩
      · by_cases h2 : (n : Int) < x
        · rw [if_pos (.inr (.inl h2))] at hG
          have hN := invG_none xs n (k + 1) hG (n - (k + 1))
          rw [show k + 1 + (n - (k + 1)) = n by omega] at hN
          have HH := hid (And.intro hN hb)
          clear hG hN hown hb hown1 hb1 h hc1 hx hg
          go_wp2
          go_ret2
          rw [HH.out.1]; exact ⟨rfl, HH.out.2⟩
        · obtain ⟨q, hq⟩ : ∃ q : Nat, x = q + 1 := ⟨(x - 1).toNat, by omega⟩
          subst hq
          have e1 : ((q : Int) + 1 - 1).toNat = q := by omega
          rw [e1] at hG
          have hcell := hown.celln hol q (by omega)
          have hfree := hown.free q
          have hqn : q < n := by omega
          by_cases h3 : out.getD q 0 = 0
          · rw [if_neg (by omega)] at hG
            have hset := hown.setn hol q ((k : Int) + 1)
            rw [h3] at hcell
            have HH := hid (And.intro hG hset)
            have HB := hid hb
            clear hG hset hown hb hown1 hb1 h hc1 hx hg h3
            go_wp2
            go_roundw
            case rel => exact ⟨k + 1, _, by omega, by go_num, HH.out.1, HH.out.2, HB.out.setCell (by simp) _⟩
            case measure => simp [intOf]; omega
          · rw [if_pos (by omega)] at hG
            have hN := invG_none xs n (k + 1) hG (n - (k + 1))
            rw [show k + 1 + (n - (k + 1)) = n by omega] at hN
            have HH := hid (And.intro hN hb)
            obtain ⟨y, hy⟩ : ∃ y, out.getD q 0 = y := ⟨_, rfl⟩
            rw [hy] at hcell h3
            clear hG hN hown hb hown1 hb1 h hc1 hx hg hy
            have h4 : (y != 0) = true := by simpa using h3
            go_wp2
            go_ret2
            rw [HH.out.1]; exact ⟨rfl, HH.out.2⟩
    · obtain rfl : k = n := by omega
      have HH := hid (And.intro hown hb)
      have HG := hid hg
      clear hown hb hown1 hb1 hg
      go_wp2
      go_ret2
      rw [HG.out]
      exact ⟨_, rfl, HH.out.1, HH.out.2⟩
set_option maxHeartbeats 1000000 in
theorem rinv_any (A : Option Addr) (n c : Nat) (xs : List Int) (w : World) (h : RdN .i64 w w.heap.size A n xs) (hn : n ≤ 1000000)
    (hx : ∀ j, j < n → (Lit.int .i64 (xs.getD j 0)).wf = true) :
    Calls Tryd.prog 23 #[.slice A n c] w (InvRet w (invG xs n n)) := by
  go_enter Tryd.func23, Tryd.ntmps23
  go_wp2_with (at_make; refine wpL_makeN rfl (.tmp 7) (.tmp 7) 46 rfl Tryd.underlying46 8 Tryd.info3 .i64 n n rfl rfl rfl (by omega) (by unfold maxLen; omega) w.heap.size (Nat.le_refl _) ?_; intro w1 hown1 hb1)
  go_loopw [5] (fun i wr => ∃ (k : Nat) (out : List Int), k ≤ n ∧ i = .int .i64 k ∧ invG xs n k = some out ∧ OwnN .i64 3 wr w.heap.size (.slice (some ⟨w.heap.size, 0, none⟩) n n) out ∧ Below w.heap.size w wr) (fun i _ => n - (intOf i).toNat)
  case atStart => exact ⟨0, _, Nat.zero_le _, rfl, rfl, hown1, hb1⟩
  case round =>
    obtain ⟨k, out, hk, rfl, hg, hown, hb⟩ := hrel
    have hol := invG_len xs n k out hg
    by_cases hlt : k < n
    · obtain ⟨b1, o1, rfl, hb1', hc1⟩ := (h.below hb (Nat.le_refl _)).at_ (by omega)
      have hck1 := hc1 k hlt
      have hwf := hx k hlt
      have hG : invG xs n (k + 1) = invS n k (xs.getD k 0) (some out) := by rw [invG, hg]
      obtain ⟨x, hxx⟩ : ∃ x, xs.getD k 0 = x := ⟨_, rfl⟩
      rw [hxx] at hck1 hwf hG
      simp only [Lit.wf, IntKind.min, IntKind.max, IntKind.bits, IntKind.signed] at hwf
      simp at hwf
      have hlo : -9223372036854775808 ≤ x := by omega
      have hhi : x ≤ 9223372036854775807 := by omega
      clear hwf hxx
      simp only [invS] at hG
      by_cases h1 : x < 1
      · rw [if_pos (.inl h1)] at hG
        have hN := invG_none xs n (k + 1) hG (n - (k + 1))
        rw [show k + 1 + (n - (k + 1)) = n by omega] at hN
        have HH := hid (And.intro hN hb)
        clear hG hN hown hb hown1 hb1 h hc1 hx hg
        go_wp2
        go_ret2
        rw [HH.out.1]; exact ⟨rfl, HH.out.2⟩
      · by_cases h2 : (n : Int) < x
        · rw [if_pos (.inr (.inl h2))] at hG
          have hN := invG_none xs n (k + 1) hG (n - (k + 1))
          rw [show k + 1 + (n - (k + 1)) = n by omega] at hN
          have HH := hid (And.intro hN hb)
          clear hG hN hown hb hown1 hb1 h hc1 hx hg
          go_wp2
          go_ret2
          rw [HH.out.1]; exact ⟨rfl, HH.out.2⟩
        · obtain ⟨q, hq⟩ : ∃ q : Nat, x = q + 1 := ⟨(x - 1).toNat, by omega⟩
          subst hq
          have e1 : ((q : Int) + 1 - 1).toNat = q := by omega
          rw [e1] at hG
          have hcell := hown.celln hol q (by omega)
          have hfree := hown.free q
          have hqn : q < n := by omega
          by_cases h3 : out.getD q 0 = 0
          · rw [if_neg (by omega)] at hG
            have hset := hown.setn hol q ((k : Int) + 1)
            rw [h3] at hcell
            have HH := hid (And.intro hG hset)
            have HB := hid hb
            clear hG hset hown hb hown1 hb1 h hc1 hx hg h3
            go_wp2
            go_roundw
            case rel => exact ⟨k + 1, _, by omega, by go_num, HH.out.1, HH.out.2, HB.out.setCell (by simp) _⟩
            case measure => simp [intOf]; omega
          · rw [if_pos (by omega)] at hG
            have hN := invG_none xs n (k + 1) hG (n - (k + 1))
            rw [show k + 1 + (n - (k + 1)) = n by omega] at hN
            have HH := hid (And.intro hN hb)
            obtain ⟨y, hy⟩ : ∃ y, out.getD q 0 = y := ⟨_, rfl⟩
            rw [hy] at hcell h3
            clear hG hN hown hb hown1 hb1 h hc1 hx hg hy
            have h4 : (y != 0) = true := by simpa using h3
            go_wp2
            go_ret2
            rw [HH.out.1]; exact ⟨rfl, HH.out.2⟩
    · obtain rfl : k = n := by omega
      have HH := hid (And.intro hown hb)
      have HG := hid hg
      clear hown hb hown1 hb1 hg
      go_wp2
      go_ret2
      rw [HG.out]
      exact ⟨_, rfl, HH.out.1, HH.out.2⟩
theorem below_drewN' {B : Nat} {a w : World} (h : Below B a w) (n : Nat) : Below B a (w.drewN n) := ⟨h.os, h.tape, h.output, h.size, h.block⟩
end Go.Proofs.YthfcndaccfpnmaaDoor
