/- Walks over the products of the program and of the reference; own lemmas of the verifier, no statement is proved here. -/
import Derived.Test.YtpfkcplldhdipaaDoorW1
import Derived.Test.YtpfkcplldhdipaaDoorFM
import Derived.WalkMore
import Derived.ScopeJumps
namespace Go.Proofs.YtpfkcplldhdipaaDoor
open Go.RowKit
theorem i64_xor_nat (a b : Nat) (ha : a < 1024) (hb : b < 1024) : bits .xor .i64 (a : Int) (b : Int) = ((a ^^^ b : Nat) : Int) := by
  have e0 : bits .xor .i64 (a : Int) (b : Int) = IntKind.i64.wrap ((BitVec.ofInt 64 (a : Int) ^^^ BitVec.ofInt 64 (b : Int)).toNat : Int) := rfl
  have h : a ^^^ b < 2 ^ 10 := Nat.xor_lt_two_pow ha hb
  have e : (BitVec.ofInt 64 (a : Int) ^^^ BitVec.ofInt 64 (b : Int)).toNat = a ^^^ b := by
    rw [BitVec.toNat_xor, BitVec.toNat_ofInt, BitVec.toNat_ofInt]
    have h1 : ((a : Int) % ((2 ^ 64 : Nat) : Int)).toNat = a := by omega
    have h2 : ((b : Int) % ((2 ^ 64 : Nat) : Int)).toNat = b := by omega
    rw [h1, h2]
  rw [e0, e]
  simp [IntKind.wrap, IntKind.bits, IntKind.signed]
  omega
theorem i64_xor_zero (b : Nat) (hb : b < 1024) : bits .xor .i64 0 (b : Int) = (b : Int) := by
  have := i64_xor_nat 0 b (by omega) hb
  rw [Nat.zero_xor] at this
  exact this
theorem u8_and_one (q : Nat) (h : q < 256) : bits .and .u8 (q : Int) 1 = ((q % 2 : Nat) : Int) := by
  rw [show (1 : Int) = ((1 : Nat) : Int) from rfl, u8_and_nat _ _ h (by omega), nat_mask1]
theorem gmk_stop {m a b k : Nat} (h : b / 2 ^ k = 0) : ∀ j, gmk m a b (k + j) = gmk m a b k
  | 0 => rfl
  | j + 1 => by
    rw [← Nat.add_assoc, gmk, if_neg, gmk_stop h j]
    rw [Nat.pow_add, ← Nat.div_div_eq_div_mul, h]
    simp
theorem gm_stop {m a b k : Nat} (hk : k ≤ 8) (h : b / 2 ^ k = 0) : gm m a b = gmk m a b k := by
  have := gmk_stop (m := m) (a := a) h (8 - k)
  rw [show k + (8 - k) = 8 by omega] at this
  exact this
theorem isMod_any (m : Int) (w : World) (h0 : 256 ≤ m) (h1 : m ≤ 511) : Calls Tryd.prog 58 #[.int .i64 m] w fun e w' => e = .returned (.bool true) ∧ w = w' := by
  go_enter Tryd.func58, Tryd.ntmps58
  go_wp2
  go_ret
  exact ⟨rfl, rfl⟩
/-- One step of a product. -/
structure MulS (m a b k : Nat) (s x q : Int) : Prop where
  hk : k < 8
  hs : s = (gmk m a b k : Nat)
  hx : x = (xtk m k a : Nat)
  hq : q = (b / 2 ^ k : Nat)
theorem MulS.bnd {m a b k : Nat} {s x q : Int} (h : MulS m a b k s x q) (_hm : IsRest m) (_ha : a < 256) (_hb : b < 256) : 0 ≤ s ∧ s < 256 ∧ 0 ≤ x ∧ x < 256 ∧ 0 ≤ q ∧ q < 256 := by
  have h1 := gmk_lt _hm _ha b k
  have h2 := xtk_lt _hm _ha k
  have h3 : b / 2 ^ k < 256 := Nat.lt_of_le_of_lt (Nat.div_le_self _ _) _hb
  have e1 := h.hs; have e2 := h.hx; have e3 := h.hq
  generalize gmk m a b k = S at *
  generalize xtk m k a = X at *
  generalize b / 2 ^ k = Q at *
  omega
theorem MulS.and1 {m a b k : Nat} {s x q : Int} (h : MulS m a b k s x q) (_hm : IsRest m) (_ha : a < 256) (_hb : b < 256) : bits .and .u8 q 1 = ((b / 2 ^ k % 2 : Nat) : Int) := by
  rw [h.hq]
  exact u8_and_one _ (Nat.lt_of_le_of_lt (Nat.div_le_self _ _) _hb)
theorem MulS.odd {m a b k : Nat} {s x q : Int} (h : MulS m a b k s x q) (_hm : IsRest m) (_ha : a < 256) (_hb : b < 256) (c : (bits .and .u8 q 1 != 0) = true) : bits .xor .i64 s x = (gmk m a b (k + 1) : Nat) := by
  rw [h.and1 _hm _ha _hb] at c
  have c : b / 2 ^ k % 2 = 1 := by
    have : b / 2 ^ k % 2 ≠ 0 := by intro h0; rw [h0] at c; simp at c
    omega
  rw [gmk, if_pos c, h.hs, h.hx]
  have := gmk_lt _hm _ha b k
  have := xtk_lt _hm _ha k
  exact i64_xor_nat _ _ (by omega) (by omega)
theorem MulS.even {m a b k : Nat} {s x q : Int} (h : MulS m a b k s x q) (_hm : IsRest m) (_ha : a < 256) (_hb : b < 256) (c : (bits .and .u8 q 1 != 0) = false) : s = (gmk m a b (k + 1) : Nat) := by
  rw [h.and1 _hm _ha _hb] at c
  have c : ¬ b / 2 ^ k % 2 = 1 := by
    intro h0; rw [h0] at c; simp at c
  rw [gmk, if_neg c, h.hs]
theorem MulS.over {m a b k : Nat} {s x q : Int} (h : MulS m a b k s x q) (_hm : IsRest m) (_ha : a < 256) (_hb : b < 256) (c : 255 < x * 2) : bits .xor .i64 (x * 2) m = (xtk m (k + 1) a : Nat) := by
  have := xtk_lt _hm _ha k
  have hm1 := _hm.hi
  rw [h.hx] at c ⊢
  rw [xtk, xt, if_pos (by omega), show (xtk m k a : Int) * 2 = ((2 * xtk m k a : Nat) : Int) by omega]
  exact i64_xor_nat _ _ (by omega) (by omega)
theorem MulS.under {m a b k : Nat} {s x q : Int} (h : MulS m a b k s x q) (_hm : IsRest m) (_ha : a < 256) (_hb : b < 256) (c : x * 2 ≤ 255) : x * 2 = (xtk m (k + 1) a : Nat) := by
  rw [h.hx] at c ⊢
  rw [xtk, xt, if_neg (by omega)]
  omega
theorem MulS.half {m a b k : Nat} {s x q : Int} (h : MulS m a b k s x q) (_hm : IsRest m) (_ha : a < 256) (_hb : b < 256) : q / 2 = (b / 2 ^ (k + 1) : Nat) := by
  rw [h.hq, Nat.pow_succ, ← Nat.div_div_eq_div_mul]
  omega
theorem MulS.more {m a b k : Nat} {s x q : Int} (h : MulS m a b k s x q) (_hm : IsRest m) (_ha : a < 256) (_hb : b < 256) (c : (q / 2 != 0) = true) : k + 1 < 8 := by
  have hk := h.hk
  rw [h.half _hm _ha _hb] at c
  rcases Nat.lt_or_ge (k + 1) 8 with h8 | h8
  · exact h8
  · have : b / 2 ^ (k + 1) = 0 := by rw [show k + 1 = 8 by omega]; omega
    rw [this] at c; simp at c
theorem MulS.stop {m a b k : Nat} {s x q : Int} (h : MulS m a b k s x q) (_hm : IsRest m) (_ha : a < 256) (_hb : b < 256) (c : (q / 2 != 0) = false) : gmk m a b (k + 1) = gm m a b := by
  have hk := h.hk
  rw [h.half _hm _ha _hb] at c
  refine (gm_stop (by omega) ?_).symm
  simp only [bne_eq_false_iff_eq] at c
  exact_mod_cast c
theorem MulS.less {m a b k : Nat} {s x q : Int} (h : MulS m a b k s x q) (_hm : IsRest m) (_ha : a < 256) (_hb : b < 256) (c : (q / 2 != 0) = true) : (q / 2).toNat < q.toNat := by
  have := h.bnd _hm _ha _hb
  have : q / 2 ≠ 0 := by simpa using c
  omega
theorem MulS.fin1 {m a b k : Nat} {s x q : Int} (h : MulS m a b k s x q) (_hm : IsRest m) (_ha : a < 256) (_hb : b < 256) (c : (bits .and .u8 q 1 != 0) = true) (c' : (q / 2 != 0) = false) : bits .xor .i64 s x % 256 = (gm m a b : Nat) := by
  rw [h.odd _hm _ha _hb c, h.stop _hm _ha _hb c']
  have := gm_lt _hm _ha b
  omega
theorem MulS.fin2 {m a b k : Nat} {s x q : Int} (h : MulS m a b k s x q) (_hm : IsRest m) (_ha : a < 256) (_hb : b < 256) (c : (bits .and .u8 q 1 != 0) = false) (c' : (q / 2 != 0) = false) : s % 256 = (gm m a b : Nat) := by
  rw [h.even _hm _ha _hb c, h.stop _hm _ha _hb c']
  have := gm_lt _hm _ha b
  omega
theorem MulS.odd1 {m a b k : Nat} {s x : Int} (h : MulS m a b k s x (b / 2 ^ k : Nat)) (hm : IsRest m) (ha : a < 256) (hb : b < 256) (c : (bits .and .u8 ((b : Int) / 2 ^ k) 1 == 1) = true) : bits .xor .i64 s x = (gmk m a b (k + 1) : Nat) := by
  refine h.odd hm ha hb ?_
  have e : ((b / 2 ^ k : Nat) : Int) = (b : Int) / 2 ^ k := by simp
  rw [e]
  have : bits .and .u8 ((b : Int) / 2 ^ k) 1 = 1 := by simpa using c
  rw [this]; rfl
theorem MulS.even1 {m a b k : Nat} {s x : Int} (h : MulS m a b k s x (b / 2 ^ k : Nat)) (hm : IsRest m) (ha : a < 256) (hb : b < 256) (c : (bits .and .u8 ((b : Int) / 2 ^ k) 1 == 1) = false) : s = (gmk m a b (k + 1) : Nat) := by
  refine h.even hm ha hb ?_
  have h1 := h.and1 hm ha hb
  have e : ((b / 2 ^ k : Nat) : Int) = (b : Int) / 2 ^ k := by simp
  rw [e] at h1 ⊢
  rw [h1] at c ⊢
  have h2 := Nat.mod_lt (b / 2 ^ k) (show 0 < 2 by omega)
  generalize b / 2 ^ k % 2 = g at *
  match g, h2 with
  | 0, _ => rfl
  | 1, _ => simp at c
/-- What holds at the label. -/
def MulJ (m a b : Nat) (w : World) (a' : Act) (w' : World) : Prop :=
  w = w' ∧ ∃ (k : Nat) (s x q : Int) (u14 u15 u16 u17 u18 u19 u20 u21 u22 u23 u24 u25 u26 u27 u28 u29 u30 : Value),
    a' = { tmps := #[.int .u8 a, .int .u8 q, .int .i64 m, undef, undef, undef, .int .u8 0, .int .i64 s, .int .i64 x, .int .i64 m, .bool true, .bool false, .int .u8 a, .int .i64 a,
      u14, u15, u16, u17, u18, u19, u20, u21, u22, u23, u24, u25, u26, u27, u28, u29, u30, undef, undef], defers := [] } ∧ MulS m a b k s x q
def qOf (a : Act) : Nat := match a.tmps.getD 1 undef with | .int _ q => q.toNat | _ => 0
set_option maxHeartbeats 4000000 in
theorem mul_any (a b m : Nat) (w : World) (hm : IsRest m) (ha : a < 256) (hb : b < 256) :
    Calls Tryd.prog 59 #[.int .u8 a, .int .u8 b, .int .i64 m] w fun e w' => e = .returned (.int .u8 (gm m a b : Nat)) ∧ w = w' := by
  have h0 := hm.lo
  have h1 := hm.hi
  go_enter Tryd.func59, Tryd.ntmps59
  go_wp2_with fail
  refine wp_scope_jumps 0 (MulJ m a b w) (fun a' _ => qOf a') rfl ?_ ?_
  · have HS := hid (show MulS m a b 0 0 a b from ⟨by omega, rfl, rfl, by simp⟩)
    have HM := hid hm
    clear hm
    go_wp2_with (go_at_call 58; refine (isMod_any _ _ (by omega) (by omega)).mono ?_; rintro e w' ⟨rfl, rfl⟩)
    go_step3
    go_wp2
    all_goals (try go_step3)
    all_goals first
      | (refine ⟨rfl, rfl, _, _, _, _, _, _, _, _, _, _, _, _, _, _, _, _, _, _, _, _, _, rfl, ⟨HS.out.more HM.out ha hb (by assumption), (by first | exact HS.out.odd HM.out ha hb (by assumption) | exact HS.out.even HM.out ha hb (by assumption)), (by first | exact HS.out.over HM.out ha hb (by assumption) | exact HS.out.under HM.out ha hb (by assumption)), HS.out.half HM.out ha hb⟩⟩)
      | (simp only [Exit.jump]
         go_ret
         refine ⟨ret_int ?_, rfl⟩
         first
           | exact HS.out.fin1 HM.out ha hb (by assumption) (by assumption)
           | exact HS.out.fin2 HM.out ha hb (by assumption) (by assumption)
           | exact (HS.out.even HM.out ha hb (by assumption)).trans (by rw [HS.out.stop HM.out ha hb (by assumption)]))
  · rintro a' w' ⟨rfl, k, s, x, q, u14, u15, u16, u17, u18, u19, u20, u21, u22, u23, u24, u25, u26, u27, u28, u29, u30, rfl, hS⟩
    have hB := hS.bnd hm ha hb
    obtain ⟨hb0, hb1, hb2, hb3, hb4, hb5⟩ := hB
    have HS := hid hS
    have HM := hid hm
    clear hS hm
    go_wp2
    all_goals (try go_step3)
    all_goals first
      | (refine ⟨rfl, ⟨rfl, _, _, _, _, _, _, _, _, _, _, _, _, _, _, _, _, _, _, _, _, _, rfl, ⟨HS.out.more HM.out ha hb (by assumption), (by first | exact HS.out.odd HM.out ha hb (by assumption) | exact HS.out.even HM.out ha hb (by assumption)), (by first | exact HS.out.over HM.out ha hb (by assumption) | exact HS.out.under HM.out ha hb (by assumption)), HS.out.half HM.out ha hb⟩⟩, HS.out.less HM.out ha hb (by assumption)⟩)
      | (simp only [Exit.jump]
         go_ret
         refine ⟨ret_int ?_, rfl⟩
         first
           | exact HS.out.fin1 HM.out ha hb (by assumption) (by assumption)
           | exact HS.out.fin2 HM.out ha hb (by assumption) (by assumption)
           | exact (HS.out.even HM.out ha hb (by assumption)).trans (by rw [HS.out.stop HM.out ha hb (by assumption)]))
set_option maxHeartbeats 2000000 in
theorem rmul_any (a b m : Nat) (w : World) (hm : IsRest m) (ha : a < 256) (hb : b < 256) :
    Calls Tryd.prog 64 #[.int .u8 a, .int .u8 b, .int .i64 m] w fun e w' => e = .returned (.int .u8 (gm m a b : Nat)) ∧ w = w' := by
  have h0 := hm.lo
  have h1 := hm.hi
  go_enter Tryd.func64, Tryd.ntmps64
  go_wp2_with fail
  go_loop [7, 8, 9] (fun s x i => ∃ (k : Nat) (S X : Int), k ≤ 8 ∧ i = .int .u64 k ∧ s = .int .i64 S ∧ x = .int .i64 X ∧ S = (gmk m a b k : Nat) ∧ X = (xtk m k a : Nat)) (fun _ _ i => (8 - intOf i).toNat)
  case atStart => exact ⟨0, _, _, by omega, rfl, rfl, rfl, rfl, rfl⟩
  case round =>
    obtain ⟨k, S, X, hk, rfl, rfl, rfl, hS, hX⟩ := hrel
    by_cases hlt : k < 8
    · have hS' : MulS m a b k S X (b / 2 ^ k : Nat) := ⟨hlt, hS, hX, rfl⟩
      obtain ⟨hb0, hb1, hb2, hb3, hb4, hb5⟩ := hS'.bnd hm ha hb
      have h1' := hid (hS'.and1 hm ha hb)
      have HS := hid hS'
      have HM := hid hm
      clear hS hX hS' hm hb4 hb5
      go_wp2
      all_goals refine ⟨⟨k + 1, _, _, by omega, by go_num, rfl, rfl, (by first | exact HS.out.odd1 HM.out ha hb (by assumption) | exact HS.out.even1 HM.out ha hb (by assumption)), (by first | exact HS.out.over HM.out ha hb (by omega) | exact HS.out.under HM.out ha hb (by omega))⟩, by simp [intOf]; omega⟩
    · obtain rfl : k = 8 := by omega
      have HF := hid (show S = (gm m a b : Nat) from hS)
      have hl := gm_lt hm ha b
      have hX2 := xtk_lt hm ha 8
      have hS0 : 0 ≤ S ∧ S < 256 := by
        have := HF.out
        generalize gm m a b = G at *
        omega
      clear hS hX hm hl hX2
      go_wp2
      go_ret
      exact ⟨ret_int (by rw [HF.out]), rfl⟩
end Go.Proofs.YtpfkcplldhdipaaDoor
