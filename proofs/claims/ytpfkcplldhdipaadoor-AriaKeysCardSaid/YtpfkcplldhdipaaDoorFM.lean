/- Plain facts on products of bytes by a rest; own lemmas of the verifier, no statement is proved here. -/
import Derived.Laws.BitsAllLaws
namespace Go.Proofs.YtpfkcplldhdipaaDoor
/-- Twice, less the rest where it ran over. -/
def xt (m x : Nat) : Nat := if 256 ≤ 2 * x then (2 * x) ^^^ m else 2 * x
def xtk (m : Nat) : Nat → Nat → Nat
  | 0, x => x
  | k + 1, x => xt m (xtk m k x)
/-- The product by the first k bits of b. -/
def gmk (m a b : Nat) : Nat → Nat
  | 0 => 0
  | k + 1 => if b / 2 ^ k % 2 = 1 then gmk m a b k ^^^ xtk m k a else gmk m a b k
def gm (m a b : Nat) : Nat := gmk m a b 8
structure IsRest (m : Nat) : Prop where
  lo : 256 ≤ m
  hi : m < 512
theorem xor_lt8 {x y : Nat} (hx : x < 256) (hy : y < 256) : x ^^^ y < 256 := Nat.xor_lt_two_pow (n := 8) hx hy
theorem xor_div (x y k : Nat) : (x ^^^ y) / 2 ^ k = (x / 2 ^ k) ^^^ (y / 2 ^ k) := by
  rw [← Nat.shiftRight_eq_div_pow, ← Nat.shiftRight_eq_div_pow, ← Nat.shiftRight_eq_div_pow, Nat.shiftRight_xor_distrib]
theorem xor_dbl (x y : Nat) : 2 * (x ^^^ y) = (2 * x) ^^^ (2 * y) := by
  have h := Nat.shiftLeft_xor_distrib (a := x) (b := y) (i := 1)
  simp only [Nat.shiftLeft_eq, Nat.pow_one] at h
  rw [Nat.mul_comm 2, Nat.mul_comm 2, Nat.mul_comm 2]
  exact h
theorem xor_top {x y : Nat} (hx : 256 ≤ x) (hx' : x < 512) (hy : 256 ≤ y) (hy' : y < 512) : x ^^^ y < 256 := by
  have h := xor_div x y 8
  rw [show x / 2 ^ 8 = 1 by omega, show y / 2 ^ 8 = 1 by omega, Nat.xor_self] at h
  omega
theorem xor_lo {x y : Nat} (hx : x < 256) (hy : 256 ≤ y) (hy' : y < 512) : 256 ≤ x ^^^ y := by
  have h := xor_div x y 8
  rw [show x / 2 ^ 8 = 0 by omega, show y / 2 ^ 8 = 1 by omega, Nat.zero_xor] at h
  omega
theorem xt_lt {m x : Nat} (hm : IsRest m) (hx : x < 256) : xt m x < 256 := by
  unfold xt
  split
  · exact xor_top (by omega) (by omega) hm.lo hm.hi
  · omega
theorem xt_zero (m : Nat) : xt m 0 = 0 := by simp [xt]
theorem xor_shuffle (a b c d : Nat) : (a ^^^ b) ^^^ (c ^^^ d) = (a ^^^ c) ^^^ (b ^^^ d) := by
  ac_rfl
theorem xt_xor {m x y : Nat} (hx : x < 256) (hy : y < 256) : xt m (x ^^^ y) = xt m x ^^^ xt m y := by
  unfold xt
  rw [xor_dbl]
  by_cases h1 : 256 ≤ 2 * x
  · by_cases h2 : 256 ≤ 2 * y
    · have := xor_top h1 (by omega) h2 (by omega)
      rw [if_pos h1, if_pos h2, if_neg (by omega), xor_shuffle, Nat.xor_self, Nat.xor_zero]
    · have := xor_lo (x := 2 * y) (by omega) h1 (by omega)
      rw [Nat.xor_comm] at this
      rw [if_pos h1, if_neg h2, if_pos this]
      ac_rfl
  · by_cases h2 : 256 ≤ 2 * y
    · have := xor_lo (x := 2 * x) (by omega) h2 (by omega)
      rw [if_neg h1, if_pos h2, if_pos this]
      ac_rfl
    · have := xor_lt8 (x := 2 * x) (y := 2 * y) (by omega) (by omega)
      rw [if_neg h1, if_neg h2, if_neg (by omega)]
theorem xtk_lt {m x : Nat} (hm : IsRest m) (hx : x < 256) : ∀ k, xtk m k x < 256
  | 0 => hx
  | k + 1 => xt_lt hm (xtk_lt hm hx k)
theorem xtk_xor {m x y : Nat} (hm : IsRest m) (hx : x < 256) (hy : y < 256) : ∀ k, xtk m k (x ^^^ y) = xtk m k x ^^^ xtk m k y
  | 0 => rfl
  | k + 1 => by rw [xtk, xtk, xtk, xtk_xor hm hx hy k, xt_xor (xtk_lt hm hx k) (xtk_lt hm hy k)]
theorem xtk_zero (m : Nat) : ∀ k, xtk m k 0 = 0
  | 0 => rfl
  | k + 1 => by rw [xtk, xtk_zero m k, xt_zero]
theorem xtk_add (m x j : Nat) : ∀ k, xtk m (j + k) x = xtk m k (xtk m j x)
  | 0 => rfl
  | k + 1 => by rw [← Nat.add_assoc, xtk, xtk_add m x j k]; rfl
theorem gmk_lt {m a : Nat} (hm : IsRest m) (ha : a < 256) (b : Nat) : ∀ k, gmk m a b k < 256
  | 0 => by simp [gmk]
  | k + 1 => by
    rw [gmk]
    split
    · exact xor_lt8 (gmk_lt hm ha b k) (xtk_lt hm ha k)
    · exact gmk_lt hm ha b k
theorem gm_lt {m a : Nat} (hm : IsRest m) (ha : a < 256) (b : Nat) : gm m a b < 256 := gmk_lt hm ha b 8
theorem gmk_xor_left {m x y : Nat} (hm : IsRest m) (hx : x < 256) (hy : y < 256) (b : Nat) : ∀ k, gmk m (x ^^^ y) b k = gmk m x b k ^^^ gmk m y b k
  | 0 => by simp [gmk]
  | k + 1 => by
    rw [gmk, gmk, gmk, gmk_xor_left hm hx hy b k]
    split
    · rw [xtk_xor hm hx hy, xor_shuffle]
    · rfl
theorem gm_xor_left {m x y : Nat} (hm : IsRest m) (hx : x < 256) (hy : y < 256) (b : Nat) : gm m (x ^^^ y) b = gm m x b ^^^ gm m y b := gmk_xor_left hm hx hy b 8
theorem bit_xor (b c k : Nat) : (b ^^^ c) / 2 ^ k % 2 = (b / 2 ^ k % 2 + c / 2 ^ k % 2) % 2 := by
  rw [xor_div, ← Go.nat_mask1, Nat.and_xor_distrib_right, Go.nat_mask1, Go.nat_mask1]
  have h1 := Nat.mod_lt (b / 2 ^ k) (show 0 < 2 by omega)
  have h2 := Nat.mod_lt (c / 2 ^ k) (show 0 < 2 by omega)
  generalize b / 2 ^ k % 2 = u at *
  generalize c / 2 ^ k % 2 = v at *
  match u, v, h1, h2 with
  | 0, 0, _, _ => rfl
  | 0, 1, _, _ => rfl
  | 1, 0, _, _ => rfl
  | 1, 1, _, _ => rfl
theorem gmk_xor_right (m a b c : Nat) : ∀ k, gmk m a (b ^^^ c) k = gmk m a b k ^^^ gmk m a c k
  | 0 => by simp [gmk]
  | k + 1 => by
    rw [gmk, gmk, gmk, gmk_xor_right m a b c k, bit_xor]
    have h1 := Nat.mod_lt (b / 2 ^ k) (show 0 < 2 by omega)
    have h2 := Nat.mod_lt (c / 2 ^ k) (show 0 < 2 by omega)
    by_cases hb : b / 2 ^ k % 2 = 1
    · by_cases hc : c / 2 ^ k % 2 = 1
      · rw [if_pos hb, if_pos hc, if_neg (by omega), xor_shuffle, Nat.xor_self, Nat.xor_zero]
      · rw [if_pos hb, if_neg hc, if_pos (by omega)]; ac_rfl
    · by_cases hc : c / 2 ^ k % 2 = 1
      · rw [if_neg hb, if_pos hc, if_pos (by omega)]; ac_rfl
      · rw [if_neg hb, if_neg hc, if_neg (by omega)]
theorem gm_xor_right (m a b c : Nat) : gm m a (b ^^^ c) = gm m a b ^^^ gm m a c := gmk_xor_right m a b c 8
theorem gm_zero_right (m a : Nat) : gm m a 0 = 0 := by simp [gm, gmk]
theorem gm_zero_left (m b : Nat) : gm m 0 b = 0 := by
  have : ∀ k, gmk m 0 b k = 0 := by
    intro k
    induction k with
    | zero => rfl
    | succ k ih => rw [gmk, ih, xtk_zero]; simp
  exact this 8
/-- By a power of 2. -/
theorem gm_pow2 (m a k : Nat) (hk : k < 8) : gm m a (2 ^ k) = xtk m k a := by
  unfold gm
  match k, hk with
  | 0, _ | 1, _ | 2, _ | 3, _ | 4, _ | 5, _ | 6, _ | 7, _ => simp [gmk]
/-- A byte is the sum of its bits. -/
theorem byte_bits : ∀ b < 256, b = (if b / 2 ^ 0 % 2 = 1 then 1 else 0) ^^^ (if b / 2 ^ 1 % 2 = 1 then 2 else 0) ^^^ (if b / 2 ^ 2 % 2 = 1 then 4 else 0) ^^^ (if b / 2 ^ 3 % 2 = 1 then 8 else 0) ^^^
    (if b / 2 ^ 4 % 2 = 1 then 16 else 0) ^^^ (if b / 2 ^ 5 % 2 = 1 then 32 else 0) ^^^ (if b / 2 ^ 6 % 2 = 1 then 64 else 0) ^^^ (if b / 2 ^ 7 % 2 = 1 then 128 else 0) := by decide +kernel
/-- Two maps that go through sums are one, if they are at each bit. -/
theorem lin_ext (f g : Nat → Nat) (hf : ∀ x y, x < 256 → y < 256 → f (x ^^^ y) = f x ^^^ f y) (hg : ∀ x y, x < 256 → y < 256 → g (x ^^^ y) = g x ^^^ g y)
    (h : ∀ k, k < 8 → f (2 ^ k) = g (2 ^ k)) (b : Nat) (hb : b < 256) : f b = g b := by
  have f0 : f 0 = 0 := by have := hf 0 0 (by omega) (by omega); rw [Nat.xor_self, Nat.xor_self] at this; exact this
  have g0 : g 0 = 0 := by have := hg 0 0 (by omega) (by omega); rw [Nat.xor_self, Nat.xor_self] at this; exact this
  have key : ∀ (p : Prop) [Decidable p] (k : Nat), k < 8 → f (if p then 2 ^ k else 0) = g (if p then 2 ^ k else 0) := by
    intro p _ k hk
    split
    · exact h k hk
    · rw [f0, g0]
  have lt : ∀ (p : Prop) [Decidable p] (k : Nat), k < 8 → (if p then 2 ^ k else 0) < 256 := by
    intro p _ k hk
    split
    · exact Nat.lt_of_lt_of_le (Nat.pow_lt_pow_right (by omega) hk) (by omega : 2 ^ 8 ≤ 256)
    · omega
  have step : ∀ x y, x < 256 → y < 256 → f x = g x → f y = g y → f (x ^^^ y) = g (x ^^^ y) := by
    intro x y hx hy h1 h2
    rw [hf x y hx hy, hg x y hx hy, h1, h2]
  rw [byte_bits b hb]
  have l0 := lt (b / 2 ^ 0 % 2 = 1) 0 (by omega); have e0 := key (b / 2 ^ 0 % 2 = 1) 0 (by omega)
  have l1 := lt (b / 2 ^ 1 % 2 = 1) 1 (by omega); have e1 := key (b / 2 ^ 1 % 2 = 1) 1 (by omega)
  have l2 := lt (b / 2 ^ 2 % 2 = 1) 2 (by omega); have e2 := key (b / 2 ^ 2 % 2 = 1) 2 (by omega)
  have l3 := lt (b / 2 ^ 3 % 2 = 1) 3 (by omega); have e3 := key (b / 2 ^ 3 % 2 = 1) 3 (by omega)
  have l4 := lt (b / 2 ^ 4 % 2 = 1) 4 (by omega); have e4 := key (b / 2 ^ 4 % 2 = 1) 4 (by omega)
  have l5 := lt (b / 2 ^ 5 % 2 = 1) 5 (by omega); have e5 := key (b / 2 ^ 5 % 2 = 1) 5 (by omega)
  have l6 := lt (b / 2 ^ 6 % 2 = 1) 6 (by omega); have e6 := key (b / 2 ^ 6 % 2 = 1) 6 (by omega)
  have l7 := lt (b / 2 ^ 7 % 2 = 1) 7 (by omega); have e7 := key (b / 2 ^ 7 % 2 = 1) 7 (by omega)
  have a1 := step _ _ l0 l1 e0 e1; have m1 := xor_lt8 l0 l1
  have a2 := step _ _ m1 l2 a1 e2; have m2 := xor_lt8 m1 l2
  have a3 := step _ _ m2 l3 a2 e3; have m3 := xor_lt8 m2 l3
  have a4 := step _ _ m3 l4 a3 e4; have m4 := xor_lt8 m3 l4
  have a5 := step _ _ m4 l5 a4 e5; have m5 := xor_lt8 m4 l5
  have a6 := step _ _ m5 l6 a5 e6; have m6 := xor_lt8 m5 l6
  exact step _ _ m6 l7 a6 e7
theorem xtk_one (m k : Nat) (hk : k < 8) : xtk m k 1 = 2 ^ k := by
  match k, hk with
  | 0, _ | 1, _ | 2, _ | 3, _ | 4, _ | 5, _ | 6, _ | 7, _ => simp [xtk, xt]
theorem pow2_lt {k : Nat} (hk : k < 8) : 2 ^ k < 256 := Nat.lt_of_lt_of_le (Nat.pow_lt_pow_right (by omega) hk) (by omega : 2 ^ 8 ≤ 256)
theorem gm_comm {m : Nat} (hm : IsRest m) {a b : Nat} (ha : a < 256) (hb : b < 256) : gm m a b = gm m b a := by
  refine lin_ext (fun b => gm m a b) (fun b => gm m b a) (fun x y _ _ => gm_xor_right m a x y) (fun x y hx hy => gm_xor_left hm hx hy a) (fun k hk => ?_) b hb
  show gm m a (2 ^ k) = gm m (2 ^ k) a
  refine lin_ext (fun a => gm m a (2 ^ k)) (fun a => gm m (2 ^ k) a) (fun x y hx hy => gm_xor_left hm hx hy _) (fun x y _ _ => gm_xor_right m _ x y) (fun j hj => ?_) a ha
  show gm m (2 ^ j) (2 ^ k) = gm m (2 ^ k) (2 ^ j)
  rw [gm_pow2 _ _ _ hk, gm_pow2 _ _ _ hj, ← xtk_one m j hj, ← xtk_one m k hk, ← xtk_add, ← xtk_add, Nat.add_comm]
theorem gmk_xt {m a : Nat} (hm : IsRest m) (ha : a < 256) (b : Nat) : ∀ k, xt m (gmk m a b k) = gmk m (xt m a) b k
  | 0 => xt_zero m
  | k + 1 => by
    have e : xtk m k (xt m a) = xt m (xtk m k a) := by
      have h1 := xtk_add m a 1 k
      have h2 := xtk_add m a k 1
      rw [Nat.add_comm k 1] at h2
      rw [h2] at h1
      exact h1.symm
    rw [gmk, gmk]
    split
    · rw [xt_xor (gmk_lt hm ha b k) (xtk_lt hm ha k), gmk_xt hm ha b k, e]
    · exact gmk_xt hm ha b k
theorem gm_xt {m a : Nat} (hm : IsRest m) (ha : a < 256) (b : Nat) : xt m (gm m a b) = gm m (xt m a) b := gmk_xt hm ha b 8
theorem gm_xtk {m a : Nat} (hm : IsRest m) (ha : a < 256) (b : Nat) : ∀ k, xtk m k (gm m a b) = gm m (xtk m k a) b
  | 0 => rfl
  | k + 1 => by rw [xtk, xtk, gm_xtk hm ha b k, gm_xt hm (xtk_lt hm ha k)]
theorem gm_assoc {m : Nat} (hm : IsRest m) {a b c : Nat} (ha : a < 256) (hb : b < 256) (hc : c < 256) : gm m (gm m a b) c = gm m a (gm m b c) := by
  refine lin_ext (fun c => gm m (gm m a b) c) (fun c => gm m a (gm m b c)) (fun x y _ _ => gm_xor_right _ _ x y) (fun x y _ _ => ?_) (fun k hk => ?_) c hc
  · show gm m a (gm m b (x ^^^ y)) = _
    rw [gm_xor_right, gm_xor_right]
  · show gm m (gm m a b) (2 ^ k) = gm m a (gm m b (2 ^ k))
    rw [gm_pow2 _ _ _ hk, gm_pow2 _ _ _ hk, gm_comm hm ha hb, gm_comm hm ha (xtk_lt hm hb k), gm_xtk hm hb]
theorem gm_one {m a : Nat} : gm m a 1 = a := gm_pow2 m a 0 (by omega)
theorem gm_one_left {m a : Nat} (hm : IsRest m) (ha : a < 256) : gm m 1 a = a := by rw [gm_comm hm (by omega) ha, gm_one]
theorem gm_sq {m : Nat} (hm : IsRest m) {a b : Nat} (ha : a < 256) (hb : b < 256) : gm m (a ^^^ b) (a ^^^ b) = gm m a a ^^^ gm m b b := by
  rw [gm_xor_left hm ha hb, gm_xor_right, gm_xor_right, gm_comm hm hb ha]
  have : ∀ p q r : Nat, (p ^^^ q) ^^^ (q ^^^ r) = p ^^^ r := by
    intro p q r
    rw [Nat.xor_assoc, ← Nat.xor_assoc q q r, Nat.xor_self, Nat.zero_xor]
  exact this _ _ _
/-- Powers. -/
def gp (m a : Nat) : Nat → Nat
  | 0 => 1
  | n + 1 => gm m (gp m a n) a
theorem gp_lt {m a : Nat} (hm : IsRest m) : ∀ n, gp m a n < 256
  | 0 => by simp [gp]
  | n + 1 => gm_lt hm (gp_lt hm n) a
theorem gp_add {m a : Nat} (hm : IsRest m) (ha : a < 256) (i : Nat) : ∀ j, gp m a (i + j) = gm m (gp m a i) (gp m a j)
  | 0 => gm_one.symm
  | j + 1 => by
    rw [← Nat.add_assoc, gp, gp, gp_add hm ha i j, gm_assoc hm (gp_lt hm i) (gp_lt hm j) ha]
theorem gp_mul {m a : Nat} (hm : IsRest m) (ha : a < 256) (i : Nat) : ∀ j, gp m (gp m a i) j = gp m a (i * j)
  | 0 => rfl
  | j + 1 => by
    rw [gp, gp_mul hm ha i j, Nat.mul_succ, gp_add hm ha]
theorem gp_two {m a : Nat} (hm : IsRest m) (ha : a < 256) : gp m a 2 = gm m a a := by
  rw [show gp m a 2 = gm m (gm m 1 a) a from rfl, gm_one_left hm ha]
theorem gp_one {m a : Nat} (hm : IsRest m) (ha : a < 256) : gp m a 1 = a := gm_one_left hm ha
theorem gp_zero (m n : Nat) : gp m 0 (n + 1) = 0 := gm_zero_right _ _
/-! Fields. -/
def p3 (m a : Nat) : Nat := gm m (gm m a a) a
def p5 (m a : Nat) : Nat := gm m (gm m (gm m a a) (gm m a a)) a
def sq (m a : Nat) : Nat := gm m a a
def p17 (m a : Nat) : Nat := gm m (sq m (sq m (sq m (sq m a)))) a
def p255 (m a : Nat) : Nat := p17 m (p5 m (p3 m a))
theorem gp_p3 {m a : Nat} (hm : IsRest m) (ha : a < 256) : p3 m a = gp m a 3 := by
  rw [show gp m a 3 = gm m (gp m a 2) a from rfl, gp_two hm ha]; rfl
theorem gp_p5 {m a : Nat} (hm : IsRest m) (ha : a < 256) : p5 m a = gp m a 5 := by
  rw [show gp m a 5 = gm m (gp m a (2 + 2)) a from rfl, gp_add hm ha, gp_two hm ha]; rfl
theorem gp_sq {m a n : Nat} (hm : IsRest m) (ha : a < 256) : sq m (gp m a n) = gp m a (n + n) := by rw [gp_add hm ha]; rfl
theorem gp_p17 {m a : Nat} (hm : IsRest m) (ha : a < 256) : p17 m a = gp m a 17 := by
  unfold p17
  have h : sq m a = gp m a 2 := (gp_two hm ha).symm
  rw [h, gp_sq hm ha, gp_sq hm ha, gp_sq hm ha]
  rfl
theorem gp_p255 {m a : Nat} (hm : IsRest m) (ha : a < 256) : p255 m a = gp m a 255 := by
  have h3 := gp_lt (a := a) hm 3
  have h5 := gp_lt (a := gp m a 3) hm 5
  unfold p255
  rw [gp_p3 hm ha, gp_p5 hm h3, gp_p17 hm h5, gp_mul hm ha, gp_mul hm ha]
def fieldB (m : Nat) : Bool := (List.range 256).all fun a => a == 0 || p255 m a == 1
theorem field283 : fieldB 283 = true := by decide +kernel
theorem field361 : fieldB 361 = true := by decide +kernel
theorem field333 : fieldB 333 = true := by decide +kernel
theorem field285 : fieldB 285 = true := by decide +kernel
theorem field299 : fieldB 299 = true := by decide +kernel
structure IsField (m : Nat) : Prop extends IsRest m where
  all : ∀ a, 0 < a → a < 256 → gp m a 255 = 1
theorem isField_of {m : Nat} (h0 : 256 ≤ m) (h1 : m < 512) (h : fieldB m = true) : IsField m := by
  refine ⟨⟨h0, h1⟩, fun a ha ha' => ?_⟩
  unfold fieldB at h
  rw [List.all_eq_true] at h
  have := h a (List.mem_range.2 ha')
  rw [← gp_p255 ⟨h0, h1⟩ ha']
  simp only [Bool.or_eq_true, beq_iff_eq] at this
  omega
theorem IsField.inv {m a : Nat} (h : IsField m) (ha : 0 < a) (ha' : a < 256) : gm m a (gp m a 254) = 1 := by
  rw [gm_comm h.toIsRest ha' (gp_lt h.toIsRest 254)]
  exact h.all a ha ha'
/-- One that undoes a byte is the only one. -/
theorem inv_unique {m a x y : Nat} (hm : IsRest m) (ha : a < 256) (hx : x < 256) (hy : y < 256) (h1 : gm m a x = 1) (h2 : gm m a y = 1) : x = y := by
  have e : gm m x (gm m a y) = gm m (gm m x a) y := (gm_assoc hm hx ha hy).symm
  rw [h2, gm_comm hm hx ha, h1, gm_one, gm_one_left hm hy] at e
  exact e
/-- The least byte that undoes a. -/
def invF (m a : Nat) : Nat := ((List.range 256).find? fun x => decide (gm m a x = 1)).getD 0
theorem invF_of {m a y : Nat} (hy : y < 256) (h1 : gm m a y = 1) (hl : ∀ z, z < y → gm m a z ≠ 1) : invF m a = y := by
  have : (List.range 256).find? (fun x => decide (gm m a x = 1)) = some y := by
    rw [List.find?_eq_some_iff_getElem]
    refine ⟨by simpa using h1, y, by simpa using hy, by simp, fun j hj => ?_⟩
    have := hl j hj
    simpa using this
  unfold invF; rw [this]; rfl
theorem invF_none {m a : Nat} (h : ∀ z, z < 256 → gm m a z ≠ 1) : invF m a = 0 := by
  have : (List.range 256).find? (fun x => decide (gm m a x = 1)) = none := by
    rw [List.find?_eq_none]
    intro x hx
    have := h x (List.mem_range.1 hx)
    simpa using this
  unfold invF; rw [this]; rfl
theorem invF_unique {m a y : Nat} (hm : IsRest m) (ha : a < 256) (hy : y < 256) (h1 : gm m a y = 1) : invF m a = y :=
  invF_of hy h1 fun z hz h2 => by have := inv_unique hm ha (by omega) hy h2 h1; omega
theorem invF_lt (m a : Nat) : invF m a < 256 := by
  unfold invF
  cases h : (List.range 256).find? (fun x => decide (gm m a x = 1)) with
  | none => simp
  | some y => exact List.mem_range.1 (List.mem_of_find?_eq_some h)
theorem invF_zero (m : Nat) : invF m 0 = 0 := invF_none fun z _ => by rw [gm_zero_left]; omega
theorem IsField.invF {m a : Nat} (h : IsField m) (ha : 0 < a) (ha' : a < 256) : Go.Proofs.YtpfkcplldhdipaaDoor.invF m a = gp m a 254 :=
  invF_unique h.toIsRest ha' (gp_lt h.toIsRest 254) (h.inv ha ha')
theorem IsField.invF_mul {m a : Nat} (h : IsField m) (ha : 0 < a) (ha' : a < 256) : gm m a (Go.Proofs.YtpfkcplldhdipaaDoor.invF m a) = 1 := by
  rw [h.invF ha ha']; exact h.inv ha ha'
theorem IsField.invF_invF {m a : Nat} (h : IsField m) (ha : 0 < a) (ha' : a < 256) : Go.Proofs.YtpfkcplldhdipaaDoor.invF m (Go.Proofs.YtpfkcplldhdipaaDoor.invF m a) = a :=
  invF_unique h.toIsRest (invF_lt _ _) ha' (by rw [gm_comm h.toIsRest (invF_lt _ _) ha']; exact h.invF_mul ha ha')
theorem IsField.invF_prod {m a b : Nat} (h : IsField m) (ha : 0 < a) (ha' : a < 256) (hb' : b < 256) :
    Go.Proofs.YtpfkcplldhdipaaDoor.invF m (gm m a b) = gm m (Go.Proofs.YtpfkcplldhdipaaDoor.invF m a) (Go.Proofs.YtpfkcplldhdipaaDoor.invF m b) := by
  have hm := h.toIsRest
  rcases Nat.eq_zero_or_pos b with rfl | hb
  · rw [gm_zero_right, invF_zero, gm_zero_right]
  · have e1 := h.invF_mul ha ha'
    have e2 := h.invF_mul hb hb'
    have l1 := invF_lt m a
    have l2 := invF_lt m b
    refine invF_unique hm (gm_lt hm ha' b) (gm_lt hm l1 _) ?_
    rw [gm_comm hm ha' hb', ← gm_assoc hm (gm_lt hm hb' a) l1 l2, gm_assoc hm hb' ha' l1, e1, gm_one, e2]
theorem IsField.inj {m a x y : Nat} (h : IsField m) (ha : 0 < a) (ha' : a < 256) (hx : x < 256) (hy : y < 256) (he : gm m a x = gm m a y) : x = y := by
  have hm := h.toIsRest
  have e1 := h.invF_mul ha ha'
  rw [gm_comm hm ha' (invF_lt m a)] at e1
  have h2 := congrArg (gm m (Go.Proofs.YtpfkcplldhdipaaDoor.invF m a)) he
  rw [← gm_assoc hm (invF_lt m a) ha' hx, ← gm_assoc hm (invF_lt m a) ha' hy, e1, gm_one_left hm hx, gm_one_left hm hy] at h2
  exact h2
/-- Powers by halves, as one reckons them: s times a to the n. -/
theorem gp_half_odd {m s a n : Nat} (hm : IsRest m) (hs : s < 256) (ha : a < 256) (hn : n % 2 = 1) : gm m s (gp m a n) = gm m (gm m s a) (gp m (gm m a a) (n / 2)) := by
  have e : n = 1 + 2 * (n / 2) := by omega
  conv => lhs; rw [e]
  rw [gp_add hm ha, gp_one hm ha, ← gm_assoc hm hs ha (gp_lt hm _), ← gp_mul hm ha 2, gp_two hm ha]
theorem gp_half_even {m a n : Nat} (hm : IsRest m) (ha : a < 256) (hn : n % 2 = 0) : gp m a n = gp m (gm m a a) (n / 2) := by
  have e : n = 2 * (n / 2) := by omega
  conv => lhs; rw [e]
  rw [← gp_mul hm ha 2, gp_two hm ha]
end Go.Proofs.YtpfkcplldhdipaaDoor
