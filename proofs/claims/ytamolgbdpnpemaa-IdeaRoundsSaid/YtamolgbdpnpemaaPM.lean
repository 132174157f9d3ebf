/- Plain facts on products by the rest by 65537, and on what undoes them; own lemmas of the verifier, no statement is proved here. -/
import Derived.Laws.BitsAllLaws
namespace Go.Proofs.Ytamolgbdpnpemaa
/-- Onto, where one to one. -/
theorem pigeon : ∀ (n : Nat) (f : Nat → Nat), (∀ i, i < n → f i < n) → (∀ i j, i < n → j < n → f i = f j → i = j) → ∀ y, y < n → ∃ x, x < n ∧ f x = y
  | 0, _, _, _, y, hy => absurd hy (by omega)
  | n + 1, f, hf, hi, y, hy => by
    by_cases hny : f n = y
    · exact ⟨n, by omega, hny⟩
    · have ih := pigeon n (fun i => if f i = n then f n else f i) (by
        intro i hin
        have h1 := hf i (by omega)
        have h2 := hf n (by omega)
        have h3 : f i = f n → i = n := hi i n (by omega) (by omega)
        show (if f i = n then f n else f i) < n
        split
        · rename_i h4
          have : f n ≠ n := fun h5 => by have := h3 (by omega); omega
          omega
        · omega) (by
        intro i j hin hjn he
        have h1 := hi i j (by omega) (by omega)
        have h2 : f i = f n → i = n := hi i n (by omega) (by omega)
        have h3 : f j = f n → j = n := hi j n (by omega) (by omega)
        split at he <;> split at he
        · exact h1 (by omega)
        · have := h3 (by omega); omega
        · have := h2 (by omega); omega
        · exact h1 he)
      by_cases hy2 : y = n
      · subst hy2
        obtain ⟨x, hx, he⟩ : ∃ x, x < y ∧ f x = y := by
          have h2 := hf y (by omega)
          obtain ⟨x, hx, he⟩ := ih (f y) (by omega)
          refine ⟨x, hx, ?_⟩
          split at he
          · assumption
          · have := hi x y (by omega) (by omega) he; omega
        exact ⟨x, by omega, he⟩
      · obtain ⟨x, hx, he⟩ := ih y (by omega)
        split at he
        · exact absurd he hny
        · exact ⟨x, by omega, he⟩
/-- A prime, as it is needed here. -/
structure Pr (p : Nat) : Prop where
  one : 1 < p
  co : ∀ x, 0 < x → x < p → Nat.Coprime p x
theorem Pr.dvd {p x y : Nat} (h : Pr p) (hd : p ∣ x * y) (h0 : 0 < x) (h1 : x < p) : p ∣ y := (h.co x h0 h1).dvd_of_dvd_mul_left hd
theorem sub_dvd {p x y : Nat} (h : x % p = y % p) : p ∣ x - y := Nat.dvd_of_mod_eq_zero (Nat.sub_mod_eq_zero_of_mod_eq h)
theorem lt_dvd {p x : Nat} (h : p ∣ x) (hl : x < p) : x = 0 := by
  obtain ⟨k, rfl⟩ := h
  rcases Nat.eq_zero_or_pos k with rfl | hk
  · rfl
  · have := Nat.le_mul_of_pos_right p hk; omega
/-- What is multiplied may be struck. -/
theorem Pr.cancel {p a x y : Nat} (h : Pr p) (h0 : 0 < a) (h1 : a < p) (he : a * x % p = a * y % p) : x % p = y % p := by
  have key : ∀ x y, y ≤ x → a * x % p = a * y % p → x % p = y % p := by
    intro x y hxy he
    have hd := sub_dvd he
    rw [← Nat.mul_sub] at hd
    obtain ⟨k, hk⟩ := h.dvd hd h0 h1
    rw [show x = y + p * k by omega, Nat.add_mul_mod_self_left]
  rcases Nat.le_total y x with hl | hl
  · exact key x y hl he
  · exact (key y x hl he.symm).symm
theorem prod_map (a p : Nat) : ∀ l : List Nat, (l.map fun k => a * k % p).prod % p = a ^ l.length * l.prod % p
  | [] => by simp
  | x :: l => by
    have ih := prod_map a p l
    rw [List.map_cons, List.prod_cons, List.prod_cons, List.length_cons, Nat.mul_mod, ih, Nat.mod_mod, ← Nat.mul_mod, Nat.pow_succ]
    congr 1
    rw [Nat.mul_assoc, Nat.mul_assoc]
    rw [show x * (a ^ l.length * l.prod) = a ^ l.length * (x * l.prod) by rw [← Nat.mul_assoc, Nat.mul_comm x, Nat.mul_assoc]]
    rw [← Nat.mul_assoc, Nat.mul_comm a, Nat.mul_assoc]
theorem co_prod {p : Nat} : ∀ l : List Nat, (∀ x ∈ l, Nat.Coprime p x) → Nat.Coprime p l.prod
  | [], _ => by simp
  | x :: l, h => by
    rw [List.prod_cons]
    exact Nat.Coprime.mul_right (h x (by simp)) (co_prod l fun y hy => h y (by simp [hy]))
/-- Fermat. -/
theorem Pr.fermat {p a : Nat} (h : Pr p) (h0 : 0 < a) (h1 : a < p) : a ^ (p - 1) % p = 1 := by
  have hp := h.one
  obtain ⟨n, rfl⟩ : ∃ n, p = n + 1 := ⟨p - 1, by omega⟩
  rw [Nat.add_sub_cancel]
  have hne : ∀ i, i < n → a * (i + 1) % (n + 1) ≠ 0 := fun i hi he => by
    have := h.dvd (Nat.dvd_of_mod_eq_zero he) h0 h1
    have := lt_dvd this (by omega)
    omega
  have hlt : ∀ i, a * (i + 1) % (n + 1) < n + 1 := fun i => Nat.mod_lt _ (by omega)
  have hinj : ∀ i j, i < n → j < n → a * (i + 1) % (n + 1) = a * (j + 1) % (n + 1) → i = j := fun i j hi hj he => by
    have := h.cancel h0 h1 he
    rw [Nat.mod_eq_of_lt (by omega), Nat.mod_eq_of_lt (by omega)] at this
    omega
  have honto := pigeon n (fun i => a * (i + 1) % (n + 1) - 1) (fun i hi => by have := hne i hi; have := hlt i; show _ - 1 < n; omega)
    (fun i j hi hj he => hinj i j hi hj (by have := hne i hi; have := hne j hj; have he : a * (i + 1) % (n + 1) - 1 = a * (j + 1) % (n + 1) - 1 := he; omega))
  obtain ⟨L, hL⟩ : ∃ L, (List.range n).map (· + 1) = L := ⟨_, rfl⟩
  have hmem : ∀ x, x ∈ L ↔ 1 ≤ x ∧ x ≤ n := fun x => by
    rw [← hL, List.mem_map]
    constructor
    · rintro ⟨i, hi, rfl⟩; have := List.mem_range.1 hi; omega
    · rintro ⟨q1, q2⟩; exact ⟨x - 1, List.mem_range.2 (by omega), by omega⟩
  have hlen : L.length = n := by rw [← hL]; simp
  have hnd : L.Nodup := by
    rw [← hL]
    refine List.pairwise_map.2 (List.Pairwise.imp (fun {a b} hab => ?_) List.pairwise_lt_range)
    omega
  have hnd2 : (L.map fun k => a * k % (n + 1)).Nodup := by
    rw [← hL, List.map_map]
    refine List.pairwise_map.2 ?_
    refine List.Pairwise.imp_of_mem (fun {i j} hi hj hij => ?_) List.pairwise_lt_range
    intro he
    have := hinj i j (List.mem_range.1 hi) (List.mem_range.1 hj) he
    omega
  have hperm : (L.map fun k => a * k % (n + 1)).Perm L := by
    refine (List.perm_ext_iff_of_nodup hnd2 hnd).2 fun y => ?_
    rw [List.mem_map, hmem]
    constructor
    · rintro ⟨x, hx, rfl⟩
      have hx' := (hmem x).1 hx
      have h3 := hne (x - 1) (by omega)
      have h4 := hlt (x - 1)
      rw [show x - 1 + 1 = x by omega] at h3 h4
      omega
    · rintro ⟨hy1, hy2⟩
      obtain ⟨i, hi, he⟩ := honto (y - 1) (by omega)
      have h3 := hne i hi
      refine ⟨i + 1, (hmem _).2 (by omega), ?_⟩
      have he : a * (i + 1) % (n + 1) - 1 = y - 1 := he
      omega
  have hpr := prod_map a (n + 1) L
  rw [hperm.prod_nat, hlen] at hpr
  have hco := co_prod L fun x hx => h.co x (by have := (hmem x).1 hx; omega) (by have := (hmem x).1 hx; omega)
  have hd := sub_dvd hpr.symm
  have hpos : 1 ≤ a ^ n := Nat.one_le_pow _ _ h0
  rw [show a ^ n * L.prod - L.prod = L.prod * (a ^ n - 1) by rw [Nat.mul_sub, Nat.mul_one, Nat.mul_comm]] at hd
  obtain ⟨k, hk⟩ := hco.dvd_of_dvd_mul_left hd
  rw [show a ^ n = 1 + (n + 1) * k by omega, Nat.add_mul_mod_self_left, Nat.mod_eq_of_lt (by omega)]
theorem small_none : ∀ d, d < 257 → 2 ≤ d → 65537 % d ≠ 0 := by decide +kernel
theorem prime65537 : Pr 65537 := by
  refine ⟨by omega, fun x h0 h1 => ?_⟩
  have hg1 : Nat.gcd 65537 x ∣ 65537 := Nat.gcd_dvd_left _ _
  have hg2 : Nat.gcd 65537 x ∣ x := Nat.gcd_dvd_right _ _
  have hgx := Nat.le_of_dvd h0 hg2
  obtain ⟨k, hk⟩ := hg1
  show Nat.gcd 65537 x = 1
  obtain ⟨g, hg⟩ : ∃ g, Nat.gcd 65537 x = g := ⟨_, rfl⟩
  rw [hg] at hk hgx ⊢
  have hg0 : g ≠ 0 := by rintro rfl; omega
  have hk0 : k ≠ 0 := by rintro rfl; omega
  rcases Nat.lt_or_ge g 257 with h2 | h2
  · rcases Nat.lt_or_ge g 2 with h3 | h3
    · omega
    · exact absurd (by rw [hk]; exact Nat.mul_mod_right g k) (small_none g h2 h3)
  · rcases Nat.lt_or_ge k 257 with h4 | h4
    · rcases Nat.lt_or_ge k 2 with h3 | h3
      · have : k = 1 := by omega
        subst this; omega
      · exact absurd (by rw [hk]; exact Nat.mul_mod_left g k) (small_none k h4 h3)
    · have := Nat.mul_le_mul h2 h4
      omega
/-- What a number stands for. -/
def st (a : Nat) : Nat := if a = 0 then 65536 else a
theorem st_pos (a : Nat) : 0 < st a := by unfold st; split <;> omega
theorem st_lt {a : Nat} (h : a < 65536) : st a < 65537 := by unfold st; split <;> omega
theorem st_mod {r : Nat} (h0 : 0 < r) (h1 : r < 65537) : st (r % 65536) = r := by
  unfold st
  split <;> omega
theorem st_inj {a b : Nat} (ha : a < 65536) (hb : b < 65536) (h : st a = st b) : a = b := by
  unfold st at h
  split at h <;> split at h <;> omega
theorem rest_pos {x y : Nat} (h0 : 0 < x) (h1 : x < 65537) (h2 : 0 < y) (h3 : y < 65537) : 0 < x * y % 65537 := by
  rcases Nat.eq_zero_or_pos (x * y % 65537) with h | h
  · have := lt_dvd (prime65537.dvd (Nat.dvd_of_mod_eq_zero h) h0 h1) h3
    omega
  · exact h
/-- The product. -/
def mulF (a b : Nat) : Nat := st a * st b % 65537 % 65536
theorem mulF_lt (a b : Nat) : mulF a b < 65536 := Nat.mod_lt _ (by omega)
theorem st_mul {a b : Nat} (ha : a < 65536) (hb : b < 65536) : st (mulF a b) = st a * st b % 65537 :=
  st_mod (rest_pos (st_pos a) (st_lt ha) (st_pos b) (st_lt hb)) (Nat.mod_lt _ (by omega))
theorem mulF_comm (a b : Nat) : mulF a b = mulF b a := by unfold mulF; rw [Nat.mul_comm]
theorem mulF_assoc {a b c : Nat} (ha : a < 65536) (hb : b < 65536) (hc : c < 65536) : mulF (mulF a b) c = mulF a (mulF b c) := by
  refine st_inj (mulF_lt _ _) (mulF_lt _ _) ?_
  rw [st_mul (mulF_lt _ _) hc, st_mul ha (mulF_lt _ _), st_mul ha hb, st_mul hb hc]
  simp only [Nat.mod_mul_mod, Nat.mul_mod_mod, Nat.mul_assoc]
theorem mulF_one {a : Nat} (ha : a < 65536) : mulF a 1 = a := by
  refine st_inj (mulF_lt _ _) ha ?_
  rw [st_mul ha (by omega), show st 1 = 1 from rfl, Nat.mul_one, Nat.mod_eq_of_lt (st_lt ha)]
theorem mulF_cancel {a b c : Nat} (ha : a < 65536) (hb : b < 65536) (hc : c < 65536) (h : mulF a b = mulF a c) : b = c := by
  have h2 : st (mulF a b) = st (mulF a c) := by rw [h]
  rw [st_mul ha hb, st_mul ha hc] at h2
  have := prime65537.cancel (st_pos a) (st_lt ha) h2
  rw [Nat.mod_eq_of_lt (st_lt hb), Nat.mod_eq_of_lt (st_lt hc)] at this
  exact st_inj hb hc this
/-- A power. -/
def pwF (a n : Nat) : Nat := st a ^ n % 65537 % 65536
theorem pwF_lt (a n : Nat) : pwF a n < 65536 := Nat.mod_lt _ (by omega)
theorem pow_pos_rest {a : Nat} (ha : a < 65536) : ∀ n, 0 < st a ^ n % 65537
  | 0 => by simp
  | n + 1 => by
    have ih := pow_pos_rest ha n
    rw [Nat.pow_succ, Nat.mul_mod, Nat.mod_eq_of_lt (st_lt ha)]
    exact rest_pos ih (Nat.mod_lt _ (by omega)) (st_pos a) (st_lt ha)
theorem st_pw {a : Nat} (ha : a < 65536) (n : Nat) : st (pwF a n) = st a ^ n % 65537 := st_mod (pow_pos_rest ha n) (Nat.mod_lt _ (by omega))
theorem pwF_zero (a : Nat) : pwF a 0 = 1 := by unfold pwF; rw [Nat.pow_zero]
theorem pwF_one {a : Nat} (ha : a < 65536) : pwF a 1 = a := st_inj (pwF_lt _ _) ha (by rw [st_pw ha, Nat.pow_one, Nat.mod_eq_of_lt (st_lt ha)])
theorem pwF_add {a : Nat} (ha : a < 65536) (m n : Nat) : mulF (pwF a m) (pwF a n) = pwF a (m + n) := by
  refine st_inj (mulF_lt _ _) (pwF_lt _ _) ?_
  rw [st_mul (pwF_lt _ _) (pwF_lt _ _), st_pw ha, st_pw ha, st_pw ha, Nat.pow_add, ← Nat.mul_mod]
theorem pwF_pw {a : Nat} (ha : a < 65536) (m n : Nat) : pwF (pwF a m) n = pwF a (m * n) := by
  refine st_inj (pwF_lt _ _) (pwF_lt _ _) ?_
  rw [st_pw (pwF_lt _ _), st_pw ha, st_pw ha, ← Nat.pow_mod, ← Nat.pow_mul]
/-- What undoes a number. -/
def invF (a : Nat) : Nat := pwF a 65535
theorem invF_lt (a : Nat) : invF a < 65536 := pwF_lt _ _
theorem mulF_inv {a : Nat} (ha : a < 65536) : mulF a (invF a) = 1 := by
  have h1 := pwF_add ha 1 65535
  rw [pwF_one ha] at h1
  unfold invF
  rw [h1]
  have hf := prime65537.fermat (st_pos a) (st_lt ha)
  unfold pwF
  rw [show (1 + 65535 : Nat) = 65537 - 1 from rfl, hf]
theorem invF_inv {a : Nat} (ha : a < 65536) : invF (invF a) = a := by
  refine mulF_cancel (invF_lt a) (invF_lt _) ha ?_
  rw [mulF_inv (invF_lt a), mulF_comm, mulF_inv ha]
/-- Of a nought and x. -/
theorem mulF_zero {x : Nat} (h : x < 65536) : mulF 0 x = if x = 0 then 1 else (65537 - x) % 65536 := by
  unfold mulF
  rw [show st 0 = 65536 from rfl]
  unfold st
  split
  · rfl
  · rename_i h0
    obtain ⟨y, rfl⟩ : ∃ y, x = y + 1 := ⟨x - 1, by omega⟩
    rw [show 65536 * (y + 1) = (65537 - (y + 1)) + 65537 * y by omega, Nat.add_mul_mod_self_left, Nat.mod_eq_of_lt (show 65537 - (y + 1) < 65537 by omega)]
end Go.Proofs.Ytamolgbdpnpemaa
