/- Chapter 9 as plain functions; own lemmas of the verifier, no statement is proved here. -/
import Derived.Test.YtbdncalllfpodaaDoorF1
namespace Go.Proofs.YtbdncalllfpodaaDoor
open Go.RowKit
theorem toNat_ofNat_lt {n : Nat} (h : n < 4294967296) : (UInt32.ofNat n).toNat = n := by rw [UInt32.toNat_ofNat']; omega
theorem wlt (x : UInt32) : x.toNat < 4294967296 := x.toNat_lt
/-- A word, turned to the left by s < 32. -/
def rolW (x : UInt32) (s : Nat) : UInt32 := UInt32.ofNat (rolN 32 x.toNat s)
theorem rolW_toNat (x : UInt32) (s : Nat) : (rolW x s).toNat = rolN 32 x.toNat s := toNat_ofNat_lt (rolN_lt 32 _ _ (wlt x))
theorem rol32_w (x : UInt32) (s : Nat) (h : s < 32) : rol32 (x.toNat : Int) s = ((rolW x s).toNat : Int) := by rw [rol32_nat _ _ (wlt x) h, rolW_toNat]
theorem rolW_rolW (x : UInt32) (i j : Nat) (hi : i < 32) (hj : j < 32) : rolW (rolW x i) j = rolW x ((i + j) % 32) := by
  apply UInt32.toNat_inj.1
  rw [rolW_toNat, rolW_toNat, rolW_toNat, rolN_rolN 32 _ _ _ (wlt x) hi hj]
theorem rolW_zero (x : UInt32) : rolW x 0 = x := by
  apply UInt32.toNat_inj.1
  rw [rolW_toNat, rolN_zero 32 _ (wlt x)]
/-- Turned to the left by any number. -/
def rolI (x : UInt32) (n : Int) : UInt32 := rolW x (n % 32).toNat
theorem rolI_nat (x : UInt32) (n : Nat) : rolI x (n : Int) = rolW x (n % 32) := by
  rfl
theorem rolI_rolI (x : UInt32) (m n : Int) : rolI (rolI x m) n = rolI x (m + n) := by
  unfold rolI
  rw [rolW_rolW _ _ _ (by omega) (by omega)]
  congr 1; omega
theorem rolI_zero (x : UInt32) : rolI x 0 = x := rolW_zero x
theorem rolI_congr (x : UInt32) {m n : Int} (h : m % 32 = n % 32) : rolI x m = rolI x n := by unfold rolI; rw [h]
theorem rolI_back (x : UInt32) (n : Int) : rolI (rolI x n) (-n) = x := by rw [rolI_rolI, show n + -n = 0 by omega, rolI_zero]
theorem rolI_there (x : UInt32) (n : Int) : rolI (rolI x (-n)) n = x := by rw [rolI_rolI, show -n + n = 0 by omega, rolI_zero]
theorem w_xor (a b : UInt32) : bits .xor .u32 (a.toNat : Int) (b.toNat : Int) = ((a ^^^ b).toNat : Int) := by
  rw [u32_xor_nat _ _ (wlt a) (wlt b), UInt32.toNat_xor]
theorem w_add (a b : UInt32) : ((a.toNat : Int) + (b.toNat : Int)) % 4294967296 = ((a + b).toNat : Int) := by
  rw [UInt32.toNat_add]; omega
theorem rol_w (x : UInt32) (n : Int) (w : World) :
    Calls Tryd.prog 45 #[.int .u32 (x.toNat : Nat), .int .i64 n] w fun e w' => e = .returned (.int .u32 ((rolI x n).toNat : Nat)) ∧ w = w' := by
  refine (rol_any _ _ _).mono ?_
  rintro e w' ⟨rfl, rfl⟩
  exact ⟨ret_int (rol32_w _ _ (by omega)), rfl⟩
theorem rrol_w (x : UInt32) (n : Int) (w : World) :
    Calls Tryd.prog 21 #[.int .u32 (x.toNat : Nat), .int .i64 n] w fun e w' => e = .returned (.int .u32 ((rolI x n).toNat : Nat)) ∧ w = w' := by
  refine (rrl32 _ _ _).mono ?_
  rintro e w' ⟨rfl, rfl⟩
  exact ⟨ret_int (rol32_w _ _ (by omega)), rfl⟩

/-- Q's rows, a number each. -/
def rowsN : List (List Nat) := [[0x817D6F320B59ECA4, 0xECB81235F4A6709D, 0xBA5E6D90C8F32471, 0xD7F4126E9B3085CA], [0x28BDF76E31940AC5, 0x1E2B4C376DA5F908, 0x4C75169A0ED82B3F, 0xB951C3DE647F208A]]
def rowQ (q i : Nat) : Nat := (rowsN.getD q []).getD i 0
theorem rowQ_lt : ∀ q, q < 2 → ∀ i, i < 4 → rowQ q i < 18446744073709551616 := by decide +kernel
def nibQ (q i f : Nat) : Nat := rowQ q i / 2 ^ (60 - 4 * f) % 16
theorem nibQ_lt (q i f : Nat) : nibQ q i f < 16 := Nat.mod_lt _ (by omega)
def eQ (a c : Nat) : Nat := a ^^^ c
def fQ (a c : Nat) : Nat := a ^^^ ((c / 2 ||| c * 8) % 16) ^^^ (a * 8 % 16)
theorem eQ_lt {a c : Nat} (ha : a < 16) (hc : c < 16) : eQ a c < 16 := Nat.xor_lt_two_pow (n := 4) ha hc
theorem fQ_lt {a c : Nat} (ha : a < 16) (_hc : c < 16) : fQ a c < 16 :=
  Nat.xor_lt_two_pow (n := 4) (Nat.xor_lt_two_pow (n := 4) ha (Nat.mod_lt _ (by omega))) (Nat.mod_lt _ (by omega))
/-- The two halves, behind so many steps. -/
def qAC (q x : Nat) : Nat → Nat × Nat
  | 0 => (x / 16, x % 16)
  | k + 1 => (nibQ q (2 * k) (eQ (qAC q x k).1 (qAC q x k).2), nibQ q (2 * k + 1) (fQ (qAC q x k).1 (qAC q x k).2))
theorem qAC_lt {q x : Nat} (hx : x < 256) : ∀ k, (qAC q x k).1 < 16 ∧ (qAC q x k).2 < 16
  | 0 => ⟨by simp [qAC]; omega, by simp [qAC]; omega⟩
  | k + 1 => ⟨nibQ_lt _ _ _, nibQ_lt _ _ _⟩
/-- Q. -/
def qF (q x : Nat) : Nat := (qAC q x 2).2 * 16 + (qAC q x 2).1
theorem qF_lt (q x : Nat) : qF q x < 256 := by
  have h1 : (qAC q x 2).1 < 16 := nibQ_lt _ _ _
  have h2 : (qAC q x 2).2 < 16 := nibQ_lt _ _ _
  unfold qF; omega
def nodupB : List Nat → Nat → Bool
  | [], _ => true
  | x :: l, s => !s.testBit x && nodupB l (s ||| 2 ^ x)
theorem nodupB_out : ∀ (l : List Nat) (s : Nat), nodupB l s = true → (∀ x ∈ l, s.testBit x = false) ∧ l.Nodup
  | [], s, _ => ⟨by simp, List.nodup_nil⟩
  | x :: l, s, h => by
    unfold nodupB at h
    simp only [Bool.and_eq_true, Bool.not_eq_true'] at h
    obtain ⟨h1, h2⟩ := nodupB_out l _ h.2
    refine ⟨fun y hy => ?_, List.nodup_cons.2 ⟨fun hm => ?_, h2⟩⟩
    · rcases List.mem_cons.1 hy with rfl | hy
      · exact h.1
      · have := h1 y hy
        rw [Nat.testBit_or] at this
        simp only [Bool.or_eq_false_iff] at this
        exact this.1
    · have := h1 x hm
      rw [Nat.testBit_or] at this
      simp at this
def tabQ (q : Nat) : List Nat := (List.range 256).map (qF q)
theorem tabQ_nodup : ∀ q, q < 2 → (tabQ q).Nodup := fun q hq => (nodupB_out _ 0 ((by decide +kernel : ∀ q, q < 2 → nodupB (tabQ q) 0 = true) q hq)).2
theorem qF_inj {q x y : Nat} (hq : q < 2) (hx : x < 256) (hy : y < 256) (h : qF q x = qF q y) : x = y := by
  have hn := tabQ_nodup q hq
  have hl : (tabQ q).length = 256 := by simp [tabQ]
  have e : (tabQ q)[x]'(by omega) = (tabQ q)[y]'(by omega) := by simpa [tabQ] using h
  have hp := List.pairwise_iff_getElem.1 hn
  rcases Nat.lt_trichotomy x y with h1 | h1 | h1
  · exact absurd e (hp x y (by omega) (by omega) h1)
  · exact h1
  · exact absurd e.symm (hp y x (by omega) (by omega) h1)
/-- A number of bytes, the first n. -/
def wdN (f : Nat → Nat) : Nat → Nat
  | 0 => 0
  | i + 1 => wdN f i + f i * 256 ^ i
theorem wdN_lt {f : Nat → Nat} (hf : ∀ i, f i < 256) : ∀ n, wdN f n < 256 ^ n
  | 0 => by simp [wdN]
  | n + 1 => by
    have h1 := wdN_lt hf n
    have h2 := hf n
    have h3 : f n * 256 ^ n ≤ 255 * 256 ^ n := Nat.mul_le_mul_right _ (by omega)
    rw [wdN, Nat.pow_succ]
    omega
theorem wdN_byte {f : Nat → Nat} (hf : ∀ i, f i < 256) : ∀ n j, j < n → wdN f n / 256 ^ j % 256 = f j
  | 0, j, h => by omega
  | n + 1, j, h => by
    have h1 := wdN_lt hf n
    rw [wdN]
    rcases Nat.lt_or_ge j n with hj | hj
    · have ih := wdN_byte hf n j hj
      have e : f n * 256 ^ n = 256 ^ j * (256 * (f n * 256 ^ (n - j - 1))) := by
        have : 256 ^ n = 256 ^ j * (256 * 256 ^ (n - j - 1)) := by
          rw [← Nat.pow_succ', ← Nat.pow_add]; congr 1; omega
        rw [this, ← Nat.mul_assoc, Nat.mul_comm (f n) (256 ^ j), Nat.mul_assoc]
        congr 1
        rw [Nat.mul_left_comm]
      rw [e, Nat.add_mul_div_left _ _ (Nat.pow_pos (by omega)), Nat.add_mul_mod_self_left]
      exact ih
    · obtain rfl : j = n := by omega
      rw [Nat.add_mul_div_right _ _ (Nat.pow_pos (by omega)), Nat.div_eq_of_lt h1, Nat.zero_add, Nat.mod_eq_of_lt (hf _)]
theorem wdN_congr {f g : Nat → Nat} : ∀ n, (∀ i, i < n → f i = g i) → wdN f n = wdN g n
  | 0, _ => rfl
  | n + 1, h => by rw [wdN, wdN, wdN_congr n fun i hi => h i (by omega), h n (by omega)]
theorem wdN_or {f : Nat → Nat} (hf : ∀ i, f i < 256) (n : Nat) : wdN f n ||| f n * 256 ^ n = wdN f (n + 1) := by
  have h4 : (256 : Nat) ^ n = 2 ^ (8 * n) := by rw [Nat.pow_mul]
  have h1 := wdN_lt hf n
  rw [h4] at h1
  rw [wdN, h4, Nat.mul_comm, Nat.or_comm, Nat.add_comm]
  exact (Nat.two_pow_add_eq_or_of_lt h1 (f n)).symm
theorem wdN_x {f : Nat → Nat} (hf : ∀ i, f i < 256) (n : Nat) : wdN f n ^^^ f n * 256 ^ n = wdN f (n + 1) := by
  rw [← wdN_or hf n]
  have h4 : (256 : Nat) ^ n = 2 ^ (8 * n) := by rw [Nat.pow_mul]
  have h1 := wdN_lt hf n
  rw [h4] at h1 ⊢
  apply Nat.eq_of_testBit_eq
  intro k
  rw [Nat.testBit_xor, Nat.testBit_or, Nat.testBit_mul_two_pow]
  by_cases hk : 8 * n ≤ k
  · rw [Nat.testBit_lt_two_pow (Nat.lt_of_lt_of_le h1 (Nat.pow_le_pow_right (by omega) hk))]; simp
  · simp [hk]
/-- The word of four bytes. -/
def wd4 (f : Nat → Nat) : UInt32 := UInt32.ofNat (wdN f 4)
theorem wd4_toNat {f : Nat → Nat} (hf : ∀ i, f i < 256) : (wd4 f).toNat = wdN f 4 := toNat_ofNat_lt (wdN_lt hf 4)
/-- Byte number i of a word. -/
def bw (x : UInt32) (i : Nat) : Nat := x.toNat / 2 ^ (8 * i) % 256
theorem bw_lt (x : UInt32) (i : Nat) : bw x i < 256 := Nat.mod_lt _ (by omega)
theorem bw_pow (x : UInt32) (i : Nat) : bw x i = x.toNat / 256 ^ i % 256 := by unfold bw; rw [Nat.pow_mul]
theorem bw_wd4 {f : Nat → Nat} (hf : ∀ i, f i < 256) (j : Nat) (hj : j < 4) : bw (wd4 f) j = f j := by
  rw [bw_pow, wd4_toNat hf, wdN_byte hf 4 j hj]
theorem bytes_eq {a b : Nat} : ∀ i, a < 256 ^ i → b < 256 ^ i → (∀ j, j < i → a / 256 ^ j % 256 = b / 256 ^ j % 256) → a = b
  | 0, ha, hb, _ => by simp at ha hb; omega
  | i + 1, ha, hb, h => by
    have h0 := h 0 (by omega)
    simp at h0
    have h1 : a / 256 = b / 256 := bytes_eq i (by rw [Nat.pow_succ] at ha; omega) (by rw [Nat.pow_succ] at hb; omega) fun j hj => by
      have := h (j + 1) (by omega)
      rw [Nat.pow_succ', ← Nat.div_div_eq_div_mul, ← Nat.div_div_eq_div_mul] at this
      exact this
    omega
theorem bw_ext {x y : UInt32} (h : ∀ j, j < 4 → bw x j = bw y j) : x = y := by
  apply UInt32.toNat_inj.1
  exact bytes_eq 4 (wlt x) (wlt y) fun j hj => by rw [← bw_pow, ← bw_pow]; exact h j hj
theorem bw_xor (x y : UInt32) (i : Nat) : bw (x ^^^ y) i = bw x i ^^^ bw y i := by
  unfold bw
  rw [UInt32.toNat_xor, Nat.xor_div_two_pow]
  exact Nat.xor_mod_two_pow (n := 8)
/-- Which Q each byte goes through, so many words left. -/
def ordsN : List (List Nat) := [[1, 0, 1, 0], [0, 0, 1, 1], [0, 1, 0, 1], [1, 1, 0, 0], [1, 0, 0, 1]]
def ordN (left i : Nat) : Nat := (ordsN.getD left []).getD i 0
theorem ordN_lt : ∀ left, left < 5 → ∀ i, i < 4 → ordN left i < 2 := by decide
def replB (x : UInt32) (left i : Nat) : Nat := qF (ordN left i) (bw x i)
theorem replB_lt (x : UInt32) (left i : Nat) : replB x left i < 256 := qF_lt _ _
def replW (x : UInt32) (left : Nat) : UInt32 := wd4 (replB x left)
theorem replW_inj {x y : UInt32} {left : Nat} (hl : left < 5) (h : replW x left = replW y left) : x = y := by
  refine bw_ext fun j hj => ?_
  have e : replB x left j = replB y left j := by
    rw [← bw_wd4 (replB_lt x left) j hj, ← bw_wd4 (replB_lt y left) j hj]
    show bw (replW x left) j = bw (replW y left) j
    rw [h]
  exact qF_inj (ordN_lt left hl j hj) (bw_lt _ _) (bw_lt _ _) e
/-- A sum of products. -/
def sumG (m : Nat) (row b : Nat → Nat) : Nat → Nat
  | 0 => 0
  | j + 1 => sumG m row b j ^^^ gm m (b j) (row j)
theorem sumG_lt {m : Nat} (hm : IsRest m) {row b : Nat → Nat} (hb : ∀ j, b j < 256) : ∀ n, sumG m row b n < 256
  | 0 => by simp [sumG]
  | n + 1 => xor_lt8 (sumG_lt hm hb n) (gm_lt hm (hb n) _)
theorem sumG_congr {m : Nat} {row b c : Nat → Nat} : ∀ n, (∀ j, j < n → b j = c j) → sumG m row b n = sumG m row c n
  | 0, _ => rfl
  | n + 1, h => by rw [sumG, sumG, sumG_congr n fun j hj => h j (by omega), h n (by omega)]
theorem sumG_xor {m : Nat} (hm : IsRest m) {row b c : Nat → Nat} (hb : ∀ j, b j < 256) (hc : ∀ j, c j < 256) : ∀ n, sumG m row (fun j => b j ^^^ c j) n = sumG m row b n ^^^ sumG m row c n
  | 0 => by simp [sumG]
  | n + 1 => by rw [sumG, sumG, sumG, sumG_xor hm hb hc n, gm_xor_left hm (hb n) (hc n), xor_shuffle]
def mixsN : List (List Nat) := [[0x01, 0xEF, 0x5B, 0x5B], [0x5B, 0xEF, 0xEF, 0x01], [0xEF, 0x5B, 0x01, 0xEF], [0xEF, 0x01, 0xEF, 0x5B]]
def mixR (i j : Nat) : Nat := (mixsN.getD i []).getD j 0
theorem r361 : IsRest 361 := ⟨by omega, by omega⟩
theorem r333 : IsRest 333 := ⟨by omega, by omega⟩
def mixB (x : UInt32) (i : Nat) : Nat := sumG 361 (mixR i) (bw x) 4
theorem mixB_lt (x : UInt32) (i : Nat) : mixB x i < 256 := sumG_lt r361 (bw_lt x) 4
def mixW (x : UInt32) : UInt32 := wd4 (mixB x)
def shrsN : List (List Nat) := [[0x01, 0xA4, 0x55, 0x87, 0x5A, 0x58, 0xDB, 0x9E], [0xA4, 0x56, 0x82, 0xF3, 0x1E, 0xC6, 0x68, 0xE5], [0x02, 0xA1, 0xFC, 0xC1, 0x47, 0xAE, 0x3D, 0x19], [0xA4, 0x55, 0x87, 0x5A, 0x58, 0xDB, 0x9E, 0x03]]
def shrR (i j : Nat) : Nat := (shrsN.getD i []).getD j 0
/-- Byte number j of a list. -/
def bl (m : List UInt8) (j : Nat) : Nat := (m.getD j 0).toNat
theorem bl_lt (m : List UInt8) (j : Nat) : bl m j < 256 := (m.getD j 0).toNat_lt
def shrB (m : List UInt8) (i : Nat) : Nat := sumG 333 (shrR i) (bl m) 8
theorem shrB_lt (m : List UInt8) (i : Nat) : shrB m i < 256 := sumG_lt r333 (bl_lt m) 8
def shrW (m : List UInt8) : UInt32 := wd4 (shrB m)
/-- H, so many words left. -/
def goDown {α β : Type} (f : Nat → α → α) (g : α → β) : Nat → α → β
  | 0, x => g x
  | n + 1, x => goDown f g n (f n x)
theorem goDown_zero {α β : Type} (f : Nat → α → α) (g : α → β) (x : α) : goDown f g 0 x = g x := rfl
theorem goDown_succ {α β : Type} (f : Nat → α → α) (g : α → β) (n : Nat) (x : α) : goDown f g (n + 1) x = goDown f g n (f n x) := rfl
def hStep (l : List UInt32) (n : Nat) (x : UInt32) : UInt32 := replW x (n + 1) ^^^ l.getD n 0
def hEnd (x : UInt32) : UInt32 := mixW (replW x 0)
def hW (l : List UInt32) (n : Nat) (x : UInt32) : UInt32 := goDown (hStep l) hEnd n x
theorem hW_zero (l : List UInt32) (x : UInt32) : hW l 0 x = hEnd x := by unfold hW; rw [goDown_zero]
theorem hW_succ (l : List UInt32) (n : Nat) (x : UInt32) : hW l (n + 1) x = hW l n (hStep l n x) := by unfold hW; rw [goDown_succ]
def HW (x : UInt32) (l : List UInt32) : UInt32 := hW l l.length x
/-- The word at a place of bytes. -/
def wdL (m : List UInt8) (o : Nat) : UInt32 := wd4 fun i => bl m (o + i)
def evL (key : List UInt8) : List UInt32 := (List.range (key.length / 8)).map fun i => wdL key (8 * i)
def odL (key : List UInt8) : List UInt32 := (List.range (key.length / 8)).map fun i => wdL key (8 * i + 4)
def sU (key : List UInt8) : List UInt32 := (List.range (key.length / 8)).map fun i => shrW ((key.drop (8 * i)).take 8)
def sL (key : List UInt8) : List UInt32 := (sU key).reverse
def kA (e : List UInt32) (n : Nat) : UInt32 := HW (UInt32.ofNat (2 * n) * 0x01010101) e
def kB (o : List UInt32) (n : Nat) : UInt32 := rolI (HW (UInt32.ofNat (2 * n + 1) * 0x01010101) o) 8
def kL (e o : List UInt32) : Nat → List UInt32
  | 0 => []
  | n + 1 => kL e o n ++ [kA e n + kB o n, rolI (kA e n + 2 * kB o n) 9]
theorem kL_length (e o : List UInt32) : ∀ n, (kL e o n).length = 2 * n
  | 0 => rfl
  | n + 1 => by rw [kL, List.length_append, kL_length e o n]; rfl
def keysL (key : List UInt8) : List UInt32 := kL (evL key) (odL key) 20
/-- Four words. -/
structure W4 where
  a : UInt32
  b : UInt32
  c : UInt32
  d : UInt32
deriving DecidableEq
def W4.xor (r : W4) (k : List UInt32) (o : Nat) : W4 := ⟨r.a ^^^ k.getD o 0, r.b ^^^ k.getD (o + 1) 0, r.c ^^^ k.getD (o + 2) 0, r.d ^^^ k.getD (o + 3) 0⟩
def W4.cross (r : W4) : W4 := ⟨r.c, r.d, r.a, r.b⟩
def mF (k s : List UInt32) (x y : UInt32) (i : Nat) : UInt32 := HW x s + HW (rolI y 8) s + k.getD (8 + 2 * i) 0
def mG (k s : List UInt32) (x y : UInt32) (i : Nat) : UInt32 := HW x s + 2 * HW (rolI y 8) s + k.getD (9 + 2 * i) 0
def rnd (k s : List UInt32) (i : Nat) (r : W4) : W4 := ⟨rolI (r.c ^^^ mF k s r.a r.b i) (-1), rolI r.d 1 ^^^ mG k s r.a r.b i, r.a, r.b⟩
def rndB (k s : List UInt32) (i : Nat) (r : W4) : W4 := ⟨r.c, r.d, rolI r.a 1 ^^^ mF k s r.c r.d i, rolI (r.b ^^^ mG k s r.c r.d i) (-1)⟩
def upto {α : Type} (f : Nat → α → α) (r : α) : Nat → α
  | 0 => r
  | i + 1 => f i (upto f r i)
theorem upto_zero {α : Type} (f : Nat → α → α) (r : α) : upto f r 0 = r := rfl
theorem upto_succ {α : Type} (f : Nat → α → α) (r : α) (i : Nat) : upto f r (i + 1) = f i (upto f r i) := rfl
def fwd (k s : List UInt32) (r : W4) (i : Nat) : W4 := upto (rnd k s) r i
theorem fwd_succ (k s : List UInt32) (r : W4) (i : Nat) : fwd k s r (i + 1) = rnd k s i (fwd k s r i) := by unfold fwd; rw [upto_succ]
/-- Back, from round number 16 on, j of them. -/
def bwd (k s : List UInt32) (r : W4) (j : Nat) : W4 := upto (fun j => rndB k s (15 - j)) r j
theorem bwd_succ (k s : List UInt32) (r : W4) (j : Nat) : bwd k s r (j + 1) = rndB k s (15 - j) (bwd k s r j) := by unfold bwd; rw [upto_succ]
def thereW (k s : List UInt32) (r : W4) : W4 := (fwd k s (r.xor k 0) 16).cross.xor k 4
def backW (k s : List UInt32) (r : W4) : W4 := (bwd k s (r.xor k 4).cross 16).xor k 0
def inW (m : List UInt8) : W4 := ⟨wdL m 0, wdL m 4, wdL m 8, wdL m 12⟩
def outB (x : UInt32) : List UInt8 := putL32 (x.toNat : Nat)
def outL (r : W4) : List UInt8 := outB r.a ++ outB r.b ++ outB r.c ++ outB r.d
def blockL (k s : List UInt32) (back : Bool) (m : List UInt8) : List UInt8 := outL (if back then backW k s (inW m) else thereW k s (inW m))
end Go.Proofs.YtbdncalllfpodaaDoor
