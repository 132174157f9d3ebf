/- Chapter 8 as plain functions; own lemmas of the verifier, no statement is proved here. -/
import Derived.Test.YtgkfohgeelfceaaDoorW1
namespace Go.Proofs.YtgkfohgeelfceaaDoor
open Go.RowKit
theorem toNat_ofNat_lt {n : Nat} (h : n < 4294967296) : (UInt32.ofNat n).toNat = n := by rw [UInt32.toNat_ofNat']; omega
theorem wlt (x : UInt32) : x.toNat < 4294967296 := x.toNat_lt
/-- A word, turned to the left by s < 32. -/
def rolW (x : UInt32) (s : Nat) : UInt32 := UInt32.ofNat (rolN 32 x.toNat s)
theorem rolW_toNat (x : UInt32) (s : Nat) : (rolW x s).toNat = rolN 32 x.toNat s := toNat_ofNat_lt (rolN_lt 32 _ _ (wlt x))
theorem rol32_w (x : UInt32) (s : Nat) (h : s < 32) : rol32 (x.toNat : Int) s = ((rolW x s).toNat : Int) := by rw [rol32_nat _ _ (wlt x) h, rolW_toNat]
theorem rolW_rolW (x : UInt32) (i j : Nat) (hi : i < 32) (hj : j < 32) : rolW (rolW x i) j = rolW x ((i + j) % 32) := by
  apply UInt32.toNat_inj.1
  rw [rolW_toNat, rolW_toNat, rolW_toNat, rolN_rolN 32 _ _ _ (wlt x) hi hj]
theorem rolW_zero (x : UInt32) : rolW x 0 = x := by
  apply UInt32.toNat_inj.1
  rw [rolW_toNat, rolN_zero 32 _ (wlt x)]
/-- Turned to the left by any number. -/
def rolI (x : UInt32) (n : Int) : UInt32 := rolW x (n % 32).toNat
theorem rolI_nat (x : UInt32) (n : Nat) : rolI x (n : Int) = rolW x (n % 32) := by
  rfl
theorem rolI_rolI (x : UInt32) (m n : Int) : rolI (rolI x m) n = rolI x (m + n) := by
  unfold rolI
  rw [rolW_rolW _ _ _ (by omega) (by omega)]
  congr 1; omega
theorem rolI_zero (x : UInt32) : rolI x 0 = x := rolW_zero x
theorem rolI_congr (x : UInt32) {m n : Int} (h : m % 32 = n % 32) : rolI x m = rolI x n := by unfold rolI; rw [h]
theorem rolI_back (x : UInt32) (n : Int) : rolI (rolI x n) (-n) = x := by rw [rolI_rolI, show n + -n = 0 by omega, rolI_zero]
theorem rolI_there (x : UInt32) (n : Int) : rolI (rolI x (-n)) n = x := by rw [rolI_rolI, show -n + n = 0 by omega, rolI_zero]
/-- What XTEA mixes. -/
def mixW (w k : UInt32) : UInt32 := (((w <<< 4) ^^^ (w >>> 5)) + w) ^^^ k
/-- Magma's rows, a number each. -/
def rowsN : List Nat := [0xC462A5B9E8D703F1, 0x68239A5C1E47BD0F, 0xB3582FADE174C960, 0xC821D4F670A53E9B, 0x7F5A816D093EB42C, 0x5DF692CAB78143E0, 0x8E25691CF4B0DA37, 0x17ED05834FA69CB2]
def nib (j f : Nat) : Nat := rowsN.getD j 0 / 2 ^ (60 - 4 * f) % 16
theorem nib_lt (j f : Nat) : nib j f < 16 := Nat.mod_lt _ (by omega)
theorem nib_inj : ∀ j, j < 8 → ∀ f, f < 16 → ∀ g, g < 16 → nib j f = nib j g → f = g := by decide +kernel
theorem rows_lt : ∀ j, j < 8 → rowsN.getD j 0 < 18446744073709551616 := by decide +kernel
/-- The first i fours of G's sum, ahead of the turn. -/
def gS (s : Nat) : Nat → Nat
  | 0 => 0
  | i + 1 => gS s i + nib i (s / 16 ^ i % 16) * 16 ^ i
theorem gS_lt (s : Nat) : ∀ i, gS s i < 16 ^ i
  | 0 => by simp [gS]
  | i + 1 => by
    have h1 := gS_lt s i
    have h2 := nib_lt i (s / 16 ^ i % 16)
    have h3 : nib i (s / 16 ^ i % 16) * 16 ^ i ≤ 15 * 16 ^ i := Nat.mul_le_mul_right _ (by omega)
    rw [gS, Nat.pow_succ]
    omega
theorem gS_digit (s : Nat) : ∀ i j, j < i → gS s i / 16 ^ j % 16 = nib j (s / 16 ^ j % 16)
  | 0, j, h => by omega
  | i + 1, j, h => by
    have h1 := gS_lt s i
    rw [gS]
    rcases Nat.lt_or_ge j i with hj | hj
    · have ih := gS_digit s i j hj
      have e : nib i (s / 16 ^ i % 16) * 16 ^ i = 16 ^ j * (16 * (nib i (s / 16 ^ i % 16) * 16 ^ (i - j - 1))) := by
        have : 16 ^ i = 16 ^ j * (16 * 16 ^ (i - j - 1)) := by
          rw [← Nat.pow_succ', ← Nat.pow_add]; congr 1; omega
        rw [this, ← Nat.mul_assoc, Nat.mul_comm (nib i _) (16 ^ j), Nat.mul_assoc]
        congr 1
        rw [Nat.mul_left_comm]
      rw [e, Nat.add_mul_div_left _ _ (Nat.pow_pos (by omega)), Nat.add_mul_mod_self_left]
      exact ih
    · obtain rfl : j = i := by omega
      rw [Nat.add_mul_div_right _ _ (Nat.pow_pos (by omega)), Nat.div_eq_of_lt h1, Nat.zero_add, Nat.mod_eq_of_lt (nib_lt _ _)]
theorem digits_eq {a b : Nat} : ∀ i, a < 16 ^ i → b < 16 ^ i → (∀ j, j < i → a / 16 ^ j % 16 = b / 16 ^ j % 16) → a = b
  | 0, ha, hb, _ => by simp at ha hb; omega
  | i + 1, ha, hb, h => by
    have h0 := h 0 (by omega)
    simp at h0
    have h1 : a / 16 = b / 16 := digits_eq i (by rw [Nat.pow_succ] at ha; omega) (by rw [Nat.pow_succ] at hb; omega) fun j hj => by
      have := h (j + 1) (by omega)
      rw [Nat.pow_succ', ← Nat.div_div_eq_div_mul, ← Nat.div_div_eq_div_mul] at this
      exact this
    omega
theorem gS_inj {s t : Nat} (hs : s < 16 ^ 8) (ht : t < 16 ^ 8) (h : gS s 8 = gS t 8) : s = t :=
  digits_eq 8 hs ht fun j hj => nib_inj j hj _ (Nat.mod_lt _ (by omega)) _ (Nat.mod_lt _ (by omega)) (by rw [← gS_digit s 8 j hj, ← gS_digit t 8 j hj, h])
/-- G. -/
def gU (s : UInt32) : UInt32 := UInt32.ofNat (gS s.toNat 8)
theorem gU_toNat (s : UInt32) : (gU s).toNat = gS s.toNat 8 := toNat_ofNat_lt (gS_lt _ 8)
theorem gU_inj {s t : UInt32} (h : gU s = gU t) : s = t := by
  apply UInt32.toNat_inj.1
  refine gS_inj (wlt s) (wlt t) ?_
  rw [← gU_toNat, ← gU_toNat, h]
def gW (x k : UInt32) : UInt32 := rolI (gU (x + k)) 11
theorem gW_comm (x k : UInt32) : gW x k = gW k x := by unfold gW; rw [UInt32.add_comm]
theorem gW_inj {x y k : UInt32} (h : gW x k = gW y k) : x = y := by
  unfold gW at h
  have h2 := congrArg (fun z => rolI z (-11)) h
  simp only [rolI_back] at h2
  have h3 := gU_inj h2
  have h4 := congrArg (fun z => z - k) h3
  simpa only [UInt32.add_sub_cancel] using h4
/-- The three. -/
inductive T3 where
  | x
  | m
  | r
deriving DecidableEq
def T3.code : T3 → Int
  | .x => 4
  | .m => 5
  | .r => 8
def T3.size : T3 → Nat
  | .x => 16
  | .m => 32
  | .r => 16
/-- Two words. -/
structure W2 where
  a : UInt32
  b : UInt32
deriving DecidableEq
def madeW : T3 → UInt32 → UInt32 → UInt32 → UInt32
  | .x, v, w, k => v + mixW w k
  | .m, v, w, k => v ^^^ gW w k
  | .r, v, w, k => rolI (v ^^^ w) (w.toNat % 32 : Nat) + k
def unmadeW : T3 → UInt32 → UInt32 → UInt32 → UInt32
  | .x, v, w, k => v - mixW w k
  | .m, v, w, k => v ^^^ gW w k
  | .r, v, w, k => rolI (v - k) (-((w.toNat % 32 : Nat) : Int)) ^^^ w
theorem xor_xor (a b : UInt32) : a ^^^ b ^^^ b = a := by rw [UInt32.xor_assoc, UInt32.xor_self, UInt32.xor_zero]
theorem unmade_made (t : T3) (v w k : UInt32) : unmadeW t (madeW t v w k) w k = v := by
  cases t
  · exact UInt32.add_sub_cancel _ _
  · exact xor_xor _ _
  · simp only [unmadeW, madeW]
    rw [UInt32.add_sub_cancel, rolI_back, xor_xor]
theorem made_unmade (t : T3) (v w k : UInt32) : madeW t (unmadeW t v w k) w k = v := by
  cases t
  · exact UInt32.sub_add_cancel _ _
  · exact xor_xor _ _
  · simp only [unmadeW, madeW]
    rw [xor_xor, rolI_there, UInt32.sub_add_cancel]
/-- Behind i steps. -/
def fwd (t : T3) (ks : List UInt32) (x : W2) : Nat → W2
  | 0 => x
  | i + 1 => ⟨(fwd t ks x i).b, madeW t (fwd t ks x i).a (fwd t ks x i).b (ks.getD i 0)⟩
/-- Behind i steps back, of n. -/
def bwd (t : T3) (ks : List UInt32) (n : Nat) (x : W2) : Nat → W2
  | 0 => x
  | i + 1 => ⟨unmadeW t (bwd t ks n x i).b (bwd t ks n x i).a (ks.getD (n - 1 - i) 0), (bwd t ks n x i).a⟩
theorem bwd_fwd (t : T3) (ks : List UInt32) (n : Nat) (x : W2) : ∀ i, i ≤ n → bwd t ks n (fwd t ks x n) i = fwd t ks x (n - i)
  | 0, _ => rfl
  | i + 1, h => by
    have ih := bwd_fwd t ks n x i (by omega)
    rw [bwd, ih]
    obtain ⟨m, hm⟩ : ∃ m, n - i = m + 1 := ⟨n - i - 1, by omega⟩
    rw [hm, show n - 1 - i = m by omega, show n - (i + 1) = m by omega]
    simp only [fwd]
    rw [unmade_made]
theorem fwd_bwd (t : T3) (ks : List UInt32) (n : Nat) (y : W2) : ∀ i, i ≤ n → fwd t ks (bwd t ks n y n) i = bwd t ks n y (n - i)
  | 0, _ => rfl
  | i + 1, h => by
    have ih := fwd_bwd t ks n y i (by omega)
    rw [fwd, ih]
    obtain ⟨m, hm⟩ : ∃ m, n - i = m + 1 := ⟨n - i - 1, by omega⟩
    rw [hm, show n - (i + 1) = m by omega]
    simp only [bwd]
    rw [show n - 1 - m = i by omega, made_unmade]
def crs : T3 → W2 → W2
  | .m, x => ⟨x.b, x.a⟩
  | _, x => x
theorem crs_crs (t : T3) (x : W2) : crs t (crs t x) = x := by cases t <;> rfl
def thereW (t : T3) (ah : W2) (ks : List UInt32) (x : W2) : W2 := crs t (fwd t ks ⟨x.a + ah.a, x.b + ah.b⟩ ks.length)
def backW (t : T3) (ah : W2) (ks : List UInt32) (x : W2) : W2 := ⟨(bwd t ks ks.length (crs t x) ks.length).a - ah.a, (bwd t ks ks.length (crs t x) ks.length).b - ah.b⟩
theorem back_there (t : T3) (ah : W2) (ks : List UInt32) (x : W2) : backW t ah ks (thereW t ah ks x) = x := by
  unfold backW thereW
  rw [crs_crs, bwd_fwd t ks _ _ _ (Nat.le_refl _), Nat.sub_self, fwd]
  simp only [UInt32.add_sub_cancel]
theorem there_back (t : T3) (ah : W2) (ks : List UInt32) (x : W2) : thereW t ah ks (backW t ah ks x) = x := by
  unfold backW thereW
  simp only [UInt32.sub_add_cancel]
  have h := fwd_bwd t ks ks.length (crs t x) ks.length (Nat.le_refl _)
  rw [Nat.sub_self, bwd] at h
  have e : (⟨(bwd t ks ks.length (crs t x) ks.length).a, (bwd t ks ks.length (crs t x) ks.length).b⟩ : W2) = bwd t ks ks.length (crs t x) ks.length := rfl
  rw [e, h, crs_crs]
/-- A word of four bytes, and its bytes. -/
def wd (t : T3) (l : List UInt8) : UInt32 := UInt32.ofNat (match t with | .r => (le l 4 4).toNat | _ => (be l 4).toNat)
def put (t : T3) (v : UInt32) : List UInt8 := match t with | .r => putL32 v.toNat | _ => put32 v.toNat
theorem put_length (t : T3) (v : UInt32) : (put t v).length = 4 := by cases t <;> rfl
theorem wd_be (l : List UInt8) (t : T3) (h : t ≠ .r) : ((wd t l).toNat : Int) = be l 4 := by
  have hr := be4_range l
  have e : wd t l = UInt32.ofNat (be l 4).toNat := by
    cases t
    · simp only [wd]
    · simp only [wd]
    · exact absurd rfl h
  rw [e, toNat_ofNat_lt (by omega)]
  omega
theorem wd_le (l : List UInt8) : ((wd .r l).toNat : Int) = le l 4 4 := by
  have hr := le4_range l
  have e : wd .r l = UInt32.ofNat (le l 4 4).toNat := by simp only [wd]
  rw [e, toNat_ofNat_lt (by omega)]
  omega
theorem put_be (v : UInt32) (t : T3) (h : t ≠ .r) : put t v = put32 v.toNat := by
  cases t
  · simp only [put]
  · simp only [put]
  · exact absurd rfl h
theorem byte_u8 (a b c d : Int) : byteAt [u8 a, u8 b, u8 c, u8 d] 0 = a % 256 ∧ byteAt [u8 a, u8 b, u8 c, u8 d] 1 = b % 256 ∧ byteAt [u8 a, u8 b, u8 c, u8 d] 2 = c % 256 ∧ byteAt [u8 a, u8 b, u8 c, u8 d] 3 = d % 256 :=
  ⟨u8_toNat a, u8_toNat b, u8_toNat c, u8_toNat d⟩
theorem wd_put (t : T3) (v : UInt32) : wd t (put t v) = v := by
  have hv := wlt v
  apply UInt32.toNat_inj.1
  have key : ((wd t (put t v)).toNat : Int) = v.toNat := by
    by_cases h : t = .r
    · subst h
      rw [wd_le, le4]
      have e : put .r v = putL32 v.toNat := rfl
      rw [e]
      unfold putL32
      obtain ⟨h0, h1, h2, h3⟩ := byte_u8 (v.toNat : Int) ((v.toNat : Int) / 256) ((v.toNat : Int) / 65536) ((v.toNat : Int) / 16777216)
      rw [h0, h1, h2, h3]; omega
    · rw [wd_be _ _ h, put_be _ _ h, be4]
      unfold put32
      obtain ⟨h0, h1, h2, h3⟩ := byte_u8 ((v.toNat : Int) / 16777216) ((v.toNat : Int) / 65536) ((v.toNat : Int) / 256) (v.toNat : Int)
      rw [h0, h1, h2, h3]; omega
  omega
theorem u8_byte (b : UInt8) (x : Int) (h : x % 256 = (b.toNat : Int)) : u8 x = b := by
  apply UInt8.toNat_inj.1
  have := u8_toNat x
  omega
theorem put_wd (t : T3) (l : List UInt8) (hl : l.length = 4) : put t (wd t l) = l := by
  match l, hl with
  | [b0, b1, b2, b3], _ =>
    have h0 := b0.toNat_lt; have h1 := b1.toNat_lt; have h2 := b2.toNat_lt; have h3 := b3.toNat_lt
    have k0 : byteAt [b0, b1, b2, b3] 0 = (b0.toNat : Int) := rfl
    have k1 : byteAt [b0, b1, b2, b3] 1 = (b1.toNat : Int) := rfl
    have k2 : byteAt [b0, b1, b2, b3] 2 = (b2.toNat : Int) := rfl
    have k3 : byteAt [b0, b1, b2, b3] 3 = (b3.toNat : Int) := rfl
    by_cases h : t = .r
    · subst h
      have e : put .r (wd .r [b0, b1, b2, b3]) = putL32 (wd .r [b0, b1, b2, b3]).toNat := rfl
      rw [e]
      unfold putL32
      rw [wd_le, le4, k0, k1, k2, k3]
      rw [u8_byte b0 _ (by omega), u8_byte b1 _ (by omega), u8_byte b2 _ (by omega), u8_byte b3 _ (by omega)]
    · rw [put_be _ _ h]
      unfold put32
      rw [wd_be _ _ h, be4, k0, k1, k2, k3]
      rw [u8_byte b0 _ (by omega), u8_byte b1 _ (by omega), u8_byte b2 _ (by omega), u8_byte b3 _ (by omega)]
/-- Four bytes of some, from four times i on. -/
def part (bs : List UInt8) (i : Nat) : List UInt8 := (bs.drop (4 * i)).take 4
def inW (t : T3) (b : List UInt8) : W2 := ⟨wd t (part b 0), wd t (part b 1)⟩
def outW (t : T3) (x : W2) : List UInt8 := put t x.a ++ put t x.b
theorem outW_length (t : T3) (x : W2) : (outW t x).length = 8 := by simp [outW, put_length]
theorem in_out (t : T3) (x : W2) : inW t (outW t x) = x := by
  have h1 : part (outW t x) 0 = put t x.a := by
    unfold part outW
    rw [show 4 * 0 = 0 from rfl, List.drop_zero, List.take_append_of_le_length (by rw [put_length]; omega), List.take_of_length_le (by rw [put_length]; omega)]
  have h2 : part (outW t x) 1 = put t x.b := by
    unfold part outW
    rw [List.drop_append_of_le_length (by rw [put_length]; omega), List.drop_eq_nil_of_le (by rw [put_length]; omega), List.nil_append, List.take_of_length_le (by rw [put_length]; omega)]
  unfold inW
  rw [h1, h2, wd_put, wd_put]
theorem out_in (t : T3) (b : List UInt8) (hb : b.length = 8) : outW t (inW t b) = b := by
  unfold outW inW
  rw [put_wd t _ (by simp [part]; omega), put_wd t _ (by simp [part]; omega)]
  unfold part
  rw [show 4 * 0 = 0 from rfl, List.drop_zero, show 4 * 1 = 4 from rfl, List.take_of_length_le (l := b.drop 4) (by simp; omega)]
  exact List.take_append_drop 4 b
/-- The keys of the three. -/
def gold : UInt32 := 0x9E3779B9
def sumX (i : Nat) : UInt32 := UInt32.ofNat (i * 2654435769)
theorem sumX_succ (i : Nat) : sumX (i + 1) = sumX i + gold := by
  unfold sumX gold
  apply UInt32.toNat_inj.1
  rw [UInt32.toNat_add, UInt32.toNat_ofNat', UInt32.toNat_ofNat']
  have : (0x9E3779B9 : UInt32).toNat = 2654435769 := rfl
  rw [this]
  omega
def keyX (k : Nat → UInt32) (j : Nat) : UInt32 := if j % 2 = 0 then sumX (j / 2) + k ((sumX (j / 2)).toNat % 4) else sumX (j / 2 + 1) + k ((sumX (j / 2 + 1)).toNat / 2048 % 4)
def keyM (k : Nat → UInt32) (j : Nat) : UInt32 := if j < 24 then k (j % 8) else k (31 - j)
structure R5 where
  s : List UInt32
  l : List UInt32
  a : UInt32
  b : UInt32
deriving DecidableEq
def rcA (z : R5) (n : Nat) : UInt32 := rolI (z.s.getD (n % 26) 0 + z.a + z.b) 3
def rcB (z : R5) (n : Nat) (a : UInt32) : UInt32 := rolI (z.l.getD (n % 4) 0 + a + z.b) ((a + z.b).toNat % 32 : Nat)
def rcStep (n : Nat) (z : R5) : R5 := ⟨z.s.set (n % 26) (rcA z n), z.l.set (n % 4) (rcB z n (rcA z n)), rcA z n, rcB z n (rcA z n)⟩
def rcAt (z : R5) : Nat → R5
  | 0 => z
  | n + 1 => rcStep n (rcAt z n)
def rc0 (i : Nat) : UInt32 := 0xB7E15163 + UInt32.ofNat i * gold
def rcBegin (l : List UInt32) : R5 := ⟨(List.range 26).map rc0, l, 0, 0⟩
theorem rcAt_len (l : List UInt32) : ∀ n, (rcAt (rcBegin l) n).s.length = 26 ∧ (rcAt (rcBegin l) n).l.length = l.length
  | 0 => ⟨rfl, rfl⟩
  | n + 1 => by simp [rcAt, rcStep, rcAt_len l n]
def kw (t : T3) (key : List UInt8) (i : Nat) : UInt32 := wd t (part key i)
def words (t : T3) (bs : List UInt8) (n : Nat) : List UInt32 := (List.range n).map (kw t bs)
theorem words_length (t : T3) (bs : List UInt8) (n : Nat) : (words t bs n).length = n := by simp [words]
theorem words_get (t : T3) (bs : List UInt8) (n j : Nat) (h : j < n) : (words t bs n).getD j 0 = kw t bs j := by simp [words, h]
def rc5S (key : List UInt8) : List UInt32 := (rcAt (rcBegin (words .r key 4)) 78).s
theorem rc5S_length (key : List UInt8) : (rc5S key).length = 26 := (rcAt_len _ 78).1
def nKeys : T3 → Nat
  | .x => 64
  | .m => 32
  | .r => 24
def keysOf : T3 → List UInt8 → List UInt32
  | .x, key => (List.range 64).map (keyX (kw .x key))
  | .m, key => (List.range 32).map (keyM (kw .m key))
  | .r, key => (rc5S key).drop 2
theorem keysOf_length (t : T3) (key : List UInt8) : (keysOf t key).length = nKeys t := by
  cases t <;> simp [keysOf, nKeys, rc5S_length]
def aheadOf : T3 → List UInt8 → W2
  | .r, key => ⟨(rc5S key).getD 0 0, (rc5S key).getD 1 0⟩
  | _, _ => ⟨0, 0⟩
def turnW (t : T3) (key : List UInt8) (back : Bool) (x : W2) : W2 := if back then backW t (aheadOf t key) (keysOf t key) x else thereW t (aheadOf t key) (keysOf t key) x
/-- A block. -/
def blockL (t : T3) (key : List UInt8) (back : Bool) (b : List UInt8) : List UInt8 := outW t (turnW t key back (inW t b))
theorem blockL_length (t : T3) (key : List UInt8) (back : Bool) (b : List UInt8) : (blockL t key back b).length = 8 := outW_length _ _
theorem block_back (t : T3) (key : List UInt8) (back : Bool) (b : List UInt8) (hb : b.length = 8) : blockL t key (!back) (blockL t key back b) = b := by
  unfold blockL
  rw [in_out]
  have h : turnW t key (!back) (turnW t key back (inW t b)) = inW t b := by
    cases back
    · exact back_there _ _ _ _
    · exact there_back _ _ _ _
  rw [h, out_in t b hb]
theorem block_inj (t : T3) (key : List UInt8) (back : Bool) {b c : List UInt8} (hb : b.length = 8) (hc : c.length = 8) : blockL t key back b = blockL t key back c ↔ b = c :=
  ⟨fun h => by rw [← block_back t key back b hb, h, block_back t key back c hc], fun h => by rw [h]⟩
end Go.Proofs.YtgkfohgeelfceaaDoor
