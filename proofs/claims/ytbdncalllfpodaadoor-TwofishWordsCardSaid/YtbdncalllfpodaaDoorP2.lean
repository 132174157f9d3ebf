/- Plain facts of chapter 9: H makes two words of two, a byte of a key turns its word; own lemmas of the verifier, no statement is proved here. -/
import Derived.Test.YtbdncalllfpodaaDoorP1
namespace Go.Proofs.YtbdncalllfpodaaDoor
open Go.RowKit
/-- What undoes H's rows. -/
def unsN : List (List Nat) := [[187, 196, 237, 137], [27, 237, 191, 123], [242, 137, 123, 137], [50, 187, 27, 242]]
def unR (i j : Nat) : Nat := (unsN.getD i []).getD j 0
theorem mixR_lt : ∀ i, i < 4 → ∀ j, j < 4 → mixR i j < 256 := by decide
theorem unR_lt : ∀ i, i < 4 → ∀ j, j < 4 → unR i j < 256 := by decide
theorem un_mix : ∀ i, i < 4 → ∀ j, j < 4 → sumG 361 (unR i) (fun k => mixR k j) 4 = if j = i then 1 else 0 := by decide +kernel
theorem sum_swap {m : Nat} (hm : IsRest m) {M : Nat → Nat → Nat} {I b : Nat → Nat} (hM : ∀ i, i < 4 → ∀ j, j < 4 → M i j < 256) (hI : ∀ k, k < 4 → I k < 256) (hb : ∀ j, b j < 256) :
    sumG m I (fun k => sumG m (M k) b 4) 4 = sumG m (fun j => sumG m I (fun k => M k j) 4) b 4 := by
  have hg : ∀ i j, gm m (b i) j < 256 := fun i j => gm_lt hm (hb i) j
  have as_ : ∀ i k j, k < 4 → j < 4 → gm m (gm m (b i) (M k j)) (I k) = gm m (b i) (gm m (M k j) (I k)) := fun i k j hk hj => gm_assoc hm (hb i) (hM k hk j hj) (hI k hk)
  simp only [sumG, Nat.zero_xor]
  simp only [gm_xor_right, gm_xor_left hm (hg _ _) (hg _ _), gm_xor_left hm (xor_lt8 (hg _ _) (hg _ _)) (hg _ _), gm_xor_left hm (xor_lt8 (xor_lt8 (hg _ _) (hg _ _)) (hg _ _)) (hg _ _)]
  simp only [as_ _ 0 0 (by omega) (by omega), as_ _ 0 1 (by omega) (by omega), as_ _ 0 2 (by omega) (by omega), as_ _ 0 3 (by omega) (by omega), as_ _ 1 0 (by omega) (by omega), as_ _ 1 1 (by omega) (by omega), as_ _ 1 2 (by omega) (by omega), as_ _ 1 3 (by omega) (by omega), as_ _ 2 0 (by omega) (by omega), as_ _ 2 1 (by omega) (by omega), as_ _ 2 2 (by omega) (by omega), as_ _ 2 3 (by omega) (by omega), as_ _ 3 0 (by omega) (by omega), as_ _ 3 1 (by omega) (by omega), as_ _ 3 2 (by omega) (by omega), as_ _ 3 3 (by omega) (by omega)]
  ac_rfl
theorem sum_pick {m : Nat} {b : Nat → Nat} (i : Nat) (hi : i < 4) : ∀ row, (∀ j, j < 4 → row j = if j = i then 1 else 0) → sumG m row b 4 = b i := by
  intro row h
  have h0 := h 0 (by omega); have h1 := h 1 (by omega); have h2 := h 2 (by omega); have h3 := h 3 (by omega)
  simp only [sumG, h0, h1, h2, h3]
  rcases (show i = 0 ∨ i = 1 ∨ i = 2 ∨ i = 3 by omega) with rfl | rfl | rfl | rfl <;> simp [gm_one, gm_zero_right]
theorem mixW_inj {x y : UInt32} (h : mixW x = mixW y) : x = y := by
  refine bw_ext fun i hi => ?_
  have key : ∀ z, sumG 361 (unR i) (mixB z) 4 = bw z i := fun z => by
    have := sum_swap r361 (M := mixR) (I := unR i) mixR_lt (unR_lt i hi) (bw_lt z)
    rw [show (mixB z) = fun k => sumG 361 (mixR k) (bw z) 4 from rfl, this]
    exact sum_pick i hi _ (un_mix i hi)
  rw [← key x, ← key y]
  exact sumG_congr 4 fun j hj => by
    rw [← bw_wd4 (mixB_lt x) j hj, ← bw_wd4 (mixB_lt y) j hj]
    show bw (mixW x) j = bw (mixW y) j
    rw [h]
theorem xor_inj {a b c : UInt32} (h : a ^^^ c = b ^^^ c) : a = b := by
  have := congrArg (· ^^^ c) h
  simpa [UInt32.xor_assoc] using this
theorem hW_inj (l : List UInt32) (n : Nat) : n < 5 → ∀ x y : UInt32, hW l n x = hW l n y → x = y := by
  induction n with
  | zero =>
    intro _ x y h
    rw [hW_zero, hW_zero] at h
    unfold hEnd at h
    exact replW_inj (left := 0) (by omega) (mixW_inj h)
  | succ n ih =>
    intro hn x y h
    rw [hW_succ, hW_succ] at h
    have h2 := ih (by omega) _ _ h
    unfold hStep at h2
    exact replW_inj (left := n + 1) hn (xor_inj h2)
theorem HW_inj (l : List UInt32) (h : l.length ≤ 4) {x y : UInt32} (e : HW x l = HW y l) : x = y := by
  unfold HW at e
  exact hW_inj l l.length (by omega) x y e
theorem shr0_pos : ∀ j, j < 8 → 0 < shrR 0 j ∧ shrR 0 j < 256 := by decide
theorem f333 : IsField 333 := isField_of (by omega) (by omega) field333
theorem gm_pos {a c : Nat} (ha : a < 256) (ha0 : 0 < a) (hc : c < 256) (hc0 : 0 < c) : gm 333 a c ≠ 0 := fun h => by
  have := f333.inj (a := a) ha0 ha (x := c) (y := 0) hc (by omega) (by rw [h, gm_zero_right])
  omega
theorem nxor_self {a b : Nat} (h : a ^^^ b = 0) : a = b := by
  have := congrArg (· ^^^ b) h
  simpa [Nat.xor_assoc] using this
/-- One byte that is another one: another word. -/
theorem sum_one {b c : Nat → Nat} (hb : ∀ j, b j < 256) (hc : ∀ j, c j < 256) (p : Nat) (hp : p < 8) (hne : b p ≠ c p) (he : ∀ j, j ≠ p → b j = c j) : sumG 333 (shrR 0) b 8 ≠ sumG 333 (shrR 0) c 8 := fun h => by
  have hx := sumG_xor r333 (row := shrR 0) hb hc 8
  rw [h, Nat.xor_self] at hx
  have key : ∀ n, n ≤ 8 → sumG 333 (shrR 0) (fun j => b j ^^^ c j) n = if p < n then gm 333 (b p ^^^ c p) (shrR 0 p) else 0 := by
    intro n
    induction n with
    | zero => intro _; simp [sumG]
    | succ n ih =>
      intro hn
      rw [sumG, ih (by omega)]
      by_cases hpn : p = n
      · subst hpn; simp
      · rw [he n (fun e => hpn e.symm), Nat.xor_self, gm_zero_left, Nat.xor_zero]
        by_cases hlt : p < n
        · rw [if_pos hlt, if_pos (by omega)]
        · rw [if_neg hlt, if_neg (by omega)]
  have hk := key 8 (Nat.le_refl _)
  rw [hx, if_pos hp] at hk
  have h1 : b p ^^^ c p ≠ 0 := fun e => hne (nxor_self e)
  exact gm_pos (xor_lt8 (hb p) (hc p)) (by omega) (shr0_pos p hp).2 (shr0_pos p hp).1 hk.symm
theorem shrW_one {m n : List UInt8} (p : Nat) (hp : p < 8) (hne : m.getD p 0 ≠ n.getD p 0) (he : ∀ j, j ≠ p → m.getD j 0 = n.getD j 0) : shrW m ≠ shrW n := fun h => by
  have h0 : shrB m 0 = shrB n 0 := by
    rw [← bw_wd4 (shrB_lt m) 0 (by omega), ← bw_wd4 (shrB_lt n) 0 (by omega)]
    show bw (shrW m) 0 = bw (shrW n) 0
    rw [h]
  refine sum_one (bl_lt m) (bl_lt n) p hp (fun e => hne ?_) (fun j hj => ?_) h0
  · exact UInt8.toNat_inj.1 e
  · unfold bl; rw [he j hj]
/-- A key of noughts, a block of noughts. -/
def zK : List UInt8 := List.replicate 16 0
def zB : List UInt8 := [0x9F, 0x58, 0x9F, 0x5C, 0xF6, 0x12, 0x2C, 0x32, 0xB6, 0xBF, 0xEC, 0x2F, 0x2A, 0xE8, 0xC3, 0x5A]
set_option maxRecDepth 100000 in
theorem z_there : blockL (keysL zK) (sL zK) false zK = zB := by decide +kernel
set_option maxRecDepth 100000 in
theorem z_back : blockL (keysL zK) (sL zK) true zB = zK := by decide +kernel
theorem z_ne : zB ≠ zK := by decide
end Go.Proofs.YtbdncalllfpodaaDoor
