/- Plain facts on tables of bytes and what undoes them; own lemmas of the verifier, no statement is proved here. -/
import Derived.Test.YtpfkcplldhdipaaDoorMemN
namespace Go.Proofs.YtpfkcplldhdipaaDoor
open Go.RowKit
/-- Byte number k, as a number. -/
def nb (bs : List UInt8) (k : Nat) : Nat := (bs.getD k 0).toNat
theorem byteAt_nb (bs : List UInt8) (k : Nat) : byteAt bs k = (nb bs k : Nat) := rfl
theorem nb_lt (bs : List UInt8) (k : Nat) : nb bs k < 256 := (bs.getD k 0).toNat_lt
theorem getD_eq {α : Type} (l : List α) (i : Nat) (d : α) (h : i < l.length) : l.getD i d = l[i] := by simp [List.getD, List.getElem?_eq_getElem h]
theorem nb_ext {l m : List UInt8} {n : Nat} (hl : l.length = n) (hm : m.length = n) (h : ∀ i, i < n → nb l i = nb m i) : l = m := by
  apply List.ext_getElem (by omega)
  intro i h1 h2
  have := h i (by omega)
  unfold nb at this
  rw [getD_eq _ _ _ h1, getD_eq _ _ _ h2] at this
  exact UInt8.toNat_inj.1 this
theorem nb_set (l : List UInt8) (i j v : Nat) (hi : i < l.length) (hv : v < 256) : nb (l.set i (UInt8.ofNat v)) j = if i = j then v else nb l j := by
  unfold nb
  simp only [List.getD, List.getElem?_set]
  split
  · rename_i h; subst h; simp [UInt8.toNat_ofNat']; omega
  · rfl
theorem u8_nat (x : Nat) (h : x < 256) : ((UInt8.ofNat x).toNat : Int) = x := by
  rw [UInt8.toNat_ofNat']; omega
/-- Onto, where one to one. -/
theorem pigeon : ∀ (n : Nat) (f : Nat → Nat), (∀ i, i < n → f i < n) → (∀ i j, i < n → j < n → f i = f j → i = j) → ∀ y, y < n → ∃ x, x < n ∧ f x = y
  | 0, _, _, _, y, hy => absurd hy (by omega)
  | n + 1, f, hf, hi, y, hy => by
    by_cases hny : f n = y
    · exact ⟨n, by omega, hny⟩
    · have ih := pigeon n (fun i => if f i = n then f n else f i) (by
        intro i hin
        have h1 := hf i (by omega)
        have h2 := hf n (by omega)
        have h3 : f i = f n → i = n := hi i n (by omega) (by omega)
        show (if f i = n then f n else f i) < n
        split
        · rename_i h4
          have : f n ≠ n := fun h5 => by have := h3 (by omega); omega
          omega
        · omega) (by
        intro i j hin hjn he
        have h1 := hi i j (by omega) (by omega)
        have h2 : f i = f n → i = n := hi i n (by omega) (by omega)
        have h3 : f j = f n → j = n := hi j n (by omega) (by omega)
        split at he <;> split at he
        · exact h1 (by omega)
        · have := h3 (by omega); omega
        · have := h2 (by omega); omega
        · exact h1 he)
      by_cases hy2 : y = n
      · subst hy2
        obtain ⟨x, hx, he⟩ : ∃ x, x < y ∧ f x = y := by
          have h2 := hf y (by omega)
          obtain ⟨x, hx, he⟩ := ih (f y) (by omega)
          refine ⟨x, hx, ?_⟩
          split at he
          · assumption
          · have := hi x y (by omega) (by omega) he; omega
        exact ⟨x, by omega, he⟩
      · obtain ⟨x, hx, he⟩ := ih y (by omega)
        split at he
        · exact absurd he hny
        · exact ⟨x, by omega, he⟩
/-- Each of 0 to n less 1 once. -/
structure IsT (n : Nat) (bs : List UInt8) : Prop where
  len : bs.length = n
  lt : ∀ i, i < n → nb bs i < n
  inj : ∀ i j, i < n → j < n → nb bs i = nb bs j → i = j
theorem IsT.onto {n : Nat} {bs : List UInt8} (h : IsT n bs) : ∀ y, y < n → ∃ x, x < n ∧ nb bs x = y := pigeon n (nb bs) h.lt h.inj
theorem IsT.small {n : Nat} {bs : List UInt8} (h : IsT n bs) : n ≤ 256 := by
  rcases Nat.lt_or_ge 256 n with h1 | h1
  · obtain ⟨x, _, he⟩ := h.onto 256 h1
    have := nb_lt bs x
    omega
  · exact h1
theorem isT_onto {n : Nat} {bs : List UInt8} (hl : bs.length = n) (h : ∀ y, y < n → ∃ x, x < n ∧ nb bs x = y) : IsT n bs := by
  have hg : ∃ g : Nat → Nat, ∀ y, y < n → g y < n ∧ nb bs (g y) = y := by
    refine ⟨fun y => if hy : y < n then (h y hy).choose else 0, fun y hy => ?_⟩
    simp only [dif_pos hy]
    exact (h y hy).choose_spec
  obtain ⟨g, hg⟩ := hg
  have hs := pigeon n g (fun y hy => (hg y hy).1) (fun i j hi hj he => by rw [← (hg i hi).2, ← (hg j hj).2, he])
  refine ⟨hl, fun i hi => ?_, fun i j hi hj he => ?_⟩
  · obtain ⟨y, hy, rfl⟩ := hs i hi
    rw [(hg y hy).2]; exact hy
  · obtain ⟨y, hy, rfl⟩ := hs i hi
    obtain ⟨z, hz, rfl⟩ := hs j hj
    rw [(hg y hy).2, (hg z hz).2] at he
    rw [he]
open Classical in
noncomputable def isB (bs : List UInt8) : Bool := decide (IsT bs.length bs)
theorem isB_true {bs : List UInt8} : isB bs = true ↔ IsT bs.length bs := by simp [isB]
theorem isB_of {n : Nat} {bs : List UInt8} (h : IsT n bs) : isB bs = true := isB_true.2 (by rw [h.len]; exact h)
theorem isB_false {bs : List UInt8} (h : ¬ IsT bs.length bs) : isB bs = false := by simp [isB, h]
/-- Which bytes were met. -/
def setG (f : Nat → Nat) : Nat → List Bool
  | 0 => List.replicate 256 false
  | k + 1 => (setG f k).set (f k) true
theorem setG_length (f : Nat → Nat) : ∀ k, (setG f k).length = 256
  | 0 => by rw [setG, List.length_replicate]
  | k + 1 => by rw [setG, List.length_set, setG_length f k]
theorem setG_at (f : Nat → Nat) : ∀ k j, j < 256 → ((setG f k).getD j false = true ↔ ∃ x, x < k ∧ f x = j)
  | 0, j, hj => by
    rw [setG, List.getD, List.getElem?_replicate, if_pos hj]
    constructor
    · intro h; cases h
    · rintro ⟨x, hx, _⟩; omega
  | k + 1, j, hj => by
    rw [setG]
    have hl := setG_length f k
    have ih := setG_at f k j hj
    simp only [List.getD, List.getElem?_set] at ih ⊢
    split
    · rename_i h
      subst h
      rw [if_pos (by rw [hl]; exact hj)]
      exact ⟨fun _ => ⟨k, by omega, rfl⟩, fun _ => rfl⟩
    · rename_i h
      rw [ih]
      constructor
      · rintro ⟨x, hx, he⟩; exact ⟨x, by omega, he⟩
      · rintro ⟨x, hx, he⟩
        refine ⟨x, ?_, he⟩
        rcases Nat.lt_or_ge x k with h1 | h1
        · exact h1
        · rw [show x = k by omega] at he; exact absurd he h
theorem setG_eq {bs : List UInt8} {n : Nat} (hl : bs.length = n) (hn : n ≤ 256) : (setG (nb bs) n == setG (fun i => i) n) = isB bs := by
  have h1 := setG_at (nb bs) n
  have h2 := setG_at (fun i => i) n
  have key : setG (nb bs) n = setG (fun i => i) n ↔ IsT bs.length bs := by
    constructor
    · intro he
      rw [hl]
      refine isT_onto hl fun y hy => ?_
      have := (h2 y (by omega)).2 ⟨y, hy, rfl⟩
      rw [← he] at this
      exact (h1 y (by omega)).1 this
    · intro hT
      rw [hl] at hT
      apply List.ext_getElem (by rw [setG_length, setG_length])
      intro j hj1 hj2
      have hj : j < 256 := by rw [setG_length] at hj1; exact hj1
      have e1 := h1 j hj
      have e2 := h2 j hj
      rw [getD_eq _ _ _ hj1] at e1
      rw [getD_eq _ _ _ hj2] at e2
      rw [Bool.eq_iff_iff, e1, e2]
      constructor
      · rintro ⟨x, hx, rfl⟩; exact ⟨_, hT.lt x hx, rfl⟩
      · rintro ⟨x, hx, rfl⟩; exact hT.onto x hx
  rw [Bool.eq_iff_iff, isB_true, beq_iff_eq, key]
/-- What undoes a table, behind k steps. -/
def backG (bs : List UInt8) (n : Nat) : Nat → List UInt8
  | 0 => List.replicate n 0
  | k + 1 => (backG bs n k).set (nb bs k) (UInt8.ofNat k)
theorem backG_length (bs : List UInt8) (n : Nat) : ∀ k, (backG bs n k).length = n
  | 0 => by simp [backG]
  | k + 1 => by rw [backG, List.length_set, backG_length bs n k]
def backL (bs : List UInt8) : List UInt8 := backG bs bs.length bs.length
theorem backL_length (bs : List UInt8) : (backL bs).length = bs.length := backG_length _ _ _
theorem backG_at {bs : List UInt8} {n : Nat} (h : IsT n bs) : ∀ k, k ≤ n → ∀ x, x < k → nb (backG bs n k) (nb bs x) = x
  | 0, _, x, hx => absurd hx (by omega)
  | k + 1, hk, x, hx => by
    have hs := h.small
    rw [backG, nb_set _ _ _ _ (by rw [backG_length]; exact h.lt k (by omega)) (by omega)]
    by_cases he : nb bs k = nb bs x
    · rw [if_pos he]; exact h.inj k x (by omega) (by omega) he
    · rw [if_neg he]
      refine backG_at h k (by omega) x ?_
      rcases Nat.lt_or_ge x k with h1 | h1
      · exact h1
      · exact absurd (by rw [show x = k by omega]) he
theorem backL_at {bs : List UInt8} {n : Nat} (h : IsT n bs) {x : Nat} (hx : x < n) : nb (backL bs) (nb bs x) = x := by
  unfold backL; rw [h.len]; exact backG_at h n (Nat.le_refl _) x hx
theorem backL_lt {bs : List UInt8} {n : Nat} (h : IsT n bs) {y : Nat} (hy : y < n) : nb (backL bs) y < n ∧ nb bs (nb (backL bs) y) = y := by
  obtain ⟨x, hx, rfl⟩ := h.onto y hy
  rw [backL_at h hx]
  exact ⟨hx, rfl⟩
theorem backL_isT {bs : List UInt8} {n : Nat} (h : IsT n bs) : IsT n (backL bs) :=
  ⟨by rw [backL_length, h.len], fun i hi => (backL_lt h hi).1, fun i j hi hj he => by rw [← (backL_lt h hi).2, ← (backL_lt h hj).2, he]⟩
theorem backL_back {bs : List UInt8} {n : Nat} (h : IsT n bs) : backL (backL bs) = bs := by
  have hB := backL_isT h
  refine nb_ext (backL_isT hB).len h.len fun i hi => ?_
  have h2 := backL_at hB (h.lt i hi)
  rw [backL_at h hi] at h2
  exact h2
noncomputable def backR (bs : List UInt8) : Option (List UInt8) := if isB bs = true then some (backL bs) else none
theorem backR_of {n : Nat} {bs : List UInt8} (h : IsT n bs) : backR bs = some (backL bs) := by unfold backR; rw [if_pos (isB_of h)]
theorem isT_nil : IsT 0 [] := ⟨rfl, fun i hi => absurd hi (by omega), fun i j hi => absurd hi (by omega)⟩
/-- A table of numbers. -/
def tabF (f : Nat → Nat) (n : Nat) : List UInt8 := (List.range n).map fun i => UInt8.ofNat (f i)
theorem tabF_length (f : Nat → Nat) (n : Nat) : (tabF f n).length = n := by simp [tabF]
theorem tabF_nb {f : Nat → Nat} {n i : Nat} (hf : f i < 256) (hi : i < n) : nb (tabF f n) i = f i := by
  unfold nb tabF
  simp [List.getD, hi, UInt8.toNat_ofNat']; omega
theorem tabF_isT {f : Nat → Nat} {n : Nat} (hn : n ≤ 256) (hf : ∀ i, i < n → f i < n) : IsT n (tabF f n) ↔ ∀ i j, i < n → j < n → f i = f j → i = j := by
  have hv : ∀ i, i < n → nb (tabF f n) i = f i := fun i hi => tabF_nb (by have := hf i hi; omega) hi
  constructor
  · intro h i j hi hj he
    exact h.inj i j hi hj (by rw [hv i hi, hv j hj, he])
  · intro h
    exact ⟨tabF_length f n, fun i hi => by rw [hv i hi]; exact hf i hi, fun i j hi hj he => h i j hi hj (by rw [← hv i hi, ← hv j hj, he])⟩
/-- An order of 0 to n less 1, behind k swaps. -/
def swapB (l : List UInt8) (j k : Nat) : List UInt8 := (l.set j (l.getD k 0)).set k (l.getD j 0)
theorem swapB_length (l : List UInt8) (j k : Nat) : (swapB l j k).length = l.length := by simp [swapB]
def tabG (n : Nat) (ns : List Int) : Nat → List UInt8
  | 0 => tabF (fun i => i) n
  | k + 1 => swapB (tabG n ns k) (k % n) (ns.getD k 0 % (n : Int)).toNat
theorem tabG_length (n : Nat) (ns : List Int) : ∀ k, (tabG n ns k).length = n
  | 0 => tabF_length _ _
  | k + 1 => by rw [tabG, swapB_length, tabG_length n ns k]
def tabK (n m : Nat) : Nat := if n = 0 then 0 else min m 300
def tabL (n : Nat) (ns : List Int) : List UInt8 := tabG n ns (tabK n ns.length)
theorem tabL_length (n : Nat) (ns : List Int) : (tabL n ns).length = n := tabG_length _ _ _
theorem nb_swap {l : List UInt8} {j k : Nat} (hj : j < l.length) (hk : k < l.length) (i : Nat) : nb (swapB l j k) i = if k = i then nb l j else if j = i then nb l k else nb l i := by
  unfold nb swapB
  simp only [List.getD, List.getElem?_set, List.length_set]
  split
  · rename_i h; subst h; simp
  · split
    · rename_i h1 h; subst h; simp
    · rfl
theorem swapB_isT {n j k : Nat} {l : List UInt8} (h : IsT n l) (hj : j < n) (hk : k < n) : IsT n (swapB l j k) := by
  have hv := nb_swap (l := l) (j := j) (k := k) (by rw [h.len]; exact hj) (by rw [h.len]; exact hk)
  refine ⟨by rw [swapB_length, h.len], fun i hi => ?_, fun i i' hi hi' he => ?_⟩
  · rw [hv]
    split
    · exact h.lt j hj
    · split
      · exact h.lt k hk
      · exact h.lt i hi
  · rw [hv, hv] at he
    have q1 := h.inj j k hj hk
    have q2 := h.inj j i' hj hi'
    have q3 := h.inj k i' hk hi'
    have q4 := h.inj i j hi hj
    have q5 := h.inj i k hi hk
    have q6 := h.inj i i' hi hi'
    have q7 := h.inj k j hk hj
    split at he <;> (try split at he) <;> (try split at he) <;> (try split at he) <;> omega
theorem tabG_isT (n : Nat) (ns : List Int) (hn : 0 < n) (hn2 : n ≤ 256) : ∀ k, IsT n (tabG n ns k)
  | 0 => (tabF_isT hn2 fun i hi => hi).2 fun i j _ _ he => he
  | k + 1 => by
    have h1 := Int.emod_nonneg (ns.getD k 0) (show (n : Int) ≠ 0 by omega)
    have h2 := Int.emod_lt_of_pos (ns.getD k 0) (show (0 : Int) < n by omega)
    rw [tabG]
    exact swapB_isT (tabG_isT n ns hn hn2 k) (Nat.mod_lt _ hn) (by omega)
theorem tabL_isT (n : Nat) (ns : List Int) (hn : n ≤ 256) : IsT n (tabL n ns) := by
  unfold tabL
  rcases Nat.eq_zero_or_pos n with h | h
  · subst h; exact isT_nil
  · exact tabG_isT n ns h hn _
end Go.Proofs.YtpfkcplldhdipaaDoor
