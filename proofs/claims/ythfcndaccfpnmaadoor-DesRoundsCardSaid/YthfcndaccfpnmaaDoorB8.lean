/- Plain facts on tables of bits, orders and what undoes them; own lemmas of the verifier, no statement is proved here. -/
import Derived.Test.YthfcndaccfpnmaaDoorB5
namespace Go.Proofs.YthfcndaccfpnmaaDoor
open Go.RowKit
theorem quietSame {P : Program} {f : FuncId} {args : Array Value} {w : World} {n : Nat} {v : Value}
    (h : Calls P f args (w.drewN n) fun e w' => e = .returned v ∧ w.drewN n = w') : Calls P f args (w.drewN n) fun e w'' => e = .returned v ∧ ∃ m, w'' = w.drewN m :=
  h.mono fun _ _ ⟨he, hm⟩ => ⟨he, n, hm.symm⟩
/-- 1 to n. -/
def upL (n : Nat) : List Int := (List.range n).map fun (i : Nat) => (i : Int) + 1
theorem upL_length (n : Nat) : (upL n).length = n := by simp [upL]
theorem getD_eq {α : Type} (l : List α) (i : Nat) (d : α) (h : i < l.length) : l.getD i d = l[i] := by simp [List.getD, List.getElem?_eq_getElem h]
theorem list_ext {l m : List Int} {n : Nat} (hl : l.length = n) (hm : m.length = n) (h : ∀ i, i < n → l.getD i 0 = m.getD i 0) : l = m := by
  apply List.ext_getElem (by omega)
  intro i h1 h2
  have := h i (by omega)
  rwa [getD_eq _ _ _ h1, getD_eq _ _ _ h2] at this
/-- Each of 1 to n once. -/
structure IsPerm (n : Nat) (ts : List Int) : Prop where
  len : ts.length = n
  lo : ∀ j, j < n → 1 ≤ ts.getD j 0
  hi : ∀ j, j < n → ts.getD j 0 ≤ n
  inj : ∀ i j, i < n → j < n → ts.getD i 0 = ts.getD j 0 → i = j
  onto : ∀ i : Nat, i < n → ∃ j, j < n ∧ ts.getD j 0 = (i : Int) + 1
theorem upL_nodup (n : Nat) : (upL n).Nodup := by
  unfold upL
  rw [List.Nodup, List.pairwise_map]
  exact List.nodup_range.imp fun h e => h (by omega)
theorem mem_upL {n : Nat} {x : Int} : x ∈ upL n ↔ 1 ≤ x ∧ x ≤ n := by
  unfold upL
  rw [List.mem_map]
  constructor
  · rintro ⟨i, hi, rfl⟩
    have := List.mem_range.1 hi
    omega
  · intro h
    exact ⟨(x - 1).toNat, List.mem_range.2 (by omega), by omega⟩
theorem isPerm_of {n : Nat} {ts : List Int} (h : ts.Perm (upL n)) : IsPerm n ts := by
  have hl : ts.length = n := by rw [h.length_eq, upL_length]
  have hm : ∀ j, j < n → ts.getD j 0 ∈ ts := fun j hj => by rw [getD_eq _ _ _ (by omega)]; exact List.getElem_mem _
  have hnd : ts.Nodup := h.nodup_iff.2 (upL_nodup n)
  refine ⟨hl, fun j hj => (mem_upL.1 (h.mem_iff.1 (hm j hj))).1, fun j hj => (mem_upL.1 (h.mem_iff.1 (hm j hj))).2, ?_, ?_⟩
  · intro i j hi hj he
    rw [getD_eq _ _ _ (by omega), getD_eq _ _ _ (by omega)] at he
    have hp := List.pairwise_iff_getElem.1 hnd
    rcases Nat.lt_trichotomy i j with h1 | h1 | h1
    · exact absurd he (hp i j (by omega) (by omega) h1)
    · exact h1
    · exact absurd he.symm (hp j i (by omega) (by omega) h1)
  · intro i hi
    have : (i : Int) + 1 ∈ ts := h.mem_iff.2 (mem_upL.2 (by omega))
    obtain ⟨j, hj, he⟩ := List.mem_iff_getElem.1 this
    exact ⟨j, by omega, by rw [getD_eq _ _ _ hj]; exact he⟩
/-- u undoes t. -/
def Undo (n : Nat) (ts us : List Int) : Prop := ∀ i j, i < n → j < n → (ts.getD j 0 = (i : Int) + 1 ↔ us.getD i 0 = (j : Int) + 1)
theorem getD_set (l : List Int) (i j : Nat) (x : Int) (hi : i < l.length) : (l.set i x).getD j 0 = if i = j then x else l.getD j 0 := by
  simp only [List.getD, List.getElem?_set]
  split
  · rename_i h; subst h; simp
  · rfl
theorem invG_perm {n : Nat} {ts : List Int} (h : IsPerm n ts) : ∀ k, k ≤ n → ∃ out, invG ts n k = some out ∧
    ∀ i, i < n → (out.getD i 0 = 0 ∧ ∀ j, j < k → ts.getD j 0 ≠ (i : Int) + 1) ∨ ∃ j, j < k ∧ ts.getD j 0 = (i : Int) + 1 ∧ out.getD i 0 = (j : Int) + 1
  | 0, _ => ⟨_, rfl, fun i hi => .inl ⟨by rw [getD_eq _ _ _ (by simpa using hi)]; simp, fun j hj => absurd hj (by omega)⟩⟩
  | k + 1, hk => by
    obtain ⟨out, ho, hp⟩ := invG_perm h k (by omega)
    have hol := invG_len ts n k out ho
    have h1 := h.lo k (by omega)
    have h2 := h.hi k (by omega)
    obtain ⟨q, hq⟩ : ∃ q : Nat, ts.getD k 0 = (q : Int) + 1 := ⟨(ts.getD k 0 - 1).toNat, by omega⟩
    have hqn : q < n := by omega
    have hz : out.getD q 0 = 0 := by
      rcases hp q hqn with ⟨h0, _⟩ | ⟨j, hj, he, _⟩
      · exact h0
      · have := h.inj j k (by omega) (by omega) (by rw [he, hq])
        omega
    refine ⟨out.set q ((k : Int) + 1), ?_, ?_⟩
    · rw [invG, ho]
      simp only [invS]
      rw [hq, show ((q : Int) + 1 - 1).toNat = q by omega, if_neg (by omega)]
    · intro i hi
      rw [getD_set _ _ _ _ (by omega)]
      by_cases hqi : q = i
      · subst hqi
        rw [if_pos rfl]
        exact .inr ⟨k, by omega, hq, rfl⟩
      · rw [if_neg hqi]
        rcases hp i hi with ⟨h0, hn⟩ | ⟨j, hj, he, hv⟩
        · refine .inl ⟨h0, fun j hj => ?_⟩
          rcases Nat.lt_or_ge j k with hjk | hjk
          · exact hn j hjk
          · obtain rfl : j = k := by omega
            rw [hq]; omega
        · exact .inr ⟨j, by omega, he, hv⟩
theorem inv_perm {n : Nat} {ts : List Int} (h : IsPerm n ts) : ∃ us, invG ts n n = some us ∧ IsPerm n us ∧ Undo n ts us := by
  obtain ⟨us, hu, hp⟩ := invG_perm h n (Nat.le_refl n)
  have hul := invG_len ts n n us hu
  have hun : Undo n ts us := by
    intro i j hi hj
    rcases hp i hi with ⟨_, hn⟩ | ⟨k, hk, he, hv⟩
    · obtain ⟨k, hk, he⟩ := h.onto i hi
      exact absurd he (hn k hk)
    · constructor
      · intro ht
        have := h.inj j k hj hk (by rw [ht, he])
        subst this; exact hv
      · intro hv2
        have : (j : Int) = k := by omega
        have : j = k := by omega
        subst this; exact he
  have hex : ∀ i, i < n → ∃ j, j < n ∧ ts.getD j 0 = (i : Int) + 1 ∧ us.getD i 0 = (j : Int) + 1 := by
    intro i hi
    obtain ⟨j, hj, he⟩ := h.onto i hi
    exact ⟨j, hj, he, (hun i j hi hj).1 he⟩
  refine ⟨us, hu, ⟨hul, fun i hi => ?_, fun i hi => ?_, fun i k hi hk he => ?_, fun j hj => ?_⟩, hun⟩
  · obtain ⟨j, hj, _, hv⟩ := hex i hi; omega
  · obtain ⟨j, hj, _, hv⟩ := hex i hi; omega
  · obtain ⟨j, hj, e1, v1⟩ := hex i hi
    obtain ⟨j2, hj2, e2, v2⟩ := hex k hk
    have : j = j2 := by omega
    subst this
    omega
  · have h1 := h.lo j hj
    have h2 := h.hi j hj
    refine ⟨(ts.getD j 0 - 1).toNat, by omega, (hun _ j (by omega) hj).1 (by omega)⟩
theorem inv_undo {n : Nat} {ts us : List Int} (h : IsPerm n ts) (hu : IsPerm n us) (hun : Undo n ts us) : invG us n n = some ts := by
  obtain ⟨vs, hv, _, hun2⟩ := inv_perm hu
  have hvl := invG_len us n n vs hv
  rw [hv]
  congr 1
  refine list_ext hvl h.len fun i hi => ?_
  have h1 := h.lo i hi
  have h2 := h.hi i hi
  obtain ⟨j, hj⟩ : ∃ j : Nat, ts.getD i 0 = (j : Int) + 1 := ⟨(ts.getD i 0 - 1).toNat, by omega⟩
  have := (hun j i (by omega) hi).1 hj
  rw [hj]
  exact (hun2 i j hi (by omega)).1 this
/-! Bits of bytes. -/
theorem hasN_in {n : Nat} {t : Int} (h1 : 1 ≤ t) (h2 : t ≤ 8 * (n : Int)) : hasN n t = true := by
  unfold hasN
  simp only [decide_eq_true_eq]
  omega
theorem okT_in {n : Nat} {ts : List Int} (h : ∀ t ∈ ts, 1 ≤ t ∧ t ≤ 8 * (n : Int)) : okT n ts = true := by
  unfold okT
  rw [List.all_eq_true]
  exact fun t ht => hasN_in (h t ht).1 (h t ht).2
theorem IsPerm.ok {n N : Nat} {ts : List Int} (h : IsPerm N ts) (hN : N = 8 * n) : okT n ts = true := by
  apply okT_in
  intro t ht
  obtain ⟨j, hj, rfl⟩ := List.mem_iff_getElem.1 ht
  have h1 := h.lo j (by have := h.len; omega)
  have h2 := h.hi j (by have := h.len; omega)
  rw [getD_eq _ _ _ hj] at h1 h2
  omega
theorem acc8 (g : Nat → Nat) (p : Nat) : acc g p 8 = 128 * g (8 * p) + 64 * g (8 * p + 1) + 32 * g (8 * p + 2) + 16 * g (8 * p + 3) + 8 * g (8 * p + 4) + 4 * g (8 * p + 5) + 2 * g (8 * p + 6) + g (8 * p + 7) := by
  simp only [acc, Nat.add_zero]
  omega
theorem acc_bit (g : Nat → Nat) (hg : ∀ q, g q ≤ 1) (p j : Nat) (hj : j < 8) : acc g p 8 / 2 ^ (7 - j) % 2 = g (8 * p + j) := by
  rw [acc8]
  have h0 := hg (8 * p); have h1 := hg (8 * p + 1); have h2 := hg (8 * p + 2); have h3 := hg (8 * p + 3)
  have h4 := hg (8 * p + 4); have h5 := hg (8 * p + 5); have h6 := hg (8 * p + 6); have h7 := hg (8 * p + 7)
  match j, hj with
  | 0, _ => simp only [Nat.add_zero, Nat.sub_zero, Nat.reducePow]; omega
  | 1, _ => simp only [Nat.reduceSub, Nat.reducePow]; omega
  | 2, _ => simp only [Nat.reduceSub, Nat.reducePow]; omega
  | 3, _ => simp only [Nat.reduceSub, Nat.reducePow]; omega
  | 4, _ => simp only [Nat.reduceSub, Nat.reducePow]; omega
  | 5, _ => simp only [Nat.reduceSub, Nat.reducePow]; omega
  | 6, _ => simp only [Nat.reduceSub, Nat.reducePow]; omega
  | 7, _ => simp only [Nat.reduceSub, Nat.reducePow]; omega
/-- Bit q of what a table takes. -/
theorem bit_permL (bs : List UInt8) (ts : List Int) (q : Nat) (hq : q / 8 < (ts.length + 7) / 8) : bitN (permL bs ts) ((q : Int) + 1) = tb bs ts q := by
  rw [bitN_in (by rw [permL_length]; exact hq)]
  have e : (permL bs ts).getD (q / 8) 0 = permF bs ts (q / 8) := by simp [permL, List.getD, hq]
  have e2 : (permF bs ts (q / 8)).toNat = acc (tb bs ts) (q / 8) 8 := by
    unfold permF
    have := u8_nat _ (acc_lt256 (tb bs ts) (tb_le bs ts) (q / 8) 8 (Nat.le_refl 8))
    omega
  rw [e, e2, acc_bit _ (tb_le bs ts) _ _ (Nat.mod_lt _ (by omega)), show 8 * (q / 8) + q % 8 = q by omega]
theorem byte_ext (x y : Nat) (hx : x < 256) (hy : y < 256) (h : ∀ j, j < 8 → x / 2 ^ (7 - j) % 2 = y / 2 ^ (7 - j) % 2) : x = y := by
  have h0 := h 0 (by omega); have h1 := h 1 (by omega); have h2 := h 2 (by omega); have h3 := h 3 (by omega)
  have h4 := h 4 (by omega); have h5 := h 5 (by omega); have h6 := h 6 (by omega); have h7 := h 7 (by omega)
  simp only [Nat.reduceSub, Nat.reducePow] at h0 h1 h2 h3 h4 h5 h6 h7
  omega
theorem ext_bits {xs ys : List UInt8} (hl : xs.length = ys.length) (h : ∀ q : Nat, q < 8 * xs.length → bitN xs ((q : Int) + 1) = bitN ys ((q : Int) + 1)) : xs = ys := by
  apply List.ext_getElem hl
  intro i h1 h2
  apply UInt8.toNat_inj.1
  refine byte_ext _ _ (UInt8.toNat_lt _) (UInt8.toNat_lt _) fun j hj => ?_
  have := h (8 * i + j) (by omega)
  rw [bitN_in (by omega), bitN_in (by omega), show (8 * i + j) / 8 = i by omega, show (8 * i + j) % 8 = j by omega, getD_eq _ _ _ h1, getD_eq _ _ _ h2] at this
  exact this
theorem tb_in {bs : List UInt8} {ts : List Int} {q : Nat} (h : q < ts.length) : tb bs ts q = bitN bs (ts.getD q 0) := by unfold tb; rw [if_pos h]
theorem perm_bound {N : Nat} {ts : List Int} (h : IsPerm N ts) : ∀ t ∈ ts, 1 ≤ t ∧ t ≤ N := by
  intro t ht
  obtain ⟨j, hj, rfl⟩ := List.mem_iff_getElem.1 ht
  have h1 := h.lo j (by have := h.len; omega)
  have h2 := h.hi j (by have := h.len; omega)
  rw [getD_eq _ _ _ hj] at h1 h2
  exact ⟨h1, h2⟩
theorem permL_back {bs : List UInt8} {ts us : List Int} {n : Nat} (hn : bs.length = n) (ht : IsPerm (8 * n) ts) (hu : IsPerm (8 * n) us) (hun : Undo (8 * n) ts us) : permL (permL bs ts) us = bs := by
  have hl : (permL (permL bs ts) us).length = bs.length := by rw [permL_length, hu.len]; omega
  refine ext_bits hl fun q hq => ?_
  rw [hl, hn] at hq
  rw [bit_permL _ _ _ (by rw [hu.len]; omega), tb_in (by rw [hu.len]; exact hq)]
  obtain ⟨j, hj, he⟩ := ht.onto q hq
  rw [(hun q j hq hj).1 he, bit_permL _ _ _ (by rw [ht.len]; omega), tb_in (by rw [ht.len]; exact hj), he]
theorem permL_two {bs : List UInt8} {ts us vs : List Int} {n : Nat} (ht : IsPerm (8 * n) ts) (hu : IsPerm (8 * n) us) (hv : vs.length = 8 * n)
    (h : ∀ i, i < 8 * n → vs.getD i 0 = ts.getD (us.getD i 0 - 1).toNat 0) : permL (permL bs ts) us = permL bs vs := by
  have hl : (permL (permL bs ts) us).length = (permL bs vs).length := by rw [permL_length, permL_length, hu.len, hv]
  refine ext_bits hl fun q hq => ?_
  rw [permL_length, hu.len] at hq
  have hq' : q < 8 * n := by omega
  rw [bit_permL _ _ _ (by rw [hu.len]; omega), tb_in (by rw [hu.len]; exact hq'), bit_permL _ _ _ (by rw [hv]; omega), tb_in (by rw [hv]; exact hq'), h q hq']
  have h1 := hu.lo q hq'
  have h2 := hu.hi q hq'
  obtain ⟨j, hj⟩ : ∃ j : Nat, us.getD q 0 = (j : Int) + 1 := ⟨(us.getD q 0 - 1).toNat, by omega⟩
  rw [hj, bit_permL _ _ _ (by rw [ht.len]; omega), tb_in (by rw [ht.len]; omega), show ((j : Int) + 1 - 1).toNat = j by omega]
theorem u8_bit (x y : UInt8) (s : Nat) : (x ^^^ y).toNat / 2 ^ s % 2 = (x.toNat / 2 ^ s % 2 + y.toNat / 2 ^ s % 2) % 2 := by
  rw [UInt8.toNat_xor, ← Nat.shiftRight_eq_div_pow, ← Nat.shiftRight_eq_div_pow, ← Nat.shiftRight_eq_div_pow, Nat.shiftRight_xor_distrib, ← nat_mask1, Nat.and_xor_distrib_right, nat_mask1, nat_mask1]
  have h1 := Nat.mod_lt (x.toNat >>> s) (show 0 < 2 by omega)
  have h2 := Nat.mod_lt (y.toNat >>> s) (show 0 < 2 by omega)
  generalize x.toNat >>> s % 2 = a at *
  generalize y.toNat >>> s % 2 = b at *
  match a, b, h1, h2 with
  | 0, 0, _, _ => rfl
  | 0, 1, _, _ => rfl
  | 1, 0, _, _ => rfl
  | 1, 1, _, _ => rfl
/-- Of a sum the bits are sums. -/
theorem permF_xor {xs bs ss : List UInt8} {ts : List Int} {n : Nat} (ha : xs.length = n) (hb : bs.length = n) (hs : ss.length = n) (h : ∀ i, i < n → ss.getD i 0 = xs.getD i 0 ^^^ bs.getD i 0) (p : Nat) :
    permF ss ts p = permF xs ts p ^^^ permF bs ts p := by
  have hbit : ∀ i, bitN ss i = (bitN xs i + bitN bs i) % 2 := by
    intro i
    unfold bitN
    rw [ha, hb, hs]
    by_cases hh : hasN n i = true
    · rw [if_pos hh, if_pos hh, if_pos hh]
      have hi : ((i - 1) / 8).toNat < n := by
        have := hh
        unfold hasN at this
        simp only [decide_eq_true_eq] at this
        omega
      rw [h _ hi, u8_bit]
    · rw [if_neg hh, if_neg hh, if_neg hh]
  have htb : ∀ q, tb ss ts q = (tb xs ts q + tb bs ts q) % 2 := by
    intro q
    unfold tb
    split
    · exact hbit _
    · rfl
  apply UInt8.toNat_inj.1
  refine byte_ext _ _ (UInt8.toNat_lt _) (UInt8.toNat_lt _) fun j hj => ?_
  have hv : ∀ ys : List UInt8, (permF ys ts p).toNat = acc (tb ys ts) p 8 := fun ys => by
    unfold permF
    have := u8_nat _ (acc_lt256 (tb ys ts) (tb_le ys ts) p 8 (Nat.le_refl 8))
    omega
  rw [u8_bit, hv, hv, hv, acc_bit _ (tb_le _ _) _ _ hj, acc_bit _ (tb_le _ _) _ _ hj, acc_bit _ (tb_le _ _) _ _ hj, htb]
end Go.Proofs.YthfcndaccfpnmaaDoor
