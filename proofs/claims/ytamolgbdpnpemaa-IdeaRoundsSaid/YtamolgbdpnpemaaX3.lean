/- Walks over numbers of two bytes; own lemmas of the verifier, no statement is proved here. -/
import Derived.Test.YtamolgbdpnpemaaX2
import Derived.Deep.WholeRow
import Derived.RegionTactic
namespace Go.Proofs.Ytamolgbdpnpemaa
open Go.RowKit
theorem Try.info3 : (Try.prog.info? 3).map (fun i => (i.zero, i.size, i.bytes)) = some (some (.int .i64 0), 1, 8) := by kernel_rfl
/-- Byte number k, as a number. -/
def nb (bs : List UInt8) (k : Nat) : Nat := (bs.getD k 0).toNat
theorem byteAt_nb (bs : List UInt8) (k : Nat) : byteAt bs k = (nb bs k : Nat) := rfl
theorem nb_lt (bs : List UInt8) (k : Nat) : nb bs k < 256 := (bs.getD k 0).toNat_lt
/-- A table of numbers. -/
def tabN (f : Nat → Nat) (n : Nat) : List Int := (List.range n).map fun i => ((f i : Nat) : Int)
theorem tabN_length (f : Nat → Nat) (n : Nat) : (tabN f n).length = n := by simp [tabN]
theorem tabN_get (f : Nat → Nat) (n j : Nat) (h : j < n) : (tabN f n).getD j 0 = (f j : Nat) := by simp [tabN, List.getD, h]
theorem tabN_congr {f g : Nat → Nat} {n : Nat} (h : ∀ i, i < n → f i = g i) : tabN f n = tabN g n := by
  unfold tabN
  exact List.map_congr_left fun i hi => by rw [h i (List.mem_range.1 hi)]
def fillN (f : Nat → Nat) (n k : Nat) : List Int := (List.range n).map fun i => if i < k then ((f i : Nat) : Int) else 0
theorem fillN_length (f : Nat → Nat) (n k : Nat) : (fillN f n k).length = n := by simp [fillN]
theorem fillN_zero (f : Nat → Nat) (n : Nat) : fillN f n 0 = List.replicate n 0 := by
  apply List.ext_getElem <;> simp [fillN]
theorem fillN_full (f : Nat → Nat) (n : Nat) : fillN f n n = tabN f n := by
  apply List.ext_getElem
  · simp [fillN, tabN]
  · intro i h1 h2
    have : i < n := by simpa [fillN] using h1
    simp [fillN, tabN, this]
theorem fillN_set (f : Nat → Nat) (n k : Nat) (y : Int) (hy : y = (f k : Nat)) : (fillN f n k).set k y = fillN f n (k + 1) := by
  subst hy
  apply List.ext_getElem
  · simp [fillN]
  · intro i h1 h2
    simp only [fillN, List.getElem_set, List.getElem_map, List.getElem_range]
    by_cases h : k = i
    · subst h; simp
    · rw [if_neg h]
      by_cases h' : i < k
      · rw [if_pos h', if_pos (by omega)]
      · rw [if_neg h', if_neg (by omega)]
/-- Number j of two bytes each. -/
def numF (bs : List UInt8) (j : Nat) : Nat := 256 * nb bs (2 * j) + nb bs (2 * j + 1)
theorem numF_lt (bs : List UInt8) (j : Nat) : numF bs j < 65536 := by
  unfold numF
  have := nb_lt bs (2 * j)
  have := nb_lt bs (2 * j + 1)
  omega
theorem i64_or_nat (a b : Nat) (ha : a < 2 ^ 63) (hb : b < 2 ^ 63) : bits .or .i64 (a : Int) (b : Int) = ((a ||| b : Nat) : Int) := by
  have e0 : bits .or .i64 (a : Int) (b : Int) = IntKind.i64.wrap ((BitVec.ofInt 64 (a : Int) ||| BitVec.ofInt 64 (b : Int)).toNat : Int) := rfl
  have h : a ||| b < 2 ^ 63 := Nat.or_lt_two_pow ha hb
  have e : (BitVec.ofInt 64 (a : Int) ||| BitVec.ofInt 64 (b : Int)).toNat = a ||| b := by
    rw [BitVec.toNat_or, BitVec.toNat_ofInt, BitVec.toNat_ofInt]
    have h1 : ((a : Int) % ((2 ^ 64 : Nat) : Int)).toNat = a := by omega
    have h2 : ((b : Int) % ((2 ^ 64 : Nat) : Int)).toNat = b := by omega
    rw [h1, h2]
  rw [e0, e]
  simp [IntKind.wrap, IntKind.bits, IntKind.signed]
  omega
theorem or_pair {x y : Nat} (hx : x < 256) (hy : y < 256) : bits .or .i64 ((x : Int) * 256) (y : Int) = (x : Int) * 256 + y := by
  have e : (x : Int) * 256 = ((256 * x : Nat) : Int) := by omega
  rw [e, i64_or_nat _ _ (by omega) (by omega)]
  have h1 : 256 * x ||| y = 256 * x + y := by
    rw [show (256 : Nat) = 2 ^ 8 from rfl, ← Nat.two_pow_add_eq_or_of_lt (show y < 2 ^ 8 by omega)]
  rw [h1]
  omega
set_option maxHeartbeats 2000000 in
theorem numbers_any (A : Option Addr) (m c : Nat) (bs : List UInt8) (w : World) (h : Rd w w.heap.size A (2 * m) bs) (hm : m ≤ 1000) :
    Calls Try.prog 19 #[.slice A (2 * m : Nat) c] w fun e w' => e = .returned (.slice (some ⟨w.heap.size, 0, none⟩) m m) ∧ OwnN .i64 3 w' w.heap.size (.slice (some ⟨w.heap.size, 0, none⟩) m m) (tabN (numF bs) m) ∧ Below w.heap.size w w' := by
  have h2 : ((2 * m : Nat) : Int) / 2 = (m : Int) := by omega
  go_enter Try.func19, Try.ntmps19
  go_wp2_with (at_make; refine wpL_makeN rfl (.tmp 7) (.tmp 7) 25 rfl Try.underlying25 8 Try.info3 .i64 m m rfl rfl rfl (by omega) (by unfold maxLen; omega) w.heap.size (Nat.le_refl _) ?_; intro w1 hown1 hb1)
  go_loopw [11] (fun i wr => ∃ k : Nat, k ≤ m ∧ i = .int .i64 k ∧ OwnN .i64 3 wr w.heap.size (.slice (some ⟨w.heap.size, 0, none⟩) m m) (fillN (numF bs) m k) ∧ Below w.heap.size w wr) (fun i _ => m - (intOf i).toNat)
  case atStart => exact ⟨0, Nat.zero_le _, rfl, by rw [fillN_zero]; exact hown1, hb1⟩
  case round =>
    obtain ⟨k, hk, rfl, hown, hb⟩ := hrel
    by_cases hlt : k < m
    · obtain ⟨b1, o1, rfl, hb1', hc1⟩ := (h.below hb (Nat.le_refl _)).at_ (by omega)
      have hck1 := hc1 (2 * k) (by omega)
      have hck2 := hc1 (2 * k + 1) (by omega)
      rw [byteAt_nb] at hck1 hck2
      have r1 := nb_lt bs (2 * k)
      have r2 := nb_lt bs (2 * k + 1)
      have HV := hid (show ((numF bs k : Nat) : Int) = (nb bs (2 * k) : Int) * 256 + nb bs (2 * k + 1) by unfold numF; omega)
      obtain ⟨x, hx⟩ : ∃ x, nb bs (2 * k) = x := ⟨_, rfl⟩
      obtain ⟨y, hy⟩ : ∃ y, nb bs (2 * k + 1) = y := ⟨_, rfl⟩
      rw [hx] at hck1 r1 HV
      rw [hy] at hck2 r2 HV
      have hor := or_pair r1 r2
      have hl := fillN_length (numF bs) m k
      have hcell := hown.celln hl k hlt
      have hfree := hown.free k
      have hset := hown.setn hl k ((x : Int) * 256 + y)
      rw [fillN_set _ _ _ _ HV.out.symm] at hset
      have HH := hid hset
      have HB := hid hb
      clear hset hown hb hown1 hb1 h hc1 hx hy hl HV
      go_wp2_with fail
      go_region
      go_wp2_with fail
      go_roundw
      case rel => exact ⟨k + 1, by omega, by go_num, HH.out, (HB.out.setCell (by simp) _).drew⟩
      case measure => simp [intOf]; omega
    · obtain rfl : k = m := by omega
      have HH := hid (And.intro hown hb)
      clear hown hb hown1 hb1
      go_wp2_with fail
      go_ret
      exact ⟨rfl, by have := HH.out.1; rw [fillN_full] at this; exact this, HH.out.2⟩
end Go.Proofs.Ytamolgbdpnpemaa
