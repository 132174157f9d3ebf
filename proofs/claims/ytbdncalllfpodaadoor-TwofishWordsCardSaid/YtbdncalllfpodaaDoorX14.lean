/- Walk over slices.Reverse of words; own lemmas of the verifier, no statement is proved here. -/
import Derived.Test.YtbdncalllfpodaaDoorX13
import Derived.RegionTactic
namespace Go.Proofs.YtbdncalllfpodaaDoor
open Go.RowKit
theorem grown_set (w : World) (g j : Nat) (x : Value) : w.grownBy (w.setCell ⟨g, j, none⟩ x) (some g) :=
  ⟨rfl, rfl, rfl, by simp, fun k _ hk => heap_setCell_other w ⟨g, j, none⟩ k x (fun e => hk (by rw [e]))⟩
theorem grown_trans {a b c : World} {g : Nat} (h : a.grownBy b (some g)) (k : b.grownBy c (some g)) : a.grownBy c (some g) :=
  ⟨k.os.trans h.os, k.tape.trans h.tape, k.output.trans h.output, Nat.le_trans h.size k.size, fun i hi hne => (k.block i (Nat.lt_of_lt_of_le hi h.size) hne).trans (h.block i hi hne)⟩
theorem grown_drew {a b : World} {g : Option Nat} (h : a.grownBy b g) : a.grownBy b.drew g := ⟨h.os, h.tape, h.output, h.size, h.block⟩
/-- Turned about, so far. -/
def revS (n : Nat) (ks : List UInt32) : Nat → List UInt32
  | 0 => ks
  | i + 1 => ((revS n ks i).set i ((revS n ks i).getD (n - 1 - i) 0)).set (n - 1 - i) ((revS n ks i).getD i 0)
theorem revS_length (n : Nat) (ks : List UInt32) : ∀ i, (revS n ks i).length = ks.length
  | 0 => rfl
  | i + 1 => by simp [revS, revS_length n ks i]
theorem revS_full (n : Nat) (ks : List UInt32) (h : ks.length = n) (h2 : 2 ≤ n) (h4 : n ≤ 4) : revS n ks (n / 2) = ks.reverse := by
  rcases (show n = 2 ∨ n = 3 ∨ n = 4 by omega) with rfl | rfl | rfl
  · match ks, h with
    | [a, b], _ => rfl
  · match ks, h with
    | [a, b, c], _ => rfl
  · match ks, h with
    | [a, b, c, d], _ => rfl
set_option maxRecDepth 100000 in
set_option maxHeartbeats 2000000 in
theorem reverse_w (g c n base : Nat) (ks : List UInt32) (w : World) (hb : OwnW w base (.slice (some ⟨g, 0, none⟩) n c) ks) (hl : ks.length = n) (h2 : 2 ≤ n) (h4 : n ≤ 4) :
    Calls Tryd.prog 27 #[.slice (some ⟨g, 0, none⟩) n c] w fun e w' => e = .returned (.tuple #[]) ∧ OwnW w' base (.slice (some ⟨g, 0, none⟩) n c) ks.reverse ∧ w.grownBy w' (some g) := by
  have HB := hid hb
  clear hb
  go_enter Tryd.func27, Tryd.ntmps27
  go_wp2_with fail
  go_loopw [2, 3] (fun i j wr => ∃ k : Nat, k ≤ n / 2 ∧ i = .int .i64 k ∧ j = .int .i64 ((n : Int) - 1 - k) ∧ OwnW wr base (.slice (some ⟨g, 0, none⟩) n c) (revS n ks k) ∧ w.grownBy wr (some g)) (fun i _ _ => 4 - (intOf i).toNat)
  case atStart => exact ⟨0, by omega, rfl, by simp, HB.out, ⟨rfl, rfl, rfl, Nat.le_refl _, fun _ _ _ => rfl⟩⟩
  case round =>
    obtain ⟨k, hk, rfl, rfl, hb, hg⟩ := hrel
    have hlen := revS_length n ks k
    rw [hl] at hlen
    by_cases hlt : k < n / 2
    · have hc1 := OwnN.celln hb (by rw [nW_length]; exact hlen) k (by omega)
      have hc2 := OwnN.celln hb (by rw [nW_length]; exact hlen) (n - 1 - k) (by omega)
      have hf1 := OwnN.free hb k
      have hf2 := OwnN.free hb (n - 1 - k)
      rw [nW_get _ _ (by omega)] at hc1 hc2
      obtain ⟨x, hx⟩ : ∃ x, (revS n ks k).getD k 0 = x := ⟨_, rfl⟩
      obtain ⟨y, hy⟩ : ∃ y, (revS n ks k).getD (n - 1 - k) 0 = y := ⟨_, rfl⟩
      have hst : revS n ks (k + 1) = ((revS n ks k).set k y).set (n - 1 - k) x := by rw [revS, hx, hy]
      have hbn := OwnW.set_ (OwnW.set_ hb hlen k y) (by rw [List.length_set]; exact hlen) (n - 1 - k) x
      rw [← hst] at hbn
      rw [hx] at hc1
      rw [hy] at hc2
      have HBN := hid hbn
      have HG := hid hg
      obtain ⟨m, hm⟩ : ∃ m, n - 1 - k = m := ⟨_, rfl⟩
      rw [hm] at hc2 hf2 HBN
      rw [show (n : Int) - 1 - (k : Int) = (m : Int) by omega]
      have HM := hid hm
      have hkm : (k : Int) < (m : Int) := by omega
      have hne : ¬ k = m := by omega
      have hne2 : ¬ m = k := by omega
      have hk8 : k < n := by omega
      have hm8 : m < n := by omega
      clear hb hg hx hy hst hbn hlen hm
      go_wp2_with fail
      go_region
      go_wp2_with fail
      go_roundw
      case rel => exact ⟨k + 1, by omega, by go_num, by have := HM.out; go_num, HBN.out, (grown_drew (grown_trans (grown_trans HG.out (grown_set _ _ _ _)) (grown_set _ _ _ _)))⟩
      case measure => simp [intOf]; omega
    · obtain rfl : k = n / 2 := by omega
      rw [revS_full n ks hl h2 h4] at hb
      have HH := hid (And.intro hb hg)
      have hnk : ¬ (((n / 2 : Nat) : Int) < (n : Int) - 1 - ((n / 2 : Nat) : Int)) := by omega
      clear hb hg
      go_wp2_with fail
      exact bodyPost_end (results_none rfl _ _ _) rfl ⟨rfl, HH.out.1, HH.out.2⟩
end Go.Proofs.YtbdncalllfpodaaDoor
