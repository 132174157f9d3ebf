/- The law on one byte, walked; own text of the verifier. -/
import Derived.Test.YtpfkcplldhdipaaDoorZ1
namespace Go.Proofs.YtpfkcplldhdipaaDoor
open Go.RowKit
/-- Whether Mix makes byte i of byte k. -/
def hasS (i k : Nat) : Bool := (sevT.getD i []).contains k
def hasJ (i k : Nat) : Nat → Bool
  | 0 => false
  | j + 1 => hasJ i k j || sevN i j == k
theorem hasJ_full : ∀ i < 16, ∀ k < 16, hasJ i k 7 = hasS i k := by decide +kernel
theorem hasJ_new : ∀ i < 16, ∀ j < 7, hasJ i (sevN i j) j = false := by decide +kernel
def oneL (k : Nat) (b : UInt8) : List UInt8 := z16.set k b
theorem z16_get (m : Nat) : z16.getD m 0 = 0 := by
  unfold z16
  rw [List.getD_eq_getElem?_getD, List.getElem?_replicate]
  split <;> rfl
theorem oneL_get (k : Nat) (b : UInt8) (m : Nat) (hk : k < 16) : (oneL k b).getD m 0 = if m = k then b else 0 := by
  unfold oneL
  by_cases h : m = k
  · subst h
    rw [if_pos rfl, List.getD_eq_getElem?_getD, List.getElem?_set_self (by rw [z16_length]; exact hk)]; rfl
  · rw [if_neg h, List.getD_eq_getElem?_getD, List.getElem?_set_ne (Ne.symm h), ← List.getD_eq_getElem?_getD, z16_get]
theorem one_mixK (k : Nat) (b : UInt8) (i : Nat) (hi : i < 16) (hk : k < 16) : ∀ j, j ≤ 7 → mixK (oneL k b) i j = if hasJ i k j then b else 0
  | 0, _ => rfl
  | j + 1, hj => by
    rw [mixK, one_mixK k b i hi hk j (by omega), oneL_get k b _ hk, hasJ]
    by_cases h : sevN i j = k
    · have hn := hasJ_new i hi j (by omega)
      rw [h] at hn
      simp [h, hn]
    · simp [h]
theorem one_mix (k : Nat) (b : UInt8) (i : Nat) (hi : i < 16) (hk : k < 16) : (mixL (oneL k b)).getD i 0 = if hasS i k then b else 0 := by
  have : (mixL (oneL k b)).getD i 0 = mixK (oneL k b) i 7 := by simp [mixL, mixF, List.getD_eq_getElem?_getD, hi]
  rw [this, one_mixK k b i hi hk 7 (by omega), hasJ_full i hi k hk]
/-- How many of the first i bytes are made of byte k. -/
def cntS (k : Nat) : Nat → Nat
  | 0 => 0
  | i + 1 => cntS k i + if hasS i k then 1 else 0
theorem cntS_full : ∀ k < 16, cntS k 16 = 7 := by decide +kernel
theorem cntS_le (k : Nat) : ∀ i, cntS k i ≤ i
  | 0 => Nat.le_refl _
  | i + 1 => by have := cntS_le k i; rw [cntS]; split <;> omega
/-- What is counted: nothing where the byte is 0. -/
def numS (b : Int) (k i : Nat) : Nat := if b = 0 then 0 else cntS k i
theorem numS_le (b : Int) (k i : Nat) : numS b k i ≤ i := by unfold numS; have := cntS_le k i; split <;> omega
set_option maxRecDepth 100000 in
set_option maxHeartbeats 4000000 in
theorem one_walk (a0 : Int) (a1 : Int) (_w0 : (Lit.int .i64 a0).wf = true) (w1 : (Lit.int .u8 a1).wf = true) (w : World) (hG : GK w) :
    Calls Tryd.prog 6 #[.int .i64 a0, .int .u8 a1] w fun e w' => e = .returned (.bool true) ∧ Below w.heap.size w w' := by
  have HG := hid hG
  obtain ⟨b0, b1⟩ := bounds_u8 w1
  obtain ⟨b, rfl⟩ : ∃ b : Nat, a1 = b := ⟨a1.toNat, by omega⟩
  have hB : b < 256 := by omega
  obtain ⟨k, hk⟩ : ∃ k : Nat, a0 % 16 = (k : Int) := ⟨(a0 % 16).toNat, by omega⟩
  have hk16 : k < 16 := by omega
  have HK := hid hk
  have HK16 := hid hk16
  have hki : (k : Int) < 16 := by omega
  obtain ⟨B, hBe⟩ : ∃ B : UInt8, B.toNat = b := ⟨UInt8.ofNat b, by rw [UInt8.toNat_ofNat']; omega⟩
  have HB := hid hBe
  clear hG w1 hk hBe b0 b1
  go_enter Tryd.func6, Tryd.ntmps6
  go_wp2_with fail
  refine (known_any _ HG.out).mono ?_
  rintro e w1 ⟨rfl, hx1⟩
  have HX1 := hid hx1
  clear hx1
  go_wp2_with (at_make; refine wpL_make rfl (.const (.int .i64 16)) (.const (.int .i64 16)) 22 rfl Tryd.underlying22 Tryd.info5 .i64 _ 16 rfl rfl rfl (by omega) w1.heap.size (Nat.le_refl _) ?_; intro w2 hown2 hb2 _)
  have HX2 := hid (Ext.trans HX1.out (show Ext w1 w2 from hb2))
  refine (within_any a0 16 _ (by omega) (by omega)).mono ?_
  rintro e w' ⟨rfl, rfl⟩
  rw [HK.out]
  obtain ⟨G, hG⟩ : ∃ G, w1.heap.size = G := ⟨_, rfl⟩
  have hGw : w.heap.size ≤ G := by rw [← hG]; exact HX1.out.size
  rw [hG] at hown2 ⊢
  have hcell := Own.celln hown2 (by simp) k HK16.out
  have hfree := Own.freen hown2 k
  have hset := Own.setn hown2 k B
  rw [HB.out] at hset
  have hx3 := Below.setCell HX2.out (p := ⟨G, k, none⟩) (by simp; exact hGw) (.int .u8 ((b : Nat) : Int))
  obtain ⟨A3, c3, e3, hc3, hm3, hr3⟩ := hset.rdm (n := 16) (by simp)
  rw [e3] at hset
  have HS3 := hid (show Rd _ _ A3 16 (oneL k B) from hr3)
  have HX3 := hid hx3
  have HE3 := hid e3
  clear hown2 hb2 hset hx3 hG hGw hr3 e3 HX1 HX2
  go_wp2_with fail
  rw [HE3.out]
  refine (pmix_any A3 c3 (oneL k B) _ HS3.out (HG.out.later HX3.out).sev).mono ?_
  rintro e w4 ⟨A4, c4, rfl, hc4, hr4, hx4⟩
  have HX4 := hid (Ext.trans HX3.out hx4)
  obtain ⟨g4, o4, rfl, _, hcells⟩ := hr4.at_ (by omega)
  have HC := hid (show ∀ i, i < 16 → w4.cell? ⟨g4, o4 + i, none⟩ = some (.int .u8 ((if hasS i k then b else 0 : Nat) : Int)) from fun i hi => by
    rw [hcells i hi]
    unfold byteAt
    rw [one_mix k B i hi HK16.out]
    split
    · rw [HB.out]
    · rfl)
  clear hr4 hcells hx4 HS3 HX3 HE3 hc3 hm3 hc4 hcell hfree
  go_wp2_with fail
  go_loopw [9, 10] (fun n v wr => ∃ i : Nat, i ≤ 16 ∧ v = .int .i64 i ∧ n = .int .i64 (numS b k i : Nat) ∧ wr = w4) (fun _ v _ => 16 - (intOf v).toNat)
  case atStart => exact ⟨0, by omega, rfl, by unfold numS; split <;> rfl, rfl⟩
  case round =>
    obtain ⟨i, hi, rfl, rfl, rfl⟩ := hrel
    by_cases hlt : i < 16
    · have hc := HC.out i hlt
      have hle := numS_le b k i
      by_cases hz : b = 0
      · subst hz
        have hn : numS ((0 : Nat) : Int) k (i + 1) = numS ((0 : Nat) : Int) k i := by simp [numS]
        rw [show (if hasS i k then 0 else 0 : Nat) = 0 by split <;> rfl] at hc
        obtain ⟨n, hne⟩ : ∃ n, numS ((0 : Nat) : Int) k i = n := ⟨_, rfl⟩
        rw [hne] at hn hle ⊢
        have HN := hid hn
        clear hn hne
        have hc0 : wr.cell? ⟨g4, o4 + i, none⟩ = some (.int .u8 0) := hc
        clear hc
        go_wp2_with fail
        go_roundw
        case rel => exact ⟨i + 1, by omega, by go_num, by rw [HN.out], trivial⟩
        case measure => simp [intOf]; omega
      · have hbz : ((b : Int) != 0) = true := by simp; omega
        cases hs : hasS i k with
        | true =>
          rw [hs] at hc
          simp only [if_true] at hc
          have hn : numS (b : Int) k (i + 1) = numS (b : Int) k i + 1 := by
            unfold numS
            rw [if_neg (by omega), if_neg (by omega), cntS, hs]; rfl
          obtain ⟨n, hne⟩ : ∃ n, numS (b : Int) k i = n := ⟨_, rfl⟩
          rw [hne] at hn hle ⊢
          have HN := hid hn
          have hbb : ((b : Int) == (b : Int)) = true := by simp
          clear hn hne hs
          go_wp2_with fail
          go_roundw
          case rel => exact ⟨i + 1, by omega, by go_num, by rw [HN.out]; go_num, trivial⟩
          case measure => simp [intOf]; omega
        | false =>
          rw [hs] at hc
          have hc0 : wr.cell? ⟨g4, o4 + i, none⟩ = some (.int .u8 0) := hc
          have hn : numS (b : Int) k (i + 1) = numS (b : Int) k i := by
            unfold numS
            rw [if_neg (by omega), if_neg (by omega), cntS, hs]; rfl
          obtain ⟨n, hne⟩ : ∃ n, numS (b : Int) k i = n := ⟨_, rfl⟩
          rw [hne] at hn hle ⊢
          have HN := hid hn
          have hbb : ((0 : Int) == (b : Int)) = false := by simp; omega
          clear hn hne hs hc
          go_wp2_with fail
          go_roundw
          case rel => exact ⟨i + 1, by omega, by go_num, by rw [HN.out], trivial⟩
          case measure => simp [intOf]; omega
    · obtain rfl : i = 16 := by omega
      by_cases hz : b = 0
      · subst hz
        obtain ⟨n, hne⟩ : ∃ n, numS ((0 : Nat) : Int) k 16 = n := ⟨_, rfl⟩
        rw [hne]
        clear hne
        go_wp2_with fail
        go_ret
        exact ⟨rfl, HX4.out⟩
      · have hn : numS (b : Int) k 16 = 7 := by
          unfold numS
          rw [if_neg (by omega), cntS_full k HK16.out]
        rw [hn]
        clear hn
        have hbz : ((b : Int) == 0) = false := by simp; omega
        go_wp2_with fail
        go_ret
        exact ⟨rfl, HX4.out⟩
end Go.Proofs.YtpfkcplldhdipaaDoor
