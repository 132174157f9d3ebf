/- Walks over the reference's words of bytes; own lemmas of the verifier, no statement is proved here. -/
import Derived.Test.YtgkfohgeelfceaaDoorX15
namespace Go.Proofs.YtgkfohgeelfceaaDoor
open Go.RowKit
theorem words_succ (t : T3) (bs : List UInt8) (j : Nat) : words t bs j ++ [kw t bs j] = words t bs (j + 1) := by simp [words, List.range_succ]
set_option maxRecDepth 100000 in
set_option maxHeartbeats 4000000 in
theorem rbig_any (t : T3) (ht : t ≠ .r) (A : Option Addr) (m c : Nat) (bs : List UInt8) (w : World) (h : Rd w w.heap.size A (4 * m) bs) (h0 : 0 < m) (hm : m ≤ 1000) (hc : 4 * m ≤ c) (hcb : c ≤ 9223372036854775807) :
    Calls Tryd.prog 32 #[.slice A (4 * m : Nat) c] w (WRet m w (words t bs m)) := by
  obtain ⟨b0, o0, rfl, hb0, _⟩ := h.at_ (by omega)
  have HR := hid h
  clear h
  go_enter Tryd.func32, Tryd.ntmps32
  go_wp2_with fail
  go_loopw [3, 4] (fun o i wr => ∃ (j : Nat) (Av : Option Addr) (cv : Nat), j ≤ m ∧ i = .int .i64 (4 * j : Nat) ∧ o = .slice Av j cv ∧ OwnW wr w.heap.size (.slice Av j cv) (words t bs j) ∧ Ext w wr) (fun _ i _ => 4 * m - (intOf i).toNat)
  case atStart => exact ⟨0, none, 0, by omega, rfl, rfl, World.ownsRow_nil _ _ _ _, Ext.refl _⟩
  case round =>
    obtain ⟨j, Av, cv, hj, rfl, rfl, hown, hx⟩ := hrel
    by_cases hlt : j < m
    · have hlen := words_length t bs j
      have hlen1 := words_length t bs (j + 1)
      have HS := hid (words_succ t bs j)
      have hrp := rd_part (m := j) (HR.out.later hx) (by omega)
      have hk : kw t bs j = wd t (part bs j) := rfl
      obtain ⟨X, hX⟩ : ∃ X, kw t bs j = X := ⟨_, rfl⟩
      have hbg := fun c => big_wd t ht (some ⟨b0, o0 + 4 * j, none⟩) c wr.heap.size (part bs j) wr hrp
      rw [← hk, hX] at hbg
      rw [hX] at HS
      have hwr := wrap_w X
      have hal := Ext.alloc wr (.cells #[.int .u32 (X.toNat : Nat)] 43)
      have hown1 := OwnN.kept hown hal
      have hrd1 := one_rd wr X
      have HX := hid hx
      have HBG := hid hbg
      have hz := Below.size hx
      have hq : ((4 * j : Nat) : Int) < ((4 * m : Nat) : Int) := by omega
      have hq2 : ((4 * j : Nat) : Int) + 4 ≤ ((4 * m : Nat) : Int) := by omega
      obtain ⟨p, hp⟩ : ∃ p, 4 * j = p := ⟨_, rfl⟩
      obtain ⟨q, hqm⟩ : ∃ q, 4 * m = q := ⟨_, rfl⟩
      rw [hp] at HBG
      rw [hp, hqm]
      rw [hp, hqm] at hq hq2
      rw [hqm] at hc
      have hq1000 : q ≤ 4000 := by omega
      have HP := hid (And.intro hp hqm)
      clear hbg hk hX hx hown hrp hp hqm
      go_wp2_with fail
      have e4 : p + 4 - p = 4 := by omega
      refine (HBG.out _).mono ?_
      rintro e w' ⟨rfl, rfl⟩
      go_wp2_with (at_builtin; refine wpL_appendN _ rfl (.tmp 11) (.tmp 19) 59 rfl Tryd.underlying59 4 Tryd.info43 w.heap.size _ (nW (words t bs j)) rfl hown1 _ _ 1 1 (nW [X]) rfl hrd1 (by rw [nW_length, hlen]; omega) (by rw [nW_length, hlen]; unfold maxLen; omega) (by simp; omega) ?_; intro v2 w2 hown2 hb2; rw [← nW_append, HS.out] at hown2; obtain ⟨A2, c2, rfl, hcc2, _, hown2⟩ := OwnN.rdc (n := j + 1) hown2 (by rw [nW_length, hlen1]); have HX2 := hid (show Ext w w2 from (Below.trans HX.out (Below.mono hal hz)).trans hb2); have HO2 := hid hown2; clear hb2 hown2 hown1 hrd1 hal)
      go_roundw
      case rel => exact ⟨j + 1, A2, c2, by omega, by have := HP.out.1; go_num, rfl, HO2.out, HX2.out⟩
      case measure => have := HP.out.1; have := HP.out.2; simp [intOf]; omega
    · obtain rfl : j = m := by omega
      have HX := hid hx
      have HO := hid hown
      clear hx hown
      go_wp2_with fail
      go_ret
      obtain ⟨g9, c9, e9, hc9, _, _⟩ := OwnN.head HO.out (by rw [nW_length, words_length]) h0
      simp only [Value.slice.injEq] at e9
      obtain ⟨rfl, _, rfl⟩ := e9
      exact ⟨g9, cv, rfl, hc9, OwnW.room HO.out, HO.out, HX.out⟩
set_option maxRecDepth 100000 in
set_option maxHeartbeats 4000000 in
theorem rlittle_any (A : Option Addr) (m c : Nat) (bs : List UInt8) (w : World) (h : Rd w w.heap.size A (4 * m) bs) (h0 : 0 < m) (hm : m ≤ 1000) (hc : 4 * m ≤ c) (hcb : c ≤ 9223372036854775807) :
    Calls Tryd.prog 37 #[.slice A (4 * m : Nat) c] w (WRet m w (words .r bs m)) := by
  obtain ⟨b0, o0, rfl, hb0, _⟩ := h.at_ (by omega)
  have HR := hid h
  clear h
  go_enter Tryd.func37, Tryd.ntmps37
  go_wp2_with fail
  go_loopw [3, 4] (fun o i wr => ∃ (j : Nat) (Av : Option Addr) (cv : Nat), j ≤ m ∧ i = .int .i64 (4 * j : Nat) ∧ o = .slice Av j cv ∧ OwnW wr w.heap.size (.slice Av j cv) (words .r bs j) ∧ Ext w wr) (fun _ i _ => 4 * m - (intOf i).toNat)
  case atStart => exact ⟨0, none, 0, by omega, rfl, rfl, World.ownsRow_nil _ _ _ _, Ext.refl _⟩
  case round =>
    obtain ⟨j, Av, cv, hj, rfl, rfl, hown, hx⟩ := hrel
    by_cases hlt : j < m
    · have hlen := words_length .r bs j
      have hlen1 := words_length .r bs (j + 1)
      have HS := hid (words_succ .r bs j)
      have hrp := rd_part (m := j) (HR.out.later hx) (by omega)
      have hk : kw .r bs j = wd .r (part bs j) := rfl
      obtain ⟨X, hX⟩ : ∃ X, kw .r bs j = X := ⟨_, rfl⟩
      have hbg := fun c => little_wd (some ⟨b0, o0 + 4 * j, none⟩) c wr.heap.size (part bs j) wr hrp
      rw [← hk, hX] at hbg
      rw [hX] at HS
      have hwr := wrap_w X
      have hal := Ext.alloc wr (.cells #[.int .u32 (X.toNat : Nat)] 43)
      have hown1 := OwnN.kept hown hal
      have hrd1 := one_rd wr X
      have HX := hid hx
      have HBG := hid hbg
      have hz := Below.size hx
      have hq : ((4 * j : Nat) : Int) < ((4 * m : Nat) : Int) := by omega
      have hq2 : ((4 * j : Nat) : Int) + 4 ≤ ((4 * m : Nat) : Int) := by omega
      obtain ⟨p, hp⟩ : ∃ p, 4 * j = p := ⟨_, rfl⟩
      obtain ⟨q, hqm⟩ : ∃ q, 4 * m = q := ⟨_, rfl⟩
      rw [hp] at HBG
      rw [hp, hqm]
      rw [hp, hqm] at hq hq2
      rw [hqm] at hc
      have hq1000 : q ≤ 4000 := by omega
      have HP := hid (And.intro hp hqm)
      clear hbg hk hX hx hown hrp hp hqm
      go_wp2_with fail
      have e4 : p + 4 - p = 4 := by omega
      refine (HBG.out _).mono ?_
      rintro e w' ⟨rfl, rfl⟩
      go_wp2_with (at_builtin; refine wpL_appendN _ rfl (.tmp 11) (.tmp 19) 59 rfl Tryd.underlying59 4 Tryd.info43 w.heap.size _ (nW (words .r bs j)) rfl hown1 _ _ 1 1 (nW [X]) rfl hrd1 (by rw [nW_length, hlen]; omega) (by rw [nW_length, hlen]; unfold maxLen; omega) (by simp; omega) ?_; intro v2 w2 hown2 hb2; rw [← nW_append, HS.out] at hown2; obtain ⟨A2, c2, rfl, hcc2, _, hown2⟩ := OwnN.rdc (n := j + 1) hown2 (by rw [nW_length, hlen1]); have HX2 := hid (show Ext w w2 from (Below.trans HX.out (Below.mono hal hz)).trans hb2); have HO2 := hid hown2; clear hb2 hown2 hown1 hrd1 hal)
      go_roundw
      case rel => exact ⟨j + 1, A2, c2, by omega, by have := HP.out.1; go_num, rfl, HO2.out, HX2.out⟩
      case measure => have := HP.out.1; have := HP.out.2; simp [intOf]; omega
    · obtain rfl : j = m := by omega
      have HX := hid hx
      have HO := hid hown
      clear hx hown
      go_wp2_with fail
      go_ret
      obtain ⟨g9, c9, e9, hc9, _, _⟩ := OwnN.head HO.out (by rw [nW_length, words_length]) h0
      simp only [Value.slice.injEq] at e9
      obtain ⟨rfl, _, rfl⟩ := e9
      exact ⟨g9, cv, rfl, hc9, OwnW.room HO.out, HO.out, HX.out⟩
end Go.Proofs.YtgkfohgeelfceaaDoor
