/- The law on the biases of a table that has each byte once, walked; own text of the verifier. -/
import Derived.Test.YthfiijmmebgmoaaE9
import Derived.Test.YthfiijmmebgmoaaM2
namespace Go.Proofs.Ythfiijmmebgmoaa
open Go.RowKit
set_option maxRecDepth 100000 in
set_option maxHeartbeats 4000000 in
theorem bias_walk (a0 : Option Addr) (len0 cap0 : Nat) (z0 : List Int) (a1 : Int) (a2 : Int) (w : World) (w0 : IsRow .i64 w a0 len0 cap0 z0) (w1 : (Lit.int .u8 a1).wf = true) (w2 : (Lit.int .u8 a2).wf = true) :
    Calls Try.prog 7 #[.slice a0 len0 cap0, .int .u8 a1, .int .u8 a2] w fun e w' => e = .returned (.bool true) ∧ Below w.heap.size w w' := by
  obtain ⟨a, rfl, ha⟩ := byte_arg w1
  obtain ⟨b, rfl, hb⟩ := byte_arg w2
  obtain ⟨ns, hrn, hmax, hcap, _⟩ := w0.rdN
  unfold maxLen at hmax
  clear w0 w1 w2
  go_enter Try.func7, Try.ntmps7
  go_wp2_with fail
  refine (known_any _).mono ?_
  rintro e wk ⟨rfl, hbk⟩
  have HB := hid hbk
  have HR := hid ((hrn.below hbk (Nat.le_refl _)).more hbk.size)
  clear hbk hrn
  go_wp2_with fail
  refine (table_any a0 256 len0 cap0 ns wk HR.out (by omega) (by omega)).mono ?_
  rintro e w1 ⟨v, rfl, hown, hbt⟩
  have hT := tabL_isT 256 ns (by omega)
  obtain ⟨bs, hbs⟩ : ∃ bs, tabL 256 ns = bs := ⟨_, rfl⟩
  rw [hbs] at hown hT
  obtain ⟨A, c, rfl, hR, _⟩ := hown.rd
  rw [hT.len] at hR ⊢
  have HX := hid (HB.out.trans (hbt.mono HB.out.size))
  have h1 := bias_four hT a b ha hb
  have h2 := biasS_abs bs a b 256
  have C1 := hid (bias_any A 256 c bs a b w1 _ hR (by omega) ha hb)
  have C2 := hid (bias_any A 256 c bs 0 0 w1 _ hR (by omega) (by omega) (by omega))
  have C3 := hid (bias_any A 256 c bs a 0 w1 _ hR (by omega) ha (by omega))
  have C4 := hid (bias_any A 256 c bs 0 b w1 _ hR (by omega) (by omega) hb)
  rw [bias_none] at C2
  have L := hid (bias_left bs a ha)
  have R := hid (bias_right hT b hb)
  obtain ⟨n, hn⟩ : ∃ n, biasS bs a b 256 = n := ⟨_, rfl⟩
  rw [hn] at C1 h1 h2
  have h3 : n.tmod 4 = 0 := by
    have := @Int.tmod_eq_emod n 4
    split at this <;> omega
  have h4 : n ≤ 256 := by omega
  have h5 : -256 ≤ n := by omega
  clear hbs hn h1 h2 hR hown hbt hT
  rcases Nat.eq_zero_or_pos a with ha0 | ha0
  · subst ha0
    rcases Nat.eq_zero_or_pos b with hb0 | hb0
    · subst hb0
      go_wp2_with fail
      refine C1.out.mono ?_
      rintro e w' ⟨rfl, rfl⟩
      go_wp2_with fail
      refine C2.out.mono ?_
      rintro e w' ⟨rfl, rfl⟩
      go_wp2_with fail
      go_ret
      exact ⟨rfl, HX.out⟩
    · have hbi : ((b : Int) == 0) = false := by simp; omega
      rw [R.out (by omega)] at C4
      go_wp2_with fail
      refine C1.out.mono ?_
      rintro e w' ⟨rfl, rfl⟩
      go_wp2_with fail
      refine C2.out.mono ?_
      rintro e w' ⟨rfl, rfl⟩
      go_wp2_with fail
      refine C4.out.mono ?_
      rintro e w' ⟨rfl, rfl⟩
      go_wp2_with fail
      go_ret
      exact ⟨rfl, HX.out⟩
  · have hai : ((a : Int) == 0) = false := by simp; omega
    rw [L.out (by omega)] at C3
    rcases Nat.eq_zero_or_pos b with hb0 | hb0
    · subst hb0
      go_wp2_with fail
      refine C1.out.mono ?_
      rintro e w' ⟨rfl, rfl⟩
      go_wp2_with fail
      refine C2.out.mono ?_
      rintro e w' ⟨rfl, rfl⟩
      go_wp2_with fail
      refine C3.out.mono ?_
      rintro e w' ⟨rfl, rfl⟩
      go_wp2_with fail
      go_ret
      exact ⟨rfl, HX.out⟩
    · have hbi : ((b : Int) == 0) = false := by simp; omega
      rw [R.out (by omega)] at C4
      go_wp2_with fail
      refine C1.out.mono ?_
      rintro e w' ⟨rfl, rfl⟩
      go_wp2_with fail
      refine C2.out.mono ?_
      rintro e w' ⟨rfl, rfl⟩
      go_wp2_with fail
      refine C3.out.mono ?_
      rintro e w' ⟨rfl, rfl⟩
      go_wp2_with fail
      refine C4.out.mono ?_
      rintro e w' ⟨rfl, rfl⟩
      go_wp2_with fail
      go_ret
      exact ⟨rfl, HX.out⟩
end Go.Proofs.Ythfiijmmebgmoaa
