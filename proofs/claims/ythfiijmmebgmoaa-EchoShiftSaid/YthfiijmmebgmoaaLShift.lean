/- The law on a table turned by one, walked; own text of the verifier. -/
import Derived.Test.YthfiijmmebgmoaaE9
namespace Go.Proofs.Ythfiijmmebgmoaa
open Go.RowKit
/-- The table, each number more by one number. -/
def shN (bs : List UInt8) (b i : Nat) : Nat := (nb bs i + b) % 256
def shF (bs : List UInt8) (b i : Nat) : UInt8 := UInt8.ofNat (shN bs b i)
theorem sh_at (bs : List UInt8) (b n i : Nat) (h : i < n) : byteAt ((List.range n).map (shF bs b)) i = (shN bs b i : Nat) := by
  unfold byteAt shF
  simp [List.getD, h, UInt8.toNat_ofNat']
  unfold shN
  omega
theorem t_mul (c d x y : Int) (h : (c = 1 ∧ d = 0) ∨ (c = 0 ∧ d = 1) ∨ (c = -1 ∧ d = 0) ∨ (c = 0 ∧ d = -1)) :
    (x * c - y * d) * (x * c - y * d) + (x * d + y * c) * (x * d + y * c) = x * x + y * y := by
  rcases h with ⟨rfl, rfl⟩ | ⟨rfl, rfl⟩ | ⟨rfl, rfl⟩ | ⟨rfl, rfl⟩ <;> simp [Int.neg_mul, Int.mul_neg] <;> omega
theorem t_any (n : Int) : (tR n = 1 ∧ tI n = 0) ∨ (tR n = 0 ∧ tI n = 1) ∨ (tR n = -1 ∧ tI n = 0) ∨ (tR n = 0 ∧ tI n = -1) := by
  rcases t_four n with h | h | h | h
  · exact .inl h.2
  · exact .inr (.inl h.2)
  · exact .inr (.inr (.inl h.2))
  · exact .inr (.inr (.inr h.2))
theorem sh_sum (bs : List UInt8) (b : Nat) (a : Int) (n : Nat) :
    eR ((List.range n).map (shF bs b)) a n = eR bs a n * tR b - eI bs a n * tI b ∧ eI ((List.range n).map (shF bs b)) a n = eR bs a n * tI b + eI bs a n * tR b := by
  have key : ∀ i : Nat, i < n → ((byteAt ((List.range n).map (shF bs b)) i - a * i) % 4 = ((byteAt bs i - a * i) + b) % 4) := fun i hi => by
    rw [sh_at _ _ _ _ hi, byteAt_nb]
    unfold shN
    omega
  unfold eR eI
  refine ⟨?_, ?_⟩
  · rw [Int.mul_comm _ (tR b), Int.mul_comm _ (tI b), Int.sub_eq_add_neg, ← Int.neg_mul, ← sm_mul, ← sm_mul, ← sm_add]
    refine sm_congr _ fun i hi => ?_
    rw [tR_mod (key i hi), (t_add _ _).1, Int.mul_comm (tR b), Int.neg_mul, Int.mul_comm (tI b)]
    omega
  · rw [Int.mul_comm _ (tR b), Int.mul_comm _ (tI b), ← sm_mul, ← sm_mul, ← sm_add]
    refine sm_congr _ fun i hi => ?_
    rw [tI_mod (key i hi), (t_add _ _).2, Int.mul_comm (tR b), Int.mul_comm (tI b)]
set_option maxRecDepth 100000 in
set_option maxHeartbeats 4000000 in
theorem shift_walk (a0 : Option Addr) (len0 cap0 : Nat) (z0 : List Int) (a1 : Int) (a2 : Int) (w : World) (w0 : IsRow .u8 w a0 len0 cap0 z0) (w1 : (Lit.int .i64 a1).wf = true) (w2 : (Lit.int .u8 a2).wf = true) :
    Calls Try.prog 10 #[.slice a0 len0 cap0, .int .i64 a1, .int .u8 a2] w fun e w' => e = .returned (.bool true) ∧ Below w.heap.size w w' := by
  obtain ⟨y, rfl, hy⟩ := byte_arg w2
  obtain ⟨bs, hrb, hmax⟩ := w0.rd
  have i1 := wf_i64 w1
  unfold maxLen at hmax
  clear w0 w1 w2
  go_enter Try.func10, Try.ntmps10
  go_wp2_with fail
  refine (known_any _).mono ?_
  rintro e wk ⟨rfl, hbk⟩
  have HB := hid hbk
  have HR := hid (hrb.below hbk (Nat.le_refl _))
  clear hbk hrb
  by_cases hlong : 500 < len0
  · go_wp2_with fail
    go_ret
    exact ⟨rfl, HB.out⟩
  · go_wp2_with (at_make; refine wpL_make rfl (.tmp 15) (.tmp 15) 22 rfl Try.underlying22 Try.info5 .i64 _ len0 rfl rfl rfl (by omega) wk.heap.size (Nat.le_refl _) ?_; intro w1 hown1 hb1 _)
    obtain ⟨K, hK⟩ : ∃ K, wk.heap.size = K := ⟨_, rfl⟩
    have HK := hid hK
    have hKB : w.heap.size ≤ K := by have := HB.out.size; omega
    have HO := hid (hK ▸ hown1)
    have HX := hid (hb1.mono HB.out.size)
    rw [hK]
    clear hown1 hb1 hK
    go_loopw [8] (fun i wr => ∃ k : Nat, k ≤ len0 ∧ i = .int .i64 k ∧ Own wr K (.slice (some ⟨K, 0, none⟩) len0 len0) (fillTo (shF bs y) len0 k) ∧ Below w.heap.size wk wr) (fun i _ => len0 - (intOf i).toNat)
    case atStart => exact ⟨0, Nat.zero_le _, rfl, by rw [fillTo_zero]; exact HO.out, HX.out⟩
    case round =>
      obtain ⟨k, hk, rfl, hown, hb⟩ := hrel
      by_cases hlt : k < len0
      · obtain ⟨cur, hcur⟩ : ∃ cur, fillTo (shF bs y) len0 k = cur := ⟨_, rfl⟩
        have hcl : cur.length = len0 := by rw [← hcur]; exact fillTo_length _ _ _
        rw [hcur] at hown
        have hown0 : Own wr K (.slice (some ⟨K, 0, none⟩) cur.length len0) cur := by rw [hcl]; exact hown
        obtain ⟨bk, o, rfl, hbk, hc⟩ := (HR.out.below hb (Nat.le_refl _)).at_ (by omega)
        have hck := hc k hlt
        rw [byteAt_nb] at hck
        have hxl := nb_lt bs k
        have hcell := hown0.cell k (by omega)
        have hfr := hown0.free k
        have hset := hown0.set_ k (shF bs y k)
        rw [← hcur, fillTo_set _ _ _ _ rfl, fillTo_length] at hset
        have hval : ((shF bs y k).toNat : Int) = (shN bs y k : Nat) := by
          unfold shF; rw [UInt8.toNat_ofNat']; unfold shN; omega
        rw [hval] at hset
        obtain ⟨x, hx⟩ : ∃ x, nb bs k = x := ⟨_, rfl⟩
        obtain ⟨z, hz⟩ : ∃ z, shN bs y k = z := ⟨_, rfl⟩
        have hzi : ((x : Int) + y) % 256 = (z : Int) := by rw [← hz]; unfold shN; rw [hx]; omega
        rw [hx] at hck hxl
        rw [hz] at hset
        have HS := hid hset
        have HBB := hid (hb.setCell (p := ⟨K, k, none⟩) hKB (.int .u8 (z : Int)))
        clear hset hown hown0 hval hz hx hc hb hcur hbk
        go_wp2_with fail
        go_roundw
        case rel => exact ⟨k + 1, by omega, by go_num, HS.out, HBB.out⟩
        case measure => simp [intOf]; omega
      · obtain rfl : k = len0 := by omega
        rw [fillTo_full] at hown
        obtain ⟨s1, s2⟩ := sh_sum bs y a1 k
        obtain ⟨ul, hul⟩ : ∃ ul, (List.range k).map (shF bs y) = ul := ⟨_, rfl⟩
        rw [hul] at hown s1 s2
        have hull : ul.length = k := by rw [← hul]; simp
        obtain ⟨A2, c2, hA, hRu, _⟩ := hown.rd
        rw [hull] at hA hRu
        cases hA
        have C1 := hid (echo_any (some ⟨K, 0, none⟩) k k ul a1 wr _ hRu (by omega))
        have C2 := hid (echo_any a0 k cap0 bs a1 wr _ (HR.out.below hb (Nat.le_refl _)) (by omega))
        have b1 := eR_abs bs a1 k
        have b2 := eI_abs bs a1 k
        have b3 := eR_abs ul a1 k
        have b4 := eI_abs ul a1 k
        have t1 := tR_abs y
        have t2 := tI_abs y
        have hp := t_mul (tR y) (tI y) (eR bs a1 k) (eI bs a1 k) (t_any y)
        rw [← s1, ← s2] at hp
        obtain ⟨z1, z2, hm⟩ := cmul_any (eR bs a1 k) (eI bs a1 k) (tR y) (tI y) (by omega) (by omega) (by omega) (by omega)
        rw [← s1, ← s2] at hm
        obtain ⟨X, hX⟩ : ∃ X, eR bs a1 k = X := ⟨_, rfl⟩
        obtain ⟨Y, hY⟩ : ∃ Y, eI bs a1 k = Y := ⟨_, rfl⟩
        obtain ⟨U, hU⟩ : ∃ U, eR ul a1 k = U := ⟨_, rfl⟩
        obtain ⟨V, hV⟩ : ∃ V, eI ul a1 k = V := ⟨_, rfl⟩
        rw [hX, hY] at C2 hm hp
        rw [hX] at b1
        rw [hY] at b2
        rw [hU, hV] at C1 hm hp
        rw [hU] at b3
        rw [hV] at b4
        have hop := fun t w => run_complex_mul (P := Try.prog) w t _ _ _ _ _ _ hm
        have e1 := eqf false z1 U U (by omega) (by omega)
        have e2 := eqf false z2 V V (by omega) (by omega)
        rw [decide_eq_true rfl] at e1 e2
        have P1 := hid (fun w => power_any U V w (by omega) (by omega))
        have P2 := hid (fun w => power_any X Y w (by omega) (by omega))
        rw [hp] at P1
        obtain ⟨Q, hQ⟩ : ∃ Q, X * X + Y * Y = Q := ⟨_, rfl⟩
        rw [hQ] at P1 P2
        have HBB := hid (HB.out.trans hb)
        clear hown hb hul hull hRu s1 s2 hX hY hU hV hp hm hQ t1 t2
        go_wp2_with fail
        refine C1.out.mono ?_
        rintro e w' ⟨rfl, rfl⟩
        go_wp2_with fail
        refine C2.out.mono ?_
        rintro e w' ⟨rfl, rfl⟩
        go_wp2_with fail
        refine (turn_any _ _).mono ?_
        rintro e w' ⟨rfl, rfl⟩
        go_wp2_with (rw [hop])
        refine C1.out.mono ?_
        rintro e w' ⟨rfl, rfl⟩
        go_wp2_with fail
        refine (P1.out _).mono ?_
        rintro e w' ⟨rfl, rfl⟩
        go_wp2_with fail
        refine C2.out.mono ?_
        rintro e w' ⟨rfl, rfl⟩
        go_wp2_with fail
        refine (P2.out _).mono ?_
        rintro e w' ⟨rfl, rfl⟩
        go_wp2_with fail
        go_ret
        exact ⟨rfl, HBB.out⟩
end Go.Proofs.Ythfiijmmebgmoaa
