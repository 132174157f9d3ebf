/- The law on two tables one behind the other, walked; own text of the verifier. -/
import Derived.Test.YthfiijmmebgmoaaE9
import Derived.BigQuiet
namespace Go.Proofs.Ythfiijmmebgmoaa
open Go.RowKit
theorem byteAt_append_left (xs ys : List UInt8) (k : Nat) (h : k < xs.length) : byteAt (xs ++ ys) k = byteAt xs k := by
  unfold byteAt; simp [List.getD, List.getElem?_append_left h]
theorem byteAt_append_right (xs ys : List UInt8) (k : Nat) : byteAt (xs ++ ys) (xs.length + k) = byteAt ys k := by
  unfold byteAt; simp [List.getD, List.getElem?_append_right]
theorem e_append (xs ys : List UInt8) (a : Int) (n m : Nat) (hn : xs.length = n) (h4 : n % 4 = 0) : eR (xs ++ ys) a (n + m) = eR xs a n + eR ys a m ∧ eI (xs ++ ys) a (n + m) = eI xs a n + eI ys a m := by
  subst hn
  have key : ∀ i : Nat, (byteAt (xs ++ ys) (xs.length + i) - a * ((xs.length + i : Nat) : Int)) % 4 = (byteAt ys i - a * (i : Int)) % 4 := fun i => by
    rw [byteAt_append_right]
    obtain ⟨j, hj⟩ : ∃ j : Nat, xs.length = 4 * j := ⟨xs.length / 4, by omega⟩
    rw [show ((xs.length + i : Nat) : Int) = 4 * (j : Int) + i by omega, Int.mul_add, Int.mul_left_comm]
    omega
  unfold eR eI
  rw [sm_plus, sm_plus]
  refine ⟨?_, ?_⟩
  · congr 1
    · exact sm_congr _ fun i hi => by rw [byteAt_append_left xs ys i hi]
    · exact sm_congr _ fun i _ => tR_mod (key i)
  · congr 1
    · exact sm_congr _ fun i hi => by rw [byteAt_append_left xs ys i hi]
    · exact sm_congr _ fun i _ => tI_mod (key i)
theorem e_four (bs : List UInt8) (a : Int) (k : Nat) : eR bs (a + 4) k = eR bs a k ∧ eI bs (a + 4) k = eI bs a k := by
  have key : ∀ x : Nat, (byteAt bs x - (a + 4) * x) % 4 = (byteAt bs x - a * x) % 4 := fun x => by rw [Int.add_mul]; omega
  exact ⟨sm_congr _ fun i _ => tR_mod (key i), sm_congr _ fun i _ => tI_mod (key i)⟩
theorem echo_dn {A : Option Addr} {n c m : Nat} {bs : List UInt8} {a : Int} {w : World} {B : Nat} (h : Rd w B A n bs) (hn : n ≤ 4096) :
    Calls Try.prog 13 #[.slice A n c, .int .i64 a] (w.drewN m) fun e w' => e = .returned (.complex .f64 (flv false (eR bs a n)) (flv false (eI bs a n))) ∧ w.drewN m = w' :=
  echo_any A n c bs a (w.drewN m) B (h.drewN m) hn
def Mark (p : Prop) : Prop := p
theorem mark {p : Prop} (h : Mark p) : p := h
set_option maxRecDepth 100000 in
set_option maxHeartbeats 4000000 in
theorem parts_walk (a0 : Option Addr) (len0 cap0 : Nat) (z0 : List Int) (a1 : Option Addr) (len1 cap1 : Nat) (z1 : List Int) (a2 : Int) (w : World) (w0 : IsRow .u8 w a0 len0 cap0 z0) (w1 : IsRow .u8 w a1 len1 cap1 z1) (w2 : (Lit.int .i64 a2).wf = true) :
    Calls Try.prog 6 #[.slice a0 len0 cap0, .slice a1 len1 cap1, .int .i64 a2] w fun e w' => e = .returned (.bool true) ∧ Below w.heap.size w w' := by
  obtain ⟨xs, hrx, hmax0, hcap0⟩ := w0.rdc
  obtain ⟨ys, hry, hmax1⟩ := w1.rd
  unfold maxLen at hmax0 hmax1
  have i2 := wf_i64 w2
  clear w0 w1 w2
  go_enter Try.func6, Try.ntmps6
  go_wp2_with fail
  refine (known_any _).mono ?_
  rintro e wk ⟨rfl, hbk⟩
  have HB := hid hbk
  have HRX := hid (hrx.below hbk (Nat.le_refl _))
  have HRY := hid (hry.below hbk (Nat.le_refl _))
  clear hbk hrx hry
  by_cases hlong : 400 < len0
  · go_wp2_with fail
    go_ret
    exact ⟨rfl, HB.out⟩
  · by_cases hlong1 : 400 < len1
    · go_wp2_with fail
      go_ret
      exact ⟨rfl, HB.out⟩
    · obtain ⟨n, hn⟩ : ∃ n : Nat, len0 / 4 * 4 = n := ⟨_, rfl⟩
      have hn4 : n % 4 = 0 := by omega
      have hnl : n ≤ len0 := by omega
      have hni : (len0 : Int) / 4 * 4 = (n : Int) := by omega
      have hX := HRX.out.cuthi n hnl
      obtain ⟨xt, hxt⟩ : ∃ xt, xs.take n = xt := ⟨_, rfl⟩
      rw [hxt] at hX
      have hxl := hX.len
      have hyl := HRY.out.len
      have hO := Own.lit wk [] #[] 0 wk.heap.size rfl rfl (by unfold maxLen; omega) (Nat.le_refl _)
      have hx0 := Ext.alloc wk (.cells #[] 5)
      obtain ⟨W0, hW0⟩ : ∃ W0, wk.alloc (.cells #[] 5) = W0 := ⟨_, rfl⟩
      rw [hW0] at hO hx0
      have HX := hid (show Rd W0 w.heap.size a0 n xt from hX.below (Below.mono hx0 HB.out.size) (Nat.le_refl _))
      have HY := hid (show Rd W0 w.heap.size a1 len1 ys from HRY.out.below (Below.mono hx0 HB.out.size) (Nat.le_refl _))
      have HB0 := hid (HB.out.trans (Below.mono hx0 HB.out.size))
      have HO := hid hO
      have hz := hx0.size
      have HW0 := hid hW0
      clear hn hX hxt hO hx0 hW0
      go_wp2_with (at_builtin; rw [HW0.out]; refine wpL_append _ rfl (.tmp 23) (.tmp 26) 22 rfl Try.underlying22 Try.info5 wk.heap.size _ [] rfl HO.out _ _ n _ xt rfl HX.out (by simp; omega) hz ?_; intro v1 w1 hown1 hb1; apply mark)
      unfold Mark
      rw [List.nil_append] at hown1
      have HO1 := hid hown1
      have hz1 := hb1.size
      have HX1 := hid (HX.out.below hb1 HB.out.size)
      have HY1 := hid (HY.out.below hb1 HB.out.size)
      have HB1 := hid (HB0.out.trans (hb1.mono HB.out.size))
      have hz2 : wk.heap.size ≤ w1.heap.size := by omega
      clear hown1 hb1
      go_wp2_with (at_builtin; refine wpL_append _ rfl (.tmp 27) (.tmp 28) 22 rfl Try.underlying22 Try.info5 wk.heap.size _ xt rfl HO1.out _ _ len1 _ ys rfl HY1.out (by omega) hz2 ?_; intro v2 w2 hown2 hb2; apply mark)
      unfold Mark
      obtain ⟨bb, hbb⟩ : ∃ bb, xt ++ ys = bb := ⟨_, rfl⟩
      have ha : ∀ a, eR bb a (n + len1) = eR xt a n + eR ys a len1 ∧ eI bb a (n + len1) = eI xt a n + eI ys a len1 := fun a => hbb ▸ e_append xt ys a n len1 hxl hn4
      rw [hbb] at hown2
      obtain ⟨N, hN⟩ : ∃ N, n + len1 = N := ⟨_, rfl⟩
      have hbl : bb.length = N := by rw [← hbb, List.length_append]; omega
      rw [hN] at ha
      obtain ⟨A2, c2, hv2, hR2, _⟩ := hown2.rd
      rw [hbl] at hv2 hR2
      subst hv2
      have X2 := HX1.out.below hb2 HB.out.size
      have Y2 := HY1.out.below hb2 HB.out.size
      have HB2 := hid (HB1.out.trans (hb2.mono HB.out.size))
      have hNl : N ≤ 800 := by omega
      obtain ⟨q, hq⟩ : ∃ q, a2 % 1000 = q := ⟨_, rfl⟩
      have hq0 : 0 ≤ q := by omega
      have hq1 : q < 1000 := by omega
      obtain ⟨f1, f2⟩ := e_four bb q N
      obtain ⟨g1, g2⟩ := ha a2
      have b1 := eR_abs bb a2 N
      have b2 := eI_abs bb a2 N
      have b3 := eR_abs xt a2 n
      have b4 := eI_abs xt a2 n
      have b5 := eR_abs ys a2 len1
      have b6 := eI_abs ys a2 len1
      have b7 := eR_abs bb q N
      have b8 := eI_abs bb q N
      have hs := csum_any false false (eR xt a2 n) (eI xt a2 n) (eR ys a2 len1) (eI ys a2 len1) (by omega) (by omega) (by omega) (by omega)
      rw [← g1, ← g2] at hs
      have hop := fun t w => run_complex_sum (P := Try.prog) w .add (Or.inl rfl) t .f64 _ _ _ _ _ _ hs
      have e1 := eqf false false (eR bb a2 N) (eR bb a2 N) (by omega) (by omega)
      have e2 := eqf false false (eI bb a2 N) (eI bb a2 N) (by omega) (by omega)
      have e3 := eqf false false (eR bb q N) (eR bb (q + 4) N) (by omega) (by omega)
      have e4 := eqf false false (eI bb q N) (eI bb (q + 4) N) (by omega) (by omega)
      rw [decide_eq_true rfl] at e1 e2
      rw [decide_eq_true f1.symm] at e3
      rw [decide_eq_true f2.symm] at e4
      clear hbb ha hown2 hN hbl hb2 f1 f2 g1 g2 b1 b2 b3 b4 b5 b6 b7 b8 hs hxl hyl hz hz1 hz2
      go_wp2_with fail
      go_quiet (first
        | (go_at_call 13; exact quietSame (echo_dn (by assumption) (by omega)))
        | (go_at_call 22; exact quietSame (within_any _ _ _ (by omega) (by omega))))
      go_wp2_with fail
      go_ret
      exact ⟨rfl, below_drewN' HB2.out nq⟩
end Go.Proofs.Ythfiijmmebgmoaa
