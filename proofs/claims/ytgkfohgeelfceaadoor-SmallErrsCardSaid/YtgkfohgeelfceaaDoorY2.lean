/- Walk over the reference's RC5 words of a key; own lemmas of the verifier, no statement is proved here. -/
import Derived.Test.YtgkfohgeelfceaaDoorY1
import Derived.OneCell
namespace Go.Proofs.YtgkfohgeelfceaaDoor
open Go.RowKit
def RC (j : Nat) : List UInt32 := (List.range j).map rc0
theorem RC_length (j : Nat) : (RC j).length = j := by simp [RC]
theorem RC_succ (j : Nat) : RC j ++ [rc0 j] = RC (j + 1) := by simp [RC, List.range_succ]
theorem OwnN.base_mono {kd : IntKind} {e : TypeId} {w : World} {base base' : Nat} {v : Value} {xs : List Int} (h : OwnN kd e w base v xs) (hb : base' ≤ base) : OwnN kd e w base' v xs := by
  refine ⟨h.1, ?_⟩
  rcases h.2 with hn | ⟨g, cap, cur, rfl, hbg, r⟩
  · exact .inl hn
  · exact .inr ⟨g, cap, cur, rfl, Nat.le_trans hb hbg, r⟩
theorem OwnW.setother {w : World} {base g n c : Nat} {ks : List UInt32} (h : OwnW w base (.slice (some ⟨g, 0, none⟩) n c) ks) (G k : Nat) (x : Value) (hne : g ≠ G) : OwnW (w.setCell ⟨G, k, none⟩ x) base (.slice (some ⟨g, 0, none⟩) n c) ks :=
  ownsRow_setCell_other h (by simp [Value.ownBlock]; exact hne) x
set_option maxRecDepth 100000 in
set_option maxHeartbeats 4000000 in
theorem stretched_any (A : Option Addr) (c : Nat) (key : List UInt8) (w : World) (h : Rd w w.heap.size A 16 key) (hc : 16 ≤ c) (hcb : c ≤ 9223372036854775807) :
    Calls Tryd.prog 31 #[.slice A 16 c] w (WRet 26 w (rc5S key)) := by
  have hl := rlittle_any A 4 c key w h (by omega) (by omega) hc hcb
  rw [show 4 * 4 = 16 from rfl] at hl
  have HL := hid hl
  clear hl h
  go_enter Tryd.func31, Tryd.ntmps31
  go_wp2_with fail
  refine HL.out.mono ?_
  rintro e w1 ⟨g3, c3, rfl, hc3, hm3, ho3, hx1⟩
  have hb3 := OwnN.base_le ho3
  have HX1 := hid hx1
  have HO3 := hid ho3
  have hz1 := Below.size hx1
  clear hx1 ho3 HL
  go_wp2_with fail
  go_loopw [4, 5] (fun s i wr => ∃ (j : Nat) (Av : Option Addr) (cv : Nat), j ≤ 26 ∧ i = .int .i64 j ∧ s = .slice Av j cv ∧ OwnW wr w1.heap.size (.slice Av j cv) (RC j) ∧ Ext w1 wr) (fun _ i _ => 26 - (intOf i).toNat)
  case atStart => exact ⟨0, none, 0, by omega, rfl, rfl, World.ownsRow_nil _ _ _ _, Ext.refl _⟩
  case round =>
    obtain ⟨j, Av, cv, hj, rfl, rfl, hown, hx⟩ := hrel
    by_cases hlt : j < 26
    · have hlen := RC_length j
      have hlen1 := RC_length (j + 1)
      have HS := hid (RC_succ j)
      have hv := rc0_val j hlt
      obtain ⟨X, hX⟩ : ∃ X, rc0 j = X := ⟨_, rfl⟩
      rw [hX] at HS hv
      have hal := Ext.alloc wr (.cells #[.int .u32 (X.toNat : Nat)] 43)
      have hown1 := OwnN.kept hown hal
      have hrd1 := one_rd wr X
      have HX := hid hx
      have hz := Below.size hx
      have hk26 : (j : Int) < 26 := by omega
      clear hX hx hown
      go_wp2_with (at_builtin; refine wpL_appendN _ rfl (.tmp 15) (.tmp 20) 59 rfl Tryd.underlying59 4 Tryd.info43 w1.heap.size _ (nW (RC j)) rfl hown1 _ _ 1 1 (nW [X]) rfl hrd1 (by rw [nW_length, hlen]; omega) (by rw [nW_length, hlen]; unfold maxLen; omega) (by simp; omega) ?_; intro v2 w2 hown2 hb2; rw [← nW_append, HS.out] at hown2; obtain ⟨A2, c2, rfl, hcc2, _, hown2⟩ := OwnN.rdc (n := j + 1) hown2 (by rw [nW_length, hlen1]); have HX2 := hid (show Ext w1 w2 from (Below.trans HX.out (Below.mono hal hz)).trans hb2); have HO2 := hid hown2; clear hb2 hown2 hown1 hrd1 hal)
      go_roundw
      case rel => exact ⟨j + 1, A2, c2, by omega, by go_num, rfl, HO2.out, HX2.out⟩
      case measure => simp [intOf]; omega
    · obtain rfl : j = 26 := by omega
      obtain ⟨g4, c4, e4, hc4, hb4, hl4⟩ := OwnN.head hown (by rw [nW_length, RC_length]) (by omega)
      simp only [Value.slice.injEq] at e4
      obtain ⟨rfl, _, rfl⟩ := e4
      have HO4 := hid hown
      have HO3 := hid (OwnN.kept HO3.out hx)
      have HX2 := hid (Ext.trans HX1.out hx)
      have hz2 := Below.size hx
      clear hx hown HX1
      go_wp2_with fail
      simp only [Int.cast_ofNat_Int]
      go_loopw [6, 7, 8] (fun a b n wr => ∃ (j : Nat) (z : R5), j ≤ 78 ∧ n = .int .i64 j ∧ z = rcAt (rcBegin (words .r key 4)) j ∧ a = .int .u32 (z.a.toNat : Nat) ∧ b = .int .u32 (z.b.toNat : Nat) ∧ OwnW wr w1.heap.size (.slice (some ⟨g4, 0, none⟩) 26 cv) z.s ∧ OwnW wr w.heap.size (.slice (some ⟨g3, 0, none⟩) 4 c3) z.l ∧ Ext w wr) (fun _ _ n _ => 78 - (intOf n).toNat)
      case atStart => exact ⟨0, _, by omega, rfl, rfl, rfl, rfl, HO4.out, HO3.out, HX2.out⟩
      case round =>
        clear HO4 HO3 HX2
        obtain ⟨n, z, hn, rfl, hz, rfl, rfl, hs, hll, hx⟩ := hrel
        obtain ⟨hls, hlx⟩ := rcAt_len (words .r key 4) n
        rw [words_length] at hlx
        by_cases hlt2 : n < 78
        · have hstep : rcAt (rcBegin (words .r key 4)) (n + 1) = rcStep n z := by rw [rcAt, ← hz]
          rw [← hz] at hls hlx
          obtain ⟨i, hi⟩ : ∃ i, n % 26 = i := ⟨_, rfl⟩
          obtain ⟨j, hj⟩ : ∃ j, n % 4 = j := ⟨_, rfl⟩
          have hi26 : i < 26 := by omega
          have hj4 : j < 4 := by omega
          have ei : (n : Int) % 26 = (i : Int) := by omega
          have ej : (n : Int) % 4 = (j : Int) := by omega
          have ti : (n : Int).tmod 26 = (i : Int) := by rw [Int.tmod_eq_emod_of_nonneg (by omega)]; exact ei
          have tj : (n : Int).tmod 4 = (j : Int) := by rw [Int.tmod_eq_emod_of_nonneg (by omega)]; exact ej
          have hcs := OwnW.kw hs hls i (by omega)
          have hcl := OwnW.kw hll hlx j (by omega)
          rw [Nat.zero_add] at hcs hcl
          have hfs := OwnN.free hs i
          have hfl := OwnN.free hll j
          have hA : rcA z n = rolI (z.s.getD i 0 + z.a + z.b) 3 := by unfold rcA; rw [hi]
          have hB : rcB z n (rcA z n) = rolI (z.l.getD j 0 + rcA z n + z.b) ((rcA z n + z.b).toNat % 32 : Nat) := by unfold rcB; rw [hj]
          have hst2 : rcStep n z = ⟨z.s.set i (rcA z n), z.l.set j (rcB z n (rcA z n)), rcA z n, rcB z n (rcA z n)⟩ := by unfold rcStep; rw [hi, hj]
          rw [hst2] at hstep
          obtain ⟨X, hX⟩ : ∃ X, rcA z n = X := ⟨_, rfl⟩
          rw [hX] at hA hB hstep
          obtain ⟨Y, hY⟩ : ∃ Y, rcB z n X = Y := ⟨_, rfl⟩
          rw [hY] at hB hstep
          obtain ⟨si, hsi⟩ : ∃ x, z.s.getD i 0 = x := ⟨_, rfl⟩
          obtain ⟨lj, hlj⟩ : ∃ x, z.l.getD j 0 = x := ⟨_, rfl⟩
          rw [hsi] at hA hcs
          rw [hlj] at hB hcl
          have e1 := w_add si z.a
          have e2 := w_add (si + z.a) z.b
          have e3 := w_add lj X
          have e4 := w_add (lj + X) z.b
          have e5 := w_add X z.b
          obtain ⟨p1, hp1⟩ : ∃ x, si + z.a = x := ⟨_, rfl⟩
          rw [hp1] at hA e1 e2
          obtain ⟨p2, hp2⟩ : ∃ x, p1 + z.b = x := ⟨_, rfl⟩
          rw [hp2] at hA e2
          obtain ⟨p3, hp3⟩ : ∃ x, lj + X = x := ⟨_, rfl⟩
          rw [hp3] at hB e3 e4
          obtain ⟨p4, hp4⟩ : ∃ x, p3 + z.b = x := ⟨_, rfl⟩
          rw [hp4] at hB e4
          obtain ⟨p5, hp5⟩ : ∃ x, X + z.b = x := ⟨_, rfl⟩
          rw [hp5] at hB e5
          have hra := fun w => rrol_w p2 3 w
          rw [← hA] at hra
          have hrb := fun w => rrol_w p4 (p5.toNat % 32 : Nat) w
          rw [← hB] at hrb
          obtain ⟨q5, hq5⟩ : ∃ q, p5.toNat % 32 = q := ⟨_, rfl⟩
          have hq5i : (p5.toNat : Int) % 32 = (q5 : Int) := by omega
          have hq5l : q5 < 32 := by omega
          rw [hq5] at hrb
          have HRA := hid hra
          have HRB := hid hrb
          have hgG : ¬ g3 = g4 := by omega
          have hGg : ¬ g4 = g3 := by omega
          have HBS := hid ((OwnW.set_ hs hls i X).setother g3 j (.int .u32 (Y.toNat : Nat)) (by omega))
          have HBL := hid (OwnW.set_ (OwnW.setother hll g4 i (.int .u32 (X.toNat : Nat)) (by omega)) hlx j Y)
          have HBX := hid (show Ext w ((wr.setCell ⟨g4, i, none⟩ (.int .u32 (X.toNat : Nat))).setCell ⟨g3, j, none⟩ (.int .u32 (Y.toNat : Nat))) from (Below.setCell (Below.setCell (show Below w.heap.size w wr from hx) (by simp; omega) _) (by simp; omega) _))
          have HSTEP := hid hstep
          have b1 := wlt z.a
          have b2 := wlt z.b
          have b3 := wlt si
          have b4 := wlt lj
          have b5 := wlt p1
          have b6 := wlt p3
          have b7 := wlt X
          clear hz hs hll hx hls hlx hstep hi hj hA hB hst2 hX hY hsi hlj hp1 hp2 hp3 hp4 hp5 hra hrb hq5
          go_wp2_with fail
          refine (HRA.out _).mono ?_
          rintro e w' ⟨rfl, rfl⟩
          go_wp2_with fail
          refine (HRB.out _).mono ?_
          rintro e w' ⟨rfl, rfl⟩
          go_wp2_with fail
          go_roundw
          case rel => exact ⟨n + 1, ⟨z.s.set i X, z.l.set j Y, X, Y⟩, by omega, by go_num, HSTEP.out.symm, rfl, rfl, HBS.out, HBL.out, HBX.out⟩
          case measure => simp [intOf]; omega
        · obtain rfl : n = 78 := by omega
          have HO := hid (show OwnW wr w.heap.size (.slice (some ⟨g4, 0, none⟩) 26 cv) (rc5S key) by rw [hz] at hs; exact OwnN.base_mono hs hz1)
          have HX := hid hx
          clear hs hll hx hz
          go_wp2_with fail
          go_ret
          exact ⟨g4, cv, rfl, hc4, OwnW.room HO.out, HO.out, HX.out⟩
end Go.Proofs.YtgkfohgeelfceaaDoor
