/- The law on sums of bytes and their bits, walked; own text of the verifier. -/
import Derived.Test.YtakfndhknoleaaaB9
import Derived.BigQuiet
namespace Go.Proofs.Ytakfndhknoleaaa
open Go.RowKit
def xorF (xs ys : List UInt8) (i : Nat) : UInt8 := xs.getD i 0 ^^^ ys.getD i 0
def xorL (xs ys : List UInt8) (n : Nat) : List UInt8 := (List.range n).map (xorF xs ys)
theorem xorF_val (xs ys : List UInt8) (k : Nat) : ((xorF xs ys k).toNat : Int) = bits .xor .u8 (byteAt xs k) (byteAt ys k) := by
  unfold xorF byteAt
  rw [UInt8.toNat_xor, u8_xor_nat _ _ (UInt8.toNat_lt _) (UInt8.toNat_lt _)]
theorem sum_at {xs bs : List UInt8} {ts : List Int} {n M k : Nat} (hx : n ≤ xs.length) (hb : n ≤ bs.length) (hM : (ts.length + 7) / 8 = M) (hk : k < M) :
    bits .xor .u8 (byteAt (permL (xs.take n) ts) k) (byteAt (permL (bs.take n) ts) k) = byteAt (permL (xorL xs bs n) ts) k := by
  rw [← xorF_val]
  have e : ∀ ys, (permL ys ts).getD k 0 = permF ys ts k := fun ys => by simp [permL, List.getD, hM, hk]
  have h := permF_xor (xs := xs.take n) (bs := bs.take n) (ss := xorL xs bs n) (ts := ts) (n := n) (by rw [List.length_take]; omega) (by rw [List.length_take]; omega) (by simp [xorL])
    (fun i hi => by simp [xorL, xorF, List.getD, hi]) k
  unfold xorF byteAt
  rw [e, e, e, h]
def HasTab (wk : World) (N : Nat) (v : Value) (w : World) : Prop := ∃ (ts : List Int) (A : Option Addr) (j c : Nat), v = .slice A j c ∧ ts.length = j ∧ Tab w A j c ts ∧ j ≤ 100 ∧ okT N ts = true ∧ Ext wk w
set_option maxRecDepth 100000 in
set_option maxHeartbeats 2000000 in
theorem sum_walk (a0 : Option Addr) (len0 cap0 : Nat) (z0 : List Int) (a1 : Option Addr) (len1 cap1 : Nat) (z1 : List Int) (a2 : Option Addr) (len2 cap2 : Nat) (z2 : List Int) (w : World)
    (w0 : IsRow .u8 w a0 len0 cap0 z0) (w1 : IsRow .u8 w a1 len1 cap1 z1) (w2 : IsRow .i64 w a2 len2 cap2 z2) :
    Calls Try.prog 7 #[.slice a0 len0 cap0, .slice a1 len1 cap1, .slice a2 len2 cap2] w fun e w' => e = .returned (.bool true) ∧ Below w.heap.size w w' := by
  obtain ⟨xs, hrx, hmax0, hcap0⟩ := w0.rdc
  obtain ⟨bs, hrb, hmax1, hcap1⟩ := w1.rdc
  obtain ⟨ns, hrn, hmax2, hcap2, hwn⟩ := w2.rdN
  unfold maxLen at hmax0 hmax1 hmax2
  clear w0 w1 w2 hwn
  go_enter Try.func7, Try.ntmps7
  go_wp2_with fail
  refine (known_any _).mono ?_
  rintro e wk ⟨rfl, hbk⟩
  have HX0 := hid hrx
  have HB0 := hid hrb
  have HN0 := hid hrn
  have HK := hid hbk
  clear hrx hrb hrn hbk
  go_upto_if 27 with fail
  obtain ⟨n, hn, hn16, hn0, hn1⟩ : ∃ n : Nat, (if 16 < if len1 < len0 then (len1 : Int) else (len0 : Int) then 16 else if len1 < len0 then (len1 : Int) else (len0 : Int)) = (n : Int) ∧ n ≤ 16 ∧ n ≤ len0 ∧ n ≤ len1 := by
    by_cases h1 : len1 < len0
    · by_cases h2 : 16 < len1
      · exact ⟨16, by rw [if_pos (by rw [if_pos h1]; omega)]; rfl, by omega, by omega, by omega⟩
      · exact ⟨len1, by rw [if_neg (by rw [if_pos h1]; omega), if_pos h1], by omega, by omega, by omega⟩
    · by_cases h2 : 16 < len0
      · exact ⟨16, by rw [if_pos (by rw [if_neg h1]; omega)]; rfl, by omega, by omega, by omega⟩
      · exact ⟨len0, by rw [if_neg (by rw [if_neg h1]; omega), if_neg h1], by omega, by omega, by omega⟩
  rw [hn]
  clear hn
  rcases Nat.eq_zero_or_pos n with h0 | h0
  · subst h0
    go_wp2_with fail
    go_ret
    exact ⟨rfl, HK.out⟩
  · have hn2 : ((n : Int) == 0) = false := by simp; omega
    have hn3 : ¬ n = 0 := by omega
    rw [hn2]
    clear hn2
    go_upto_block 0 with fail
    clear hn3
    go_cut [8] (fun v wx => HasTab wk n v wx)
    case first =>
      go_wp2_with fail
      go_loopw [8, 9] (fun v i wr => ∃ (j : Nat) (ts : List Int), j ≤ 100 ∧ i = .int .i64 j ∧ ts.length = j ∧ OwnN .i64 3 wr wk.heap.size v ts ∧ (∀ t ∈ ts, 1 ≤ t ∧ t ≤ 8 * (n : Int)) ∧ Ext wk wr) (fun _ i _ => 100 - (intOf i).toNat)
      case atStart => exact ⟨0, [], by omega, rfl, rfl, World.ownsRow_nil _ _ _ _, by simp, Ext.refl _⟩
      case round =>
        obtain ⟨j, ts, hj, rfl, htl, hown, hall, hx⟩ := hrel
        by_cases hgo : j < len2 ∧ j < 100
        · obtain ⟨h1, h2⟩ := hgo
          obtain ⟨b1, o1, rfl, hb1', hc1⟩ := (HN0.out.below (Ext.trans HK.out hx) (Nat.le_refl _)).at_ (by omega)
          have hck := hc1 j h1
          obtain ⟨x, hxx⟩ : ∃ x, ns.getD j 0 = x := ⟨_, rfl⟩
          rw [hxx] at hck
          have hm := Int.emod_nonneg x (show (8 * (n : Int)) ≠ 0 by omega)
          have hm2 := Int.emod_lt_of_pos x (show 0 < (8 * (n : Int)) by omega)
          have HO := hid hown
          have HT := hid (And.intro htl hall)
          have HX := hid hx
          have hz := hx.size
          obtain ⟨y, hy⟩ : ∃ y, x % (8 * (n : Int)) = y := ⟨_, rfl⟩
          rw [hy] at hm hm2
          have HY := hid hy
          have hO := HO.out.kept (Ext.alloc wr (.cells #[.int .i64 (1 + y)] 3))
          have hR := one_rd wr (1 + y)
          have HXA := hid (Ext.trans HX.out (Ext.alloc wr (.cells #[.int .i64 (1 + y)] 3)))
          have htn : ts.length ≤ 100 := by omega
          clear hxx hy hc1 hown htl hall hx
          go_wp2_with fail
          refine (within_any _ _ _ (by omega) (by omega)).mono ?_
          rintro e w' ⟨rfl, rfl⟩
          rw [HY.out]
          go_wp2_with (at_builtin; refine wpL_appendN _ rfl (.tmp 38) (.tmp 47) 23 rfl Try.underlying23 8 Try.info3 wk.heap.size _ ts rfl hO _ _ 1 1 [1 + y] rfl hR (by omega) (by unfold maxLen; omega) (by simp; omega) ?_; intro v2 w2 hown2 hb2)
          have HX2 := hid (Below.trans HXA.out hb2)
          go_roundw
          case rel =>
            refine ⟨j + 1, _, by omega, by go_num, by rw [List.length_append, HT.out.1]; rfl, hown2, ?_, HX2.out⟩
            intro t ht
            rcases List.mem_append.1 ht with h | h
            · exact HT.out.2 t h
            · have := List.mem_singleton.1 h; omega
          case measure => simp [intOf]; omega
        · obtain ⟨At, ct, rfl, hct, hrt, _⟩ := hown.rdc htl
          have hways : len2 ≤ j ∨ (j < len2 ∧ 100 ≤ j) := by omega
          have HH := hid (show HasTab wk n (.slice At j ct) wr from ⟨ts, At, j, ct, rfl, htl, ⟨hrt, hct, by omega, fun i hi => by
            have := getD_of_all hall (j := i) (by omega)
            exact wf_of (by omega) (by omega)⟩, by omega, okT_in hall, hx⟩)
          clear hown htl hall hx hrt hgo
          rcases hways with h1 | ⟨h1, h2⟩
          all_goals
            go_wp2_with fail
            go_meet
            exact HH.out
    case rest =>
      obtain ⟨ts, At, j, ct, rfl, htl, ht, hj, hok, hx⟩ := hcut
      have HTL := hid htl
      have HT := hid ht
      have HX := hid (Ext.trans HK.out hx)
      have HOK := hid hok
      have hxr := hid (HX0.out.later HX.out)
      have hbr := hid (HB0.out.later HX.out)
      clear htl ht hx hok
      go_wp2_with (at_make; refine wpL_make rfl (.tmp 49) (.tmp 49) 22 rfl Try.underlying22 Try.info5 .i64 n n rfl rfl rfl (by omega) wc.heap.size (Nat.le_refl _) ?_; intro w1 hown1 hb1 _)
      have hsz := hb1.size
      have HX1 := hid (Ext.trans HX.out hb1)
      have hxr1 := hid (hxr.out.below hb1 (Nat.le_refl _))
      have hbr1 := hid (hbr.out.below hb1 (Nat.le_refl _))
      have HB1 := hid hb1
      obtain ⟨G, hG⟩ : ∃ G, wc.heap.size = G := ⟨_, rfl⟩
      have hown1' := hid hown1
      clear hown1 hb1 hG
      go_loopw [11] (fun i wr => ∃ k : Nat, k ≤ n ∧ i = .int .i64 k ∧ Own wr wc.heap.size (.slice (some ⟨wc.heap.size, 0, none⟩) n n) (fillTo (xorF xs bs) n k) ∧ Ext wc wr) (fun i _ => n - (intOf i).toNat)
      case atStart => exact ⟨0, Nat.zero_le _, rfl, by rw [fillTo_zero]; exact hown1'.out, HB1.out⟩
      case round =>
        obtain ⟨k, hk, rfl, hown, hb⟩ := hrel
        by_cases hlt : k < n
        · obtain ⟨b1, o1, rfl, hb1', hc1⟩ := (hxr.out.below hb (Nat.le_refl _)).at_ (by omega)
          obtain ⟨b2, o2, rfl, hb2', hc2⟩ := (hbr.out.below hb (Nat.le_refl _)).at_ (by omega)
          have hck1 := hc1 k (by omega)
          have hck2 := hc2 k (by omega)
          have r1 := byteAt_lo xs k; have r2 := byteAt_hi xs k; have r3 := byteAt_lo bs k; have r4 := byteAt_hi bs k
          have hb3 : k < len0 := by omega
          have hb4 : k < len1 := by omega
          obtain ⟨cur, hcur⟩ : ∃ cur, fillTo (xorF xs bs) n k = cur := ⟨_, rfl⟩
          have hcl : cur.length = n := by rw [← hcur]; exact fillTo_length _ _ _
          rw [hcur] at hown
          have hown0 : Own wr wc.heap.size (.slice (some ⟨wc.heap.size, 0, none⟩) cur.length n) cur := by rw [hcl]; exact hown
          have hcell := hown0.cell k (by omega)
          have hfree := hown0.free k
          have hset := hown0.set_ k (xorF xs bs k)
          rw [← hcur, fillTo_set _ _ _ _ rfl, fillTo_length] at hset
          rw [xorF_val] at hset
          have HH := hid hset
          have HB := hid hb
          clear hset hown0 hown hb hcl hcur hc1 hc2
          go_wp2_with fail
          go_region
          go_wp2_with fail
          go_roundw
          case rel => exact ⟨k + 1, by omega, by go_num, HH.out, (HB.out.setCell (by simp) _).drew⟩
          case measure => simp [intOf]; omega
        · obtain rfl : k = n := by omega
          rw [fillTo_full] at hown
          have HO := hid hown
          have HBB := hid hb
          obtain ⟨M, hM⟩ : ∃ M, (j + 7) / 8 = M := ⟨_, rfl⟩
          have hM2 : ((j : Int) + 7) / 8 = M := by omega
          have HM := hid hM
          have HM2 := hid hM2
          have hM3 : 8 * M ≤ j + 7 := by omega
          have hxr2 := hid ((hxr.out.later hb).cuthi k (by omega))
          have hbr2 := hid ((hbr.out.later hb).cuthi k (by omega))
          have hsr2 := hid (Own.rdn (n := k) hown (by simp))
          have HX2 := hid (Ext.trans HX.out hb)
          have HT2 := hid (HT.out.later hb)
          clear hown hb hM hM2
          go_wp2_with fail
          refine (perm_rd _ _ _ _ _ _ _ _ M _ hxr2.out HT2.out HOK.out HM.out).mono ?_
          rintro e w4 ⟨Ax, cx, rfl, hx4, hxx⟩
          have HX4 := hid (Ext.trans HX2.out hxx)
          have HT4 := hid (HT2.out.later hxx)
          have hbr4 := hid (hbr2.out.later hxx)
          obtain ⟨As, cs, hse, hsr, _⟩ := hsr2.out
          cases hse
          have hsr4 := hid (hsr.later hxx)
          have hx4h := hid hx4
          clear hx4 hxx hsr
          go_wp2_with fail
          refine (perm_rd _ _ _ _ _ _ _ _ M _ hbr4.out HT4.out HOK.out HM.out).mono ?_
          rintro e w5 ⟨Ay, cy, rfl, hy5, hxx⟩
          have HX5 := hid (Ext.trans HX4.out hxx)
          have HT5 := hid (HT4.out.later hxx)
          have hsr5 := hid (hsr4.out.later hxx)
          have hx5h := hid (hx4h.out.later hxx)
          have hy5h := hid hy5
          clear hy5 hxx
          go_wp2_with fail
          refine (perm_rd _ _ _ _ _ _ _ _ M _ hsr5.out HT5.out HOK.out HM.out).mono ?_
          rintro e w6 ⟨Az, cz, rfl, hz6, hxx⟩
          have HX6 := hid (Ext.trans HX5.out hxx)
          have hx6h := hid (hx5h.out.later hxx)
          have hy6h := hid (hy5h.out.later hxx)
          have hz6h := hid hz6
          have hM2 := HM2.out
          clear hz6 hxx
          go_wp2_with fail
          clear hM2
          have hlx := hid (hxr.out.len)
          have hlb := hid (hbr.out.len)
          go_loopw [18] (fun i wr => ∃ q : Nat, q ≤ M ∧ i = .int .i64 q ∧ Ext w6 wr) (fun i _ => M - (intOf i).toNat)
          case atStart => exact ⟨0, Nat.zero_le _, rfl, Ext.refl _⟩
          case round =>
            obtain ⟨q, hq, rfl, hx⟩ := hrel
            by_cases hqt : q < M
            · obtain ⟨b1, o1, rfl, hb1', hc1⟩ := (hx6h.out.later hx).at_ (by omega)
              obtain ⟨b2, o2, rfl, hb2', hc2⟩ := (hy6h.out.later hx).at_ (by omega)
              obtain ⟨b3, o3, rfl, hb3', hc3⟩ := (hz6h.out.later hx).at_ (by omega)
              have hck1 := hc1 q hqt
              have hck2 := hc2 q hqt
              have hck3 := hc3 q hqt
              have hsum := sum_at (xs := xs) (bs := bs) (ts := ts) (n := k) (M := M) (k := q) (by rw [hlx.out]; exact hn0) (by rw [hlb.out]; exact hn1) (by rw [HTL.out]; exact HM.out) hqt
              obtain ⟨X, hX⟩ : ∃ X, byteAt (permL (List.take k xs) ts) q = X := ⟨_, rfl⟩
              obtain ⟨Y, hY⟩ : ∃ Y, byteAt (permL (List.take k bs) ts) q = Y := ⟨_, rfl⟩
              have hZe : byteAt (permL (List.map (xorF xs bs) (List.range k)) ts) q = byteAt (permL (xorL xs bs k) ts) q := rfl
              rw [hZe] at hck3
              obtain ⟨Z, hZ⟩ : ∃ Z, byteAt (permL (xorL xs bs k) ts) q = Z := ⟨_, rfl⟩
              rw [hX] at hck1 hsum
              rw [hY] at hck2 hsum
              rw [hZ] at hck3 hsum
              have HXX := hid hx
              clear hc1 hc2 hc3 hX hY hZ hZe hx
              go_wp2_with fail
              go_quiet (fail)
              clear hsum
              go_wp2_with fail
              go_roundw
              case rel => exact ⟨q + 1, by omega, by go_num, below_drewN' HXX.out nq⟩
              case measure => simp [intOf]; omega
            · obtain rfl : q = M := by omega
              have HXX := hid (Ext.trans HX6.out hx)
              clear hx
              go_wp2_with fail
              go_ret
              exact ⟨rfl, HXX.out⟩
end Go.Proofs.Ytakfndhknoleaaa
