/- The law on the last bits of a key, walked; own text of the verifier. -/
import Derived.Test.YthfcndaccfpnmaaDoorX17
namespace Go.Proofs.YthfcndaccfpnmaaDoor
open Go.RowKit
theorem ParEq.take_drop {xs ys : List UInt8} (h : ParEq xs ys) (a n : Nat) : ParEq ((xs.drop a).take n) ((ys.drop a).take n) := by
  refine ⟨by simp [h.1], fun i hi => ?_⟩
  have hi2 : i < n ∧ a + i < xs.length := by simp at hi; omega
  obtain ⟨d, hd, he⟩ := h.2 (a + i) hi2.2
  refine ⟨d, hd, ?_⟩
  have e1 : ((ys.drop a).take n).getD i 0 = ys.getD (a + i) 0 := by simp [List.getD, hi2.1]
  have e2 : ((xs.drop a).take n).getD i 0 = xs.getD (a + i) 0 := by simp [List.getD, hi2.1]
  rw [e1, e2, he]
theorem ParEq.append {xs ys us vs : List UInt8} (h : ParEq xs ys) (k : ParEq us vs) : ParEq (xs ++ us) (ys ++ vs) := by
  refine ⟨by simp [h.1, k.1], fun i hi => ?_⟩
  rcases Nat.lt_or_ge i xs.length with h1 | h1
  · obtain ⟨d, hd, he⟩ := h.2 i h1
    refine ⟨d, hd, ?_⟩
    have e1 : (ys ++ vs).getD i 0 = ys.getD i 0 := by simp [List.getD, List.getElem?_append_left (show i < ys.length by rw [← h.1]; exact h1)]
    have e2 : (xs ++ us).getD i 0 = xs.getD i 0 := by simp [List.getD, List.getElem?_append_left h1]
    rw [e1, e2, he]
  · have h2 : i - xs.length < us.length := by simp at hi; omega
    obtain ⟨d, hd, he⟩ := k.2 _ h2
    refine ⟨d, hd, ?_⟩
    have e1 : (ys ++ vs).getD i 0 = vs.getD (i - xs.length) 0 := by rw [h.1]; simp [List.getD, List.getElem?_append_right (show ys.length ≤ i by rw [← h.1]; exact h1)]
    have e2 : (xs ++ us).getD i 0 = us.getD (i - xs.length) 0 := by simp [List.getD, List.getElem?_append_right h1]
    rw [e1, e2, he]
theorem ParEq.key3 {xs ys : List UInt8} (h : ParEq xs ys) : ParEq (key3 xs) (key3 ys) := by
  unfold Go.Proofs.YthfcndaccfpnmaaDoor.key3
  rw [← h.1]
  split
  · have := h.take_drop 0 8
    simp only [List.drop_zero] at this
    exact h.append this
  · exact h
theorem ParEq.block {xs ys : List UInt8} (h : ParEq xs ys) (back : Bool) (b : List UInt8) : blockL (manyOf ys.length) (kfOf ys) back b = blockL (manyOf xs.length) (kfOf xs) back b := by
  have e : kfOf ys = kfOf xs := by
    funext j i
    unfold kfOf
    exact (h.key3.take_drop (8 * j) 8).key i
  rw [e, h.1]
/-- The key with its last bits turned, so far. -/
def parL (xs : List UInt8) (t k : Nat) : List UInt8 := (List.range xs.length).map fun i => if i < k then xs.getD i 0 ^^^ UInt8.ofNat (t / 2 ^ (i % 8) % 2) else xs.getD i 0
theorem parL_len (xs : List UInt8) (t k : Nat) : (parL xs t k).length = xs.length := by simp [parL]
theorem parL_zero (xs : List UInt8) (t : Nat) : parL xs t 0 = xs := by
  apply List.ext_getElem
  · simp [parL]
  · intro i h1 h2; simp [parL, List.getD, h2]
theorem parL_get (xs : List UInt8) (t k i : Nat) (hi : i < xs.length) : (parL xs t k).getD i 0 = if i < k then xs.getD i 0 ^^^ UInt8.ofNat (t / 2 ^ (i % 8) % 2) else xs.getD i 0 := by
  simp [parL, List.getD, hi]
theorem parL_set (xs : List UInt8) (t k : Nat) (hk : k < xs.length) : (parL xs t k).set k (xs.getD k 0 ^^^ UInt8.ofNat (t / 2 ^ (k % 8) % 2)) = parL xs t (k + 1) := by
  refine bytes_ext (n := xs.length) (by rw [List.length_set, parL_len]) (parL_len _ _ _) fun i hi => ?_
  rw [parL_get _ _ _ _ hi]
  by_cases h : k = i
  · subst h
    rw [if_pos (by omega)]
    simp [List.getD, parL_len, hk]
  · have e : ((parL xs t k).set k (xs.getD k 0 ^^^ UInt8.ofNat (t / 2 ^ (k % 8) % 2))).getD i 0 = (parL xs t k).getD i 0 := by simp [List.getD, List.getElem?_set_ne h]
    rw [e, parL_get _ _ _ _ hi]
    by_cases h' : i < k
    · rw [if_pos h', if_pos (by omega)]
    · rw [if_neg h', if_neg (by omega)]
theorem parL_eq (xs : List UInt8) (t : Nat) : ParEq xs (parL xs t xs.length) := by
  refine ⟨(parL_len _ _ _).symm, fun i hi => ⟨UInt8.ofNat (t / 2 ^ (i % 8) % 2), ?_, ?_⟩⟩
  · rw [UInt8.toNat_ofNat']; omega
  · rw [parL_get _ _ _ _ hi, if_pos hi]
theorem par_val (x : UInt8) (t k : Nat) (ht : t < 256) : bits .xor .u8 ((x.toNat : Nat) : Int) (bits .and .u8 ((t : Int) / 2 ^ (k % 8)) 1) = (((x ^^^ UInt8.ofNat (t / 2 ^ (k % 8) % 2)).toNat : Nat) : Int) := by
  have h1 : t / 2 ^ (k % 8) < 256 := Nat.lt_of_le_of_lt (Nat.div_le_self _ _) ht
  rw [natdiv_cast, show (1 : Int) = ((1 : Nat) : Int) from rfl, u8_and_nat _ _ h1 (by omega), nat_mask1, u8_xor_nat _ _ (UInt8.toNat_lt _) (by omega), UInt8.toNat_xor, UInt8.toNat_ofNat']
  congr 2
  omega
theorem manyOf_le' (n : Nat) : manyOf n ≤ 1000 := by unfold manyOf; split <;> omega
set_option maxRecDepth 100000 in
set_option maxHeartbeats 4000000 in
theorem parity_walk (a0 : Option Addr) (len0 cap0 : Nat) (z0 : List Int) (a1 : Int) (a2 : Option Addr) (len2 cap2 : Nat) (z2 : List Int) (a3 : Int) (w : World) (w0 : IsRow .u8 w a0 len0 cap0 z0) (_w1 : (Lit.int .i64 a1).wf = true) (w2 : IsRow .u8 w a2 len2 cap2 z2) (w3 : (Lit.int .u8 a3).wf = true) (ho : Boxes w) :
    Calls Tryd.prog 4 #[.slice a0 len0 cap0, .int .i64 a1, .slice a2 len2 cap2, .int .u8 a3] w fun e w' => e = .returned (.bool true) ∧ Below w.heap.size w w' := by
  obtain ⟨l0, hr0, hmax0, _⟩ := w0.rdc
  obtain ⟨l2, hr2, hmax2, _⟩ := w2.rdc
  unfold maxLen at hmax0 hmax2
  have hb3 := wf_u8' w3
  obtain ⟨t, rfl⟩ : ∃ t : Nat, a3 = t := ⟨a3.toNat, by omega⟩
  have ht : t < 256 := by omega
  clear w0 w2 w3 hb3
  have HO := hid ho
  have H0 := hid hr0
  have H2 := hid hr2
  clear ho hr0 hr2
  go_enter Tryd.func4, Tryd.ntmps4
  go_wp2_with fail
  refine (known_any _ HO.out).mono ?_
  rintro e wk ⟨rfl, hxk⟩
  have HXK := hid hxk
  clear hxk
  go_wp2_with fail
  refine (key_any _ _ _ a1 _ _ (H0.out.later HXK.out) (by omega)).mono ?_
  rintro e w1 ⟨Ax, cx, rfl, hcx, hx, hx1⟩
  have HX1 := hid (Ext.trans HXK.out hx1)
  have HA1 := hid hx
  clear hx hx1 HXK
  have hkl := kLen_ok a1
  obtain ⟨n, hn⟩ : ∃ n, kLen a1 = n := ⟨_, rfl⟩
  rw [hn] at hkl hcx HA1 ⊢
  obtain ⟨x, hxe⟩ : ∃ x, byL n l0 = x := ⟨_, rfl⟩
  rw [hxe] at HA1
  have hxl := hid HA1.out.len
  clear hn hxe H0
  obtain ⟨bx, ox, rfl, hbx, hcx0⟩ := HA1.out.at_ (by omega)
  have hown := Own.lit w1 [] #[] 0 w1.heap.size rfl rfl (by unfold maxLen; omega) (Nat.le_refl _)
  have hxa : Ext w1 (w1.alloc (.cells #[] 5)) := Ext.alloc _ _
  have hza : (w1.alloc (.cells #[] 5)).heap.size = w1.heap.size + 1 := by simp
  clear hcx0
  go_wp2_with (at_builtin; refine wpL_append _ rfl (.tmp 25) (.tmp 26) 22 rfl Tryd.underlying22 Tryd.info5 w1.heap.size _ [] rfl hown _ (some ⟨bx, ox, none⟩) n cx x rfl (HA1.out.later hxa) (by simp; omega) (by omega) ?_; intro v2 w2 hown2 hb2)
  have HB2 := hid ((show Below w1.heap.size w1 _ from hxa).trans hb2)
  have hown2 : Own w2 w1.heap.size v2 x := hown2
  obtain ⟨Ay, cy, rfl, hcy, hry, hown2⟩ := hown2.rdc hxl.out
  have hAy : ∃ g, Ay = some ⟨g, 0, none⟩ ∧ w1.heap.size ≤ g := by
    rcases hown2.2 with ⟨h1, h2⟩ | ⟨g, cap, cur, e1, hbg, _⟩
    · have := hxl.out; omega
    · simp only [Value.slice.injEq] at e1
      exact ⟨g, e1.1, hbg⟩
  obtain ⟨G, rfl, hG⟩ := hAy
  have HO2 := hid (show Own w2 w1.heap.size (.slice (some ⟨G, 0, none⟩) n cy) (parL x t 0) by rw [parL_zero]; exact hown2)
  clear hown2 hb2 hown hxa hza hry
  go_wp2_with fail
  go_loopw [11] (fun i wr => ∃ k : Nat, k ≤ n ∧ i = .int .i64 k ∧ Own wr w1.heap.size (.slice (some ⟨G, 0, none⟩) n cy) (parL x t k) ∧ Below w1.heap.size w1 wr) (fun i _ => n - (intOf i).toNat)
  case atStart => exact ⟨0, by omega, rfl, HO2.out, HB2.out⟩
  case round =>
    clear HO2 HB2
    obtain ⟨k, hk, rfl, hown, hb⟩ := hrel
    by_cases hlt : k < n
    · have hpl := parL_len x t k
      have hown0 : Own wr w1.heap.size (.slice (some ⟨G, 0, none⟩) (parL x t k).length cy) (parL x t k) := by rw [hpl, hxl.out]; exact hown
      have hcell := hown0.cell k (by rw [hpl, hxl.out]; exact hlt)
      have hfree := hown0.free k
      have hset := hown0.set_ k (x.getD k 0 ^^^ UInt8.ofNat (t / 2 ^ (k % 8) % 2))
      rw [parL_set x t k (by rw [hxl.out]; exact hlt), hpl, hxl.out, ← par_val _ t k ht] at hset
      have hby : byteAt (parL x t k) k = (((x.getD k 0).toNat : Nat) : Int) := by
        unfold byteAt
        rw [parL_get _ _ _ _ (by rw [hxl.out]; exact hlt), if_neg (by omega)]
      rw [hby] at hcell
      have hX := (x.getD k 0).toNat_lt
      obtain ⟨X, hXe⟩ : ∃ X, (x.getD k 0).toNat = X := ⟨_, rfl⟩
      rw [hXe] at hcell hset hX
      have hkm : (k : Int) % 8 = ((k % 8 : Nat) : Int) := by omega
      obtain ⟨q, hq⟩ : ∃ q, k % 8 = q := ⟨_, rfl⟩
      have hq8 : q < 8 := by omega
      rw [hq] at hkm hset
      have HH := hid hset
      have HB := hid hb
      clear hset hown0 hown hb hby hpl hXe hq
      go_wp2_with fail
      go_roundw
      case rel => exact ⟨k + 1, by omega, by go_num, HH.out, HB.out.setCell (by simp; omega) _⟩
      case measure => simp [intOf]; omega
    · obtain rfl : k = n := by omega
      have hfull : parL x t k = parL x t x.length := by rw [hxl.out]
      rw [hfull] at hown
      have hpe := parL_eq x t
      obtain ⟨y, hy⟩ : ∃ y, parL x t x.length = y := ⟨_, rfl⟩
      rw [hy] at hown hpe
      have hyl : y.length = k := by rw [← hpe.1]; exact hxl.out
      obtain ⟨A3, c3, e3, _, hr3, _⟩ := hown.rdc hyl
      cases e3
      have HPE := hid hpe
      have HY := hid hr3
      have HX := hid (Ext.trans HX1.out (show Ext w1 wr from hb))
      have HA := hid (HA1.out.later (show Ext w1 wr from hb))
      have HYL := hid hyl
      clear hown hb hr3 hpe hy hyl hfull HA1 HX1
      go_wp2_with fail
      refine (new_any _ k cx x _ hkl HA.out hcx).mono ?_
      rintro e w3 ⟨pu, rfl, hu, hx3⟩
      have HX3 := hid (Ext.trans HX.out hx3)
      have HY3 := hid (HY.out.later hx3)
      have HU3 := hid hu
      clear hu hx3 HX HY HA
      go_wp2_with fail
      refine (new_any _ k cy y _ hkl HY3.out hcy).mono ?_
      rintro e w4 ⟨pv, rfl, hv, hx4⟩
      have HX4 := hid (Ext.trans HX3.out hx4)
      have HU4 := hid (HU3.out.later hx4)
      have HV4 := hid hv
      clear hv hx4 HX3 HY3 HU3
      go_wp2_with fail
      refine (bytes_rd _ 8 _ _ _ _ (H2.out.later HX4.out) (by omega) (by omega)).mono ?_
      rintro e w5 ⟨A5, c5, rfl, hc5, hr5, hx5⟩
      have HX5 := hid (Ext.trans HX4.out hx5)
      have HU5 := hid (HU4.out.later hx5)
      have HV5 := hid (HV4.out.later hx5)
      have HR5 := hid hr5
      clear hr5 hx5 HX4 HU4 HV4
      go_wp2_with fail
      refine (block_any _ pu _ _ _ _ false _ HU5.out (manyOf_le' _) HR5.out (HO.out.later HX5.out)).mono ?_
      rintro e w6 ⟨A6, c6, rfl, hc6, hr6, hx6⟩
      have HX6 := hid (Ext.trans HX5.out hx6)
      have HV6 := hid (HV5.out.later hx6)
      have HR6 := hid hr6
      clear hr6 hx6 HX5 HU5 HV5 HR5
      go_wp2_with fail
      refine (bytes_rd _ 8 _ _ _ _ (H2.out.later HX6.out) (by omega) (by omega)).mono ?_
      rintro e w7 ⟨A7, c7, rfl, hc7, hr7, hx7⟩
      have HX7 := hid (Ext.trans HX6.out hx7)
      have HV7 := hid (HV6.out.later hx7)
      have HR7 := hid (HR6.out.later hx7)
      have HB7 := hid hr7
      clear hr7 hx7 HX6 HV6 HR6
      go_wp2_with fail
      refine (block_any _ pv _ _ _ _ false _ HV7.out (manyOf_le' _) HB7.out (HO.out.later HX7.out)).mono ?_
      rintro e w8 ⟨A8, c8, rfl, hc8, hr8, hx8⟩
      rw [HPE.out.block false] at hr8
      have HX8 := hid (Ext.trans HX7.out hx8)
      have hs1 := strq (c := c6) (HR7.out.later hx8)
      have hs2 := strq (c := c8) hr8
      clear hr8 hx8 HX7 HV7 HR7 HB7
      go_wp2_with fail
      go_ret
      exact ⟨rfl, HX8.out⟩
end Go.Proofs.YthfcndaccfpnmaaDoor
