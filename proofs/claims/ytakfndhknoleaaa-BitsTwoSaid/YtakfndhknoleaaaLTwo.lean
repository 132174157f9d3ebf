/- The law on one table and another one, walked; own text of the verifier. -/
import Derived.Test.YtakfndhknoleaaaB9
namespace Go.Proofs.Ytakfndhknoleaaa
open Go.RowKit
def bothL (ts us : List Int) (j : Nat) : List Int := (List.range j).map fun i => ts.getD (us.getD i 0 - 1).toNat 0
theorem bothL_length (ts us : List Int) (j : Nat) : (bothL ts us j).length = j := by simp [bothL]
theorem bothL_succ (ts us : List Int) (j : Nat) : bothL ts us (j + 1) = bothL ts us j ++ [ts.getD (us.getD j 0 - 1).toNat 0] := by simp [bothL, List.range_succ]
theorem bothL_bound {N : Nat} {ts us : List Int} (ht : IsPerm N ts) (hu : IsPerm N us) {j : Nat} (hj : j ≤ N) : ∀ t ∈ bothL ts us j, 1 ≤ t ∧ t ≤ N := by
  intro t h
  unfold bothL at h
  obtain ⟨i, hi, rfl⟩ := List.mem_map.1 h
  have hi := List.mem_range.1 hi
  have h1 := hu.lo i (by omega)
  have h2 := hu.hi i (by omega)
  exact ⟨ht.lo _ (by omega), ht.hi _ (by omega)⟩
set_option maxHeartbeats 2000000 in
theorem two_walk (a0 : Option Addr) (len0 cap0 : Nat) (z0 : List Int) (a1 : Option Addr) (len1 cap1 : Nat) (z1 : List Int) (a2 : Option Addr) (len2 cap2 : Nat) (z2 : List Int) (w : World)
    (w0 : IsRow .u8 w a0 len0 cap0 z0) (w1 : IsRow .i64 w a1 len1 cap1 z1) (w2 : IsRow .i64 w a2 len2 cap2 z2) :
    Calls Try.prog 6 #[.slice a0 len0 cap0, .slice a1 len1 cap1, .slice a2 len2 cap2] w fun e w' => e = .returned (.bool true) ∧ Below w.heap.size w w' := by
  obtain ⟨bs, hrb, hmax0, _⟩ := w0.rdc
  obtain ⟨ns, hrn, hmax1, hcap1, hwn⟩ := w1.rdN
  obtain ⟨ms, hrm, hmax2, hcap2, hwm⟩ := w2.rdN
  unfold maxLen at hmax0 hmax1 hmax2
  clear w0 w1 w2 hwn hwm
  go_enter Try.func6, Try.ntmps6
  go_wp2_with fail
  refine (known_any _).mono ?_
  rintro e wk ⟨rfl, hbk⟩
  by_cases h16 : 16 < len0
  · go_wp2_with fail
    go_ret
    exact ⟨rfl, hbk⟩
  · have HL := hid hrb.len
    have HB0 := hid hrb
    have HN0 := hid (hrn.later hbk)
    have HM0 := hid (hrm.later hbk)
    have HK := hid hbk
    obtain ⟨ts, hts⟩ : ∃ ts, ordL (8 * len0) ns = ts := ⟨_, rfl⟩
    obtain ⟨us, hus⟩ : ∃ us, ordL (8 * len0) ms = us := ⟨_, rfl⟩
    have hT := ordL_isPerm (8 * len0) ns
    have hU := ordL_isPerm (8 * len0) ms
    rw [hts] at hT
    rw [hus] at hU
    have HTS := hid hts
    have HUS := hid hus
    have HT := hid hT
    have HU := hid hU
    have hok := hid (hT.ok (n := len0) rfl)
    have hoku := hid (hU.ok (n := len0) rfl)
    have HM := hid (show (8 * len0 + 7) / 8 = len0 by omega)
    have HTW := hid (permL_two (bs := bs) hT hU (bothL_length ts us (8 * len0)) (fun i hi => by rw [getD_eq _ _ _ (by rw [bothL_length]; exact hi)]; simp [bothL]))
    clear hrb hrn hrm hbk hT hU hts hus
    go_wp2_with fail
    refine (order_tab _ (8 * len0) _ _ _ _ _ (by omega) HN0.out (by omega) (by omega)).mono ?_
    rintro e w2 ⟨At, ct, rfl, ht, hx2⟩
    rw [HTS.out] at ht
    have HX2 := hid (Ext.trans HK.out hx2)
    have HM2 := hid (HM0.out.later hx2)
    have ht2 := hid ht
    clear ht hx2
    go_wp2_with fail
    refine (order_tab _ (8 * len0) _ _ _ _ _ (by omega) HM2.out (by omega) (by omega)).mono ?_
    rintro e w3 ⟨Au, cu, rfl, hu, hx3⟩
    rw [HUS.out] at hu
    have HX3 := hid (Ext.trans HX2.out hx3)
    have ht3 := hid (ht2.out.later hx3)
    have hu3 := hid hu
    have hb3 := hid (HB0.out.later HX3.out)
    clear hu hx3
    go_wp2_with fail
    go_loopw [10, 11] (fun v i wr => ∃ (j : Nat), j ≤ 8 * len0 ∧ i = .int .i64 j ∧ OwnN .i64 3 wr w3.heap.size v (bothL ts us j) ∧ Ext w3 wr) (fun _ i _ => 8 * len0 - (intOf i).toNat)
    case atStart => exact ⟨0, Nat.zero_le _, rfl, World.ownsRow_nil _ _ _ _, Ext.refl _⟩
    case round =>
      obtain ⟨j, hj, rfl, hown, hx⟩ := hrel
      by_cases hlt : j < 8 * len0
      · obtain ⟨b1, o1, rfl, hb1', hc1⟩ := (ht3.out.1.below hx (Nat.le_refl _)).at_ (by omega)
        obtain ⟨b2, o2, rfl, hb2', hc2⟩ := (hu3.out.1.below hx (Nat.le_refl _)).at_ (by omega)
        have hck2 := hc2 j hlt
        have q1 := HU.out.lo j hlt
        have q2 := HU.out.hi j hlt
        obtain ⟨q, hq⟩ : ∃ q : Nat, us.getD j 0 = (q : Int) + 1 := ⟨(us.getD j 0 - 1).toNat, by omega⟩
        have hqn : q < 8 * len0 := by omega
        have hck1 := hc1 q hqn
        have hb := bothL_succ ts us j
        rw [hq, show ((q : Int) + 1 - 1).toNat = q by omega] at hb
        rw [hq] at hck2
        obtain ⟨x, hxx⟩ : ∃ x, ts.getD q 0 = x := ⟨_, rfl⟩
        rw [hxx] at hck1 hb
        have HO := OwnN.kept hown (Ext.alloc wr (.cells #[.int .i64 x] 3))
        have HR := one_rd wr x
        have HX := hid (Ext.trans hx (Ext.alloc wr (.cells #[.int .i64 x] 3)))
        have hz := hx.size
        have HB := hid hb
        have hbl := bothL_length ts us j
        clear hown hx hb hc1 hc2 q1 q2 hq hxx
        go_wp2_with (at_builtin; refine wpL_appendN _ rfl (.tmp 37) (.tmp 46) 23 rfl Try.underlying23 8 Try.info3 w3.heap.size _ (bothL ts us j) rfl HO _ _ 1 1 [x] rfl HR (by omega) (by unfold maxLen; omega) (by simp; omega) ?_; intro v2 w4 hown2 hb2)
        rw [← HB.out] at hown2
        have HX2 := hid (Below.trans HX.out hb2)
        go_roundw
        case rel => exact ⟨j + 1, by omega, by go_num, hown2, HX2.out⟩
        case measure => simp [intOf]; omega
      · obtain rfl : j = 8 * len0 := by omega
        obtain ⟨Ab, cb, rfl, htb⟩ := tab_of hown (bothL_length _ _ _) (by omega) (fun t h => by have := bothL_bound HT.out HU.out (Nat.le_refl _) t h; omega)
        have hokb := hid (okT_in (n := len0) (fun t h => by have := bothL_bound HT.out HU.out (Nat.le_refl _) t h; omega : ∀ t ∈ bothL ts us (8 * len0), 1 ≤ t ∧ t ≤ 8 * (len0 : Int)))
        have HX := hid (Ext.trans HX3.out hx)
        have ht4 := hid (ht3.out.later hx)
        have hu4 := hid (hu3.out.later hx)
        have hb4 := hid (hb3.out.later hx)
        have htb4 := hid htb
        clear hown hx htb
        go_wp2_with fail
        refine (perm_rd _ _ _ _ _ _ _ _ len0 _ hb4.out ht4.out hok.out HM.out).mono ?_
        rintro e w5 ⟨Ax, cx, rfl, hx5, hxx⟩
        have HX5 := hid (Ext.trans HX.out hxx)
        have hu5 := hid (hu4.out.later hxx)
        have hb5 := hid (hb4.out.later hxx)
        have htb5 := hid (htb4.out.later hxx)
        have hx5h := hid hx5
        clear hx5 hxx
        go_wp2_with fail
        refine (perm_rd _ _ _ _ _ _ _ _ len0 _ hx5h.out hu5.out hoku.out HM.out).mono ?_
        rintro e w6 ⟨Ay, cy, rfl, hy6, hxx⟩
        have HX6 := hid (Ext.trans HX5.out hxx)
        have hb6 := hid (hb5.out.later hxx)
        have htb6 := hid (htb5.out.later hxx)
        have hy6h := hid hy6
        clear hy6 hxx
        go_wp2_with fail
        refine (perm_rd _ _ _ _ _ _ _ _ len0 _ hb6.out htb6.out hokb.out HM.out).mono ?_
        rintro e w7 ⟨Az, cz, rfl, hz7, hxx⟩
        have HX7 := hid (Ext.trans HX6.out hxx)
        have hs1 := strq (c := cy) (hy6h.out.later hxx)
        rw [HTW.out] at hs1
        have hs2 := strq (c := cz) hz7
        clear hz7 hxx
        go_wp2_with fail
        go_ret
        exact ⟨rfl, HX7.out⟩
end Go.Proofs.Ytakfndhknoleaaa
