/- The law on two tables, one behind the other, walked; own text of the verifier. -/
import Derived.Test.YtcmhaomnabdopaaDoorX6
import Derived.BigQuiet
namespace Go.Proofs.YtcmhaomnabdopaaDoor
open Go.RowKit
/-- By one table, and another one. -/
def compF (t u : List UInt8) (i : Nat) : Nat := nb u (nb t i)
def compU (t u : List UInt8) (i : Nat) : UInt8 := UInt8.ofNat (compF t u i)
def compL (t u : List UInt8) (n : Nat) : List UInt8 := tabF (compF t u) n
theorem compL_isT {t u : List UInt8} {n : Nat} (ht : IsT n t) (hu : IsT n u) : IsT n (compL t u n) :=
  (tabF_isT ht.small fun i hi => hu.lt _ (ht.lt i hi)).2 fun i j hi hj he => ht.inj i j hi hj (hu.inj _ _ (ht.lt i hi) (ht.lt j hj) he)
theorem compL_back {t u : List UInt8} {n : Nat} (ht : IsT n t) (hu : IsT n u) {i : Nat} (hi : i < n) : nb (backL (compL t u n)) i = nb (backL t) (nb (backL u) i) := by
  obtain ⟨h1, h2⟩ := backL_lt hu hi
  obtain ⟨h3, h4⟩ := backL_lt ht h1
  have h5 : nb (compL t u n) (nb (backL t) (nb (backL u) i)) = i := by
    have e := tabF_nb (f := compF t u) (n := n) (nb_lt u _) h3
    unfold compL
    rw [e]
    unfold compF
    rw [h4, h2]
  have := backL_at (compL_isT ht hu) h3
  rw [h5] at this
  exact this
set_option maxRecDepth 100000 in
set_option maxHeartbeats 4000000 in
theorem two_walk (a0 : Int) (a1 : Option Addr) (len1 cap1 : Nat) (z1 : List Int) (a2 : Option Addr) (len2 cap2 : Nat) (z2 : List Int) (w : World) (_w0 : (Lit.int .i64 a0).wf = true) (w1 : IsRow .i64 w a1 len1 cap1 z1) (w2 : IsRow .i64 w a2 len2 cap2 z2) (ho : Odd w) :
    Calls Tryd.prog 10 #[.int .i64 a0, .slice a1 len1 cap1, .slice a2 len2 cap2] w fun e w' => e = .returned (.bool true) ∧ Below w.heap.size w w' := by
  obtain ⟨ns, hrn, hmax, hcap, hwf⟩ := w1.rdN
  obtain ⟨ms, hrm, hmax2, hcap2, hwf2⟩ := w2.rdN
  unfold maxLen at hmax hmax2
  clear w1 w2 hwf hwf2 _w0
  go_enter Tryd.func10, Tryd.ntmps10
  go_wp2_with fail
  refine (known_any _ ho).mono ?_
  rintro e wk ⟨rfl, hxk⟩
  have hrn1 := hrn.later hxk
  have hrm1 := hrm.later hxk
  have HXK := hid hxk
  clear hxk hrn hrm ho
  go_wp2_with fail
  refine (within_any _ _ _ (by omega) (by omega)).mono ?_
  rintro e w' ⟨rfl, rfl⟩
  obtain ⟨n, hn⟩ : ∃ n : Nat, a0 % 257 = n := ⟨(a0 % 257).toNat, by omega⟩
  have hn2 : n ≤ 256 := by omega
  rw [hn]
  clear hn
  go_wp2_with fail
  refine (table_rd _ n _ _ ns _ hrn1 hn2 (by omega)).mono ?_
  rintro e wt ⟨At, ct, rfl, hct, hrt, hxt⟩
  have hT := tabL_isT n ns hn2
  obtain ⟨t, ht⟩ : ∃ t, tabL n ns = t := ⟨_, rfl⟩
  rw [ht] at hrt hT
  have HXT := hid (Ext.trans HXK.out hxt)
  have HT := hid hT
  have HRT := hid hrt
  have hrm2 := hrm1.later hxt
  clear hrn1 hxt ht hT hrt hrm1
  go_wp2_with fail
  refine (table_rd _ n _ _ ms _ hrm2 hn2 (by omega)).mono ?_
  rintro e wu ⟨Au, cu, rfl, hcu, hru, hxu⟩
  have hU := tabL_isT n ms hn2
  obtain ⟨u, hu⟩ : ∃ u, tabL n ms = u := ⟨_, rfl⟩
  rw [hu] at hru hU
  have HXU := hid (Ext.trans HXT.out hxu)
  have HU := hid hU
  have HRU := hid hru
  have HRT2 := hid (HRT.out.later hxu)
  clear hrm2 hxu hu hU hru HRT
  go_wp2_with (at_make; refine wpL_make rfl (.tmp 29) (.tmp 29) 23 rfl Tryd.underlying23 Tryd.info5 .i64 _ n rfl rfl rfl (by omega) wu.heap.size (Nat.le_refl _) ?_; intro w3 hown3 hx3 _)
  have HH := hid (show Own w3 wu.heap.size (.slice (some ⟨wu.heap.size, 0, none⟩) n n) (fillTo (compU t u) n 0) ∧ Ext wu w3 from ⟨by rw [fillTo_zero]; exact hown3, hx3⟩)
  clear hown3 hx3
  go_loopw [11] (fun i wr => ∃ k : Nat, k ≤ n ∧ i = .int .i64 k ∧ Own wr wu.heap.size (.slice (some ⟨wu.heap.size, 0, none⟩) n n) (fillTo (compU t u) n k) ∧ Ext wu wr) (fun i _ => n - (intOf i).toNat)
  case atStart => exact ⟨0, Nat.zero_le _, rfl, HH.out⟩
  case round =>
    obtain ⟨k, hk, rfl, hown, hx⟩ := hrel
    clear HH
    by_cases hlt : k < n
    · obtain ⟨b1, o1, rfl, _, hc1⟩ := nb_cell (HRT2.out.later hx) (by omega)
      obtain ⟨b2, o2, rfl, _, hc2⟩ := nb_cell (HRU.out.later hx) (by omega)
      have h1 := hc1 k hlt
      have hp := HT.out.lt k hlt
      have h2 := hc2 _ hp
      have hold := hown.celln (fillTo_length _ _ _) k hlt
      have hfr := hown.freen k
      have hset := hown.setn k (compU t u k)
      rw [fillTo_set _ _ _ _ rfl, show ((compU t u k).toNat : Int) = (nb u (nb t k) : Nat) from u8_nat _ (nb_lt u _)] at hset
      obtain ⟨q, hqe⟩ : ∃ q, nb u (nb t k) = q := ⟨_, rfl⟩
      rw [hqe] at h2 hset
      obtain ⟨p, hpe⟩ : ∃ p, nb t k = p := ⟨_, rfl⟩
      rw [hpe] at h1 h2 hp
      have HS := hid hset
      have HX := hid (show Ext wu (wr.setCell ⟨wu.heap.size, k, none⟩ (.int .u8 (q : Nat))) from Below.setCell hx (by simp) _)
      clear hc1 hc2 hpe hqe hset hown hx
      go_wp2_with fail
      go_roundw
      case rel => exact ⟨k + 1, by omega, by go_num, HS.out, HX.out⟩
      case measure => simp [intOf]; omega
    · obtain rfl : k = n := by omega
      rw [fillTo_full] at hown
      obtain ⟨Ab, cb, hbe, hrb, _⟩ := hown.rdn (n := k) (by simp)
      cases hbe
      have HRB := hid (show Rd wr wr.heap.size (some ⟨wu.heap.size, 0, none⟩) k (compL t u k) from hrb)
      have HB := hid (compL_isT HT.out HU.out)
      have HX := hid (Ext.trans HXU.out hx)
      have HRT3 := hid (HRT2.out.later hx)
      have HRU3 := hid (HRU.out.later hx)
      obtain ⟨G, hG⟩ : ∃ G, wu.heap.size = G := ⟨_, rfl⟩
      rw [hG] at HRB ⊢
      clear hown hrb hx HXU HRT2 HRU hG
      go_wp2_with fail
      refine (back_tab _ _ _ _ _ HRT3.out HT.out).mono ?_
      rintro e wa ⟨Aa, ca, rfl, hra, hxa⟩
      have HXA := hid (Ext.trans HX.out hxa)
      have HRA := hid hra
      have HRU4 := hid (HRU3.out.later hxa)
      have HRB4 := hid (HRB.out.later hxa)
      clear hra hxa
      go_wp2_with fail
      refine (back_tab _ _ _ _ _ HRU4.out HU.out).mono ?_
      rintro e wb ⟨Ab2, cb2, rfl, hrb2, hxb⟩
      have HXB := hid (Ext.trans HXA.out hxb)
      have HRA5 := hid (HRA.out.later hxb)
      have HRB2 := hid hrb2
      have HRB5 := hid (HRB4.out.later hxb)
      clear hrb2 hxb
      go_wp2_with fail
      refine (back_tab _ _ _ _ _ HRB5.out HB.out).mono ?_
      rintro e wc ⟨Ac, cc, rfl, hrc, hxc⟩
      have HXC := hid (Ext.trans HXB.out hxc)
      have HRA6 := hid (HRA5.out.later hxc)
      have HRB6 := hid (HRB2.out.later hxc)
      have HRC6 := hid hrc
      have HRBB6 := hid (HRB5.out.later hxc)
      clear hrc hxc
      go_wp2_with fail
      refine (is_tab _ _ _ _ _ HRBB6.out HB.out).mono ?_
      rintro e wd ⟨rfl, hxd⟩
      have HXD := hid (Ext.trans HXC.out hxd)
      have HRA7 := hid (HRA6.out.later hxd)
      have HRB7 := hid (HRB6.out.later hxd)
      have HRC7 := hid (HRC6.out.later hxd)
      clear hxd HRA HRA5 HRA6 HRB2 HRB6 HRC6 HRBB6 HRB5 HRB4 HRU4 HRT3 HRU3 HRB
      go_wp2_with fail
      go_loopw [18] (fun i wr => ∃ j : Nat, j ≤ k ∧ i = .int .i64 j ∧ Ext wd wr) (fun i _ => k - (intOf i).toNat)
      case atStart => exact ⟨0, Nat.zero_le _, rfl, Ext.refl _⟩
      case round =>
        obtain ⟨j, hj, rfl, hx⟩ := hrel
        by_cases hjt : j < k
        · obtain ⟨b1, o1, rfl, _, hc1⟩ := nb_cell (HRA7.out.later hx) (by omega)
          obtain ⟨b2, o2, rfl, _, hc2⟩ := nb_cell (HRB7.out.later hx) (by omega)
          obtain ⟨b3, o3, rfl, _, hc3⟩ := nb_cell (HRC7.out.later hx) (by omega)
          have h1 := hc2 j hjt
          have h2 := hc3 j hjt
          rw [compL_back HT.out HU.out hjt] at h2
          have hp := (backL_lt HU.out hjt).1
          have h3 := hc1 _ hp
          obtain ⟨q, hqe⟩ : ∃ q, nb (backL t) (nb (backL u) j) = q := ⟨_, rfl⟩
          rw [hqe] at h2 h3
          obtain ⟨p, hpe⟩ : ∃ p, nb (backL u) j = p := ⟨_, rfl⟩
          rw [hpe] at h1 h3 hp
          have HX9 := hid hx
          clear hc1 hc2 hc3 hqe hpe hx
          have hng : decide ((k : Int) ≤ IntKind.i64.wrap (p : Int)) = false := by rw [IntWalk.i64_in _ (by omega)]; simp; omega
          go_wp2_with fail
          go_quiet (fail)
          clear hng
          go_wp2_with fail
          go_roundw
          case rel => exact ⟨j + 1, by omega, by go_num, below_drewN' HX9.out nq⟩
          case measure => simp [intOf]; omega
        · obtain rfl : j = k := by omega
          have HX9 := hid (Ext.trans HXD.out hx)
          clear hx
          go_wp2_with fail
          go_ret
          exact ⟨rfl, HX9.out⟩
end Go.Proofs.YtcmhaomnabdopaaDoor
