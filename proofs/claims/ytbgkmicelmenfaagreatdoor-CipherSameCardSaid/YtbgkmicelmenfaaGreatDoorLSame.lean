/- The law that behind its tag each is the cipher of its chapter, walked; own lemmas of the verifier, no statement is proved here. -/
import Derived.Test.YtbgkmicelmenfaaGreatDoorQC
namespace Go.Proofs.YtbgkmicelmenfaaGreatDoor.C
open Go.RowKit
open A (str_toList str_ne strq byL byL_len)
set_option maxRecDepth 100000
set_option maxHeartbeats 4000000 in
theorem same_walk [Inhabited D.BT] [Inhabited S.RT] (a0 : Int) (a1 : Int) (a2 : Option Addr) (len2 cap2 : Nat) (z2 : List Int) (a3 : Option Addr) (len3 cap3 : Nat) (z3 : List Int) (w : World) (_w0 : (Lit.int .i64 a0).wf = true) (_w1 : (Lit.int .i64 a1).wf = true) (w2 : IsRow .u8 w a2 len2 cap2 z2) (w3 : IsRow .u8 w a3 len3 cap3 z3) (hG : GC w) :
    Calls Tryz.prog 7 #[.int .i64 a0, .int .i64 a1, .slice a2 len2 cap2, .slice a3 len3 cap3] w fun e w' => e = .returned (.bool true) ∧ Below w.heap.size w w' := by
  have HG := hid hG
  obtain ⟨ks, hrk, hlk, hck⟩ := w2.rdb
  obtain ⟨bs, hrb, hlb, hcb⟩ := w3.rdb
  obtain ⟨t, hte⟩ : ∃ t, tagF a0 = t := ⟨_, rfl⟩
  have ht := tagF_ok a0
  rw [hte] at ht
  have HTAG := hid (fun w => tag_any a0 w)
  rw [hte] at HTAG
  have hkm := keyLen_mem ht a1
  have HKEY := hid (fun w A L c bs h hL => key_any ht a1 A L c bs w h hL)
  have HNEW := hid (fun w hG A c h hc => new_any ht A (keyLen t a1) c (keyB t a1 ks) w h hkm hc hG)
  have HRS := hid (fun w => rsize_any (t : Int) w)
  have hz16 := sz_le t ht.2
  rw [tN_tag ht] at HRS
  have HLEN := hid (fun b hb back => cf_len ht (keyB t a1 ks) back b hb)
  have HUND := hid (fun b hb => cf_und ht (keyB t a1 ks) (by rw [keyB_len]; exact hkm) b hb)
  have HKL := hid (keyB_len t a1 ks)
  obtain ⟨f, hf⟩ : ∃ f, cf t (keyB t a1 ks) = f := ⟨_, rfl⟩
  obtain ⟨KB, hKB⟩ : ∃ KB, keyB t a1 ks = KB := ⟨_, rfl⟩
  obtain ⟨Z, hZ⟩ : ∃ Z, szN t = Z := ⟨_, rfl⟩
  rw [hf, hZ] at HLEN HNEW
  rw [hf, hZ] at HUND
  rw [hZ] at HRS hz16
  rw [hKB] at HNEW HKL hf
  have HFF := hid hf
  have HKEY2 := hid (fun w A L c h hL => by have := HKEY.out w A L c ks h hL; rw [hKB] at this; exact this)
  obtain ⟨ML, hML⟩ : ∃ ML, keyLen t a1 = ML := ⟨_, rfl⟩
  rw [hML] at HNEW HKL hkm
  have HZ16 := hid hz16
  have HRK := hid hrk
  have HLK := hid hlk
  have HRB := hid hrb
  have HLB := hid hlb
  have HKM := hid hkm
  have HT := hid ht
  have HZE := hid hZ
  clear hG w2 w3 hte hf hKB hZ hML HKEY hz16 hkm hrk hlk hck hrb hlb hcb ht
  have hp := byL_len Z bs
  obtain ⟨P, hP⟩ : ∃ P, byL Z bs = P := ⟨_, rfl⟩
  rw [hP] at hp
  have HP := hid hP
  have HUL := hid (HLEN.out P hp false)
  clear hP hp HLEN HUND
  go_enter Tryz.func7, Tryz.ntmps7
  go_wp2_with fail
  refine (known_any _ HG.out).mono ?_
  rintro e w1 ⟨rfl, hx1⟩
  have HX1 := hid hx1
  clear hx1
  go_wp2_with (go_at_call 12; refine (HTAG.out _).mono ?_; rintro e w2 ⟨rfl, rfl⟩)
  refine (HKEY2.out _ _ _ _ (HRK.out.later HX1.out) HLK.out).mono ?_
  rintro e w2 ⟨v2, rfl, ho2, hx2⟩
  obtain ⟨A2, c2, rfl, hc2, hr2, _⟩ := ho2.rdcb HKL.out
  have HX2 := hid (Ext.trans HX1.out hx2)
  have HR2 := hid hr2
  clear ho2 hr2 hx2
  go_wp2_with fail
  refine (HNEW.out _ (HG.out.later HX2.out) _ _ HR2.out hc2).mono ?_
  rintro e w3 ⟨p, rfl, _, hi3, hx3⟩
  have HX3 := hid (Ext.trans HX2.out hx3)
  have HI3 := hid hi3
  have HR2 := hid (HR2.out.later hx3)
  have HC2 := hid hc2
  clear hi3 hx3 HX2 hc2 HNEW HKEY2 HTAG
  go_wp2_with (go_at_call 26; refine (HRS.out _).mono ?_; rintro e w6 ⟨rfl, rfl⟩)
  refine (by_any _ Z _ _ bs _ (HRB.out.later HX3.out) (by have := HZ16.out; omega) HLB.out).mono ?_
  rintro e w4 ⟨v4, rfl, ho4, hx4⟩
  obtain ⟨AP, cP, rfl, hcP, hrP, _⟩ := ho4.rdcb (n := Z) (byL_len _ _)
  have HX4 := hid (Ext.trans HX3.out hx4)
  have HI4 := hid (HI3.out.later hx4)
  have HR2 := hid (HR2.out.later hx4)
  clear HX3 HI3
  have HRP := hid hrP
  clear ho4 hrP hx4
  rw [HP.out] at HRP
  go_wp2_with fail
  refine (enc_any p _ _ _ f P _ HI4.out HRP.out hcP).mono ?_
  rintro e w5 ⟨AU, cU, rfl, hcU, hrU, hx5⟩
  have HX5 := hid (Ext.trans HX4.out hx5)
  have HI5 := hid (HI4.out.later hx5)
  have HR2 := hid (HR2.out.later hx5)
  have HRP := hid (HRP.out.later hx5)
  clear HX4 HI4
  have HRU := hid hrU
  clear hrU hx5
  have HCP := hid hcP
  clear hcP hcU HRS HKL
  rcases tags HT.out with rfl | rfl | rfl | rfl | rfl | rfl | rfl | rfl
  · obtain rfl : 8 = Z := HZE.out
    go_wp2_with fail
    refine (pk_1 _ _ _ KB _ HR2.out HKM.out HC2.out (HG.out.later HX5.out)).mono ?_
    rw [HFF.out]
    rintro e w6 ⟨q, rfl, ht6, hx6⟩
    have HX6 := hid (Ext.trans HX5.out hx6)
    have HT6 := hid ht6
    have HRU6 := hid (HRU.out.later hx6)
    have HRP6 := hid (HRP.out.later hx6)
    clear hx6 ht6
    go_wp2_with fail
    refine ((HT6.out _ (Ext.refl _) false _ _ _).2 rfl HCP.out P HRP6.out).mono ?_
    rintro e w7 ⟨A7, c7, rfl, _, hr7, hx7⟩
    have HX7 := hid (Ext.trans HX6.out hx7)
    have hs1 := strq (c := cU) (HRU6.out.later hx7)
    have hs2 := strq (c := c7) hr7
    clear hr7 hx7
    go_wp2_with fail
    go_ret
    exact ⟨rfl, HX7.out⟩
  · obtain rfl : 8 = Z := HZE.out
    go_wp2_with fail
    refine (pk_2 _ _ _ KB _ HR2.out HKM.out HC2.out (HG.out.later HX5.out)).mono ?_
    rw [HFF.out]
    rintro e w6 ⟨q, rfl, ht6, hx6⟩
    have HX6 := hid (Ext.trans HX5.out hx6)
    have HT6 := hid ht6
    have HRU6 := hid (HRU.out.later hx6)
    have HRP6 := hid (HRP.out.later hx6)
    clear hx6 ht6
    go_wp2_with fail
    refine ((HT6.out _ (Ext.refl _) false _ _ _).2 rfl HCP.out P HRP6.out).mono ?_
    rintro e w7 ⟨A7, c7, rfl, _, hr7, hx7⟩
    have HX7 := hid (Ext.trans HX6.out hx7)
    have hs1 := strq (c := cU) (HRU6.out.later hx7)
    have hs2 := strq (c := c7) hr7
    clear hr7 hx7
    go_wp2_with fail
    go_ret
    exact ⟨rfl, HX7.out⟩
  · obtain rfl : 8 = Z := HZE.out
    go_wp2_with fail
    refine (pk_3 _ _ _ KB _ HR2.out HKM.out HC2.out (HG.out.later HX5.out)).mono ?_
    rw [HFF.out]
    rintro e w6 ⟨q, rfl, ht6, hx6⟩
    have HX6 := hid (Ext.trans HX5.out hx6)
    have HT6 := hid ht6
    have HRU6 := hid (HRU.out.later hx6)
    have HRP6 := hid (HRP.out.later hx6)
    clear hx6 ht6
    go_wp2_with fail
    refine ((HT6.out _ (Ext.refl _) false _ _ _).2 rfl HCP.out P HRP6.out).mono ?_
    rintro e w7 ⟨A7, c7, rfl, _, hr7, hx7⟩
    have HX7 := hid (Ext.trans HX6.out hx7)
    have hs1 := strq (c := cU) (HRU6.out.later hx7)
    have hs2 := strq (c := c7) hr7
    clear hr7 hx7
    go_wp2_with fail
    go_ret
    exact ⟨rfl, HX7.out⟩
  · obtain rfl : 8 = Z := HZE.out
    go_wp2_with fail
    refine (pk_4 _ _ _ KB _ HR2.out HKM.out HC2.out (HG.out.later HX5.out)).mono ?_
    rw [HFF.out]
    rintro e w6 ⟨q, rfl, ht6, hx6⟩
    have HX6 := hid (Ext.trans HX5.out hx6)
    have HT6 := hid ht6
    have HRU6 := hid (HRU.out.later hx6)
    have HRP6 := hid (HRP.out.later hx6)
    clear hx6 ht6
    go_wp2_with fail
    refine ((HT6.out _ (Ext.refl _) false _ _ _).2 rfl HCP.out P HRP6.out).mono ?_
    rintro e w7 ⟨A7, c7, rfl, _, hr7, hx7⟩
    have HX7 := hid (Ext.trans HX6.out hx7)
    have hs1 := strq (c := cU) (HRU6.out.later hx7)
    have hs2 := strq (c := c7) hr7
    clear hr7 hx7
    go_wp2_with fail
    go_ret
    exact ⟨rfl, HX7.out⟩
  · obtain rfl : 8 = Z := HZE.out
    go_wp2_with fail
    refine (pk_5 _ _ _ KB _ HR2.out HKM.out HC2.out (HG.out.later HX5.out)).mono ?_
    rw [HFF.out]
    rintro e w6 ⟨q, rfl, ht6, hx6⟩
    have HX6 := hid (Ext.trans HX5.out hx6)
    have HT6 := hid ht6
    have HRU6 := hid (HRU.out.later hx6)
    have HRP6 := hid (HRP.out.later hx6)
    clear hx6 ht6
    go_wp2_with fail
    refine ((HT6.out _ (Ext.refl _) false _ _ _).2 rfl HCP.out P HRP6.out).mono ?_
    rintro e w7 ⟨A7, c7, rfl, _, hr7, hx7⟩
    have HX7 := hid (Ext.trans HX6.out hx7)
    have hs1 := strq (c := cU) (HRU6.out.later hx7)
    have hs2 := strq (c := c7) hr7
    clear hr7 hx7
    go_wp2_with fail
    go_ret
    exact ⟨rfl, HX7.out⟩
  · obtain rfl : 16 = Z := HZE.out
    go_wp2_with fail
    refine (pk_6 _ _ _ KB _ HR2.out HKM.out HC2.out (HG.out.later HX5.out)).mono ?_
    rw [HFF.out]
    rintro e w6 ⟨q, rfl, ht6, hx6⟩
    have HX6 := hid (Ext.trans HX5.out hx6)
    have HT6 := hid ht6
    have HRU6 := hid (HRU.out.later hx6)
    have HRP6 := hid (HRP.out.later hx6)
    clear hx6 ht6
    go_wp2_with fail
    refine ((HT6.out _ (Ext.refl _) false _ _ _).2 rfl HCP.out P HRP6.out).mono ?_
    rintro e w7 ⟨A7, c7, rfl, _, hr7, hx7⟩
    have HX7 := hid (Ext.trans HX6.out hx7)
    have hs1 := strq (c := cU) (HRU6.out.later hx7)
    have hs2 := strq (c := c7) hr7
    clear hr7 hx7
    go_wp2_with fail
    go_ret
    exact ⟨rfl, HX7.out⟩
  · obtain rfl : 16 = Z := HZE.out
    go_wp2_with fail
    refine (pk_7 _ _ _ KB _ HR2.out HKM.out HC2.out (HG.out.later HX5.out)).mono ?_
    rw [HFF.out]
    rintro e w6 ⟨q, rfl, ht6, hx6⟩
    have HX6 := hid (Ext.trans HX5.out hx6)
    have HT6 := hid ht6
    have HRU6 := hid (HRU.out.later hx6)
    have HRP6 := hid (HRP.out.later hx6)
    clear hx6 ht6
    go_wp2_with fail
    refine ((HT6.out _ (Ext.refl _) false _ _ _).2 rfl HCP.out P HRP6.out).mono ?_
    rintro e w7 ⟨A7, c7, rfl, _, hr7, hx7⟩
    have HX7 := hid (Ext.trans HX6.out hx7)
    have hs1 := strq (c := cU) (HRU6.out.later hx7)
    have hs2 := strq (c := c7) hr7
    clear hr7 hx7
    go_wp2_with fail
    go_ret
    exact ⟨rfl, HX7.out⟩
  · obtain rfl : 8 = Z := HZE.out
    go_wp2_with fail
    refine (pk_8 _ _ _ KB _ HR2.out HKM.out HC2.out (HG.out.later HX5.out)).mono ?_
    rw [HFF.out]
    rintro e w6 ⟨q, rfl, ht6, hx6⟩
    have HX6 := hid (Ext.trans HX5.out hx6)
    have HT6 := hid ht6
    have HRU6 := hid (HRU.out.later hx6)
    have HRP6 := hid (HRP.out.later hx6)
    clear hx6 ht6
    go_wp2_with fail
    refine ((HT6.out _ (Ext.refl _) false _ _ _).2 rfl HCP.out P HRP6.out).mono ?_
    rintro e w7 ⟨A7, c7, rfl, _, hr7, hx7⟩
    have HX7 := hid (Ext.trans HX6.out hx7)
    have hs1 := strq (c := cU) (HRU6.out.later hx7)
    have hs2 := strq (c := c7) hr7
    clear hr7 hx7
    go_wp2_with fail
    go_ret
    exact ⟨rfl, HX7.out⟩
end Go.Proofs.YtbgkmicelmenfaaGreatDoor.C
