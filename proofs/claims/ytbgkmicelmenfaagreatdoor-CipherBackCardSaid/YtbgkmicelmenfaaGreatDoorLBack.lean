/- The law on blocks that are turned, and back, walked; own lemmas of the verifier, no statement is proved here. -/
import Derived.Test.YtbgkmicelmenfaaGreatDoorQC
namespace Go.Proofs.YtbgkmicelmenfaaGreatDoor.C
open Go.RowKit
open A (str_toList str_ne strq byL byL_len)
set_option maxRecDepth 100000
set_option maxHeartbeats 4000000 in
theorem back_walk [Inhabited D.BT] [Inhabited S.RT] (a0 : Int) (a1 : Int) (a2 : Option Addr) (len2 cap2 : Nat) (z2 : List Int) (a3 : Option Addr) (len3 cap3 : Nat) (z3 : List Int) (a4 : Option Addr) (len4 cap4 : Nat) (z4 : List Int) (w : World) (_w0 : (Lit.int .i64 a0).wf = true) (_w1 : (Lit.int .i64 a1).wf = true) (w2 : IsRow .u8 w a2 len2 cap2 z2) (w3 : IsRow .u8 w a3 len3 cap3 z3) (w4 : IsRow .u8 w a4 len4 cap4 z4) (hG : GC w) :
    Calls Tryz.prog 5 #[.int .i64 a0, .int .i64 a1, .slice a2 len2 cap2, .slice a3 len3 cap3, .slice a4 len4 cap4] w fun e w' => e = .returned (.bool true) ∧ Below w.heap.size w w' := by
  have HG := hid hG
  obtain ⟨ks, hrk, hlk, hck⟩ := w2.rdb
  obtain ⟨bs, hrb, hlb, hcb⟩ := w3.rdb
  obtain ⟨ds, hrd, hld, hcd⟩ := w4.rdb
  have HRD := hid hrd
  have HLD := hid hld
  have HLB := hid hlb
  obtain ⟨t, hte⟩ : ∃ t, tagF a0 = t := ⟨_, rfl⟩
  have ht := tagF_ok a0
  rw [hte] at ht
  have HTAG := hid (fun w => tag_any a0 w)
  rw [hte] at HTAG
  have hkm := keyLen_mem ht a1
  have HKEY := hid (fun w A L c bs h hL => key_any ht a1 A L c bs w h hL)
  have HNEW := hid (fun w hG A c h hc => new_any ht A (keyLen t a1) c (keyB t a1 ks) w h hkm hc hG)
  have HRS := hid (fun w => rsize_any (t : Int) w)
  have hz16 := sz_le t ht.2
  rw [tN_tag ht] at HRS
  have HLEN := hid (fun b hb back => cf_len ht (keyB t a1 ks) back b hb)
  have HUND := hid (fun b hb => cf_und ht (keyB t a1 ks) (by rw [keyB_len]; exact hkm) b hb)
  have HKL := hid (keyB_len t a1 ks)
  obtain ⟨f, hf⟩ : ∃ f, cf t (keyB t a1 ks) = f := ⟨_, rfl⟩
  obtain ⟨KB, hKB⟩ : ∃ KB, keyB t a1 ks = KB := ⟨_, rfl⟩
  obtain ⟨Z, hZ⟩ : ∃ Z, szN t = Z := ⟨_, rfl⟩
  rw [hf, hZ] at HLEN HNEW
  rw [hf, hZ] at HUND
  rw [hZ] at HRS hz16
  rw [hKB] at HNEW HKL
  have HKEY2 := hid (fun w A L c h hL => by have := HKEY.out w A L c ks h hL; rw [hKB] at this; exact this)
  obtain ⟨ML, hML⟩ : ∃ ML, keyLen t a1 = ML := ⟨_, rfl⟩
  rw [hML] at HNEW HKL
  have HZ16 := hid hz16
  have HRK := hid hrk
  have HLK := hid hlk
  have HRB := hid hrb
  have HCB := hid hcb
  clear hrd hld hcd hG w2 w3 w4 hte hf hKB hZ hML HKEY hz16 hkm hrk hlk hck hrb hlb ht
  have hp := byL_len Z bs
  have hq := byL_len Z ds
  obtain ⟨P, hP⟩ : ∃ P, byL Z bs = P := ⟨_, rfl⟩
  obtain ⟨Q, hQ⟩ : ∃ Q, byL Z ds = Q := ⟨_, rfl⟩
  rw [hP] at hp
  rw [hQ] at hq
  have HP := hid hP
  have HQ := hid hQ
  have HUL := hid (HLEN.out P hp false)
  have HWL := hid (HLEN.out P hp true)
  have HYL := hid (HLEN.out Q hq false)
  have HUV := hid (HUND.out P hp)
  have HIN := hid (show f false P = f false Q → P = Q from fun e => by rw [← (HUND.out P hp).1, e, (HUND.out Q hq).1])
  have HLP := hid hp
  have HLQ := hid hq
  clear hP hQ hp hq
  go_enter Tryz.func5, Tryz.ntmps5
  go_wp2_with fail
  refine (known_any _ HG.out).mono ?_
  rintro e w1 ⟨rfl, hx1⟩
  have HX1 := hid hx1
  clear hx1
  go_wp2_with (go_at_call 12; refine (HTAG.out _).mono ?_; rintro e w2 ⟨rfl, rfl⟩)
  refine (HKEY2.out _ _ _ _ (HRK.out.later HX1.out) HLK.out).mono ?_
  rintro e w2 ⟨v2, rfl, ho2, hx2⟩
  obtain ⟨A2, c2, rfl, hc2, hr2, _⟩ := ho2.rdcb HKL.out
  have HX2 := hid (Ext.trans HX1.out hx2)
  have HR2 := hid hr2
  clear ho2 hr2 hx2
  go_wp2_with fail
  refine (HNEW.out _ (HG.out.later HX2.out) _ _ HR2.out hc2).mono ?_
  rintro e w3 ⟨p, rfl, _, hi3, hx3⟩
  have HX3 := hid (Ext.trans HX2.out hx3)
  have HI3 := hid hi3
  clear hi3 hx3 HX2 HR2 hc2 HNEW HKEY2 HTAG
  go_wp2_with (go_at_call 26; refine (HRS.out _).mono ?_; rintro e w6 ⟨rfl, rfl⟩)
  refine (by_any _ Z _ _ bs _ (HRB.out.later HX3.out) (by have := HZ16.out; omega) HLB.out).mono ?_
  rintro e w4 ⟨v4, rfl, ho4, hx4⟩
  obtain ⟨AP, cP, rfl, hcP, hrP, _⟩ := ho4.rdcb (n := Z) (byL_len _ _)
  have HX4 := hid (Ext.trans HX3.out hx4)
  have HI4 := hid (HI3.out.later hx4)
  clear HX3 HI3
  have HRP := hid hrP
  clear ho4 hrP hx4
  rw [HP.out] at HRP
  go_wp2_with fail
  refine (by_any _ Z _ _ ds _ (HRD.out.later HX4.out) (by have := HZ16.out; omega) HLD.out).mono ?_
  rintro e w5 ⟨v5, rfl, ho5, hx5⟩
  obtain ⟨AQ, cQ, rfl, hcQ, hrQ, _⟩ := ho5.rdcb (n := Z) (byL_len _ _)
  have HX5 := hid (Ext.trans HX4.out hx5)
  have HI5 := hid (HI4.out.later hx5)
  have HRP := hid (HRP.out.later hx5)
  clear HX4 HI4
  have HRQ := hid hrQ
  clear ho5 hrQ hx5
  rw [HQ.out] at HRQ
  go_wp2_with fail
  refine (enc_any p _ _ _ f P _ HI5.out HRP.out hcP).mono ?_
  rintro e w6 ⟨AU, cU, rfl, hcU, hrU, hx6⟩
  have HX6 := hid (Ext.trans HX5.out hx6)
  have HI6 := hid (HI5.out.later hx6)
  have HRP := hid (HRP.out.later hx6)
  have HRQ := hid (HRQ.out.later hx6)
  clear HX5 HI5
  have HRU := hid hrU
  clear hrU hx6
  go_wp2_with fail
  refine (dec_any p _ _ _ f (f false P) _ HI6.out HRU.out hcU).mono ?_
  rw [HUV.out.1]
  rintro e w7 ⟨AV, cV, rfl, hcV, hrV, hx7⟩
  have HX7 := hid (Ext.trans HX6.out hx7)
  have HI7 := hid (HI6.out.later hx7)
  have HRP := hid (HRP.out.later hx7)
  have HRQ := hid (HRQ.out.later hx7)
  have HRU := hid (HRU.out.later hx7)
  clear HX6 HI6
  have HRV := hid hrV
  clear hrV hx7
  go_wp2_with fail
  refine (dec_any p _ _ _ f P _ HI7.out HRP.out hcP).mono ?_
  rintro e w8 ⟨AW, cW, rfl, hcW, hrW, hx8⟩
  have HX8 := hid (Ext.trans HX7.out hx8)
  have HI8 := hid (HI7.out.later hx8)
  have HRP := hid (HRP.out.later hx8)
  have HRQ := hid (HRQ.out.later hx8)
  have HRU := hid (HRU.out.later hx8)
  have HRV := hid (HRV.out.later hx8)
  clear HX7 HI7
  have HRW := hid hrW
  clear hrW hx8
  go_wp2_with fail
  refine (enc_any p _ _ _ f (f true P) _ HI8.out HRW.out hcW).mono ?_
  rw [HUV.out.2]
  rintro e w9 ⟨AX, cX, rfl, hcX, hrX, hx9⟩
  have HX9 := hid (Ext.trans HX8.out hx9)
  have HI9 := hid (HI8.out.later hx9)
  have HRP := hid (HRP.out.later hx9)
  have HRQ := hid (HRQ.out.later hx9)
  have HRU := hid (HRU.out.later hx9)
  have HRV := hid (HRV.out.later hx9)
  have HRW := hid (HRW.out.later hx9)
  clear HX8 HI8
  have HRX := hid hrX
  clear hrX hx9
  go_wp2_with fail
  refine (enc_any p _ _ _ f Q _ HI9.out HRQ.out hcQ).mono ?_
  rintro e w10 ⟨AY, cY, rfl, hcY, hrY, hx10⟩
  have HX10 := hid (Ext.trans HX9.out hx10)
  have HI10 := hid (HI9.out.later hx10)
  have HRP := hid (HRP.out.later hx10)
  have HRQ := hid (HRQ.out.later hx10)
  have HRU := hid (HRU.out.later hx10)
  have HRV := hid (HRV.out.later hx10)
  have HRW := hid (HRW.out.later hx10)
  have HRX := hid (HRX.out.later hx10)
  clear HX9 HI9
  have HRY := hid hrY
  clear hrY hx10
  have hsP := strq (c := cP) HRP.out
  have hsQ := strq (c := cQ) HRQ.out
  have hsU := strq (c := cU) HRU.out
  have hsV := strq (c := cV) HRV.out
  have hsX := strq (c := cX) HRX.out
  have hsY := strq (c := cY) HRY.out
  obtain ⟨U, hU⟩ : ∃ U, f false P = U := ⟨_, rfl⟩
  obtain ⟨Y, hY⟩ : ∃ Y, f false Q = Y := ⟨_, rfl⟩
  rw [hU] at hsU
  rw [hY] at hsY
  have hin := HIN.out
  rw [hU, hY] at hin
  by_cases hpq : P = Q
  · have huy : Y = U := by rw [← hU, ← hY, hpq]
    rw [← hpq] at hsQ
    rw [huy] at hsY
    clear hin huy hpq hU hY
    go_wp2_with fail
    go_ret
    exact ⟨rfl, HX10.out⟩
  · have hn1 := str_ne hpq
    have hn2 := str_ne (fun e => hpq (hin e))
    have hb2 := beq_false_of_ne hn2
    have hb3 := beq_false_of_ne hn1
    clear hn1 hn2 hin hpq hU hY
    go_wp2_with fail
    go_ret
    exact ⟨by simp, HX10.out⟩
end Go.Proofs.YtbgkmicelmenfaaGreatDoor.C
