/- The law on blocks that are refused, walked; own lemmas of the verifier, no statement is proved here. -/
import Derived.Test.YtbgkmicelmenfaaGreatDoorQC
namespace Go.Proofs.YtbgkmicelmenfaaGreatDoor.C
open Go.RowKit
set_option maxRecDepth 100000
set_option maxHeartbeats 4000000 in
theorem errs_walk [Inhabited D.BT] [Inhabited S.RT] (a0 : Int) (a1 : Int) (a2 : Option Addr) (len2 cap2 : Nat) (z2 : List Int) (a3 : Option Addr) (len3 cap3 : Nat) (z3 : List Int) (w : World) (_w0 : (Lit.int .i64 a0).wf = true) (_w1 : (Lit.int .i64 a1).wf = true) (w2 : IsRow .u8 w a2 len2 cap2 z2) (w3 : IsRow .u8 w a3 len3 cap3 z3) (hG : GC w) :
    Calls Tryz.prog 6 #[.int .i64 a0, .int .i64 a1, .slice a2 len2 cap2, .slice a3 len3 cap3] w fun e w' => e = .returned (.bool true) ∧ Below w.heap.size w w' := by
  have HG := hid hG
  obtain ⟨ks, hrk, hlk, hck⟩ := w2.rdb
  obtain ⟨bs, hrb, hlb, hcb⟩ := w3.rdb
  obtain ⟨t, hte⟩ : ∃ t, tagF a0 = t := ⟨_, rfl⟩
  have ht := tagF_ok a0
  rw [hte] at ht
  have HTAG := hid (fun w => tag_any a0 w)
  rw [hte] at HTAG
  have hkm := keyLen_mem ht a1
  have HKEY := hid (fun w A L c bs h hL => key_any ht a1 A L c bs w h hL)
  have HNEW := hid (fun w hG A c h hc => new_any ht A (keyLen t a1) c (keyB t a1 ks) w h hkm hc hG)
  have HRS := hid (fun w => rsize_any (t : Int) w)
  have hz16 := sz_le t ht.2
  rw [tN_tag ht] at HRS
  have HLEN := hid (fun b hb back => cf_len ht (keyB t a1 ks) back b hb)
  have HUND := hid (fun b hb => cf_und ht (keyB t a1 ks) (by rw [keyB_len]; exact hkm) b hb)
  have HKL := hid (keyB_len t a1 ks)
  obtain ⟨f, hf⟩ : ∃ f, cf t (keyB t a1 ks) = f := ⟨_, rfl⟩
  obtain ⟨KB, hKB⟩ : ∃ KB, keyB t a1 ks = KB := ⟨_, rfl⟩
  obtain ⟨Z, hZ⟩ : ∃ Z, szN t = Z := ⟨_, rfl⟩
  rw [hf, hZ] at HLEN HNEW
  rw [hf, hZ] at HUND
  rw [hZ] at HRS hz16
  rw [hKB] at HNEW HKL
  have HKEY2 := hid (fun w A L c h hL => by have := HKEY.out w A L c ks h hL; rw [hKB] at this; exact this)
  obtain ⟨ML, hML⟩ : ∃ ML, keyLen t a1 = ML := ⟨_, rfl⟩
  rw [hML] at HNEW HKL
  have HZ16 := hid hz16
  have HRK := hid hrk
  have HLK := hid hlk
  have HRB := hid hrb
  have HCB := hid hcb
  clear hG w2 w3 hte hf hKB hZ hML HKEY hz16 hkm hrk hlk hck hrb hlb ht
  by_cases h100 : len3 ≤ 100
  · have h100' : ¬ ((len3 : Int) > 100) := by omega
    by_cases hn : len3 = Z
    · subst hn
      have HNE := hid (show ((len3 : Int) != (len3 : Int)) = false by simp)
      go_enter Tryz.func6, Tryz.ntmps6
      go_wp2_with fail
      refine (known_any _ HG.out).mono ?_
      rintro e w1 ⟨rfl, hx1⟩
      have HX1 := hid hx1
      clear hx1
      go_wp2_with (go_at_call 12; refine (HTAG.out _).mono ?_; rintro e w2 ⟨rfl, rfl⟩)
      refine (HKEY2.out _ _ _ _ (HRK.out.later HX1.out) HLK.out).mono ?_
      rintro e w2 ⟨v2, rfl, ho2, hx2⟩
      obtain ⟨A2, c2, rfl, hc2, hr2, _⟩ := ho2.rdcb HKL.out
      have HX2 := hid (Ext.trans HX1.out hx2)
      have HR2 := hid hr2
      clear ho2 hr2 hx2
      go_wp2_with fail
      refine (HNEW.out _ (HG.out.later HX2.out) _ _ HR2.out hc2).mono ?_
      rintro e w3 ⟨p, rfl, _, hi3, hx3⟩
      have HX3 := hid (Ext.trans HX2.out hx3)
      have HI3 := hid hi3
      clear hi3 hx3 HX2 HR2 hc2 HNEW HKEY2 HTAG
      go_wp2_with fail
      refine (enc_any p _ _ _ f bs _ HI3.out (HRB.out.later HX3.out) HCB.out).mono ?_
      rintro e w4 ⟨A4, c4, rfl, hc4, hr4, hx4⟩
      have HX4 := hid (Ext.trans HX3.out hx4)
      have HI4 := hid (HI3.out.later hx4)
      clear hr4 hx4 HX3 HI3
      go_wp2_with fail
      refine (dec_any p _ _ _ f bs _ HI4.out (HRB.out.later HX4.out) HCB.out).mono ?_
      rintro e w5 ⟨A5, c5, rfl, hc5, hr5, hx5⟩
      have HX5 := hid (Ext.trans HX4.out hx5)
      clear hr5 hx5 HX4 HI4
      go_wp2_with (go_at_call 26; refine (HRS.out _).mono ?_; rintro e w6 ⟨rfl, rfl⟩)
      go_ret
      exact ⟨rfl, HX5.out⟩
    · have hne : ((len3 : Int) != (Z : Int)) = true := by simp; omega
      have HN := hid hn
      clear hn
      go_enter Tryz.func6, Tryz.ntmps6
      go_wp2_with fail
      refine (known_any _ HG.out).mono ?_
      rintro e w1 ⟨rfl, hx1⟩
      have HX1 := hid hx1
      clear hx1
      go_wp2_with (go_at_call 12; refine (HTAG.out _).mono ?_; rintro e w2 ⟨rfl, rfl⟩)
      refine (HKEY2.out _ _ _ _ (HRK.out.later HX1.out) HLK.out).mono ?_
      rintro e w2 ⟨v2, rfl, ho2, hx2⟩
      obtain ⟨A2, c2, rfl, hc2, hr2, _⟩ := ho2.rdcb HKL.out
      have HX2 := hid (Ext.trans HX1.out hx2)
      have HR2 := hid hr2
      clear ho2 hr2 hx2
      go_wp2_with fail
      refine (HNEW.out _ (HG.out.later HX2.out) _ _ HR2.out hc2).mono ?_
      rintro e w3 ⟨p, rfl, _, hi3, hx3⟩
      have HX3 := hid (Ext.trans HX2.out hx3)
      have HI3 := hid hi3
      clear hi3 hx3 HX2 HR2 hc2 HNEW HKEY2 HTAG
      go_wp2_with fail
      refine (enc_bad p _ _ _ _ f _ HI3.out HN.out).mono ?_
      rintro e w4 ⟨rfl, hx4⟩
      have HX4 := hid (Ext.trans HX3.out hx4)
      have HI4 := hid (HI3.out.later hx4)
      clear hx4 HX3 HI3
      go_wp2_with fail
      refine (dec_bad p _ _ _ _ f _ HI4.out HN.out).mono ?_
      rintro e w5 ⟨rfl, hx5⟩
      have HX5 := hid (Ext.trans HX4.out hx5)
      clear hx5 HX4 HI4
      go_wp2_with (go_at_call 26; refine (HRS.out _).mono ?_; rintro e w6 ⟨rfl, rfl⟩)
      go_ret
      exact ⟨rfl, HX5.out⟩
  · have h100' : (len3 : Int) > 100 := by omega
    go_enter Tryz.func6, Tryz.ntmps6
    go_wp2_with fail
    refine (known_any _ HG.out).mono ?_
    rintro e w1 ⟨rfl, hx1⟩
    have HX1 := hid hx1
    clear hx1
    go_wp2_with fail
    go_ret
    exact ⟨rfl, HX1.out⟩
end Go.Proofs.YtbgkmicelmenfaaGreatDoor.C
