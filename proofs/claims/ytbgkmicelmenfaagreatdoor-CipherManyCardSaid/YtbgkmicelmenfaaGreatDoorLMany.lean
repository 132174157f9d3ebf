/- The law on a block that is turned many times, and back as many, walked; own lemmas of the verifier, no statement is proved here. -/
import Derived.Test.YtbgkmicelmenfaaGreatDoorQC
namespace Go.Proofs.YtbgkmicelmenfaaGreatDoor.C
open Go.RowKit
open A (str_toList str_ne strq byL byL_len)
set_option maxRecDepth 100000
/-- Many times. -/
def rep (g : List UInt8 → List UInt8) (x : List UInt8) : Nat → List UInt8
  | 0 => x
  | n + 1 => g (rep g x n)
set_option maxHeartbeats 4000000 in
theorem many_walk [Inhabited D.BT] [Inhabited S.RT] (a0 : Int) (a1 : Int) (a2 : Option Addr) (len2 cap2 : Nat) (z2 : List Int) (a3 : Option Addr) (len3 cap3 : Nat) (z3 : List Int) (a4 : Int) (w : World) (_w0 : (Lit.int .i64 a0).wf = true) (_w1 : (Lit.int .i64 a1).wf = true) (w2 : IsRow .u8 w a2 len2 cap2 z2) (w3 : IsRow .u8 w a3 len3 cap3 z3) (_w4 : (Lit.int .i64 a4).wf = true) (hG : GC w) :
    Calls Tryz.prog 8 #[.int .i64 a0, .int .i64 a1, .slice a2 len2 cap2, .slice a3 len3 cap3, .int .i64 a4] w fun e w' => e = .returned (.bool true) ∧ Below w.heap.size w w' := by
  have HG := hid hG
  obtain ⟨ks, hrk, hlk, hck⟩ := w2.rdb
  obtain ⟨bs, hrb, hlb, hcb⟩ := w3.rdb
  obtain ⟨t, hte⟩ : ∃ t, tagF a0 = t := ⟨_, rfl⟩
  have ht := tagF_ok a0
  rw [hte] at ht
  have HTAG := hid (fun w => tag_any a0 w)
  rw [hte] at HTAG
  have hkm := keyLen_mem ht a1
  have HKEY := hid (fun w A L c bs h hL => key_any ht a1 A L c bs w h hL)
  have HNEW := hid (fun w hG A c h hc => new_any ht A (keyLen t a1) c (keyB t a1 ks) w h hkm hc hG)
  have HRS := hid (fun w => rsize_any (t : Int) w)
  have hz16 := sz_le t ht.2
  rw [tN_tag ht] at HRS
  have HLEN := hid (fun b hb back => cf_len ht (keyB t a1 ks) back b hb)
  have HUND := hid (fun b hb => cf_und ht (keyB t a1 ks) (by rw [keyB_len]; exact hkm) b hb)
  have HKL := hid (keyB_len t a1 ks)
  obtain ⟨f, hf⟩ : ∃ f, cf t (keyB t a1 ks) = f := ⟨_, rfl⟩
  obtain ⟨KB, hKB⟩ : ∃ KB, keyB t a1 ks = KB := ⟨_, rfl⟩
  obtain ⟨Z, hZ⟩ : ∃ Z, szN t = Z := ⟨_, rfl⟩
  rw [hf, hZ] at HLEN HNEW
  rw [hf, hZ] at HUND
  rw [hZ] at HRS hz16
  rw [hKB] at HNEW HKL
  have HKEY2 := hid (fun w A L c h hL => by have := HKEY.out w A L c ks h hL; rw [hKB] at this; exact this)
  obtain ⟨ML, hML⟩ : ∃ ML, keyLen t a1 = ML := ⟨_, rfl⟩
  rw [hML] at HNEW HKL
  have HZ16 := hid hz16
  have HRK := hid hrk
  have HLK := hid hlk
  have HRB := hid hrb
  have HLB := hid hlb
  clear hG w2 w3 hte hf hKB hZ hML HKEY hz16 hkm hrk hlk hck hrb hlb hcb ht
  have hp := byL_len Z bs
  obtain ⟨P, hP⟩ : ∃ P, byL Z bs = P := ⟨_, rfl⟩
  rw [hP] at hp
  have HP := hid hP
  have HREP := hid (show ∀ k, (rep (f false) P k).length = Z from fun k => by
    induction k with
    | zero => exact hp
    | succ k ih => exact HLEN.out _ ih false)
  have HBK := hid (show ∀ k, f true (rep (f false) P (k + 1)) = rep (f false) P k from fun k => (HUND.out _ (HREP.out k)).1)
  have h1 : 0 ≤ a4 % 12 := by omega
  have h2 : a4 % 12 < 12 := by omega
  obtain ⟨W, hW⟩ : ∃ W : Nat, a4 % 12 = W := ⟨(a4 % 12).toNat, by omega⟩
  have HWI := hid (fun w => within_any a4 12 w (by omega) (by omega))
  rw [hW] at HWI
  have HW12 := hid (show W < 12 by omega)
  clear hP hp h1 h2 hW HLEN HUND
  go_enter Tryz.func8, Tryz.ntmps8
  go_wp2_with fail
  refine (known_any _ HG.out).mono ?_
  rintro e w1 ⟨rfl, hx1⟩
  have HX1 := hid hx1
  clear hx1
  go_wp2_with (go_at_call 12; refine (HTAG.out _).mono ?_; rintro e w2 ⟨rfl, rfl⟩)
  refine (HKEY2.out _ _ _ _ (HRK.out.later HX1.out) HLK.out).mono ?_
  rintro e w2 ⟨v2, rfl, ho2, hx2⟩
  obtain ⟨A2, c2, rfl, hc2, hr2, _⟩ := ho2.rdcb HKL.out
  have HX2 := hid (Ext.trans HX1.out hx2)
  have HR2 := hid hr2
  clear ho2 hr2 hx2
  go_wp2_with fail
  refine (HNEW.out _ (HG.out.later HX2.out) _ _ HR2.out hc2).mono ?_
  rintro e w3 ⟨p, rfl, _, hi3, hx3⟩
  have HX3 := hid (Ext.trans HX2.out hx3)
  have HI3 := hid hi3
  clear hi3 hx3 HX2 HR2 hc2 HNEW HKEY2 HTAG
  go_wp2_with (go_at_call 26; refine (HRS.out _).mono ?_; rintro e w6 ⟨rfl, rfl⟩)
  refine (by_any _ Z _ _ bs _ (HRB.out.later HX3.out) (by have := HZ16.out; omega) HLB.out).mono ?_
  rintro e w4 ⟨v4, rfl, ho4, hx4⟩
  obtain ⟨AP, cP, rfl, hcP, hrP, _⟩ := ho4.rdcb (n := Z) (byL_len _ _)
  have HX4 := hid (Ext.trans HX3.out hx4)
  have HI4 := hid (HI3.out.later hx4)
  clear HX3 HI3
  have HRP := hid hrP
  clear ho4 hrP hx4
  rw [HP.out] at HRP
  go_wp2_with (go_at_call 27; refine (HWI.out _).mono ?_; rintro e w6 ⟨rfl, rfl⟩)
  go_loopw [16, 17] (fun x i wr => ∃ (k c : Nat) (A : Option Addr), k ≤ W ∧ i = .int .i64 k ∧ x = .slice A Z c ∧ (Z ≤ c ∧ c ≤ 9223372036854775807) ∧ Rd wr wr.heap.size A Z (rep (f false) P k) ∧ Ext w4 wr) (fun _ i _ => W - (intOf i).toNat)
  case atStart => exact ⟨0, cP, AP, by omega, rfl, rfl, hcP, HRP.out, Ext.refl _⟩
  case round =>
    obtain ⟨k, c, A, hk, rfl, rfl, hc, hr, hx⟩ := hrel
    have HR := hid hr
    have HX := hid hx
    clear hr hx
    by_cases hlt : k < W
    · have HI := hid (HI4.out.later HX.out)
      have h12 := HW12.out
      go_wp2_with fail
      refine (enc_any p _ _ _ f (rep (f false) P k) _ HI.out HR.out hc).mono ?_
      rintro e w5 ⟨A5, c5, rfl, hc5, hr5, hx5⟩
      have HH := hid (And.intro hr5 (Ext.trans HX.out hx5))
      clear hr5 hx5 HI HR HX
      go_wp2_with fail
      go_roundw
      case rel => exact ⟨k + 1, c5, A5, by omega, by go_num, rfl, hc5, HH.out.1, HH.out.2⟩
      case measure => simp [intOf]; omega
    · obtain rfl : k = W := by omega
      have HC1 := hid hc
      have HXA := hid (Ext.trans HX4.out HX.out)
      have HIA := hid (HI4.out.later HX.out)
      have HRA := hid HR.out
      have HPA := hid (HRP.out.later HX.out)
      obtain ⟨w7, hw7⟩ : ∃ w7, w7 = wr := ⟨_, rfl⟩
      subst hw7
      clear HX HR HX4 HI4 HRP hc hlt
      go_wp2_with fail
      go_loopw [16, 20] (fun x i wr => ∃ (j c : Nat) (A : Option Addr), j ≤ k ∧ i = .int .i64 j ∧ x = .slice A Z c ∧ (Z ≤ c ∧ c ≤ 9223372036854775807) ∧ Rd wr wr.heap.size A Z (rep (f false) P (k - j)) ∧ Ext w7 wr) (fun _ i _ => k - (intOf i).toNat)
      case atStart => exact ⟨0, c, A, by omega, rfl, rfl, HC1.out, HRA.out, Ext.refl _⟩
      case round =>
        obtain ⟨j, d, D, hj, rfl, rfl, hd, hr, hx⟩ := hrel
        have HR := hid hr
        have HX := hid hx
        clear hr hx
        by_cases hlt : j < k
        · have HI := hid (HIA.out.later HX.out)
          have h12 := HW12.out
          have HE := hid (show f true (rep (f false) P (k - j)) = rep (f false) P (k - (j + 1)) by
            obtain ⟨m, hm⟩ : ∃ m, k - (j + 1) = m := ⟨_, rfl⟩
            rw [hm, show k - j = m + 1 by omega]; exact HBK.out m)
          go_wp2_with fail
          refine (dec_any p _ _ _ f (rep (f false) P (k - j)) _ HI.out HR.out hd).mono ?_
          rw [HE.out]
          rintro e w5 ⟨A5, c5, rfl, hc5, hr5, hx5⟩
          have HH := hid (And.intro hr5 (Ext.trans HX.out hx5))
          clear hr5 hx5 HI HR HX
          go_wp2_with fail
          go_roundw
          case rel => exact ⟨j + 1, c5, A5, by omega, by go_num, rfl, hc5, HH.out.1, HH.out.2⟩
          case measure => simp [intOf]; omega
        · obtain rfl : j = k := by omega
          have hr2 := HR.out
          rw [Nat.sub_self] at hr2
          have hs1 := strq (c := d) (show Rd wr wr.heap.size D Z P from hr2)
          have hs2 := strq (c := cP) (HPA.out.later HX.out)
          have HXE := hid (Ext.trans HXA.out HX.out)
          clear hr2 HR HX
          go_wp2_with fail
          go_ret
          exact ⟨rfl, HXE.out⟩
end Go.Proofs.YtbgkmicelmenfaaGreatDoor.C
