/- The law on there and back, walked; own text of the verifier. -/
import Derived.Test.YtgkfohgeelfceaaDoorX13
namespace Go.Proofs.YtgkfohgeelfceaaDoor
open Go.RowKit
def bk4 (k : Nat) (t : T3) (kb : List UInt8) (len1 : Nat) : List K := [.row 3 tagsV, .eq (.int .i64 k), .ptr (.int .i64 t.code), .eq (.int .i64 t.code), .eq (.int .i64 k), .eq (.int .i64 t.size), .byt len1 (kb), .bycm t.size (byL t.size kb), .gen (NewP t (byL t.size kb)) (NewP.keep _ _), .gen (NewP t (byL t.size kb)) (NewP.keep _ _), .gen (PtrP t (byL t.size kb)) (PtrP.keep _ _), .eq (.int .i64 0), .gen (PtrP t (byL t.size kb)) (PtrP.keep _ _), .eq (.int .i64 0)]
set_option maxRecDepth 100000 in
set_option maxHeartbeats 4000000 in
theorem back_walk (a0 : Int) (a1 : Option Addr) (len1 cap1 : Nat) (z1 : List Int) (a2 : Option Addr) (len2 cap2 : Nat) (z2 : List Int) (a3 : Option Addr) (len3 cap3 : Nat) (z3 : List Int) (w : World) (_w0 : (Lit.int .i64 a0).wf = true) (w1 : IsRow .u8 w a1 len1 cap1 z1) (w2 : IsRow .u8 w a2 len2 cap2 z2) (w3 : IsRow .u8 w a3 len3 cap3 z3) (hG : GRows w) :
    Calls Tryd.prog 4 #[.int .i64 a0, .slice a1 len1 cap1, .slice a2 len2 cap2, .slice a3 len3 cap3] w fun e w' => e = .returned (.bool true) ∧ Below w.heap.size w w' := by
  obtain ⟨kb, hrk, hm1, _⟩ := w1.rdc
  obtain ⟨pb, hrp, hm2, _⟩ := w2.rdc
  obtain ⟨qb, hrq, hm3, _⟩ := w3.rdc
  unfold maxLen at hm1 hm2 hm3
  obtain ⟨k, hk⟩ : ∃ k : Nat, a0 % 3 = (k : Int) := ⟨(a0 % 3).toNat, by omega⟩
  have hlt : k < 3 := by omega
  have HKK := hid hk
  have HK3 := hid hlt
  obtain ⟨t, ht⟩ : ∃ t, T3.at k = t := ⟨_, rfl⟩
  have HTG := hid (show tagsV.getD k undef = .int .i64 t.code by rw [← ht]; exact tagsV_get k hlt)
  have HSZ := hid (fun w => (ht ▸ size_any k w hlt : Calls Tryd.prog 16 #[.int .i64 k] w fun e w' => e = .returned (.int .i64 t.size) ∧ Ext w w'))
  clear ht
  have HG := hid hG
  have HRK := hid hrk
  have HRP := hid hrp
  have HRQ := hid hrq
  have HM1 := hid hm1
  have HM2 := hid hm2
  have HM3 := hid hm3
  clear hG hrk hrp hrq hm1 hm2 hm3 w1 w2 w3 hk
  go_enter Tryd.func4, Tryd.ntmps4
  go_wp2_with fail
  refine (known_any _ HG.out).mono ?_
  rintro e w1 ⟨rfl, hx1⟩
  have HX1 := hid hx1
  have HRK := hid (HRK.out.later hx1)
  clear hx1
  go_wp2_with fail
  refine (within_any _ _ _ (by omega) (by omega)).mono ?_
  rintro e w2 ⟨rfl, rfl⟩
  rw [HKK.out]
  go_wp2_with fail
  refine region_inv mixed rfl (by kernel_rfl) (kV (bk4 k t kb len1)) (kV_keep _) (forall_ops ⟨?_, ?_, ?_, ?_, ?_, ?_, ?_, ?_, ?_, ?_, ?_, ?_, ?_, ?_, trivial⟩) ?_
  · intro a w hk
    exact step_call rfl rfl (by simp only [List.map_toArray, List.map_nil]) cf15 (tags_any w) (fun e w1 h => h)
  · intro a w hk
    have s9 : a.tmps.getD 9 undef = .int .i64 k := hk.was 9 (by kernel_rfl) rfl
    exact step_move rfl rfl s9 rfl
  · intro a w hk
    obtain ⟨b29, s29, h29, g29⟩ := hk.val 0 29 (by kernel_rfl) rfl
    have s30 := hk.eq_ 1 30 (by kernel_rfl) rfl
    refine step_val (v := .pointer (some ⟨b29, k, none⟩)) (w' := w) rfl ?_ (Ext.refl w) ⟨_, rfl, h29, (g29 k HK3.out).trans (by rw [HTG.out])⟩
    have hk3 : (k : Int) < 3 := by have := HK3.out; omega
    go_simp
  · intro a w hk
    obtain ⟨p31, s31, h31, g31⟩ := hk.val 2 31 (by kernel_rfl) rfl
    refine step_val (v := .int .i64 t.code) (w' := w) rfl ?_ (Ext.refl w) rfl
    go_simp
  · intro a w hk
    have s9 : a.tmps.getD 9 undef = .int .i64 k := hk.was 9 (by kernel_rfl) rfl
    exact step_move rfl rfl s9 rfl
  · intro a w hk
    have s33 := hk.eq_ 4 33 (by kernel_rfl) rfl
    exact step_call rfl rfl (by simp only [List.map_toArray, List.map_cons, List.map_nil, Act.eval, s33] <;> rfl) cf16 (HSZ.out w) (fun e w1 h => by obtain ⟨rfl, hx⟩ := h; exact ⟨_, rfl, hx, rfl⟩)
  · intro a w hk
    have s1 : a.tmps.getD 1 undef = .slice a1 len1 cap1 := hk.was 1 (by kernel_rfl) rfl
    have r1 := (HRK.out).later hk.ext
    exact step_move rfl rfl s1 ⟨_, _, rfl, r1⟩
  · intro a w hk
    have s34 := hk.eq_ 5 34 (by kernel_rfl) rfl
    obtain ⟨A35, c35, s35, r35⟩ := hk.byt_ 6 35 (by kernel_rfl) rfl
    exact step_call rfl rfl (by simp only [List.map_toArray, List.map_cons, List.map_nil, Act.eval, s34, s35] <;> rfl) cf13 (by_any _ t.size _ _ kb w r35 (by have := size_le t; omega) HM1.out) (fun e w1 h => retByc (byL_len _ _) e w1 h)
  · intro a w hk
    have s32 := hk.eq_ 3 32 (by kernel_rfl) rfl
    obtain ⟨A36, c36, s36, k36, m36, r36⟩ := hk.val 7 36 (by kernel_rfl) rfl
    exact step_call rfl rfl (by simp only [List.map_toArray, List.map_cons, List.map_nil, Act.eval, s32, s36] <;> rfl) cf14 (new_any t A36 c36 (byL t.size kb) w r36 k36 m36) (fun e w1 h => retNew e w1 h)
  · intro a w hk
    obtain ⟨p37, s37, g37⟩ := hk.val 8 37 (by kernel_rfl) rfl
    exact step_move rfl rfl s37 ⟨p37, rfl, g37⟩
  · intro a w hk
    obtain ⟨p28, s28, g28⟩ := hk.val 9 28 (by kernel_rfl) rfl
    exact step_extract rfl rfl s28 rfl ⟨p28, rfl, g28⟩
  · intro a w hk
    obtain ⟨p28, s28, g28⟩ := hk.val 9 28 (by kernel_rfl) rfl
    exact step_extract rfl rfl s28 rfl rfl
  · intro a w hk
    obtain ⟨p38, s38, g38⟩ := hk.val 10 38 (by kernel_rfl) rfl
    exact step_assign rfl rfl s38 ⟨p38, rfl, g38⟩
  · intro a w hk
    have s39 := hk.eq_ 11 39 (by kernel_rfl) rfl
    exact step_assign rfl rfl s39 rfl
  · intro a w3 hf
    obtain ⟨b29, s29, h29, g29⟩ := hf.val 0 29 (by kernel_rfl) rfl
    have s30 := hf.eq_ 1 30 (by kernel_rfl) rfl
    have s32 := hf.eq_ 3 32 (by kernel_rfl) rfl
    have s33 := hf.eq_ 4 33 (by kernel_rfl) rfl
    have s34 := hf.eq_ 5 34 (by kernel_rfl) rfl
    obtain ⟨A35, c35, s35, r35⟩ := hf.val 6 35 (by kernel_rfl) rfl
    obtain ⟨A36, c36, s36, k36, m36, r36⟩ := hf.val 7 36 (by kernel_rfl) rfl
    obtain ⟨p37, s37, g37⟩ := hf.val 8 37 (by kernel_rfl) rfl
    obtain ⟨p28, s28, g28⟩ := hf.val 9 28 (by kernel_rfl) rfl
    obtain ⟨p38, s38, g38⟩ := hf.val 10 38 (by kernel_rfl) rfl
    have s39 := hf.eq_ 11 39 (by kernel_rfl) rfl
    obtain ⟨p10, s10, g10⟩ := hf.val 12 10 (by kernel_rfl) rfl
    have s11 := hf.eq_ 13 11 (by kernel_rfl) rfl
    have hx := hf.ext
    have e := hf.frame
    clear hf
    simp only [regFrame, Act.put, List.setIfInBounds_toArray, List.set_cons_zero, List.set_cons_succ, s29, s30, s32, s33, s34, s35, s36, s37, s28, s38, s39, s10, s11] at e
    generalize a.tmps.getD 31 undef = u31 at e
    clear s29 s30 s32 s33 s34 s35 s36 s37 s28 s38 s39 s10 s11
    subst e
    have HX3 := hid (Ext.trans HX1.out hx)
    have HS3 := hid g10
    clear hx g10 g38 g28 g37 r35 r36 HX1
    go_wp2_with fail
    refine (by_any a2 8 len2 cap2 pb _ (HRP.out.later HX3.out) (by omega) HM2.out).mono ?_
    rintro e w4 ⟨v12, rfl, ho, hx⟩
    obtain ⟨A12, c12, rfl, hc12, hm12, hr⟩ := ho.rdm (n := 8) (byL_len _ _)
    have HX4 := hid (Ext.trans HX3.out hx)
    have HS4 := hid (HS3.out.later hx)
    have HR12 := hid hr
    clear ho hx hr HX3 HS3
    go_wp2_with fail
    refine (by_any a3 8 len3 cap3 qb _ (HRQ.out.later HX4.out) (by omega) HM3.out).mono ?_
    rintro e w5 ⟨v13, rfl, ho, hx⟩
    obtain ⟨A13, c13, rfl, hc13, hm13, hr⟩ := ho.rdm (n := 8) (byL_len _ _)
    have HX5 := hid (Ext.trans HX4.out hx)
    have HS5 := hid (HS4.out.later hx)
    have HR12 := hid (HR12.out.later hx)
    have HR13 := hid hr
    clear ho hx hr HX4 HS4
    have HP8 := hid (byL_len 8 pb)
    have HQ8 := hid (byL_len 8 qb)
    obtain ⟨P, hP⟩ : ∃ P, byL 8 pb = P := ⟨_, rfl⟩
    obtain ⟨Q, hQ⟩ : ∃ Q, byL 8 qb = Q := ⟨_, rfl⟩
    rw [hP] at HP8 HR12
    rw [hQ] at HQ8 HR13
    obtain ⟨key, hkey⟩ : ∃ key, byL t.size kb = key := ⟨_, rfl⟩
    rw [hkey] at HS5
    have HBX := hid (block_back t key false P HP8.out)
    have HBZ := hid (block_back t key true P HP8.out)
    have HIV := hid (block_inj t key false HQ8.out HP8.out)
    have HLX := hid (blockL_length t key false P)
    have HLZ := hid (blockL_length t key true P)
    have HLV := hid (blockL_length t key false Q)
    obtain ⟨X, hX⟩ : ∃ X, blockL t key false P = X := ⟨_, rfl⟩
    obtain ⟨Z, hZ⟩ : ∃ Z, blockL t key true P = Z := ⟨_, rfl⟩
    obtain ⟨V, hV⟩ : ∃ V, blockL t key false Q = V := ⟨_, rfl⟩
    rw [hX] at HBX HIV HLX
    rw [hZ] at HBZ HLZ
    rw [hV] at HIV HLV
    have HX_ := hid hX
    have HZ_ := hid hZ
    have HV_ := hid hV
    clear hP hQ hkey hX hZ hV
    go_wp2_with fail
    refine (block_any t key false p10 A12 c12 P _ HS5.out (HG.out.later HX5.out) HR12.out hc12 hm12).mono ?_
    rw [HX_.out]
    rintro e w6 ⟨v14, rfl, ho, hx⟩
    obtain ⟨A14, c14, rfl, hc14, hm14, hr⟩ := ho.rdm (n := 8) HLX.out
    have HX6 := hid (Ext.trans HX5.out hx)
    have HS6 := hid (HS5.out.later hx)
    have HR12 := hid (HR12.out.later hx)
    have HR13 := hid (HR13.out.later hx)
    have HR14 := hid hr
    clear ho hx hr HX5 HS5
    go_wp2_with fail
    refine (block_any t key true p10 A14 c14 X _ HS6.out (HG.out.later HX6.out) HR14.out hc14 hm14).mono ?_
    rw [show blockL t key true X = P from HBX.out]
    rintro e w7 ⟨v16, rfl, ho, hx⟩
    obtain ⟨A16, c16, rfl, hc16, hm16, hr⟩ := ho.rdm (n := 8) HP8.out
    have HX7 := hid (Ext.trans HX6.out hx)
    have HS7 := hid (HS6.out.later hx)
    have HR12 := hid (HR12.out.later hx)
    have HR13 := hid (HR13.out.later hx)
    have HR14 := hid (HR14.out.later hx)
    have HR16 := hid hr
    clear ho hx hr HX6 HS6
    go_wp2_with fail
    refine (block_any t key true p10 A12 c12 P _ HS7.out (HG.out.later HX7.out) HR12.out hc12 hm12).mono ?_
    rw [HZ_.out]
    rintro e w8 ⟨v18, rfl, ho, hx⟩
    obtain ⟨A18, c18, rfl, hc18, hm18, hr⟩ := ho.rdm (n := 8) HLZ.out
    have HX8 := hid (Ext.trans HX7.out hx)
    have HS8 := hid (HS7.out.later hx)
    have HR12 := hid (HR12.out.later hx)
    have HR13 := hid (HR13.out.later hx)
    have HR14 := hid (HR14.out.later hx)
    have HR16 := hid (HR16.out.later hx)
    have HR18 := hid hr
    clear ho hx hr HX7 HS7
    go_wp2_with fail
    refine (block_any t key false p10 A18 c18 Z _ HS8.out (HG.out.later HX8.out) HR18.out hc18 hm18).mono ?_
    rw [show blockL t key false Z = P from HBZ.out]
    rintro e w9 ⟨v20, rfl, ho, hx⟩
    obtain ⟨A20, c20, rfl, hc20, hm20, hr⟩ := ho.rdm (n := 8) HP8.out
    have HX9 := hid (Ext.trans HX8.out hx)
    have HS9 := hid (HS8.out.later hx)
    have HR12 := hid (HR12.out.later hx)
    have HR13 := hid (HR13.out.later hx)
    have HR14 := hid (HR14.out.later hx)
    have HR16 := hid (HR16.out.later hx)
    have HR20 := hid hr
    clear ho hx hr HX8 HS8 HR18
    go_wp2_with fail
    refine (block_any t key false p10 A13 c13 Q _ HS9.out (HG.out.later HX9.out) HR13.out hc13 hm13).mono ?_
    rw [HV_.out]
    rintro e w10 ⟨v22, rfl, ho, hx⟩
    obtain ⟨A22, c22, rfl, hc22, hm22, hr⟩ := ho.rdm (n := 8) HLV.out
    have HX10 := hid (Ext.trans HX9.out hx)
    have hs12 := strq (c := c12) (HR12.out.later hx)
    have hs13 := strq (c := c13) (HR13.out.later hx)
    have hs14 := strq (c := c14) (HR14.out.later hx)
    have hs16 := strq (c := c16) (HR16.out.later hx)
    have hs20 := strq (c := c20) (HR20.out.later hx)
    have hs22 := strq (c := c22) hr
    clear ho hx hr HX9 HS9 HR12 HR13 HR14 HR16 HR20
    by_cases hpq : Q = P
    · have hvx : V = X := HIV.out.2 hpq
      rw [hpq] at hs13
      rw [hvx] at hs22
      go_wp2_with fail
      go_ret
      exact ⟨rfl, HX10.out⟩
    · have hn1 := str_ne hpq
      have hn2 := str_ne (fun e => hpq (HIV.out.1 e))
      have hn3 : ¬ (str P).toList = (str Q).toList := fun e => hn1 e.symm
      have hb2 := beq_false_of_ne hn2
      have hb3 := beq_false_of_ne hn3
      clear hn1 hn2 hn3
      go_wp2_with fail
      go_ret
      exact ⟨by simp, HX10.out⟩
end Go.Proofs.YtgkfohgeelfceaaDoor
