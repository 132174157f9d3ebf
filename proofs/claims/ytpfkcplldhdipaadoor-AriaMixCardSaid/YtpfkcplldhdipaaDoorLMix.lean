/- The law on Mix and both layers, walked; own text of the verifier. -/
import Derived.Test.YtpfkcplldhdipaaDoorX20
import Derived.Test.YtpfkcplldhdipaaDoorZ1
namespace Go.Proofs.YtpfkcplldhdipaaDoor
open Go.RowKit
theorem xor4 (a b c d : UInt8) : (a ^^^ b) ^^^ (c ^^^ d) = (a ^^^ c) ^^^ (b ^^^ d) := by
  rw [UInt8.xor_assoc, UInt8.xor_assoc, ← UInt8.xor_assoc b c d, UInt8.xor_comm b c, UInt8.xor_assoc c b d]
/-- The sum of the bytes that are chosen. -/
def pickX (p : List UInt8) (c : Nat → Bool) : Nat → UInt8
  | 0 => 0
  | n + 1 => pickX p c n ^^^ (if c n then p.getD n 0 else 0)
theorem pickX_xor (p : List UInt8) (c d : Nat → Bool) : ∀ n, pickX p (fun m => c m != d m) n = pickX p c n ^^^ pickX p d n
  | 0 => by simp [pickX]
  | n + 1 => by
    rw [pickX, pickX, pickX, pickX_xor p c d n, xor4]
    congr 1
    cases c n <;> cases d n <;> simp
theorem pickX_none (p : List UInt8) : ∀ n, pickX p (fun _ => false) n = 0
  | 0 => rfl
  | n + 1 => by rw [pickX, pickX_none p n]; simp
theorem pickX_past (p : List UInt8) (m : Nat) : ∀ n, n ≤ m → pickX p (fun k => k == m) n = 0
  | 0, _ => rfl
  | n + 1, h => by
    rw [pickX, pickX_past p m n (by omega)]
    have : (n == m) = false := by simp; omega
    simp [this]
theorem pickX_one (p : List UInt8) (m : Nat) : ∀ n, m < n → pickX p (fun k => k == m) n = p.getD m 0
  | n + 1, h => by
    rw [pickX]
    by_cases e : n = m
    · subst e
      rw [pickX_past p n n (Nat.le_refl _)]; simp
    · rw [pickX_one p m n (by omega)]
      have : (n == m) = false := by simp; omega
      simp [this]
theorem pickX_congr (p : List UInt8) {c d : Nat → Bool} : ∀ n, (∀ m, m < n → c m = d m) → pickX p c n = pickX p d n
  | 0, _ => rfl
  | n + 1, h => by rw [pickX, pickX, pickX_congr p n (fun m hm => h m (by omega)), h n (by omega)]
def hasX (i : Nat) : Nat → Nat → Bool
  | 0, _ => false
  | j + 1, m => hasX i j m != (m == sevN i j)
def hasY (i : Nat) : Nat → Nat → Bool
  | 0, _ => false
  | j + 1, m => hasY i j m != hasX (sevN i j) 7 m
theorem mixK_pick (p : List UInt8) (i : Nat) (hi : i < 16) : ∀ j, j ≤ 7 → mixK p i j = pickX p (hasX i j) 16
  | 0, _ => (pickX_none p 16).symm
  | j + 1, hj => by
    rw [mixK, mixK_pick p i hi j (by omega), ← pickX_one p (sevN i j) 16 (sevN_lt i hi j (by omega)), ← pickX_xor]; rfl
theorem mixL_pick (p : List UInt8) (i : Nat) (hi : i < 16) : (mixL p).getD i 0 = pickX p (hasX i 7) 16 := by
  rw [← mixK_pick p i hi 7 (by omega)]
  simp [mixL, mixF, List.getD_eq_getElem?_getD, hi]
theorem mix2_pick (p : List UInt8) (i : Nat) (hi : i < 16) : ∀ j, j ≤ 7 → mixK (mixL p) i j = pickX p (hasY i j) 16
  | 0, _ => (pickX_none p 16).symm
  | j + 1, hj => by
    rw [mixK, mix2_pick p i hi j (by omega), mixL_pick p _ (sevN_lt i hi j (by omega)), ← pickX_xor]; rfl
theorem hasY_one : ∀ i < 16, ∀ m < 16, hasY i 7 m = (m == i) := by decide +kernel
theorem mix_mix (p : List UInt8) (h : p.length = 16) : mixL (mixL p) = p := by
  apply List.ext_getElem
  · rw [mixL_length, h]
  · intro i h1 h2
    have hi : i < 16 := by omega
    refine Eq.trans (show _ = mixK (mixL p) i 7 by simp [mixL, mixF]) ?_
    rw [mix2_pick p i hi 7 (by omega), pickX_congr p 16 (hasY_one i hi), pickX_one p i 16 hi]
    simp [List.getD_eq_getElem?_getD, h2]
theorem tab_tab (q v : Nat) (hq : q < 4) (hv : v < 256) : nb (tabT ((2 + q) % 4)) (nb (tabT q) v) = v := by
  match q, hq with
  | 0, _ => exact x1_s1 v hv
  | 1, _ => exact x2_s2 v hv
  | 2, _ => exact s1_x1 v hv
  | 3, _ => exact s2_x2 v hv
theorem lay_lay (p : List UInt8) (h : p.length = 16) : layL 2 (layL 1 p) = p := by
  refine nb_ext (n := 16) (layL_length _ _) h fun i hi => ?_
  have e1 : nb (layL 1 p) i = nb (tabT (i % 4)) (nb p i) := by
    show ((layL 1 p).getD i 0).toNat = _
    have : (layL 1 p).getD i 0 = layF 1 p i := by simp [layL, List.getD_eq_getElem?_getD, hi]
    rw [this]
    unfold layF nb
    simp
  have e2 : nb (layL 2 (layL 1 p)) i = nb (tabT ((2 + i) % 4)) (nb (layL 1 p) i) := by
    show ((layL 2 (layL 1 p)).getD i 0).toNat = _
    have : (layL 2 (layL 1 p)).getD i 0 = layF 2 (layL 1 p) i := by simp [layL, List.getD_eq_getElem?_getD, hi]
    rw [this]
    unfold layF nb
    simp
  rw [e2, e1, show (2 + i) % 4 = (2 + i % 4) % 4 by omega]
  exact tab_tab (i % 4) (nb p i) (by omega) (nb_lt _ _)
/-- Whether Mix of any bytes tells some. -/
def BoolRet (w : World) (b : Bool) (e : Ending) (w' : World) : Prop := ∃ v, e = .returned (.tuple #[v, .bool b]) ∧ Ext w w'
theorem pmix_bool (A : Option Addr) (n c : Nat) (bs : List UInt8) (w : World) (h : Rd w w.heap.size A n bs) (hs : Sev w) : Calls Tryd.prog 14 #[.slice A n c] w (BoolRet w (n == 16)) := by
  by_cases e : n = 16
  · subst e
    exact (pmix_any A c bs w h hs).mono fun e w' ⟨A', c', he, _, _, hx⟩ => ⟨_, he, hx⟩
  · have hb : (n == 16) = false := by simpa using e
    rw [hb]
    exact (pmix_bad A n c w e).mono fun e w' ⟨he, hx⟩ => ⟨_, he, hx⟩
theorem rmix_bool (A : Option Addr) (n c : Nat) (bs : List UInt8) (w : World) (h : Rd w w.heap.size A n bs) : Calls Tryd.prog 15 #[.slice A n c] w (BoolRet w (n == 16)) := by
  by_cases e : n = 16
  · subst e
    exact (rmix2_any A c bs w h).mono fun e w' ⟨A', c', he, _, _, hx⟩ => ⟨_, he, hx⟩
  · have hb : (n == 16) = false := by simpa using e
    rw [hb]
    exact (rmix2_bad A n c w e).mono fun e w' ⟨he, hx⟩ => ⟨_, he, hx⟩
/-- What a layer of any number tells. -/
def layX (which : Int) (bs : List UInt8) : List UInt8 := if which = 1 then layL 1 bs else if which = 2 then layL 2 bs else []
def okX (which : Int) : Bool := which == 1 || which == 2
def LayRet (w : World) (which : Int) (bs : List UInt8) (e : Ending) (w' : World) : Prop := ∃ A c, e = .returned (.tuple #[.slice A (layX which bs).length c, .bool (okX which)]) ∧ Rd w' w'.heap.size A (layX which bs).length (layX which bs) ∧ Ext w w'
theorem layRet_1 {w : World} {bs : List UInt8} (e : Ending) (w' : World) (h : PRet w (layL 1 bs) e w') : LayRet w 1 bs e w' := by
  obtain ⟨A, c, rfl, _, hr, hx⟩ := h
  have hl : (layX 1 bs).length = 16 := layL_length _ _
  exact ⟨A, c, by rw [hl]; rfl, by rw [hl]; exact hr, hx⟩
theorem layRet_2 {w : World} {bs : List UInt8} (e : Ending) (w' : World) (h : PRet w (layL 2 bs) e w') : LayRet w 2 bs e w' := by
  obtain ⟨A, c, rfl, _, hr, hx⟩ := h
  have hl : (layX 2 bs).length = 16 := layL_length _ _
  exact ⟨A, c, by rw [hl]; rfl, by rw [hl]; exact hr, hx⟩
theorem layRet_no {w : World} {which : Int} {bs : List UInt8} (h1 : which ≠ 1) (h2 : which ≠ 2) (e : Ending) (w' : World) (h : NoRet w e w') : LayRet w which bs e w' := by
  obtain ⟨rfl, hx⟩ := h
  have he : layX which bs = [] := by unfold layX; rw [if_neg h1, if_neg h2]
  have ho : okX which = false := by unfold okX; simp [h1, h2]
  unfold LayRet
  rw [he, ho]
  exact ⟨none, 0, rfl, Rd.nil _ _ _, hx⟩
theorem player_x (which : Int) (A : Option Addr) (c : Nat) (bs : List UInt8) (w : World) (h : Rd w w.heap.size A 16 bs) (hG : GK w) : Calls Tryd.prog 16 #[.int .i64 which, .slice A 16 c] w (LayRet w which bs) := by
  by_cases h1 : which = 1
  · subst h1; exact (player_1 A c bs w h hG).mono layRet_1
  · by_cases h2 : which = 2
    · subst h2; exact (player_2 A c bs w h hG).mono layRet_2
    · exact (player_bad A 16 c which w (.inr ⟨h1, h2⟩)).mono (layRet_no h1 h2)
theorem rlayer_x (which : Int) (A : Option Addr) (c : Nat) (bs : List UInt8) (w : World) (h : Rd w w.heap.size A 16 bs) : Calls Tryd.prog 17 #[.int .i64 which, .slice A 16 c] w (LayRet w which bs) := by
  by_cases h1 : which = 1
  · subst h1; exact (rlayer2_1 A c bs w h).mono layRet_1
  · by_cases h2 : which = 2
    · subst h2; exact (rlayer2_2 A c bs w h).mono layRet_2
    · exact (rlayer2_bad A 16 c which w (.inr ⟨h1, h2⟩)).mono (layRet_no h1 h2)
set_option maxRecDepth 100000 in
set_option maxHeartbeats 8000000 in
theorem mix_walk (a0 : Option Addr) (len0 cap0 : Nat) (z0 : List Int) (a1 : Option Addr) (len1 cap1 : Nat) (z1 : List Int) (a2 : Int) (w : World) (w0 : IsRow .u8 w a0 len0 cap0 z0) (w1 : IsRow .u8 w a1 len1 cap1 z1) (_w2 : (Lit.int .i64 a2).wf = true) (hG : GK w) :
    Calls Tryd.prog 4 #[.slice a0 len0 cap0, .slice a1 len1 cap1, .int .i64 a2] w fun e w' => e = .returned (.bool true) ∧ Below w.heap.size w w' := by
  obtain ⟨bs0, h0, hm0⟩ := w0.rd
  obtain ⟨bs1, h1, hm1⟩ := w1.rd
  unfold maxLen at hm0 hm1
  clear w0 w1
  have H0 := hid h0
  have H1 := hid h1
  have HG := hid hG
  clear h0 h1 hG
  go_enter Tryd.func4, Tryd.ntmps4
  go_wp2_with fail
  refine (known_any _ HG.out).mono ?_
  rintro e w1 ⟨rfl, hx1⟩
  have HX1 := hid hx1
  clear hx1
  by_cases h60 : 60 < len1
  · have g60 : (60 : Int) < (len1 : Int) := by omega
    go_wp2_with fail
    go_ret
    exact ⟨rfl, HX1.out⟩
  · have g60 : ¬ (60 : Int) < (len1 : Int) := by omega
    have HL := hid (show len0 ≤ 9223372036854775807 by omega)
    clear hm0 hm1 h60
    go_wp2_with fail
    refine (by_rd a0 16 len0 cap0 bs0 _ (H0.out.later HX1.out) (by omega) HL.out).mono ?_
    rintro e w2 ⟨A2, c2, rfl, _, hr2, hx2⟩
    obtain ⟨p, hp⟩ : ∃ p, byL 16 bs0 = p := ⟨_, rfl⟩
    rw [hp] at hr2
    have HX2 := hid (Ext.trans HX1.out hx2)
    have HP2 := hid hr2
    have HPL := hid hr2.len
    clear hx2 hr2 HX1 hp g60
    go_wp2_with fail
    refine (pmix_any A2 c2 p _ HP2.out (HG.out.later HX2.out).sev).mono ?_
    rintro e w3 ⟨A3, c3, rfl, _, hr3, hx3⟩
    have HX3 := hid (Ext.trans HX2.out hx3)
    have HP3 := hid (HP2.out.later hx3)
    have HM3 := hid hr3
    clear hx3 hr3 HX2 HP2
    go_wp2_with fail
    refine (rmix2_any A2 c2 p _ HP3.out).mono ?_
    rintro e w4 ⟨A4, c4, rfl, _, hr4, hx4⟩
    have HX4 := hid (Ext.trans HX3.out hx4)
    have HP4 := hid (HP3.out.later hx4)
    have HM4 := hid (HM3.out.later hx4)
    have HN4 := hid hr4
    clear hx4 hr4 HX3 HP3 HM3
    go_wp2_with fail
    refine (pmix_any A3 c3 (mixL p) _ HM4.out (HG.out.later HX4.out).sev).mono ?_
    rintro e w5 ⟨A5, c5, rfl, _, hr5, hx5⟩
    rw [mix_mix p HPL.out] at hr5
    have HX5 := hid (Ext.trans HX4.out hx5)
    have HP5 := hid (HP4.out.later hx5)
    have HM5 := hid (HM4.out.later hx5)
    have HN5 := hid (HN4.out.later hx5)
    have HZ5 := hid hr5
    clear hx5 hr5 HX4 HP4 HM4 HN4
    go_wp2_with fail
    refine (pmix_bool a1 len1 cap1 bs1 _ (H1.out.later HX5.out) (HG.out.later HX5.out).sev).mono ?_
    rintro e w6 ⟨v6, rfl, hx6⟩
    have HX6 := hid (Ext.trans HX5.out hx6)
    have HP6 := hid (HP5.out.later hx6)
    have HM6 := hid (HM5.out.later hx6)
    have HN6 := hid (HN5.out.later hx6)
    have HZ6 := hid (HZ5.out.later hx6)
    clear hx6 HX5 HP5 HM5 HN5 HZ5
    go_wp2_with fail
    refine (rmix_bool a1 len1 cap1 bs1 _ (H1.out.later HX6.out)).mono ?_
    rintro e w7 ⟨v7, rfl, hx7⟩
    have HX7 := hid (Ext.trans HX6.out hx7)
    have HP7 := hid (HP6.out.later hx7)
    have q1 := strq (c := c3) (HM6.out.later hx7)
    have q2 := strq (c := c4) (HN6.out.later hx7)
    have q3 := strq (c := c5) (HZ6.out.later hx7)
    have q4 := strq (c := c2) HP7.out
    obtain ⟨B, hB⟩ : ∃ B, (len1 == 16) = B := ⟨_, rfl⟩
    rw [hB]
    clear hx7 HX6 HP6 HM6 HN6 HZ6 hB
    go_wp2_with fail
    clear q1 q2 q3 q4
    refine (player_1 A2 c2 p _ HP7.out (HG.out.later HX7.out)).mono ?_
    rintro e w8 ⟨A8, c8, rfl, _, hr8, hx8⟩
    have HX8 := hid (Ext.trans HX7.out hx8)
    have HP8 := hid (HP7.out.later hx8)
    have HL8 := hid hr8
    clear hx8 hr8 HX7 HP7
    go_wp2_with fail
    refine (rlayer2_1 A2 c2 p _ HP8.out).mono ?_
    rintro e w9 ⟨A9, c9, rfl, _, hr9, hx9⟩
    have HX9 := hid (Ext.trans HX8.out hx9)
    have HP9 := hid (HP8.out.later hx9)
    have HL9 := hid (HL8.out.later hx9)
    have HR9 := hid hr9
    clear hx9 hr9 HX8 HP8 HL8
    go_wp2_with fail
    refine (player_2 A8 c8 (layL 1 p) _ HL9.out (HG.out.later HX9.out)).mono ?_
    rintro e w10 ⟨A10, c10, rfl, _, hr10, hx10⟩
    rw [lay_lay p HPL.out] at hr10
    have HX10 := hid (Ext.trans HX9.out hx10)
    have HP10 := hid (HP9.out.later hx10)
    have HL10 := hid (HL9.out.later hx10)
    have HR10 := hid (HR9.out.later hx10)
    have HD10 := hid hr10
    clear hx10 hr10 HX9 HP9 HL9 HR9
    go_wp2_with fail
    refine (player_x a2 A2 c2 p _ HP10.out (HG.out.later HX10.out)).mono ?_
    rintro e w11 ⟨A11, c11, rfl, hr11, hx11⟩
    have HX11 := hid (Ext.trans HX10.out hx11)
    have HP11 := hid (HP10.out.later hx11)
    have HL11 := hid (HL10.out.later hx11)
    have HR11 := hid (HR10.out.later hx11)
    have HD11 := hid (HD10.out.later hx11)
    have HU11 := hid hr11
    clear hx11 hr11 HX10 HP10 HL10 HR10 HD10
    go_wp2_with fail
    refine (rlayer_x a2 A2 c2 p _ HP11.out).mono ?_
    rintro e w12 ⟨A12, c12, rfl, hr12, hx12⟩
    have HX12 := hid (Ext.trans HX11.out hx12)
    have q1 := strq (c := c8) (HL11.out.later hx12)
    have q2 := strq (c := c9) (HR11.out.later hx12)
    have q3 := strq (c := c10) (HD11.out.later hx12)
    have q4 := strq (c := c2) (HP11.out.later hx12)
    have q5 := strq (c := c11) (HU11.out.later hx12)
    have q6 := strq (c := c12) hr12
    obtain ⟨X, hX⟩ : ∃ X, layX a2 p = X := ⟨_, rfl⟩
    obtain ⟨O, hO⟩ : ∃ O, okX a2 = O := ⟨_, rfl⟩
    rw [hX] at q5 q6 ⊢
    rw [hO]
    obtain ⟨m, hm⟩ : ∃ m, X.length = m := ⟨_, rfl⟩
    rw [hm] at q5 q6 ⊢
    clear hx12 hr12 HX11 HP11 HL11 HR11 HD11 HU11 hX hO hm
    go_wp2_with fail
    go_ret
    exact ⟨by simp, HX12.out⟩
end Go.Proofs.YtpfkcplldhdipaaDoor
