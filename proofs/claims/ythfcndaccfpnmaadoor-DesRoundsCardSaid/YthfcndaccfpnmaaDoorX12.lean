/- Walks over one DES of the program; own lemmas of the verifier, no statement is proved here. -/
import Derived.Test.YthfcndaccfpnmaaDoorX9
namespace Go.Proofs.YthfcndaccfpnmaaDoor
open Go.RowKit
set_option maxHeartbeats 400000 in
theorem place_any (i n : Nat) (back : Bool) (w : World) (hi : i < n) (hn : n ≤ 1000) :
    Calls Tryd.prog 44 #[.int .i64 i, .int .i64 n, .bool back] w fun e w' => e = .returned (.int .i64 (place i n back : Nat)) ∧ w = w' := by
  cases back with
  | true =>
    have hp : place i n true = n - 1 - i := rfl
    rw [hp]
    go_enter Tryd.func44, Tryd.ntmps44
    go_wp2
    go_ret
    exact ⟨ret_int (by omega), rfl⟩
  | false =>
    have hp : place i n false = i := rfl
    rw [hp]
    go_enter Tryd.func44, Tryd.ntmps44
    go_wp2
    go_ret
    exact ⟨rfl, rfl⟩
set_option maxHeartbeats 400000 in
theorem clone_any (A : Option Addr) (n c : Nat) (bs : List UInt8) (w : World) (h : Rd w w.heap.size A n bs) (h0 : 0 < n) (hn : n ≤ 1000000) :
    Calls Tryd.prog 43 #[.slice A n c] w (RetB w bs) := by
  obtain ⟨b, o, rfl, hb, hc⟩ := h.at_ h0
  have hx := Ext.alloc w (.cells #[] 5)
  have hr := h.later hx
  have hown := Own.lit w [] #[] 0 w.heap.size rfl rfl (by unfold maxLen; omega) (Nat.le_refl _)
  have HX := hid hx
  have hop : ∀ w, (binOp .eql 22 (.slice (some ⟨b, o, none⟩) n c) (.slice none 0 0)).run Tryd.prog w = .ok (.bool false) w := fun w => by
    simp [binOp, run_equal_slice_nil w 22 5 (some ⟨b, o, none⟩) n c Tryd.underlying22]
  clear h hc hx
  go_enter Tryd.func43, Tryd.ntmps43
  go_wp2_with (at_builtin; refine wpL_append _ rfl (.tmp 5) (.tmp 6) 22 rfl Tryd.underlying22 Tryd.info5 w.heap.size _ [] rfl hown _ (some ⟨b, o, none⟩) n c bs rfl hr (by simp; omega) (by simp) ?_; intro v2 w2 hown2 hb2)
  go_ret
  exact ⟨_, rfl, by simpa using hown2, (show Below w.heap.size w _ from HX.out).trans hb2⟩
theorem Rd.part {w : World} {B b o n : Nat} {bs : List UInt8} (h : Rd w B (some ⟨b, o, none⟩) n bs) (l m : Nat) (hl : l + m ≤ n) : Rd w B (some ⟨b, o + l, none⟩) m ((bs.drop l).take m) := by
  have hlen := h.len
  refine ⟨by simp; omega, fun hm => ?_⟩
  obtain ⟨b', o', e, hb, hc⟩ := h.at_ (by omega)
  simp only [Option.some.injEq, Addr.mk.injEq, and_true] at e
  obtain ⟨rfl, rfl⟩ := e
  refine ⟨b, o + l, rfl, hb, fun k hk => ?_⟩
  have := hc (l + k) (by omega)
  rw [← Nat.add_assoc] at this
  rw [this]
  simp [byteAt, List.getD, hk]
theorem xor_rd (A A' : Option Addr) (n c c' : Nat) (xs ys : List UInt8) (w : World) (h : Rd w w.heap.size A n xs) (h' : Rd w w.heap.size A' n ys) (hn : n ≤ 140737488355328) :
    Calls Tryd.prog 59 #[.slice A n c, .slice A' n c'] w fun e w' => ∃ A c, e = .returned (.tuple #[.slice A n c, .bool true]) ∧ n ≤ c ∧ Rd w' w'.heap.size A n (xorL xs ys n) ∧ Ext w w' := by
  refine (xor_eq A A' n c c' xs ys w h h' hn).mono ?_
  rintro e w' ⟨v, rfl, ho, hb⟩
  obtain ⟨A2, c2, rfl, hc, hr, _⟩ := ho.rdc (xorL_length xs ys n)
  exact ⟨A2, c2, rfl, hc, hr, hb⟩
theorem place_lt (i n : Nat) (back : Bool) (h : i < n) : place i n back < n := by cases back <;> simp [place] <;> omega
/-- What holds at the label. -/
def TurnJ (A1 : Option Addr) (c1 b2 o2 c2 bk ok ck : Nat) (back : Bool) (kf : Nat → List UInt8) (x : List UInt8) (w : World) (a : Act) (w1 : World) : Prop :=
  ∃ (i : Nat) (Al Ar : Option Addr) (cl cr : Nat) (u3 u4 u5 u11 u12 u13 u14 u15 u16 u17 u18 u19 u20 u21 u22 u23 u24 u25 u26 u27 u28 u29 u30 u31 u32 u33 u34 u35 u36 u37 u38 u39 u40 u41 u42 u43 u44 u45 u46 u47 u48 u49 u50 u51 u52 u53 u54 u55 u56 u57 u58 u59 u60 u61 u62 u63 u64 u65 u66 u67 u68 u69 : Value),
    a = { tmps := #[.slice (some ⟨b2, o2, none⟩) 8 c2, .slice (some ⟨bk, ok, none⟩) 16 ck, .bool back, u3, u4, u5, .slice none 0 0, .slice A1 64 c1, .slice Al 4 cl, .slice Ar 4 cr, .int .i64 i, u11, u12, u13, u14, u15, u16, u17, u18, u19, u20, u21, u22, u23, u24, u25, u26, u27, u28, u29, u30, u31, u32, u33, u34, u35, u36, u37, u38, u39, u40, u41, u42, u43, u44, u45, u46, u47, u48, u49, u50, u51, u52, u53, u54, u55, u56, u57, u58, u59, u60, u61, u62, u63, u64, u65, u66, u67, u68, u69], defers := [] } ∧ i ≤ 16 ∧ Ext w w1 ∧
    Rd w1 w1.heap.size Al 4 (feL (dirF kf back) (x.take 4) (x.drop 4) i).1 ∧ Rd w1 w1.heap.size Ar 4 (feL (dirF kf back) (x.take 4) (x.drop 4) i).2 ∧ Tab w1 A1 64 c1 ipL ∧ KR w1 bk ok kf ∧ Boxes w1
def iAt (k : Nat) (a : Act) : Nat := match a.tmps.getD k undef with | .int _ q => q.toNat | _ => 0
set_option maxRecDepth 100000 in
set_option maxHeartbeats 4000000 in
theorem turn_any (A : Option Addr) (c bk ok ck : Nat) (b : List UInt8) (kf : Nat → List UInt8) (back : Bool) (w : World) (h : Rd w w.heap.size A 8 b) (hk : KR w bk ok kf) (_hck : 16 ≤ ck) (hB : Boxes w) :
    Calls Tryd.prog 45 #[.slice A 8 c, .slice (some ⟨bk, ok, none⟩) 16 ck, .bool back] w (RdRet w 8 (turnL (dirF kf back) b)) := by
  have HR := hid h
  have HK := hid hk
  have HB := hid hB
  clear h hk hB
  obtain ⟨x, hx⟩ : ∃ x, permL b ipL = x := ⟨_, rfl⟩
  have hxl : x.length = 8 := by rw [← hx]; exact perm_len b ipL 64 (ipN_len 64)
  have HXX := hid hx
  have HXL := hid hxl
  clear hx hxl
  go_enter Tryd.func45, Tryd.ntmps45
  go_wp2_with fail
  refine wp_scope_jumps2 0 (fun a w1 => ∃ (A1 : Option Addr) (c1 b2 o2 c2 : Nat), TurnJ A1 c1 b2 o2 c2 bk ok ck back kf x w a w1) (fun a _ => 16 - iAt 10 a) rfl ?_ ?_
  · rintro a w1 ⟨A1, c1, b2, o2, c2, i, Al, Ar, cl, cr, u3, u4, u5, u11, u12, u13, u14, u15, u16, u17, u18, u19, u20, u21, u22, u23, u24, u25, u26, u27, u28, u29, u30, u31, u32, u33, u34, u35, u36, u37, u38, u39, u40, u41, u42, u43, u44, u45, u46, u47, u48, u49, u50, u51, u52, u53, u54, u55, u56, u57, u58, u59, u60, u61, u62, u63, u64, u65, u66, u67, u68, u69, rfl, hi, hx, hl, hr, ht, hk, hB⟩
    by_cases hlt : i < 16
    · obtain ⟨L, R, hfe⟩ : ∃ L R, feL (dirF kf back) (x.take 4) (x.drop 4) i = (L, R) := ⟨_, _, rfl⟩
      have hnext : feL (dirF kf back) (x.take 4) (x.drop 4) (i + 1) = (R, xorL L (fL R (kf (place i 16 back))) 4) := by rw [feL, hfe]; rfl
      rw [hfe] at hl hr
      have hP := place_lt i 16 back hlt
      have hpl := fun w => place_any i 16 back w hlt (by omega)
      obtain ⟨P, hPe⟩ : ∃ P, place i 16 back = P := ⟨_, rfl⟩
      rw [hPe] at hP hnext hpl
      obtain ⟨Ak, ck2, hcell, hrk⟩ := hk.2 P hP
      have HPL := hid hpl
      have HN := hid hnext
      have HX := hid hx
      have HL := hid hl
      have HRR := hid hr
      have HT := hid ht
      have HKR := hid hk
      have HBX := hid hB
      have HRK := hid hrk
      clear hpl hnext hfe hx hl hr ht hk hB hrk hPe
      go_wp2_with (go_at_call 44; refine (HPL.out _).mono ?_; rintro e w' ⟨rfl, rfl⟩)
      refine (f_any _ _ _ _ _ _ _ HRR.out HRK.out HBX.out).mono ?_
      rintro e w2 ⟨A5, c5, rfl, hc5, hr5, hx5⟩
      have HX5 := hid (Ext.trans HX.out hx5)
      have HL5 := hid (HL.out.later hx5)
      have HR5 := hid (HRR.out.later hx5)
      have HT5 := hid (HT.out.later hx5)
      have HK5 := hid (HKR.out.later hx5)
      have HB5 := hid (HBX.out.later hx5)
      have HF5 := hid hr5
      clear hr5 hx5 HX HL HRR HT HKR HBX HRK HPL
      go_wp2_with fail
      refine (xor_rd _ _ 4 _ _ _ _ _ HL5.out HF5.out (by omega)).mono ?_
      rintro e w3 ⟨A6, c6, rfl, hc6, hr6, hx6⟩
      have HX6 := hid (Ext.trans HX5.out hx6)
      have HR6 := hid (HR5.out.later hx6)
      have HT6 := hid (HT5.out.later hx6)
      have HK6 := hid (HK5.out.later hx6)
      have HB6 := hid (HB5.out.later hx6)
      have HM6 := hid hr6
      clear hr6 hx6 HX5 HL5 HR5 HT5 HK5 HB5 HF5
      go_wp2_with fail
      go_step3
      (try simp only [Exit.jump])
      refine ⟨rfl, ⟨A1, c1, b2, o2, c2, i + 1, Ar, A6, cr, c6, _, _, _, _, _, _, _, _, _, _, _, _, _, _, _, _, _, _, _, _, _, _, _, _, _, _, _, _, _, _, _, _, _, _, _, _, _, _, _, _, _, _, _, _, _, _, _, _, _, _, _, _, _, _, _, _, _, _, _, _, _, _, rfl, by omega, HX6.out, ?_, ?_, HT6.out, HK6.out, HB6.out⟩, ?_⟩
      · rw [HN.out]; exact HR6.out
      · rw [HN.out]; exact HM6.out
      · simp [iAt]; omega
    · obtain rfl : i = 16 := by omega
      have HX := hid hx
      have HL := hid hl
      have HRR := hid hr
      have HT := hid ht
      clear hx hl hr ht hk hB
      go_wp2_with fail
      refine (inv_ip _ _ _ HT.out).mono ?_
      rintro e w2 ⟨A3, c3, rfl, ht3, hx3⟩
      have HX3 := hid (Ext.trans HX.out hx3)
      have HT3 := hid ht3
      have hl3 := HL.out.later hx3
      have hr3 := HRR.out.later hx3
      have hrow := RowsB.two w2 Ar Al 4 4 cr cl 22 _ _ hr3 hl3
      have hal : Ext w2 (w2.alloc (.cells #[.slice Ar 4 cr, .slice Al 4 cl] 22)) := Ext.alloc _ _
      have HROW := hid hrow
      have HAL := hid (Ext.trans HX3.out hal)
      have HT4 := hid (HT3.out.later hal)
      have hlen := feL_len (dirF kf back) (l := x.take 4) (r := x.drop 4) (by have := HXL.out; simp; omega) (by have := HXL.out; simp; omega) 16
      have hfl : ([(feL (dirF kf back) (x.take 4) (x.drop 4) 16).2, (feL (dirF kf back) (x.take 4) (x.drop 4) 16).1] : List (List UInt8)).flatten = (feL (dirF kf back) (x.take 4) (x.drop 4) 16).2 ++ (feL (dirF kf back) (x.take 4) (x.drop 4) 16).1 := by simp
      have hfll : ((feL (dirF kf back) (x.take 4) (x.drop 4) 16).2 ++ (feL (dirF kf back) (x.take 4) (x.drop 4) 16).1).length = 8 := by rw [List.length_append, hlen.1, hlen.2]
      have HFL := hid hfl
      have HFLL := hid hfll
      clear hrow hal hl3 hr3 hx3 ht3 HX HL HRR HT HX3 HT3 hlen hfl hfll
      go_wp2_with fail
      refine (concatB_any _ 0 2 2 _ _ rfl HROW.out (by rw [HFL.out, HFLL.out]; omega) (by rw [HFL.out, HFLL.out]; omega) (by omega)).mono ?_
      rw [HFL.out]
      rintro e w5 ⟨v5, rfl, ho5, hx5⟩
      obtain ⟨A5, c5, rfl, _, hr5, _⟩ := ho5.rdc HFLL.out
      have HX5 := hid (Ext.trans HAL.out hx5)
      have HT5 := hid (HT4.out.later hx5)
      have HR5 := hid hr5
      clear ho5 hr5 hx5 HAL HT4 HROW HFL HFLL
      go_wp2_with fail
      refine (perm_rd _ _ 8 64 _ _ _ _ 8 _ HR5.out HT5.out ipU_ok (by omega)).mono ?_
      rintro e w6 ⟨A6, c6, rfl, hc6, hr6, hx6⟩
      have HH := hid (And.intro hr6 (Ext.trans HX5.out hx6))
      clear hr6 hx6
      go_wp2_with fail
      (try simp only [Exit.jump])
      go_ret
      refine ⟨A6, c6, rfl, hc6, ?_, HH.out.2⟩
      unfold turnL
      rw [HXX.out]
      exact HH.out.1
  · intro hfirst
    go_wp2_with fail
    refine (first_any _).mono ?_
    rintro e w1 ⟨A1, c1, rfl, ht1, hx1⟩
    have HX1 := hid hx1
    have HT1 := hid ht1
    have HR1 := hid (HR.out.later hx1)
    clear hx1 ht1
    go_wp2_with fail
    refine (perm_rd _ _ 8 64 _ _ _ _ 8 _ HR1.out HT1.out ip_ok (by omega)).mono ?_
    rintro e w2 ⟨A2, c2, rfl, hc2, hr2, hx2⟩
    rw [HXX.out] at hr2
    have HX2 := hid (Ext.trans HX1.out hx2)
    have HT2 := hid (HT1.out.later hx2)
    obtain ⟨b2, o2, rfl, hb2, _⟩ := hr2.at_ (by omega)
    have HL2 := hid (hr2.part 0 4 (by omega))
    have HR2 := hid (hr2.part 4 4 (by omega))
    clear hx2 hr2 HR1 HT1 HX1
    go_wp2_with fail
    go_quiet (fail)
    go_wp2_with fail
    go_step3
    simp only [Exit.then]
    rename_i hK
    refine hK _ _ ?_
    refine hfirst.out _ _ ⟨A1, c1, b2, o2, c2, 0, some ⟨b2, o2, none⟩, some ⟨b2, o2 + 4, none⟩, c2, c2 - 4, _, _, _, _, _, _, _, _, _, _, _, _, _, _, _, _, _, _, _, _, _, _, _, _, _, _, _, _, _, _, _, _, _, _, _, _, _, _, _, _, _, _, _, _, _, _, _, _, _, _, _, _, _, _, _, _, _, _, _, _, _, _, rfl, by omega, below_drewN' HX2.out nq, ?_, ?_, ?_, (HK.out.later HX2.out).later (below_drewN' (Ext.refl _) nq), (HB.out.later HX2.out).later (below_drewN' (Ext.refl _) nq)⟩
    · have h1 := (HL2.out.later (below_drewN' (Ext.refl _) nq))
      simp only [feL]
      simpa using h1
    · have h1 := (HR2.out.later (below_drewN' (Ext.refl _) nq))
      simp only [feL]
      rw [List.take_of_length_le (by have := HXL.out; simp; omega)] at h1
      exact h1
    · exact HT2.out.later (below_drewN' (Ext.refl _) nq)
end Go.Proofs.YthfcndaccfpnmaaDoor
