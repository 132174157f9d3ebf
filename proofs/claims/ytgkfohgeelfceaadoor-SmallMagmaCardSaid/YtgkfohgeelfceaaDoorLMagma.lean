/- The law on Magma, walked; own text of the verifier. -/
import Derived.Test.YtgkfohgeelfceaaDoorX15
namespace Go.Proofs.YtgkfohgeelfceaaDoor
open Go.RowKit
def mg7 (P : List UInt8) : List K := [.byc 8 (P), .byt 4 (part P 0), .eq (.int .u64 ((inW .m P).a.toNat : Nat)), .eq (.int .u32 ((inW .m P).a.toNat : Nat)), .byc 8 (P), .byt 4 (part P 1), .eq (.int .u64 ((inW .m P).b.toNat : Nat)), .eq (.int .u32 ((inW .m P).b.toNat : Nat)), .eq (.int .u32 ((inW .m P).a.toNat : Nat)), .eq (.int .u32 ((inW .m P).b.toNat : Nat))]
def mg19 (cc aa : UInt32) : List K := [.byt 8 ((put .m cc ++ put .m aa)), .eq (.string (str ((put .m cc ++ put .m aa)))), .eq (.int .u32 (cc.toNat : Nat)), .byt 4 (put .m cc), .eq (.string (str (put .m cc))), .eq (.int .u32 (aa.toNat : Nat)), .byt 4 (put .m aa), .eq (.string (str (put .m aa))), .eq (.string (str (put .m cc ++ put .m aa))), .eq (.bool true), .eq (.bool true)]
set_option maxRecDepth 100000 in
set_option maxHeartbeats 4000000 in
theorem magma_false (a0 : Option Addr) (len0 cap0 : Nat) (kb : List UInt8) (a1 : Option Addr) (len1 cap1 : Nat) (pb : List UInt8) (w : World) (hrk : Rd w w.heap.size a0 len0 kb) (hm0 : len0 ≤ 9223372036854775807) (hrp : Rd w w.heap.size a1 len1 pb) (hm1 : len1 ≤ 9223372036854775807) (hG : GRows w) :
    Calls Tryd.prog 9 #[.slice a0 len0 cap0, .slice a1 len1 cap1, .bool false] w fun e w' => e = .returned (.bool true) ∧ Below w.heap.size w w' := by
  have HG := hid hG
  have HRK := hid hrk
  have HRP := hid hrp
  have HM0 := hid hm0
  have HM1 := hid hm1
  clear hG hrk hrp hm0 hm1
  go_enter Tryd.func9, Tryd.ntmps9
  go_wp2_with fail
  refine (known_any _ HG.out).mono ?_
  rintro e w1 ⟨rfl, hx1⟩
  have HX1 := hid hx1
  clear hx1
  go_wp2_with fail
  refine (by_any a0 32 len0 cap0 kb _ (HRK.out.later HX1.out) (by omega) HM0.out).mono ?_
  rintro e w2 ⟨v7, rfl, ho, hx⟩
  obtain ⟨g7, c7, rfl, _, _, hc7, hm7, _, hr7⟩ := ho.at_ (n := 32) (byL_len _ _) (by omega)
  have HX2 := hid (Ext.trans HX1.out hx)
  have HR7 := hid hr7
  clear ho hx hr7 HX1 HRK
  go_wp2_with fail
  refine (by_any a1 8 len1 cap1 pb _ (HRP.out.later HX2.out) (by omega) HM1.out).mono ?_
  rintro e w3 ⟨v8, rfl, ho, hx⟩
  obtain ⟨g8, c8, rfl, _, _, hc8, hm8, _, hr8⟩ := ho.at_ (n := 8) (byL_len _ _) (by omega)
  have HX3 := hid (Ext.trans HX2.out hx)
  have HR7 := hid (HR7.out.later hx)
  have HR8 := hid hr8
  clear ho hx hr8 HX2 HRP
  have HP8 := hid (byL_len 8 pb)
  obtain ⟨P, hP⟩ : ∃ P, byL 8 pb = P := ⟨_, rfl⟩
  obtain ⟨key, hkey⟩ : ∃ key, byL 32 kb = key := ⟨_, rfl⟩
  rw [hP] at HP8 HR8
  rw [hkey] at HR7
  clear hP hkey
  go_wp2_with fail
  refine (new_any .m (some ⟨g7, 0, none⟩) c7 key _ HR7.out hc7 hm7).mono ?_
  rintro e w4 ⟨p9, rfl, hs, hx⟩
  have HX4 := hid (Ext.trans HX3.out hx)
  have HS4 := hid hs
  have HR7 := hid (HR7.out.later hx)
  have HR8 := hid (HR8.out.later hx)
  have HC8 := hid hc8
  have HC7 := hid hc7
  clear hx hs HX3
  go_wp2_with fail
  refine region_inv mixed rfl (by kernel_rfl) (kV (mg7 P)) (kV_keep _) (forall_ops ⟨?_, ?_, ?_, ?_, ?_, ?_, ?_, ?_, ?_, ?_, trivial⟩) ?_
  · intro a w hk
    have s8 : a.tmps.getD 8 undef = .slice (some ⟨g8, 0, none⟩) 8 c8 := hk.was 8 (by kernel_rfl) rfl
    have k8 := HC8.out
    have r8 := (HR8.out).later hk.ext
    exact step_move rfl rfl s8 ⟨_, _, rfl, k8, r8⟩
  · intro a w hk
    obtain ⟨A31, c31, s31, k31, r31⟩ := hk.val 0 31 (by kernel_rfl) rfl
    exact step_slice_hi (l := 4) rfl rfl s31 rfl elem22 size22 (by omega) k31 r31 (fun _ h => h)
  · intro a w hk
    obtain ⟨A32, c32, s32, r32⟩ := hk.byt_ 1 32 (by kernel_rfl) rfl
    exact step_call rfl rfl (by simp only [List.map_toArray, List.map_cons, List.map_nil, Act.eval, s32] <;> rfl) cf23 (big_wd .m (by decide) A32 c32 w.heap.size (part P 0) w r32) (fun e w1 h => retE e w1 h)
  · intro a w hk
    have s33 := hk.eq_ 2 33 (by kernel_rfl) rfl
    refine step_val (v := .int .u32 ((inW .m P).a.toNat : Nat)) (w' := w) rfl ?_ (Ext.refl w) rfl
    have hb := wrap_w (inW .m P).a
    go_simp
  · intro a w hk
    have s8 : a.tmps.getD 8 undef = .slice (some ⟨g8, 0, none⟩) 8 c8 := hk.was 8 (by kernel_rfl) rfl
    have k8 := HC8.out
    have r8 := (HR8.out).later hk.ext
    exact step_move rfl rfl s8 ⟨_, _, rfl, k8, r8⟩
  · intro a w hk
    obtain ⟨A35, c35, s35, k35, r35⟩ := hk.val 4 35 (by kernel_rfl) rfl
    exact step_slice_lo (l := 4) rfl rfl s35 rfl elem22 size22 (by omega) k35 r35 (fun v h => show K.holds (.byt 4 (part P 1)) _ v by rw [part_one P HP8.out]; exact h)
  · intro a w hk
    obtain ⟨A36, c36, s36, r36⟩ := hk.byt_ 5 36 (by kernel_rfl) rfl
    exact step_call rfl rfl (by simp only [List.map_toArray, List.map_cons, List.map_nil, Act.eval, s36] <;> rfl) cf23 (big_wd .m (by decide) A36 c36 w.heap.size (part P 1) w r36) (fun e w1 h => retE e w1 h)
  · intro a w hk
    have s37 := hk.eq_ 6 37 (by kernel_rfl) rfl
    refine step_val (v := .int .u32 ((inW .m P).b.toNat : Nat)) (w' := w) rfl ?_ (Ext.refl w) rfl
    have hb := wrap_w (inW .m P).b
    go_simp
  · intro a w hk
    have s34 := hk.eq_ 3 34 (by kernel_rfl) rfl
    exact step_assign rfl rfl s34 rfl
  · intro a w hk
    have s38 := hk.eq_ 7 38 (by kernel_rfl) rfl
    exact step_assign rfl rfl s38 rfl
  · intro a w5 hf
    obtain ⟨A31, c31, s31, k31, r31⟩ := hf.val 0 31 (by kernel_rfl) rfl
    obtain ⟨A32, c32, s32, r32⟩ := hf.val 1 32 (by kernel_rfl) rfl
    have s33 := hf.eq_ 2 33 (by kernel_rfl) rfl
    have s34 := hf.eq_ 3 34 (by kernel_rfl) rfl
    obtain ⟨A35, c35, s35, k35, r35⟩ := hf.val 4 35 (by kernel_rfl) rfl
    obtain ⟨A36, c36, s36, r36⟩ := hf.val 5 36 (by kernel_rfl) rfl
    have s37 := hf.eq_ 6 37 (by kernel_rfl) rfl
    have s38 := hf.eq_ 7 38 (by kernel_rfl) rfl
    have s11 := hf.eq_ 8 11 (by kernel_rfl) rfl
    have s12 := hf.eq_ 9 12 (by kernel_rfl) rfl
    have hx := hf.ext
    have e := hf.frame
    clear hf
    simp only [regFrame, Act.put, List.setIfInBounds_toArray, List.set_cons_zero, List.set_cons_succ, s31, s32, s33, s34, s35, s36, s37, s38, s11, s12] at e
    clear s31 s32 s33 s34 s35 s36 s37 s38 s11 s12
    subst e
    have HX5 := hid (Ext.trans HX4.out hx)
    have HS5 := hid (HS4.out.later hx)
    have HRK := hid (HR7.out.later hx)
    have HR8 := hid (HR8.out.later hx)
    clear hx HX4 HS4 HR7 r32 r36 k31 k35 r31 r35
    go_wp2_with fail
    go_loop [11, 12, 13] (fun a c i => ∃ j : Nat, j ≤ 32 ∧ i = .int .i64 j ∧ a = .int .u32 ((mgAt (kw .m key) false (inW .m P) j).a.toNat : Nat) ∧ c = .int .u32 ((mgAt (kw .m key) false (inW .m P) j).b.toNat : Nat)) (fun _ _ i => 32 - (intOf i).toNat)
    case atStart => exact ⟨0, by omega, rfl, rfl, rfl⟩
    case round =>
      obtain ⟨j, hj, rfl, rfl, rfl⟩ := hrel
      by_cases hlt : j < 32
      · obtain ⟨z, hz⟩ : ∃ z, mgAt (kw .m key) false (inW .m P) j = z := ⟨_, rfl⟩
        rw [hz]
        by_cases h24 : 24 ≤ j
        · skip
          obtain ⟨m, hm⟩ : ∃ m : Nat, j = m := ⟨_, rfl⟩
          have hmi : (m : Int) = (j : Int) := by omega
          obtain ⟨q, hq⟩ : ∃ q : Nat, 7 - m % 8 = q := ⟨_, rfl⟩
          have hq8 : q < 8 := by omega
          have hmq : mAt false j = q := by
            unfold mAt
            simp only [Bool.false_eq_true, if_false]
            rw [hm, if_neg (by omega)]; omega
          have hk : kw .m key q = wd .m (part key q) := rfl
          have hrp := rd_part (m := q) HRK.out (by omega)
          rw [Nat.zero_add] at hrp
          have hst : mgAt (kw .m key) false (inW .m P) (j + 1) = ⟨z.b, z.a ^^^ gW z.b (kw .m key q)⟩ := by rw [mgAt, hz, hmq]
          obtain ⟨kq, hkq⟩ : ∃ kq, kw .m key q = kq := ⟨_, rfl⟩
          have hbg := fun c => big_wd .m (by decide) (some ⟨g7, 4 * q, none⟩) c w5.heap.size (part key q) w5 hrp
          rw [hkq] at hst hk
          rw [← hk] at hbg
          have HBG := hid hbg
          have HST := hid hst
          have hwr := wrap_w kq
          have hmod : (m : Int) % 8 = (m % 8 : Nat) := by omega
          have h24 : 24 ≤ (m : Int) := by omega
          have hkl := wlt kq
          clear hst hbg hrp hk hkq hmq
          go_wp2_with fail
          refine (HBG.out _).mono ?_
          rintro e w' ⟨rfl, rfl⟩
          go_wp2_with fail
          refine (g_any z.b kq _ (HG.out.later HX5.out)).mono ?_
          rintro e w' ⟨rfl, rfl⟩
          go_wp2_with fail
          go_round
          case rel => exact ⟨j + 1, by omega, by go_num, by rw [HST.out], by rw [HST.out]; show Value.int _ _ = Value.int _ _; rw [w_xor]⟩
          case measure => simp [intOf]; omega
        · skip
          obtain ⟨m, hm⟩ : ∃ m : Nat, j = m := ⟨_, rfl⟩
          have hmi : (m : Int) = (j : Int) := by omega
          obtain ⟨q, hq⟩ : ∃ q : Nat, m % 8 = q := ⟨_, rfl⟩
          have hq8 : q < 8 := by omega
          have hmq : mAt false j = q := by
            unfold mAt
            simp only [Bool.false_eq_true, if_false]
            rw [hm, if_pos (by omega)]; exact hq
          have hk : kw .m key q = wd .m (part key q) := rfl
          have hrp := rd_part (m := q) HRK.out (by omega)
          rw [Nat.zero_add] at hrp
          have hst : mgAt (kw .m key) false (inW .m P) (j + 1) = ⟨z.b, z.a ^^^ gW z.b (kw .m key q)⟩ := by rw [mgAt, hz, hmq]
          obtain ⟨kq, hkq⟩ : ∃ kq, kw .m key q = kq := ⟨_, rfl⟩
          have hbg := fun c => big_wd .m (by decide) (some ⟨g7, 4 * q, none⟩) c w5.heap.size (part key q) w5 hrp
          rw [hkq] at hst hk
          rw [← hk] at hbg
          have HBG := hid hbg
          have HST := hid hst
          have hwr := wrap_w kq
          have hmod : (m : Int) % 8 = (m % 8 : Nat) := by omega
          have h24 : (m : Int) < 24 := by omega
          have hkl := wlt kq
          clear hst hbg hrp hk hkq hmq
          go_wp2_with fail
          refine (HBG.out _).mono ?_
          rintro e w' ⟨rfl, rfl⟩
          go_wp2_with fail
          refine (g_any z.b kq _ (HG.out.later HX5.out)).mono ?_
          rintro e w' ⟨rfl, rfl⟩
          go_wp2_with fail
          go_round
          case rel => exact ⟨j + 1, by omega, by go_num, by rw [HST.out], by rw [HST.out]; show Value.int _ _ = Value.int _ _; rw [w_xor]⟩
          case measure => simp [intOf]; omega
      · obtain rfl : j = 32 := by omega
        obtain ⟨z, hz⟩ : ∃ z, mgAt (kw .m key) false (inW .m P) 32 = z := ⟨_, rfl⟩
        have hblk : blockL .m key false P = put .m z.b ++ put .m z.a := by unfold blockL; rw [turn_m, hz]; rfl
        obtain ⟨cc, hcc⟩ : ∃ cc, z.b = cc := ⟨_, rfl⟩
        obtain ⟨aa, haa⟩ : ∃ aa, z.a = aa := ⟨_, rfl⟩
        rw [hz, hcc, haa]
        rw [hcc, haa] at hblk
        have HBLK := hid hblk
        clear hblk hz hcc haa
        go_wp2_with fail
        refine (block_any .m key false p9 (some ⟨g8, 0, none⟩) c8 P _ HS5.out (HG.out.later HX5.out) HR8.out hc8 hm8).mono ?_
        rw [HBLK.out]
        rintro e w6 ⟨v16, rfl, ho, hx⟩
        obtain ⟨A16, c16, rfl, hc16, hm16, hr16⟩ := ho.rdm (n := 8) (by simp [put_length])
        have HX6 := hid (Ext.trans HX5.out hx)
        have HR16 := hid hr16
        clear ho hx hr16 HX5 HS5
        go_wp2_with fail
        refine region_inv mixed rfl (by kernel_rfl) (kV (mg19 cc aa)) (kV_keep _) (forall_ops ⟨?_, ?_, ?_, ?_, ?_, ?_, ?_, ?_, ?_, ?_, ?_, trivial⟩) ?_
        · intro a w hk
          have s16 : a.tmps.getD 16 undef = .slice A16 8 c16 := hk.was 16 (by kernel_rfl) rfl
          have r16 := (HR16.out).later hk.ext
          exact step_move rfl rfl s16 ⟨_, _, rfl, r16⟩
        · intro a w hk
          obtain ⟨A75, c75, s75, r75⟩ := hk.byt_ 0 75 (by kernel_rfl) rfl
          exact step_conv rfl rfl s75 (strq r75) rfl
        · intro a w hk
          have s12 : a.tmps.getD 12 undef = .int .u32 (cc.toNat : Nat) := hk.was 12 (by kernel_rfl) rfl
          exact step_move rfl rfl s12 rfl
        · intro a w hk
          have s77 := hk.eq_ 2 77 (by kernel_rfl) rfl
          exact step_call rfl rfl (by simp only [List.map_toArray, List.map_cons, List.map_nil, Act.eval, s77] <;> rfl) cf24 (rput_wd .m (by decide) cc w) (fun e w1 h => RetB.k (put_length _ _) e w1 h)
        · intro a w hk
          obtain ⟨A78, c78, s78, r78⟩ := hk.byt_ 3 78 (by kernel_rfl) rfl
          exact step_conv rfl rfl s78 (strq r78) rfl
        · intro a w hk
          have s11 : a.tmps.getD 11 undef = .int .u32 (aa.toNat : Nat) := hk.was 11 (by kernel_rfl) rfl
          exact step_move rfl rfl s11 rfl
        · intro a w hk
          have s80 := hk.eq_ 5 80 (by kernel_rfl) rfl
          exact step_call rfl rfl (by simp only [List.map_toArray, List.map_cons, List.map_nil, Act.eval, s80] <;> rfl) cf24 (rput_wd .m (by decide) aa w) (fun e w1 h => RetB.k (put_length _ _) e w1 h)
        · intro a w hk
          obtain ⟨A81, c81, s81, r81⟩ := hk.byt_ 6 81 (by kernel_rfl) rfl
          exact step_conv rfl rfl s81 (strq r81) rfl
        · intro a w hk
          have s79 := hk.eq_ 4 79 (by kernel_rfl) rfl
          have s82 := hk.eq_ 7 82 (by kernel_rfl) rfl
          refine step_val (v := .string (str (put .m cc ++ put .m aa))) (w' := w) rfl ?_ (Ext.refl w) rfl
          have e1 : (str (put .m cc)).size = 4 := (strSize _).trans (put_length _ _)
          have e2 : (str (put .m aa)).size = 4 := (strSize _).trans (put_length _ _)
          rw [← str_append]
          go_simp
        · intro a w hk
          have s76 := hk.eq_ 1 76 (by kernel_rfl) rfl
          have s83 := hk.eq_ 8 83 (by kernel_rfl) rfl
          refine step_val (v := .bool true) (w' := w) rfl ?_ (Ext.refl w) rfl
          go_simp
        · intro a w hk
          have s84 := hk.eq_ 9 84 (by kernel_rfl) rfl
          exact step_assign rfl rfl s84 rfl
        · intro a w7 hf
          obtain ⟨A75, c75, s75, r75⟩ := hf.val 0 75 (by kernel_rfl) rfl
          have s76 := hf.eq_ 1 76 (by kernel_rfl) rfl
          have s77 := hf.eq_ 2 77 (by kernel_rfl) rfl
          obtain ⟨A78, c78, s78, r78⟩ := hf.val 3 78 (by kernel_rfl) rfl
          have s79 := hf.eq_ 4 79 (by kernel_rfl) rfl
          have s80 := hf.eq_ 5 80 (by kernel_rfl) rfl
          obtain ⟨A81, c81, s81, r81⟩ := hf.val 6 81 (by kernel_rfl) rfl
          have s82 := hf.eq_ 7 82 (by kernel_rfl) rfl
          have s83 := hf.eq_ 8 83 (by kernel_rfl) rfl
          have s84 := hf.eq_ 9 84 (by kernel_rfl) rfl
          have s6 := hf.eq_ 10 6 (by kernel_rfl) rfl
          have hx := hf.ext
          have e := hf.frame
          clear hf
          simp only [regFrame, Act.put, List.setIfInBounds_toArray, List.set_cons_zero, List.set_cons_succ, s75, s76, s77, s78, s79, s80, s81, s82, s83, s84, s6] at e
          clear s75 s76 s77 s78 s79 s80 s81 s82 s83 s84 s6
          subst e
          go_wp2_with fail
          go_ret
          exact ⟨rfl, Ext.trans HX6.out hx⟩
set_option maxRecDepth 100000 in
set_option maxHeartbeats 4000000 in
theorem magma_true (a0 : Option Addr) (len0 cap0 : Nat) (kb : List UInt8) (a1 : Option Addr) (len1 cap1 : Nat) (pb : List UInt8) (w : World) (hrk : Rd w w.heap.size a0 len0 kb) (hm0 : len0 ≤ 9223372036854775807) (hrp : Rd w w.heap.size a1 len1 pb) (hm1 : len1 ≤ 9223372036854775807) (hG : GRows w) :
    Calls Tryd.prog 9 #[.slice a0 len0 cap0, .slice a1 len1 cap1, .bool true] w fun e w' => e = .returned (.bool true) ∧ Below w.heap.size w w' := by
  have HG := hid hG
  have HRK := hid hrk
  have HRP := hid hrp
  have HM0 := hid hm0
  have HM1 := hid hm1
  clear hG hrk hrp hm0 hm1
  go_enter Tryd.func9, Tryd.ntmps9
  go_wp2_with fail
  refine (known_any _ HG.out).mono ?_
  rintro e w1 ⟨rfl, hx1⟩
  have HX1 := hid hx1
  clear hx1
  go_wp2_with fail
  refine (by_any a0 32 len0 cap0 kb _ (HRK.out.later HX1.out) (by omega) HM0.out).mono ?_
  rintro e w2 ⟨v7, rfl, ho, hx⟩
  obtain ⟨g7, c7, rfl, _, _, hc7, hm7, _, hr7⟩ := ho.at_ (n := 32) (byL_len _ _) (by omega)
  have HX2 := hid (Ext.trans HX1.out hx)
  have HR7 := hid hr7
  clear ho hx hr7 HX1 HRK
  go_wp2_with fail
  refine (by_any a1 8 len1 cap1 pb _ (HRP.out.later HX2.out) (by omega) HM1.out).mono ?_
  rintro e w3 ⟨v8, rfl, ho, hx⟩
  obtain ⟨g8, c8, rfl, _, _, hc8, hm8, _, hr8⟩ := ho.at_ (n := 8) (byL_len _ _) (by omega)
  have HX3 := hid (Ext.trans HX2.out hx)
  have HR7 := hid (HR7.out.later hx)
  have HR8 := hid hr8
  clear ho hx hr8 HX2 HRP
  have HP8 := hid (byL_len 8 pb)
  obtain ⟨P, hP⟩ : ∃ P, byL 8 pb = P := ⟨_, rfl⟩
  obtain ⟨key, hkey⟩ : ∃ key, byL 32 kb = key := ⟨_, rfl⟩
  rw [hP] at HP8 HR8
  rw [hkey] at HR7
  clear hP hkey
  go_wp2_with fail
  refine (new_any .m (some ⟨g7, 0, none⟩) c7 key _ HR7.out hc7 hm7).mono ?_
  rintro e w4 ⟨p9, rfl, hs, hx⟩
  have HX4 := hid (Ext.trans HX3.out hx)
  have HS4 := hid hs
  have HR7 := hid (HR7.out.later hx)
  have HR8 := hid (HR8.out.later hx)
  have HC8 := hid hc8
  have HC7 := hid hc7
  clear hx hs HX3
  go_wp2_with fail
  refine region_inv mixed rfl (by kernel_rfl) (kV (mg7 P)) (kV_keep _) (forall_ops ⟨?_, ?_, ?_, ?_, ?_, ?_, ?_, ?_, ?_, ?_, trivial⟩) ?_
  · intro a w hk
    have s8 : a.tmps.getD 8 undef = .slice (some ⟨g8, 0, none⟩) 8 c8 := hk.was 8 (by kernel_rfl) rfl
    have k8 := HC8.out
    have r8 := (HR8.out).later hk.ext
    exact step_move rfl rfl s8 ⟨_, _, rfl, k8, r8⟩
  · intro a w hk
    obtain ⟨A31, c31, s31, k31, r31⟩ := hk.val 0 31 (by kernel_rfl) rfl
    exact step_slice_hi (l := 4) rfl rfl s31 rfl elem22 size22 (by omega) k31 r31 (fun _ h => h)
  · intro a w hk
    obtain ⟨A32, c32, s32, r32⟩ := hk.byt_ 1 32 (by kernel_rfl) rfl
    exact step_call rfl rfl (by simp only [List.map_toArray, List.map_cons, List.map_nil, Act.eval, s32] <;> rfl) cf23 (big_wd .m (by decide) A32 c32 w.heap.size (part P 0) w r32) (fun e w1 h => retE e w1 h)
  · intro a w hk
    have s33 := hk.eq_ 2 33 (by kernel_rfl) rfl
    refine step_val (v := .int .u32 ((inW .m P).a.toNat : Nat)) (w' := w) rfl ?_ (Ext.refl w) rfl
    have hb := wrap_w (inW .m P).a
    go_simp
  · intro a w hk
    have s8 : a.tmps.getD 8 undef = .slice (some ⟨g8, 0, none⟩) 8 c8 := hk.was 8 (by kernel_rfl) rfl
    have k8 := HC8.out
    have r8 := (HR8.out).later hk.ext
    exact step_move rfl rfl s8 ⟨_, _, rfl, k8, r8⟩
  · intro a w hk
    obtain ⟨A35, c35, s35, k35, r35⟩ := hk.val 4 35 (by kernel_rfl) rfl
    exact step_slice_lo (l := 4) rfl rfl s35 rfl elem22 size22 (by omega) k35 r35 (fun v h => show K.holds (.byt 4 (part P 1)) _ v by rw [part_one P HP8.out]; exact h)
  · intro a w hk
    obtain ⟨A36, c36, s36, r36⟩ := hk.byt_ 5 36 (by kernel_rfl) rfl
    exact step_call rfl rfl (by simp only [List.map_toArray, List.map_cons, List.map_nil, Act.eval, s36] <;> rfl) cf23 (big_wd .m (by decide) A36 c36 w.heap.size (part P 1) w r36) (fun e w1 h => retE e w1 h)
  · intro a w hk
    have s37 := hk.eq_ 6 37 (by kernel_rfl) rfl
    refine step_val (v := .int .u32 ((inW .m P).b.toNat : Nat)) (w' := w) rfl ?_ (Ext.refl w) rfl
    have hb := wrap_w (inW .m P).b
    go_simp
  · intro a w hk
    have s34 := hk.eq_ 3 34 (by kernel_rfl) rfl
    exact step_assign rfl rfl s34 rfl
  · intro a w hk
    have s38 := hk.eq_ 7 38 (by kernel_rfl) rfl
    exact step_assign rfl rfl s38 rfl
  · intro a w5 hf
    obtain ⟨A31, c31, s31, k31, r31⟩ := hf.val 0 31 (by kernel_rfl) rfl
    obtain ⟨A32, c32, s32, r32⟩ := hf.val 1 32 (by kernel_rfl) rfl
    have s33 := hf.eq_ 2 33 (by kernel_rfl) rfl
    have s34 := hf.eq_ 3 34 (by kernel_rfl) rfl
    obtain ⟨A35, c35, s35, k35, r35⟩ := hf.val 4 35 (by kernel_rfl) rfl
    obtain ⟨A36, c36, s36, r36⟩ := hf.val 5 36 (by kernel_rfl) rfl
    have s37 := hf.eq_ 6 37 (by kernel_rfl) rfl
    have s38 := hf.eq_ 7 38 (by kernel_rfl) rfl
    have s11 := hf.eq_ 8 11 (by kernel_rfl) rfl
    have s12 := hf.eq_ 9 12 (by kernel_rfl) rfl
    have hx := hf.ext
    have e := hf.frame
    clear hf
    simp only [regFrame, Act.put, List.setIfInBounds_toArray, List.set_cons_zero, List.set_cons_succ, s31, s32, s33, s34, s35, s36, s37, s38, s11, s12] at e
    clear s31 s32 s33 s34 s35 s36 s37 s38 s11 s12
    subst e
    have HX5 := hid (Ext.trans HX4.out hx)
    have HS5 := hid (HS4.out.later hx)
    have HRK := hid (HR7.out.later hx)
    have HR8 := hid (HR8.out.later hx)
    clear hx HX4 HS4 HR7 r32 r36 k31 k35 r31 r35
    go_wp2_with fail
    go_loop [11, 12, 13] (fun a c i => ∃ j : Nat, j ≤ 32 ∧ i = .int .i64 j ∧ a = .int .u32 ((mgAt (kw .m key) true (inW .m P) j).a.toNat : Nat) ∧ c = .int .u32 ((mgAt (kw .m key) true (inW .m P) j).b.toNat : Nat)) (fun _ _ i => 32 - (intOf i).toNat)
    case atStart => exact ⟨0, by omega, rfl, rfl, rfl⟩
    case round =>
      obtain ⟨j, hj, rfl, rfl, rfl⟩ := hrel
      by_cases hlt : j < 32
      · obtain ⟨z, hz⟩ : ∃ z, mgAt (kw .m key) true (inW .m P) j = z := ⟨_, rfl⟩
        rw [hz]
        by_cases h24 : 24 ≤ 31 - j
        · skip
          obtain ⟨m, hm⟩ : ∃ m : Nat, 31 - j = m := ⟨_, rfl⟩
          have hmi : (m : Int) = 31 - (j : Int) := by omega
          obtain ⟨q, hq⟩ : ∃ q : Nat, 7 - m % 8 = q := ⟨_, rfl⟩
          have hq8 : q < 8 := by omega
          have hmq : mAt true j = q := by
            unfold mAt
            simp only [if_true]
            rw [hm, if_neg (by omega)]; omega
          have hk : kw .m key q = wd .m (part key q) := rfl
          have hrp := rd_part (m := q) HRK.out (by omega)
          rw [Nat.zero_add] at hrp
          have hst : mgAt (kw .m key) true (inW .m P) (j + 1) = ⟨z.b, z.a ^^^ gW z.b (kw .m key q)⟩ := by rw [mgAt, hz, hmq]
          obtain ⟨kq, hkq⟩ : ∃ kq, kw .m key q = kq := ⟨_, rfl⟩
          have hbg := fun c => big_wd .m (by decide) (some ⟨g7, 4 * q, none⟩) c w5.heap.size (part key q) w5 hrp
          rw [hkq] at hst hk
          rw [← hk] at hbg
          have HBG := hid hbg
          have HST := hid hst
          have hwr := wrap_w kq
          have hmod : (m : Int) % 8 = (m % 8 : Nat) := by omega
          have h24 : 24 ≤ (m : Int) := by omega
          have hkl := wlt kq
          clear hst hbg hrp hk hkq hmq
          go_wp2_with fail
          refine (HBG.out _).mono ?_
          rintro e w' ⟨rfl, rfl⟩
          go_wp2_with fail
          refine (g_any z.b kq _ (HG.out.later HX5.out)).mono ?_
          rintro e w' ⟨rfl, rfl⟩
          go_wp2_with fail
          go_round
          case rel => exact ⟨j + 1, by omega, by go_num, by rw [HST.out], by rw [HST.out]; show Value.int _ _ = Value.int _ _; rw [w_xor]⟩
          case measure => simp [intOf]; omega
        · skip
          obtain ⟨m, hm⟩ : ∃ m : Nat, 31 - j = m := ⟨_, rfl⟩
          have hmi : (m : Int) = 31 - (j : Int) := by omega
          obtain ⟨q, hq⟩ : ∃ q : Nat, m % 8 = q := ⟨_, rfl⟩
          have hq8 : q < 8 := by omega
          have hmq : mAt true j = q := by
            unfold mAt
            simp only [if_true]
            rw [hm, if_pos (by omega)]; exact hq
          have hk : kw .m key q = wd .m (part key q) := rfl
          have hrp := rd_part (m := q) HRK.out (by omega)
          rw [Nat.zero_add] at hrp
          have hst : mgAt (kw .m key) true (inW .m P) (j + 1) = ⟨z.b, z.a ^^^ gW z.b (kw .m key q)⟩ := by rw [mgAt, hz, hmq]
          obtain ⟨kq, hkq⟩ : ∃ kq, kw .m key q = kq := ⟨_, rfl⟩
          have hbg := fun c => big_wd .m (by decide) (some ⟨g7, 4 * q, none⟩) c w5.heap.size (part key q) w5 hrp
          rw [hkq] at hst hk
          rw [← hk] at hbg
          have HBG := hid hbg
          have HST := hid hst
          have hwr := wrap_w kq
          have hmod : (m : Int) % 8 = (m % 8 : Nat) := by omega
          have h24 : (m : Int) < 24 := by omega
          have hkl := wlt kq
          clear hst hbg hrp hk hkq hmq
          go_wp2_with fail
          refine (HBG.out _).mono ?_
          rintro e w' ⟨rfl, rfl⟩
          go_wp2_with fail
          refine (g_any z.b kq _ (HG.out.later HX5.out)).mono ?_
          rintro e w' ⟨rfl, rfl⟩
          go_wp2_with fail
          go_round
          case rel => exact ⟨j + 1, by omega, by go_num, by rw [HST.out], by rw [HST.out]; show Value.int _ _ = Value.int _ _; rw [w_xor]⟩
          case measure => simp [intOf]; omega
      · obtain rfl : j = 32 := by omega
        obtain ⟨z, hz⟩ : ∃ z, mgAt (kw .m key) true (inW .m P) 32 = z := ⟨_, rfl⟩
        have hblk : blockL .m key true P = put .m z.b ++ put .m z.a := by unfold blockL; rw [turn_m, hz]; rfl
        obtain ⟨cc, hcc⟩ : ∃ cc, z.b = cc := ⟨_, rfl⟩
        obtain ⟨aa, haa⟩ : ∃ aa, z.a = aa := ⟨_, rfl⟩
        rw [hz, hcc, haa]
        rw [hcc, haa] at hblk
        have HBLK := hid hblk
        clear hblk hz hcc haa
        go_wp2_with fail
        refine (block_any .m key true p9 (some ⟨g8, 0, none⟩) c8 P _ HS5.out (HG.out.later HX5.out) HR8.out hc8 hm8).mono ?_
        rw [HBLK.out]
        rintro e w6 ⟨v16, rfl, ho, hx⟩
        obtain ⟨A16, c16, rfl, hc16, hm16, hr16⟩ := ho.rdm (n := 8) (by simp [put_length])
        have HX6 := hid (Ext.trans HX5.out hx)
        have HR16 := hid hr16
        clear ho hx hr16 HX5 HS5
        go_wp2_with fail
        refine region_inv mixed rfl (by kernel_rfl) (kV (mg19 cc aa)) (kV_keep _) (forall_ops ⟨?_, ?_, ?_, ?_, ?_, ?_, ?_, ?_, ?_, ?_, ?_, trivial⟩) ?_
        · intro a w hk
          have s16 : a.tmps.getD 16 undef = .slice A16 8 c16 := hk.was 16 (by kernel_rfl) rfl
          have r16 := (HR16.out).later hk.ext
          exact step_move rfl rfl s16 ⟨_, _, rfl, r16⟩
        · intro a w hk
          obtain ⟨A75, c75, s75, r75⟩ := hk.byt_ 0 75 (by kernel_rfl) rfl
          exact step_conv rfl rfl s75 (strq r75) rfl
        · intro a w hk
          have s12 : a.tmps.getD 12 undef = .int .u32 (cc.toNat : Nat) := hk.was 12 (by kernel_rfl) rfl
          exact step_move rfl rfl s12 rfl
        · intro a w hk
          have s77 := hk.eq_ 2 77 (by kernel_rfl) rfl
          exact step_call rfl rfl (by simp only [List.map_toArray, List.map_cons, List.map_nil, Act.eval, s77] <;> rfl) cf24 (rput_wd .m (by decide) cc w) (fun e w1 h => RetB.k (put_length _ _) e w1 h)
        · intro a w hk
          obtain ⟨A78, c78, s78, r78⟩ := hk.byt_ 3 78 (by kernel_rfl) rfl
          exact step_conv rfl rfl s78 (strq r78) rfl
        · intro a w hk
          have s11 : a.tmps.getD 11 undef = .int .u32 (aa.toNat : Nat) := hk.was 11 (by kernel_rfl) rfl
          exact step_move rfl rfl s11 rfl
        · intro a w hk
          have s80 := hk.eq_ 5 80 (by kernel_rfl) rfl
          exact step_call rfl rfl (by simp only [List.map_toArray, List.map_cons, List.map_nil, Act.eval, s80] <;> rfl) cf24 (rput_wd .m (by decide) aa w) (fun e w1 h => RetB.k (put_length _ _) e w1 h)
        · intro a w hk
          obtain ⟨A81, c81, s81, r81⟩ := hk.byt_ 6 81 (by kernel_rfl) rfl
          exact step_conv rfl rfl s81 (strq r81) rfl
        · intro a w hk
          have s79 := hk.eq_ 4 79 (by kernel_rfl) rfl
          have s82 := hk.eq_ 7 82 (by kernel_rfl) rfl
          refine step_val (v := .string (str (put .m cc ++ put .m aa))) (w' := w) rfl ?_ (Ext.refl w) rfl
          have e1 : (str (put .m cc)).size = 4 := (strSize _).trans (put_length _ _)
          have e2 : (str (put .m aa)).size = 4 := (strSize _).trans (put_length _ _)
          rw [← str_append]
          go_simp
        · intro a w hk
          have s76 := hk.eq_ 1 76 (by kernel_rfl) rfl
          have s83 := hk.eq_ 8 83 (by kernel_rfl) rfl
          refine step_val (v := .bool true) (w' := w) rfl ?_ (Ext.refl w) rfl
          go_simp
        · intro a w hk
          have s84 := hk.eq_ 9 84 (by kernel_rfl) rfl
          exact step_assign rfl rfl s84 rfl
        · intro a w7 hf
          obtain ⟨A75, c75, s75, r75⟩ := hf.val 0 75 (by kernel_rfl) rfl
          have s76 := hf.eq_ 1 76 (by kernel_rfl) rfl
          have s77 := hf.eq_ 2 77 (by kernel_rfl) rfl
          obtain ⟨A78, c78, s78, r78⟩ := hf.val 3 78 (by kernel_rfl) rfl
          have s79 := hf.eq_ 4 79 (by kernel_rfl) rfl
          have s80 := hf.eq_ 5 80 (by kernel_rfl) rfl
          obtain ⟨A81, c81, s81, r81⟩ := hf.val 6 81 (by kernel_rfl) rfl
          have s82 := hf.eq_ 7 82 (by kernel_rfl) rfl
          have s83 := hf.eq_ 8 83 (by kernel_rfl) rfl
          have s84 := hf.eq_ 9 84 (by kernel_rfl) rfl
          have s6 := hf.eq_ 10 6 (by kernel_rfl) rfl
          have hx := hf.ext
          have e := hf.frame
          clear hf
          simp only [regFrame, Act.put, List.setIfInBounds_toArray, List.set_cons_zero, List.set_cons_succ, s75, s76, s77, s78, s79, s80, s81, s82, s83, s84, s6] at e
          clear s75 s76 s77 s78 s79 s80 s81 s82 s83 s84 s6
          subst e
          go_wp2_with fail
          go_ret
          exact ⟨rfl, Ext.trans HX6.out hx⟩
theorem magma_walk (a0 : Option Addr) (len0 cap0 : Nat) (z0 : List Int) (a1 : Option Addr) (len1 cap1 : Nat) (z1 : List Int) (a2 : Bool) (w : World) (w0 : IsRow .u8 w a0 len0 cap0 z0) (w1 : IsRow .u8 w a1 len1 cap1 z1) (hG : GRows w) :
    Calls Tryd.prog 9 #[.slice a0 len0 cap0, .slice a1 len1 cap1, .bool a2] w fun e w' => e = .returned (.bool true) ∧ Below w.heap.size w w' := by
  obtain ⟨kb, hrk, hm1, _⟩ := w0.rdc
  obtain ⟨pb, hrp, hm2, _⟩ := w1.rdc
  unfold maxLen at hm1 hm2
  cases a2
  · exact magma_false a0 len0 cap0 kb a1 len1 cap1 pb w hrk (by omega) hrp (by omega) hG
  · exact magma_true a0 len0 cap0 kb a1 len1 cap1 pb w hrk (by omega) hrp (by omega) hG
end Go.Proofs.YtgkfohgeelfceaaDoor
