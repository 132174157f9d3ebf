/- The law on the three side by side, walked; own text of the verifier. -/
import Derived.Test.YtgkfohgeelfceaaDoorY6
namespace Go.Proofs.YtgkfohgeelfceaaDoor
open Go.RowKit
def ap7 (k : Nat) (t : T3) (kb : List UInt8) (len0 : Nat) : List K := [.row 3 tagsV, .eq (.int .i64 k), .ptr (.int .i64 t.code), .eq (.int .i64 t.code), .eq (.int .i64 k), .eq (.int .i64 t.size), .byt len0 (kb), .bycm t.size (byL t.size kb), .gen (NewP t (byL t.size kb)) (NewP.keep _ _), .gen (NewP t (byL t.size kb)) (NewP.keep _ _), .gen (PtrP t (byL t.size kb)) (PtrP.keep _ _), .eq (.int .i64 0), .gen (PtrP t (byL t.size kb)) (PtrP.keep _ _), .eq (.int .i64 0)]
def ap8 (k : Nat) (t : T3) (kb : List UInt8) (len0 : Nat) : List K := [.row 3 tagsV, .eq (.int .i64 k), .ptr (.int .i64 t.code), .eq (.int .i64 t.code), .eq (.int .i64 k), .eq (.int .i64 t.size), .byt len0 (kb), .bycm t.size (byL t.size kb), .gen (RefP t (byL t.size kb)) (RefP.keep _ _), .gen (RefP t (byL t.size kb)) (RefP.keep _ _), .gen (RefQ t (byL t.size kb)) (RefQ.keep _ _), .eq (.int .i64 0), .gen (RefQ t (byL t.size kb)) (RefQ.keep _ _), .eq (.int .i64 0)]
/-- A block of three strings. -/
def S3 (w : World) (G : Nat) (L : Nat → ByteArray) : Prop := w.heap[G]? = some (.cells #[.string (L 0), .string (L 1), .string (L 2)] 48 (0, 0))
theorem S3.lt {w : World} {G : Nat} {L : Nat → ByteArray} (h : S3 w G L) : G < w.heap.size := (Array.getElem?_eq_some_iff.1 h).1
theorem S3.later {w w' : World} {G : Nat} {L : Nat → ByteArray} (h : S3 w G L) (hx : Ext w w') : S3 w' G L := (hx.block G h.lt).trans h
def putL (L : Nat → ByteArray) (k : Nat) (s : ByteArray) (m : Nat) : ByteArray := if m = k then s else L m
theorem S3.set_ {w : World} {G : Nat} {L : Nat → ByteArray} (h : S3 w G L) (k : Nat) (hk : k < 3) (s : ByteArray) : S3 (w.setCell ⟨G, k, none⟩ (.string s)) G (putL L k s) := by
  have := heap_setCell_same w G k _ 48 (.string s) h
  unfold S3
  rw [this]
  match k, hk with
  | 0, _ => rfl
  | 1, _ => rfl
  | 2, _ => rfl
set_option maxRecDepth 100000 in
set_option maxHeartbeats 4000000 in
theorem apart_walk (a0 : Option Addr) (len0 cap0 : Nat) (z0 : List Int) (a1 : Option Addr) (len1 cap1 : Nat) (z1 : List Int) (w : World) (w0 : IsRow .u8 w a0 len0 cap0 z0) (w1 : IsRow .u8 w a1 len1 cap1 z1) (hG : GRows w) :
    Calls Tryd.prog 8 #[.slice a0 len0 cap0, .slice a1 len1 cap1] w fun e w' => e = .returned (.bool true) ∧ Below w.heap.size w w' := by
  obtain ⟨kb, hrk, hm0, _⟩ := w0.rdc
  obtain ⟨pb, hrp, hm1, _⟩ := w1.rdc
  unfold maxLen at hm0 hm1
  have HG := hid hG
  have HK0 := hid hrk
  have HM0 := hid hm0
  have HM1 := hid hm1
  have HP0 := hid hrp
  clear hG hrk hrp hm0 hm1 w0 w1
  go_enter Tryd.func8, Tryd.ntmps8
  go_wp2_with fail
  refine (known_any _ HG.out).mono ?_
  rintro e w1 ⟨rfl, hx1⟩
  have hs := heap_alloc_new w1 (.cells #[.string (str []), .string (str []), .string (str [])] 48)
  have hx := Ext.trans hx1 (Ext.alloc w1 (.cells #[.string (str []), .string (str []), .string (str [])] 48))
  have hz := Below.size hx1
  obtain ⟨G, hGe⟩ : ∃ G, w1.heap.size = G := ⟨_, rfl⟩
  have HS := hid (show S3 (w1.alloc (.cells #[.string (str []), .string (str []), .string (str [])] 48)) w1.heap.size (fun _ => str []) from hs)
  have HX := hid hx
  rw [hGe] at HS hz
  have HGE := hid hGe
  clear hs hx hx1 hGe
  go_wp2_with fail
  rw [HGE.out]
  go_loopw [6] (fun i wr => ∃ (k : Nat) (L : Nat → ByteArray), k ≤ 3 ∧ i = .int .i64 k ∧ S3 wr G L ∧ (∀ m, m < k → (L m).size = 8) ∧ Ext w wr) (fun i _ => 3 - (intOf i).toNat)
  case atStart => exact ⟨0, _, by omega, rfl, HS.out, fun m hm => absurd hm (by omega), HX.out⟩
  case round =>
    clear HX HS
    obtain ⟨k, L, hk, rfl, hs3, hall, hx⟩ := hrel
    have HX := hid hx
    have HS := hid hs3
    have HALL := hid hall
    have HRK := hid (HK0.out.later hx)
    clear hx hs3 hall
    by_cases hlt : k < 3
    · skip
      have HK3 := hid hlt
      obtain ⟨t, ht⟩ : ∃ t, T3.at k = t := ⟨_, rfl⟩
      have HTG := hid (show tagsV.getD k undef = .int .i64 t.code by rw [← ht]; exact tagsV_get k hlt)
      have HSZ := hid (fun w => (ht ▸ size_any k w hlt : Calls Tryd.prog 16 #[.int .i64 k] w fun e w' => e = .returned (.int .i64 t.size) ∧ Ext w w'))
      clear ht
      have hk3 : (k : Int) < 3 := by omega
      go_wp2_with fail
      refine region_inv mixed rfl (by kernel_rfl) (kV (ap7 k t kb len0)) (kV_keep _) (forall_ops ⟨?_, ?_, ?_, ?_, ?_, ?_, ?_, ?_, ?_, ?_, ?_, ?_, ?_, ?_, trivial⟩) ?_
      · intro a w hk
        exact step_call rfl rfl (by simp only [List.map_toArray, List.map_nil]) cf15 (tags_any w) (fun e w1 h => h)
      · intro a w hk
        have s6 : a.tmps.getD 6 undef = .int .i64 k := hk.was 6 (by kernel_rfl) rfl
        exact step_move rfl rfl s6 rfl
      · intro a w hk
        obtain ⟨b22, s22, h22, g22⟩ := hk.val 0 22 (by kernel_rfl) rfl
        have s23 := hk.eq_ 1 23 (by kernel_rfl) rfl
        refine step_val (v := .pointer (some ⟨b22, k, none⟩)) (w' := w) rfl ?_ (Ext.refl w) ⟨_, rfl, h22, (g22 k HK3.out).trans (by rw [HTG.out])⟩
        have hk3 : (k : Int) < 3 := by have := HK3.out; omega
        go_simp
      · intro a w hk
        obtain ⟨p24, s24, h24, g24⟩ := hk.val 2 24 (by kernel_rfl) rfl
        refine step_val (v := .int .i64 t.code) (w' := w) rfl ?_ (Ext.refl w) rfl
        go_simp
      · intro a w hk
        have s6 : a.tmps.getD 6 undef = .int .i64 k := hk.was 6 (by kernel_rfl) rfl
        exact step_move rfl rfl s6 rfl
      · intro a w hk
        have s26 := hk.eq_ 4 26 (by kernel_rfl) rfl
        exact step_call rfl rfl (by simp only [List.map_toArray, List.map_cons, List.map_nil, Act.eval, s26] <;> rfl) cf16 (HSZ.out w) (fun e w1 h => by obtain ⟨rfl, hx⟩ := h; exact ⟨_, rfl, hx, rfl⟩)
      · intro a w hk
        have s0 : a.tmps.getD 0 undef = .slice a0 len0 cap0 := hk.was 0 (by kernel_rfl) rfl
        have r0 := (HRK.out).later hk.ext
        exact step_move rfl rfl s0 ⟨_, _, rfl, r0⟩
      · intro a w hk
        have s27 := hk.eq_ 5 27 (by kernel_rfl) rfl
        obtain ⟨A28, c28, s28, r28⟩ := hk.byt_ 6 28 (by kernel_rfl) rfl
        exact step_call rfl rfl (by simp only [List.map_toArray, List.map_cons, List.map_nil, Act.eval, s27, s28] <;> rfl) cf13 (by_any _ t.size _ _ kb w r28 (by have := size_le t; omega) HM0.out) (fun e w1 h => retByc (byL_len _ _) e w1 h)
      · intro a w hk
        have s25 := hk.eq_ 3 25 (by kernel_rfl) rfl
        obtain ⟨A29, c29, s29, k29, m29, r29⟩ := hk.val 7 29 (by kernel_rfl) rfl
        exact step_call rfl rfl (by simp only [List.map_toArray, List.map_cons, List.map_nil, Act.eval, s25, s29] <;> rfl) cf14 (new_any t A29 c29 (byL t.size kb) w r29 k29 m29) (fun e w1 h => retNew e w1 h)
      · intro a w hk
        obtain ⟨p30, s30, g30⟩ := hk.val 8 30 (by kernel_rfl) rfl
        exact step_move rfl rfl s30 ⟨p30, rfl, g30⟩
      · intro a w hk
        obtain ⟨p21, s21, g21⟩ := hk.val 9 21 (by kernel_rfl) rfl
        exact step_extract rfl rfl s21 rfl ⟨p21, rfl, g21⟩
      · intro a w hk
        obtain ⟨p21, s21, g21⟩ := hk.val 9 21 (by kernel_rfl) rfl
        exact step_extract rfl rfl s21 rfl rfl
      · intro a w hk
        obtain ⟨p31, s31, g31⟩ := hk.val 10 31 (by kernel_rfl) rfl
        exact step_assign rfl rfl s31 ⟨p31, rfl, g31⟩
      · intro a w hk
        have s32 := hk.eq_ 11 32 (by kernel_rfl) rfl
        exact step_assign rfl rfl s32 rfl
      · intro a w5 hf
        obtain ⟨b22, s22, h22, g22⟩ := hf.val 0 22 (by kernel_rfl) rfl
        have s23 := hf.eq_ 1 23 (by kernel_rfl) rfl
        have s25 := hf.eq_ 3 25 (by kernel_rfl) rfl
        have s26 := hf.eq_ 4 26 (by kernel_rfl) rfl
        have s27 := hf.eq_ 5 27 (by kernel_rfl) rfl
        obtain ⟨A28, c28, s28, r28⟩ := hf.val 6 28 (by kernel_rfl) rfl
        obtain ⟨A29, c29, s29, k29, m29, r29⟩ := hf.val 7 29 (by kernel_rfl) rfl
        obtain ⟨p30, s30, g30⟩ := hf.val 8 30 (by kernel_rfl) rfl
        obtain ⟨p21, s21, g21⟩ := hf.val 9 21 (by kernel_rfl) rfl
        obtain ⟨p31, s31, g31⟩ := hf.val 10 31 (by kernel_rfl) rfl
        have s32 := hf.eq_ 11 32 (by kernel_rfl) rfl
        obtain ⟨p7, s7, g7⟩ := hf.val 12 7 (by kernel_rfl) rfl
        have s8 := hf.eq_ 13 8 (by kernel_rfl) rfl
        have hx := hf.ext
        have e := hf.frame
        clear hf
        simp only [regFrame, Act.put, List.setIfInBounds_toArray, List.set_cons_zero, List.set_cons_succ, s22, s23, s25, s26, s27, s28, s29, s30, s21, s31, s32, s7, s8] at e
        generalize a.tmps.getD 24 undef = u24 at e
        clear s22 s23 s25 s26 s27 s28 s29 s30 s21 s31 s32 s7 s8
        subst e
        have HX5 := hid (Ext.trans HX.out hx)
        have HS5 := hid (HS.out.later hx)
        have HN5 := hid g7
        have HRK := hid (HRK.out.later hx)
        clear hx g7 g31 g21 g30 r28 r29 k29 m29 HX HS
        go_wp2_with fail
        refine region_inv mixed rfl (by kernel_rfl) (kV (ap8 k t kb len0)) (kV_keep _) (forall_ops ⟨?_, ?_, ?_, ?_, ?_, ?_, ?_, ?_, ?_, ?_, ?_, ?_, ?_, ?_, trivial⟩) ?_
        · intro a w hk
          exact step_call rfl rfl (by simp only [List.map_toArray, List.map_nil]) cf15 (tags_any w) (fun e w1 h => h)
        · intro a w hk
          have s6 : a.tmps.getD 6 undef = .int .i64 k := hk.was 6 (by kernel_rfl) rfl
          exact step_move rfl rfl s6 rfl
        · intro a w hk
          obtain ⟨b34, s34, h34, g34⟩ := hk.val 0 34 (by kernel_rfl) rfl
          have s35 := hk.eq_ 1 35 (by kernel_rfl) rfl
          refine step_val (v := .pointer (some ⟨b34, k, none⟩)) (w' := w) rfl ?_ (Ext.refl w) ⟨_, rfl, h34, (g34 k HK3.out).trans (by rw [HTG.out])⟩
          have hk3 : (k : Int) < 3 := by have := HK3.out; omega
          go_simp
        · intro a w hk
          obtain ⟨p36, s36, h36, g36⟩ := hk.val 2 36 (by kernel_rfl) rfl
          refine step_val (v := .int .i64 t.code) (w' := w) rfl ?_ (Ext.refl w) rfl
          go_simp
        · intro a w hk
          have s6 : a.tmps.getD 6 undef = .int .i64 k := hk.was 6 (by kernel_rfl) rfl
          exact step_move rfl rfl s6 rfl
        · intro a w hk
          have s38 := hk.eq_ 4 38 (by kernel_rfl) rfl
          exact step_call rfl rfl (by simp only [List.map_toArray, List.map_cons, List.map_nil, Act.eval, s38] <;> rfl) cf16 (HSZ.out w) (fun e w1 h => by obtain ⟨rfl, hx⟩ := h; exact ⟨_, rfl, hx, rfl⟩)
        · intro a w hk
          have s0 : a.tmps.getD 0 undef = .slice a0 len0 cap0 := hk.was 0 (by kernel_rfl) rfl
          have r0 := (HRK.out).later hk.ext
          exact step_move rfl rfl s0 ⟨_, _, rfl, r0⟩
        · intro a w hk
          have s39 := hk.eq_ 5 39 (by kernel_rfl) rfl
          obtain ⟨A40, c40, s40, r40⟩ := hk.byt_ 6 40 (by kernel_rfl) rfl
          exact step_call rfl rfl (by simp only [List.map_toArray, List.map_cons, List.map_nil, Act.eval, s39, s40] <;> rfl) cf13 (by_any _ t.size _ _ kb w r40 (by have := size_le t; omega) HM0.out) (fun e w1 h => retByc (byL_len _ _) e w1 h)
        · intro a w hk
          have s37 := hk.eq_ 3 37 (by kernel_rfl) rfl
          obtain ⟨A41, c41, s41, k41, m41, r41⟩ := hk.val 7 41 (by kernel_rfl) rfl
          exact step_call rfl rfl (by simp only [List.map_toArray, List.map_cons, List.map_nil, Act.eval, s37, s41] <;> rfl) cf17 (rnew_any t A41 c41 (byL t.size kb) w r41 k41 m41) (fun e w1 h => retRef e w1 h)
        · intro a w hk
          obtain ⟨p42, s42, g42⟩ := hk.val 8 42 (by kernel_rfl) rfl
          exact step_move rfl rfl s42 ⟨p42, rfl, g42⟩
        · intro a w hk
          obtain ⟨p33, s33, g33⟩ := hk.val 9 33 (by kernel_rfl) rfl
          exact step_extract rfl rfl s33 rfl ⟨p33, rfl, g33⟩
        · intro a w hk
          obtain ⟨p33, s33, g33⟩ := hk.val 9 33 (by kernel_rfl) rfl
          exact step_extract rfl rfl s33 rfl rfl
        · intro a w hk
          obtain ⟨p43, s43, g43⟩ := hk.val 10 43 (by kernel_rfl) rfl
          exact step_assign rfl rfl s43 ⟨p43, rfl, g43⟩
        · intro a w hk
          have s44 := hk.eq_ 11 44 (by kernel_rfl) rfl
          exact step_assign rfl rfl s44 rfl
        · intro a w6 hf
          obtain ⟨b34, s34, h34, g34⟩ := hf.val 0 34 (by kernel_rfl) rfl
          have s35 := hf.eq_ 1 35 (by kernel_rfl) rfl
          have s37 := hf.eq_ 3 37 (by kernel_rfl) rfl
          have s38 := hf.eq_ 4 38 (by kernel_rfl) rfl
          have s39 := hf.eq_ 5 39 (by kernel_rfl) rfl
          obtain ⟨A40, c40, s40, r40⟩ := hf.val 6 40 (by kernel_rfl) rfl
          obtain ⟨A41, c41, s41, k41, m41, r41⟩ := hf.val 7 41 (by kernel_rfl) rfl
          obtain ⟨p42, s42, g42⟩ := hf.val 8 42 (by kernel_rfl) rfl
          obtain ⟨p33, s33, g33⟩ := hf.val 9 33 (by kernel_rfl) rfl
          obtain ⟨p43, s43, g43⟩ := hf.val 10 43 (by kernel_rfl) rfl
          have s44 := hf.eq_ 11 44 (by kernel_rfl) rfl
          obtain ⟨p9, s9, g9⟩ := hf.val 12 9 (by kernel_rfl) rfl
          have s10 := hf.eq_ 13 10 (by kernel_rfl) rfl
          have hx := hf.ext
          have e := hf.frame
          clear hf
          simp only [regFrame, Act.put, List.setIfInBounds_toArray, List.set_cons_zero, List.set_cons_succ, s34, s35, s37, s38, s39, s40, s41, s42, s33, s43, s44, s9, s10] at e
          generalize a.tmps.getD 36 undef = u36 at e
          clear s34 s35 s37 s38 s39 s40 s41 s42 s33 s43 s44 s9 s10
          subst e
          have HX6 := hid (Ext.trans HX5.out hx)
          have HS6 := hid (HS5.out.later hx)
          have HN6 := hid (HN5.out.later hx)
          have HRF6 := hid g9
          clear hx g9 g43 g33 g42 r40 r41 k41 m41 HX5 HS5 HN5
          go_wp2_with fail
          refine (by_any a1 8 len1 cap1 pb _ (HP0.out.later HX6.out) (by omega) HM1.out).mono ?_
          rintro e w7 ⟨v54, rfl, ho, hx⟩
          obtain ⟨A54, c54, rfl, hc54, hm54, hr54⟩ := ho.rdm (n := 8) (byL_len _ _)
          have HX7 := hid (Ext.trans HX6.out hx)
          have HS7 := hid (HS6.out.later hx)
          have HN7 := hid (HN6.out.later hx)
          have HRF7 := hid (HRF6.out.later hx)
          have HR54 := hid hr54
          clear ho hx hr54 HX6 HS6 HN6 HRF6
          go_wp2_with fail
          refine (block_any t (byL t.size kb) false p7 A54 c54 (byL 8 pb) _ HN7.out (HG.out.later HX7.out) HR54.out hc54 hm54).mono ?_
          have hlo := blockL_length t (byL t.size kb) false (byL 8 pb)
          obtain ⟨O, hO⟩ : ∃ O, blockL t (byL t.size kb) false (byL 8 pb) = O := ⟨_, rfl⟩
          rw [hO] at hlo ⊢
          have HO := hid hO
          clear hO
          rintro e w8 ⟨v11, rfl, ho, hx⟩
          have hG7 := HS7.out.lt
          obtain ⟨g11, c11, rfl, hb11, hl11, _, _, _, hr11⟩ := ho.at_ (n := 8) hlo (by omega)
          have HX8 := hid (Ext.trans HX7.out hx)
          have HS8 := hid (HS7.out.later hx)
          have HRF8 := hid (HRF7.out.later hx)
          have HR11 := hid hr11
          clear ho hx hr11 HX7 HS7 HN7 HRF7 HR54
          go_wp2_with fail
          refine (by_any a1 8 len1 cap1 pb _ (HP0.out.later HX8.out) (by omega) HM1.out).mono ?_
          rintro e w9 ⟨v61, rfl, ho, hx⟩
          obtain ⟨A61, c61, rfl, hc61, hm61, hr61⟩ := ho.rdm (n := 8) (byL_len _ _)
          have HX9 := hid (Ext.trans HX8.out hx)
          have HS9 := hid (HS8.out.later hx)
          have HRF9 := hid (HRF8.out.later hx)
          have HR11 := hid (HR11.out.later hx)
          have HR61 := hid hr61
          clear ho hx hr61 HX8 HS8 HRF8
          go_wp2_with fail
          refine (rblock_any t p9 (byL t.size kb) false A61 c61 (byL 8 pb) _ HRF9.out HR61.out hc61 hm61).mono ?_
          rw [HO.out]
          rintro e w10 ⟨v13, rfl, ho, hx⟩
          have hG9 := HS9.out.lt
          have hz10 := Below.size hx
          obtain ⟨g13, c13, rfl, hb13, hl13, _, _, _, hr13⟩ := ho.at_ (n := 8) hlo (by omega)
          have HX10 := hid (Ext.trans HX9.out hx)
          have hs3 := HS9.out.later hx
          have hr11 := HR11.out.later hx
          have hs1 := strq (c := c11) hr11
          have hfz := frozen_of_row w10 G k _ 48 hs3
          have hnew := hs3.set_ k hlt (str O)
          have hcell : w10.cell? ⟨G, k, none⟩ = some (.string (L k)) := by
            rw [cell_of_heap hs3]
            match k, hlt with
            | 0, _ => rfl
            | 1, _ => rfl
            | 2, _ => rfl
          have hsz : (w10.setCell ⟨G, k, none⟩ (.string (str O))).heap.size = w10.heap.size := by simp
          have hl11' : g11 < w10.heap.size := by
            obtain ⟨b', o', e', hb', _⟩ := hr11.at_ (by omega)
            obtain ⟨rfl, _, _⟩ := Addr.mk.inj (Option.some.inj e')
            exact hb'
          have hkp := (Keeps.refl G w10).set k (.string (str O))
          have hs2 := strq (c := c11) (hr11.keeps hkp (by omega) (by omega))
          have hs4 := strq (c := c13) (hr13.keeps hkp (by omega) (by omega))
          have hbw : Ext w (w10.setCell ⟨G, k, none⟩ (.string (str O))) := Below.setCell (show Below w.heap.size w w10 from HX10.out) hz _
          have hall2 : ∀ m, m < k + 1 → (putL L k (str O) m).size = 8 := fun m hm => by
            unfold putL
            by_cases hmk : m = k
            · rw [if_pos hmk]; exact (strSize O).trans hlo
            · rw [if_neg hmk]; exact HALL.out m (by omega)
          have HH := hid (And.intro hnew (And.intro hall2 hbw))
          clear hnew hall2 hbw hs3 hr11 hr13 hx ho hkp HX9 HX10 HS9 HRF9 HR11 HR61 HALL hb11 hb13 hl11 hl13 hG7 hG9 hsz hl11'
          go_wp2_with fail
          go_roundw
          case rel => exact ⟨k + 1, _, by omega, by go_num, HH.out.1, HH.out.2.1, HH.out.2.2⟩
          case measure => simp [intOf]; omega
    · obtain rfl : k = 3 := by omega
      have hs3 := HS.out
      have h0 := HALL.out 0 (by omega)
      have h1 := HALL.out 1 (by omega)
      have h2 := HALL.out 2 (by omega)
      obtain ⟨x, hxe⟩ : ∃ x, L 0 = x := ⟨_, rfl⟩
      obtain ⟨y, hye⟩ : ∃ x, L 1 = x := ⟨_, rfl⟩
      obtain ⟨u, hue⟩ : ∃ x, L 2 = x := ⟨_, rfl⟩
      unfold S3 at hs3
      rw [hxe, hye, hue] at hs3
      rw [hxe] at h0
      rw [hye] at h1
      rw [hue] at h2
      have c0 : wr.cell? ⟨G, 0, none⟩ = some (.string x) := by rw [cell_of_heap hs3]; rfl
      have c1 : wr.cell? ⟨G, 1, none⟩ = some (.string y) := by rw [cell_of_heap hs3]; rfl
      have c2 : wr.cell? ⟨G, 2, none⟩ = some (.string u) := by rw [cell_of_heap hs3]; rfl
      have hz1 : (x ++ y).size = 16 := by rw [ByteArray.size_append]; omega
      have hz2 : (x ++ y ++ u).size = 24 := by rw [ByteArray.size_append]; omega
      clear hs3 hxe hye hue HS HALL
      go_wp2_with fail
      go_ret
      exact ⟨rfl, HX.out⟩
end Go.Proofs.YtgkfohgeelfceaaDoor
