/- The law on blocks, walked; own text of the verifier. -/
import Derived.Test.YtgkfohgeelfceaaDoorY6
namespace Go.Proofs.YtgkfohgeelfceaaDoor
open Go.RowKit
/-- Three blocks in a row. -/
def Row3 (ls : List (List UInt8)) (w : World) (v : Value) : Prop := ∃ b, v = .slice (some ⟨b, 0, none⟩) 3 3 ∧ ∀ k, k < 3 → ∃ A c, w.cell? ⟨b, k, none⟩ = some (.slice A 8 c) ∧ 8 ≤ c ∧ c ≤ 9223372036854775807 ∧ Rd w w.heap.size A 8 (ls.getD k [])
theorem Row3.keep (ls : List (List UInt8)) : ∀ w w' v, Ext w w' → Row3 ls w v → Row3 ls w' v := fun _ _ _ hx ⟨b, h1, h2⟩ => ⟨b, h1, fun k hk => by
  obtain ⟨A, c, h3, h4, h5, h6⟩ := h2 k hk
  exact ⟨A, c, cell_at hx h3, h4, h5, h6.later hx⟩⟩
theorem row3_lit (w : World) (A B C : Option Addr) (a b c : Nat) (xs ys zs : List UInt8) (h1 : Rd w w.heap.size A 8 xs) (h2 : Rd w w.heap.size B 8 ys) (h3 : Rd w w.heap.size C 8 zs)
    (k1 : 8 ≤ a) (k2 : 8 ≤ b) (k3 : 8 ≤ c) (m1 : a ≤ 9223372036854775807) (m2 : b ≤ 9223372036854775807) (m3 : c ≤ 9223372036854775807) :
    Row3 [xs, ys, zs] (w.alloc (.cells #[.slice A 8 a, .slice B 8 b, .slice C 8 c] 22)) (.slice (some ⟨w.heap.size, 0, none⟩) 3 3) := by
  have hx := Ext.alloc w (.cells #[.slice A 8 a, .slice B 8 b, .slice C 8 c] 22)
  have hp := heap_alloc_new w (.cells #[.slice A 8 a, .slice B 8 b, .slice C 8 c] 22)
  refine ⟨w.heap.size, rfl, fun k hk => ?_⟩
  match k, hk with
  | 0, _ => exact ⟨A, a, by rw [cell_of_heap hp]; rfl, k1, m1, h1.later hx⟩
  | 1, _ => exact ⟨B, b, by rw [cell_of_heap hp]; rfl, k2, m2, h2.later hx⟩
  | 2, _ => exact ⟨C, c, by rw [cell_of_heap hp]; rfl, k3, m3, h3.later hx⟩
theorem build25_3 (A B C : Option Addr) (a b c : Nat) (w : World) : (Instr.buildSlice 25 3 #[(0, .slice A 8 a), (1, .slice B 8 b), (2, .slice C 8 c)]).run Tryd.prog w = .ok (.slice (some ⟨w.heap.size, 0, none⟩) 3 3) (w.alloc (.cells #[.slice A 8 a, .slice B 8 b, .slice C 8 c] 22)) := by go_simp
def bl3 (pb qb : List UInt8) (len1 len2 : Nat) : List K := [.byt len1 (pb), .bycm 8 (byL 8 pb), .byt len2 (qb), .bycm 8 (byL 8 qb), .bycm 8 z8, .gen (Row3 [byL 8 pb, byL 8 qb, z8]) (Row3.keep _), .gen (Row3 [byL 8 pb, byL 8 qb, z8]) (Row3.keep _)]
def bl7 (k : Nat) (t : T3) (kb : List UInt8) (len0 : Nat) : List K := [.row 3 tagsV, .eq (.int .i64 k), .ptr (.int .i64 t.code), .eq (.int .i64 t.code), .eq (.int .i64 k), .eq (.int .i64 t.size), .byt len0 (kb), .bycm t.size (byL t.size kb), .gen (NewP t (byL t.size kb)) (NewP.keep _ _), .gen (NewP t (byL t.size kb)) (NewP.keep _ _), .gen (PtrP t (byL t.size kb)) (PtrP.keep _ _), .eq (.int .i64 0), .gen (PtrP t (byL t.size kb)) (PtrP.keep _ _), .eq (.int .i64 0)]
def bl8 (k : Nat) (t : T3) (kb : List UInt8) (len0 : Nat) : List K := [.row 3 tagsV, .eq (.int .i64 k), .ptr (.int .i64 t.code), .eq (.int .i64 t.code), .eq (.int .i64 k), .eq (.int .i64 t.size), .byt len0 (kb), .bycm t.size (byL t.size kb), .gen (RefP t (byL t.size kb)) (RefP.keep _ _), .gen (RefP t (byL t.size kb)) (RefP.keep _ _), .gen (RefQ t (byL t.size kb)) (RefQ.keep _ _), .eq (.int .i64 0), .gen (RefQ t (byL t.size kb)) (RefQ.keep _ _), .eq (.int .i64 0)]
set_option maxRecDepth 100000 in
set_option maxHeartbeats 4000000 in
theorem blocks_walk (a0 : Option Addr) (len0 cap0 : Nat) (z0 : List Int) (a1 : Option Addr) (len1 cap1 : Nat) (z1 : List Int) (a2 : Option Addr) (len2 cap2 : Nat) (z2 : List Int) (w : World) (w0 : IsRow .u8 w a0 len0 cap0 z0) (w1 : IsRow .u8 w a1 len1 cap1 z1) (w2 : IsRow .u8 w a2 len2 cap2 z2) (hG : GRows w) :
    Calls Tryd.prog 3 #[.slice a0 len0 cap0, .slice a1 len1 cap1, .slice a2 len2 cap2] w fun e w' => e = .returned (.bool true) ∧ Below w.heap.size w w' := by
  obtain ⟨kb, hrk, hm0, _⟩ := w0.rdc
  obtain ⟨pb, hrp, hm1, _⟩ := w1.rdc
  obtain ⟨qb, hrq, hm2, _⟩ := w2.rdc
  unfold maxLen at hm0 hm1 hm2
  have HG := hid hG
  have HK0 := hid hrk
  have HM0 := hid hm0
  have HM1 := hid hm1
  have HM2 := hid hm2
  have HP0 := hid hrp
  have HQ0 := hid hrq
  clear hG hrk hrp hrq hm0 hm1 hm2 w0 w1 w2
  go_enter Tryd.func3, Tryd.ntmps3
  go_wp2_with fail
  refine (known_any _ HG.out).mono ?_
  rintro e w1 ⟨rfl, hx1⟩
  have HX1 := hid hx1
  have HRP := hid (HP0.out.later hx1)
  have HRQ := hid (HQ0.out.later hx1)
  clear hx1 HP0 HQ0
  go_wp2_with fail
  refine region_inv mixed rfl (by kernel_rfl) (kV (bl3 pb qb len1 len2)) (kV_keep _) (forall_ops ⟨?_, ?_, ?_, ?_, ?_, ?_, ?_, trivial⟩) ?_
  · intro a w hk
    have s1 : a.tmps.getD 1 undef = .slice a1 len1 cap1 := hk.was 1 (by kernel_rfl) rfl
    have r1 := (HRP.out).later hk.ext
    exact step_move rfl rfl s1 ⟨_, _, rfl, r1⟩
  · intro a w hk
    obtain ⟨A20, c20, s20, r20⟩ := hk.byt_ 0 20 (by kernel_rfl) rfl
    exact step_call rfl rfl (by simp only [List.map_toArray, List.map_cons, List.map_nil, Act.eval, s20] <;> rfl) cf13 (by_any A20 8 len1 c20 pb w r20 (by omega) HM1.out) (fun e w1 h => retByc (byL_len _ _) e w1 h)
  · intro a w hk
    have s2 : a.tmps.getD 2 undef = .slice a2 len2 cap2 := hk.was 2 (by kernel_rfl) rfl
    have r2 := (HRQ.out).later hk.ext
    exact step_move rfl rfl s2 ⟨_, _, rfl, r2⟩
  · intro a w hk
    obtain ⟨A22, c22, s22, r22⟩ := hk.byt_ 2 22 (by kernel_rfl) rfl
    exact step_call rfl rfl (by simp only [List.map_toArray, List.map_cons, List.map_nil, Act.eval, s22] <;> rfl) cf13 (by_any A22 8 len2 c22 qb w r22 (by omega) HM2.out) (fun e w1 h => retByc (byL_len _ _) e w1 h)
  · intro a w hk
    refine step_val (v := .slice (some ⟨w.heap.size, 0, none⟩) 8 8) (w' := w.alloc (.cells (madeCells #[Value.int .u8 0] 8) 5)) rfl ?_ (Ext.alloc _ _) (made_bycm 8 w (by omega))
    simp only [execOp, Act.eval]
    rw [Sem.run_bind, made8_run w]
    rfl
  · intro a w hk
    obtain ⟨A21, c21, s21, k21, m21, r21⟩ := hk.val 1 21 (by kernel_rfl) rfl
    obtain ⟨A23, c23, s23, k23, m23, r23⟩ := hk.val 3 23 (by kernel_rfl) rfl
    obtain ⟨A24, c24, s24, k24, m24, r24⟩ := hk.val 4 24 (by kernel_rfl) rfl
    refine step_val (v := .slice (some ⟨w.heap.size, 0, none⟩) 3 3) (w' := w.alloc (.cells #[.slice A21 8 c21, .slice A23 8 c23, .slice A24 8 c24] 22)) rfl ?_ (Ext.alloc _ _) (row3_lit w A21 A23 A24 c21 c23 c24 _ _ _ r21 r23 r24 k21 k23 k24 m21 m23 m24)
    have e := build25_3 A21 A23 A24 c21 c23 c24 w
    simp only [execOp, Act.eval, List.map_toArray, List.map_cons, List.map_nil, s21, s23, s24, Sem.run_bind, e, Sem.run_pure, Result.andThen]
  · intro a w hk
    obtain ⟨b25, s25, g25⟩ := hk.val 5 25 (by kernel_rfl) rfl
    exact step_assign rfl rfl s25 ⟨_, rfl, g25⟩
  · intro a w3 hf
    obtain ⟨A20, c20, s20, r20⟩ := hf.val 0 20 (by kernel_rfl) rfl
    obtain ⟨A21, c21, s21, k21, m21, r21⟩ := hf.val 1 21 (by kernel_rfl) rfl
    obtain ⟨A22, c22, s22, r22⟩ := hf.val 2 22 (by kernel_rfl) rfl
    obtain ⟨A23, c23, s23, k23, m23, r23⟩ := hf.val 3 23 (by kernel_rfl) rfl
    obtain ⟨A24, c24, s24, k24, m24, r24⟩ := hf.val 4 24 (by kernel_rfl) rfl
    obtain ⟨b25, s25, g25⟩ := hf.val 5 25 (by kernel_rfl) rfl
    obtain ⟨b7, s7, g7⟩ := hf.val 6 7 (by kernel_rfl) rfl
    have hx := hf.ext
    have e := hf.frame
    clear hf
    simp only [regFrame, Act.put, List.setIfInBounds_toArray, List.set_cons_zero, List.set_cons_succ, s20, s21, s22, s23, s24, s25, s7] at e
    clear s20 s21 s22 s23 s24 s25 s7
    subst e
    have HX3 := hid (Ext.trans HX1.out hx)
    have HROW := hid (show Row3 [byL 8 pb, byL 8 qb, z8] w3 (.slice (some ⟨b7, 0, none⟩) 3 3) from ⟨b7, rfl, g7⟩)
    clear hx g7 g25 k21 k23 k24 m21 m23 m24 r21 r23 r24 r20 r22 HX1 HRP HRQ
    go_wp2_with fail
    go_loopw [8] (fun i wr => ∃ k : Nat, k ≤ 3 ∧ i = .int .i64 k ∧ Ext w wr ∧ Ext w3 wr) (fun i _ => 3 - (intOf i).toNat)
    case atStart => exact ⟨0, by omega, rfl, HX3.out, Ext.refl _⟩
    case round =>
      clear HX3
      obtain ⟨k, hk, rfl, hx, hx3⟩ := hrel
      have HX := hid hx
      have HX3 := hid hx3
      have HRK := hid (HK0.out.later hx)
      clear hx hx3
      by_cases hlt : k < 3
      · skip
        have HK3 := hid hlt
        obtain ⟨t, ht⟩ : ∃ t, T3.at k = t := ⟨_, rfl⟩
        have HTG := hid (show tagsV.getD k undef = .int .i64 t.code by rw [← ht]; exact tagsV_get k hlt)
        have HSZ := hid (fun w => (ht ▸ size_any k w hlt : Calls Tryd.prog 16 #[.int .i64 k] w fun e w' => e = .returned (.int .i64 t.size) ∧ Ext w w'))
        clear ht
        have hk3 : (k : Int) < 3 := by omega
        have hk3b := decide_eq_true hk3
        go_wp2_with fail
        (try simp only [hk3b])
        refine region_inv mixed rfl (by kernel_rfl) (kV (bl7 k t kb len0)) (kV_keep _) (forall_ops ⟨?_, ?_, ?_, ?_, ?_, ?_, ?_, ?_, ?_, ?_, ?_, ?_, ?_, ?_, trivial⟩) ?_
        · intro a w hk
          exact step_call rfl rfl (by simp only [List.map_toArray, List.map_nil]) cf15 (tags_any w) (fun e w1 h => h)
        · intro a w hk
          have s8 : a.tmps.getD 8 undef = .int .i64 k := hk.was 8 (by kernel_rfl) rfl
          exact step_move rfl rfl s8 rfl
        · intro a w hk
          obtain ⟨b31, s31, h31, g31⟩ := hk.val 0 31 (by kernel_rfl) rfl
          have s32 := hk.eq_ 1 32 (by kernel_rfl) rfl
          refine step_val (v := .pointer (some ⟨b31, k, none⟩)) (w' := w) rfl ?_ (Ext.refl w) ⟨_, rfl, h31, (g31 k HK3.out).trans (by rw [HTG.out])⟩
          have hk3 : (k : Int) < 3 := by have := HK3.out; omega
          go_simp
        · intro a w hk
          obtain ⟨p33, s33, h33, g33⟩ := hk.val 2 33 (by kernel_rfl) rfl
          refine step_val (v := .int .i64 t.code) (w' := w) rfl ?_ (Ext.refl w) rfl
          go_simp
        · intro a w hk
          have s8 : a.tmps.getD 8 undef = .int .i64 k := hk.was 8 (by kernel_rfl) rfl
          exact step_move rfl rfl s8 rfl
        · intro a w hk
          have s35 := hk.eq_ 4 35 (by kernel_rfl) rfl
          exact step_call rfl rfl (by simp only [List.map_toArray, List.map_cons, List.map_nil, Act.eval, s35] <;> rfl) cf16 (HSZ.out w) (fun e w1 h => by obtain ⟨rfl, hx⟩ := h; exact ⟨_, rfl, hx, rfl⟩)
        · intro a w hk
          have s0 : a.tmps.getD 0 undef = .slice a0 len0 cap0 := hk.was 0 (by kernel_rfl) rfl
          have r0 := (HRK.out).later hk.ext
          exact step_move rfl rfl s0 ⟨_, _, rfl, r0⟩
        · intro a w hk
          have s36 := hk.eq_ 5 36 (by kernel_rfl) rfl
          obtain ⟨A37, c37, s37, r37⟩ := hk.byt_ 6 37 (by kernel_rfl) rfl
          exact step_call rfl rfl (by simp only [List.map_toArray, List.map_cons, List.map_nil, Act.eval, s36, s37] <;> rfl) cf13 (by_any _ t.size _ _ kb w r37 (by have := size_le t; omega) HM0.out) (fun e w1 h => retByc (byL_len _ _) e w1 h)
        · intro a w hk
          have s34 := hk.eq_ 3 34 (by kernel_rfl) rfl
          obtain ⟨A38, c38, s38, k38, m38, r38⟩ := hk.val 7 38 (by kernel_rfl) rfl
          exact step_call rfl rfl (by simp only [List.map_toArray, List.map_cons, List.map_nil, Act.eval, s34, s38] <;> rfl) cf14 (new_any t A38 c38 (byL t.size kb) w r38 k38 m38) (fun e w1 h => retNew e w1 h)
        · intro a w hk
          obtain ⟨p39, s39, g39⟩ := hk.val 8 39 (by kernel_rfl) rfl
          exact step_move rfl rfl s39 ⟨p39, rfl, g39⟩
        · intro a w hk
          obtain ⟨p30, s30, g30⟩ := hk.val 9 30 (by kernel_rfl) rfl
          exact step_extract rfl rfl s30 rfl ⟨p30, rfl, g30⟩
        · intro a w hk
          obtain ⟨p30, s30, g30⟩ := hk.val 9 30 (by kernel_rfl) rfl
          exact step_extract rfl rfl s30 rfl rfl
        · intro a w hk
          obtain ⟨p40, s40, g40⟩ := hk.val 10 40 (by kernel_rfl) rfl
          exact step_assign rfl rfl s40 ⟨p40, rfl, g40⟩
        · intro a w hk
          have s41 := hk.eq_ 11 41 (by kernel_rfl) rfl
          exact step_assign rfl rfl s41 rfl
        · intro a w5 hf
          obtain ⟨b31, s31, h31, g31⟩ := hf.val 0 31 (by kernel_rfl) rfl
          have s32 := hf.eq_ 1 32 (by kernel_rfl) rfl
          have s34 := hf.eq_ 3 34 (by kernel_rfl) rfl
          have s35 := hf.eq_ 4 35 (by kernel_rfl) rfl
          have s36 := hf.eq_ 5 36 (by kernel_rfl) rfl
          obtain ⟨A37, c37, s37, r37⟩ := hf.val 6 37 (by kernel_rfl) rfl
          obtain ⟨A38, c38, s38, k38, m38, r38⟩ := hf.val 7 38 (by kernel_rfl) rfl
          obtain ⟨p39, s39, g39⟩ := hf.val 8 39 (by kernel_rfl) rfl
          obtain ⟨p30, s30, g30⟩ := hf.val 9 30 (by kernel_rfl) rfl
          obtain ⟨p40, s40, g40⟩ := hf.val 10 40 (by kernel_rfl) rfl
          have s41 := hf.eq_ 11 41 (by kernel_rfl) rfl
          obtain ⟨p9, s9, g9⟩ := hf.val 12 9 (by kernel_rfl) rfl
          have s10 := hf.eq_ 13 10 (by kernel_rfl) rfl
          have hx := hf.ext
          have e := hf.frame
          clear hf
          simp only [regFrame, Act.put, List.setIfInBounds_toArray, List.set_cons_zero, List.set_cons_succ, s31, s32, s34, s35, s36, s37, s38, s39, s30, s40, s41, s9, s10] at e
          generalize a.tmps.getD 33 undef = u33 at e
          clear s31 s32 s34 s35 s36 s37 s38 s39 s30 s40 s41 s9 s10
          subst e
          have HX5 := hid (Ext.trans HX.out hx)
          have HX35 := hid (Ext.trans HX3.out hx)
          have HS5 := hid g9
          have HRK := hid (HRK.out.later hx)
          clear hx g9 g40 g30 g39 r37 r38 k38 m38 HX HX3
          go_wp2_with fail
          refine region_inv mixed rfl (by kernel_rfl) (kV (bl8 k t kb len0)) (kV_keep _) (forall_ops ⟨?_, ?_, ?_, ?_, ?_, ?_, ?_, ?_, ?_, ?_, ?_, ?_, ?_, ?_, trivial⟩) ?_
          · intro a w hk
            exact step_call rfl rfl (by simp only [List.map_toArray, List.map_nil]) cf15 (tags_any w) (fun e w1 h => h)
          · intro a w hk
            have s8 : a.tmps.getD 8 undef = .int .i64 k := hk.was 8 (by kernel_rfl) rfl
            exact step_move rfl rfl s8 rfl
          · intro a w hk
            obtain ⟨b43, s43, h43, g43⟩ := hk.val 0 43 (by kernel_rfl) rfl
            have s44 := hk.eq_ 1 44 (by kernel_rfl) rfl
            refine step_val (v := .pointer (some ⟨b43, k, none⟩)) (w' := w) rfl ?_ (Ext.refl w) ⟨_, rfl, h43, (g43 k HK3.out).trans (by rw [HTG.out])⟩
            have hk3 : (k : Int) < 3 := by have := HK3.out; omega
            go_simp
          · intro a w hk
            obtain ⟨p45, s45, h45, g45⟩ := hk.val 2 45 (by kernel_rfl) rfl
            refine step_val (v := .int .i64 t.code) (w' := w) rfl ?_ (Ext.refl w) rfl
            go_simp
          · intro a w hk
            have s8 : a.tmps.getD 8 undef = .int .i64 k := hk.was 8 (by kernel_rfl) rfl
            exact step_move rfl rfl s8 rfl
          · intro a w hk
            have s47 := hk.eq_ 4 47 (by kernel_rfl) rfl
            exact step_call rfl rfl (by simp only [List.map_toArray, List.map_cons, List.map_nil, Act.eval, s47] <;> rfl) cf16 (HSZ.out w) (fun e w1 h => by obtain ⟨rfl, hx⟩ := h; exact ⟨_, rfl, hx, rfl⟩)
          · intro a w hk
            have s0 : a.tmps.getD 0 undef = .slice a0 len0 cap0 := hk.was 0 (by kernel_rfl) rfl
            have r0 := (HRK.out).later hk.ext
            exact step_move rfl rfl s0 ⟨_, _, rfl, r0⟩
          · intro a w hk
            have s48 := hk.eq_ 5 48 (by kernel_rfl) rfl
            obtain ⟨A49, c49, s49, r49⟩ := hk.byt_ 6 49 (by kernel_rfl) rfl
            exact step_call rfl rfl (by simp only [List.map_toArray, List.map_cons, List.map_nil, Act.eval, s48, s49] <;> rfl) cf13 (by_any _ t.size _ _ kb w r49 (by have := size_le t; omega) HM0.out) (fun e w1 h => retByc (byL_len _ _) e w1 h)
          · intro a w hk
            have s46 := hk.eq_ 3 46 (by kernel_rfl) rfl
            obtain ⟨A50, c50, s50, k50, m50, r50⟩ := hk.val 7 50 (by kernel_rfl) rfl
            exact step_call rfl rfl (by simp only [List.map_toArray, List.map_cons, List.map_nil, Act.eval, s46, s50] <;> rfl) cf17 (rnew_any t A50 c50 (byL t.size kb) w r50 k50 m50) (fun e w1 h => retRef e w1 h)
          · intro a w hk
            obtain ⟨p51, s51, g51⟩ := hk.val 8 51 (by kernel_rfl) rfl
            exact step_move rfl rfl s51 ⟨p51, rfl, g51⟩
          · intro a w hk
            obtain ⟨p42, s42, g42⟩ := hk.val 9 42 (by kernel_rfl) rfl
            exact step_extract rfl rfl s42 rfl ⟨p42, rfl, g42⟩
          · intro a w hk
            obtain ⟨p42, s42, g42⟩ := hk.val 9 42 (by kernel_rfl) rfl
            exact step_extract rfl rfl s42 rfl rfl
          · intro a w hk
            obtain ⟨p52, s52, g52⟩ := hk.val 10 52 (by kernel_rfl) rfl
            exact step_assign rfl rfl s52 ⟨p52, rfl, g52⟩
          · intro a w hk
            have s53 := hk.eq_ 11 53 (by kernel_rfl) rfl
            exact step_assign rfl rfl s53 rfl
          · intro a w6 hf
            obtain ⟨b43, s43, h43, g43⟩ := hf.val 0 43 (by kernel_rfl) rfl
            have s44 := hf.eq_ 1 44 (by kernel_rfl) rfl
            have s46 := hf.eq_ 3 46 (by kernel_rfl) rfl
            have s47 := hf.eq_ 4 47 (by kernel_rfl) rfl
            have s48 := hf.eq_ 5 48 (by kernel_rfl) rfl
            obtain ⟨A49, c49, s49, r49⟩ := hf.val 6 49 (by kernel_rfl) rfl
            obtain ⟨A50, c50, s50, k50, m50, r50⟩ := hf.val 7 50 (by kernel_rfl) rfl
            obtain ⟨p51, s51, g51⟩ := hf.val 8 51 (by kernel_rfl) rfl
            obtain ⟨p42, s42, g42⟩ := hf.val 9 42 (by kernel_rfl) rfl
            obtain ⟨p52, s52, g52⟩ := hf.val 10 52 (by kernel_rfl) rfl
            have s53 := hf.eq_ 11 53 (by kernel_rfl) rfl
            obtain ⟨p11, s11, g11⟩ := hf.val 12 11 (by kernel_rfl) rfl
            have s12 := hf.eq_ 13 12 (by kernel_rfl) rfl
            have hx := hf.ext
            have e := hf.frame
            clear hf
            simp only [regFrame, Act.put, List.setIfInBounds_toArray, List.set_cons_zero, List.set_cons_succ, s43, s44, s46, s47, s48, s49, s50, s51, s42, s52, s53, s11, s12] at e
            generalize a.tmps.getD 45 undef = u45 at e
            clear s43 s44 s46 s47 s48 s49 s50 s51 s42 s52 s53 s11 s12
            subst e
            have HX6 := hid (Ext.trans HX5.out hx)
            have HX36 := hid (Ext.trans HX35.out hx)
            have HS6 := hid (HS5.out.later hx)
            have HRF6 := hid g11
            clear hx g11 g52 g42 g51 r49 r50 k50 m50 HX5 HX35 HS5
            go_wp2_with fail
            go_loopw [13] (fun i wr => ∃ j : Nat, j ≤ 6 ∧ i = .int .i64 j ∧ Ext w6 wr) (fun i _ => 6 - (intOf i).toNat)
            case atStart => exact ⟨0, by omega, rfl, Ext.refl _⟩
            case round =>
              obtain ⟨j, hj, rfl, hx⟩ := hrel
              by_cases hlt6 : j < 6
              · obtain ⟨q, hq⟩ : ∃ q, j / 2 = q := ⟨_, rfl⟩
                have hq3 : q < 3 := by omega
                obtain ⟨bb7, e7, hrow⟩ := Row3.keep _ _ _ _ (Ext.trans HX36.out hx) HROW.out
                obtain rfl : b7 = bb7 := by simp only [Value.slice.injEq, Option.some.injEq, Addr.mk.injEq, and_true] at e7; exact e7
                obtain ⟨Al, cl, hcell, hcl1, hcl2, hrl⟩ := hrow q hq3
                obtain ⟨L, hL⟩ : ∃ L, ([byL 8 pb, byL 8 qb, z8] : List (List UInt8)).getD q [] = L := ⟨_, rfl⟩
                rw [hL] at hrl
                have d1 : (j : Int) / 2 = (q : Int) := by omega
                have d2 : (j : Int).tdiv 2 = (q : Int) := by rw [Int.tdiv_eq_ediv_of_nonneg (by omega)]; exact d1
                have HS6 := hid (HS6.out.later hx)
                have HRF := hid (HRF6.out.later hx)
                have HX := hid (Ext.trans HX6.out hx)
                have HX36 := hid (Ext.trans HX36.out hx)
                have HRL := hid hrl
                have HW := hid hx
                clear hx e7 hrow hrl hL hq
                by_cases hodd : j % 2 = 1
                · have m1 : (j : Int) % 2 = 1 := by omega
                  have m2 : (j : Int).tmod 2 = 1 := by rw [Int.tmod_eq_emod_of_nonneg (by omega)]; exact m1
                  go_wp2_with fail
                  refine (block_any t (byL t.size kb) true p9 Al cl L _ HS6.out (HG.out.later HX.out) HRL.out hcl1 hcl2).mono ?_
                  rintro e w7 ⟨v14, rfl, ho, hx7⟩
                  have hlo := blockL_length t (byL t.size kb) true L
                  obtain ⟨O, hO⟩ : ∃ O, blockL t (byL t.size kb) true L = O := ⟨_, rfl⟩
                  rw [hO] at ho hlo
                  have HO := hid hO
                  obtain ⟨A14, c14, rfl, _, _, hr14⟩ := ho.rdm (n := 8) hlo
                  have HW7 := hid hx7
                  have HX7 := hid (Ext.trans HX.out hx7)
                  have HR14 := hid hr14
                  have HRF7 := hid (HRF.out.later hx7)
                  have HRL7 := hid (HRL.out.later hx7)
                  have hcell7 := cell_at hx7 hcell
                  clear ho hx7 hr14 hO HS6 HRF HRL HX hcell
                  go_wp2_with fail
                  refine (rblock_any t p11 (byL t.size kb) true Al cl L _ HRF7.out HRL7.out hcl1 hcl2).mono ?_
                  rw [HO.out]
                  rintro e w8 ⟨v16, rfl, ho, hx8⟩
                  obtain ⟨A16, c16, rfl, _, _, hr16⟩ := ho.rdm (n := 8) hlo
                  have HX8 := hid (Ext.trans HX7.out hx8)
                  have hs1 := strq (c := c14) (HR14.out.later hx8)
                  have hs2 := strq (c := c16) hr16
                  have HX8 := hid (Ext.trans HW.out (Ext.trans HW7.out hx8))
                  clear ho hx8 hr16 HX7 HR14
                  go_wp2_with fail
                  go_roundw
                  case rel => exact ⟨j + 1, by omega, by go_num, HX8.out⟩
                  case measure => simp [intOf]; omega
                · have m1 : (j : Int) % 2 = 0 := by omega
                  have m2 : (j : Int).tmod 2 = 0 := by rw [Int.tmod_eq_emod_of_nonneg (by omega)]; exact m1
                  go_wp2_with fail
                  refine (block_any t (byL t.size kb) false p9 Al cl L _ HS6.out (HG.out.later HX.out) HRL.out hcl1 hcl2).mono ?_
                  rintro e w7 ⟨v14, rfl, ho, hx7⟩
                  have hlo := blockL_length t (byL t.size kb) false L
                  obtain ⟨O, hO⟩ : ∃ O, blockL t (byL t.size kb) false L = O := ⟨_, rfl⟩
                  rw [hO] at ho hlo
                  have HO := hid hO
                  obtain ⟨A14, c14, rfl, _, _, hr14⟩ := ho.rdm (n := 8) hlo
                  have HW7 := hid hx7
                  have HX7 := hid (Ext.trans HX.out hx7)
                  have HR14 := hid hr14
                  have HRF7 := hid (HRF.out.later hx7)
                  have HRL7 := hid (HRL.out.later hx7)
                  have hcell7 := cell_at hx7 hcell
                  clear ho hx7 hr14 hO HS6 HRF HRL HX hcell
                  go_wp2_with fail
                  refine (rblock_any t p11 (byL t.size kb) false Al cl L _ HRF7.out HRL7.out hcl1 hcl2).mono ?_
                  rw [HO.out]
                  rintro e w8 ⟨v16, rfl, ho, hx8⟩
                  obtain ⟨A16, c16, rfl, _, _, hr16⟩ := ho.rdm (n := 8) hlo
                  have HX8 := hid (Ext.trans HX7.out hx8)
                  have hs1 := strq (c := c14) (HR14.out.later hx8)
                  have hs2 := strq (c := c16) hr16
                  have HX8 := hid (Ext.trans HW.out (Ext.trans HW7.out hx8))
                  clear ho hx8 hr16 HX7 HR14
                  go_wp2_with fail
                  go_roundw
                  case rel => exact ⟨j + 1, by omega, by go_num, HX8.out⟩
                  case measure => simp [intOf]; omega
              · go_wp2_with fail
                go_roundw
                case rel => exact ⟨k + 1, by omega, by go_num, Ext.trans HX6.out hx, Ext.trans HX36.out hx⟩
                case measure => simp [intOf]; omega
      · go_wp2_with fail
        go_ret
        exact ⟨rfl, HX.out⟩
end Go.Proofs.YtgkfohgeelfceaaDoor
