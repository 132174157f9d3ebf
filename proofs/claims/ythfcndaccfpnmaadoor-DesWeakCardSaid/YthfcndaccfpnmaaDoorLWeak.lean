/- The law on keys whose halves are of one bit, walked; own text of the verifier. -/
import Derived.Test.YthfcndaccfpnmaaDoorX17
namespace Go.Proofs.YthfcndaccfpnmaaDoor
open Go.RowKit
def weakCH (w : World) : World := (((((w.alloc (.cells #[.int .u8 1, .int .u8 1, .int .u8 1, .int .u8 1, .int .u8 1, .int .u8 1, .int .u8 1, .int .u8 1] 5)).alloc (.cells #[.int .u8 254, .int .u8 254, .int .u8 254, .int .u8 254, .int .u8 254, .int .u8 254, .int .u8 254, .int .u8 254] 5)).alloc (.cells #[.int .u8 31, .int .u8 31, .int .u8 31, .int .u8 31, .int .u8 14, .int .u8 14, .int .u8 14, .int .u8 14] 5)).alloc (.cells #[.int .u8 224, .int .u8 224, .int .u8 224, .int .u8 224, .int .u8 241, .int .u8 241, .int .u8 241, .int .u8 241] 5)).alloc (.cells #[.slice (some ⟨w.heap.size, 0, none⟩) 8 8, .slice (some ⟨w.heap.size + 1, 0, none⟩) 8 8, .slice (some ⟨w.heap.size + 2, 0, none⟩) 8 8, .slice (some ⟨w.heap.size + 3, 0, none⟩) 8 8] 22))
theorem weak_ext (w : World) : Ext w (weakCH w) := by
  unfold weakCH
  exact Ext.trans (Ext.trans (Ext.trans (Ext.trans (Ext.alloc _ _) (Ext.alloc _ _)) (Ext.alloc _ _)) (Ext.alloc _ _)) (Ext.alloc _ _)
theorem weak_cell (w : World) (q : Nat) (hq : q < 4) : (weakCH w).cell? ⟨w.heap.size + 4, q, none⟩ = some (.slice (some ⟨w.heap.size + q, 0, none⟩) 8 8) := by
  have h := heap_alloc_new ((((w.alloc (.cells #[.int .u8 1, .int .u8 1, .int .u8 1, .int .u8 1, .int .u8 1, .int .u8 1, .int .u8 1, .int .u8 1] 5)).alloc (.cells #[.int .u8 254, .int .u8 254, .int .u8 254, .int .u8 254, .int .u8 254, .int .u8 254, .int .u8 254, .int .u8 254] 5)).alloc (.cells #[.int .u8 31, .int .u8 31, .int .u8 31, .int .u8 31, .int .u8 14, .int .u8 14, .int .u8 14, .int .u8 14] 5)).alloc (.cells #[.int .u8 224, .int .u8 224, .int .u8 224, .int .u8 224, .int .u8 241, .int .u8 241, .int .u8 241, .int .u8 241] 5)) (.cells #[.slice (some ⟨w.heap.size, 0, none⟩) 8 8, .slice (some ⟨w.heap.size + 1, 0, none⟩) 8 8, .slice (some ⟨w.heap.size + 2, 0, none⟩) 8 8, .slice (some ⟨w.heap.size + 3, 0, none⟩) 8 8] 22)
  have hz : ((((w.alloc (.cells #[.int .u8 1, .int .u8 1, .int .u8 1, .int .u8 1, .int .u8 1, .int .u8 1, .int .u8 1, .int .u8 1] 5)).alloc (.cells #[.int .u8 254, .int .u8 254, .int .u8 254, .int .u8 254, .int .u8 254, .int .u8 254, .int .u8 254, .int .u8 254] 5)).alloc (.cells #[.int .u8 31, .int .u8 31, .int .u8 31, .int .u8 31, .int .u8 14, .int .u8 14, .int .u8 14, .int .u8 14] 5)).alloc (.cells #[.int .u8 224, .int .u8 224, .int .u8 224, .int .u8 224, .int .u8 241, .int .u8 241, .int .u8 241, .int .u8 241] 5)).heap.size = w.heap.size + 4 := by simp
  rw [hz] at h
  unfold weakCH
  rw [cell_of_heap h]
  match q, hq with
  | 0, _ => rfl
  | 1, _ => rfl
  | 2, _ => rfl
  | 3, _ => rfl
theorem weak_rd (w : World) (q : Nat) (hq : q < 4) : Rd (weakCH w) (weakCH w).heap.size (some ⟨w.heap.size + q, 0, none⟩) 8 (weakL q) := by
  have hl : ∀ k, k < 4 → True := fun _ _ => trivial
  match q, hq with
  | 0, _ =>
    obtain ⟨A, c, e, hr, _⟩ := (Own.lit w (weakL 0) #[.int .u8 1, .int .u8 1, .int .u8 1, .int .u8 1, .int .u8 1, .int .u8 1, .int .u8 1, .int .u8 1] 8 w.heap.size rfl rfl (by unfold maxLen; omega) (Nat.le_refl _)).rdn (n := 8) rfl
    cases e
    unfold weakCH
    exact (((hr.later (Ext.alloc _ _)).later (Ext.alloc _ _)).later (Ext.alloc _ _)).later (Ext.alloc _ _)
  | 1, _ =>
    obtain ⟨A, c, e, hr, _⟩ := (Own.lit (w.alloc (.cells #[.int .u8 1, .int .u8 1, .int .u8 1, .int .u8 1, .int .u8 1, .int .u8 1, .int .u8 1, .int .u8 1] 5)) (weakL 1) #[.int .u8 254, .int .u8 254, .int .u8 254, .int .u8 254, .int .u8 254, .int .u8 254, .int .u8 254, .int .u8 254] 8 (w.alloc (.cells #[.int .u8 1, .int .u8 1, .int .u8 1, .int .u8 1, .int .u8 1, .int .u8 1, .int .u8 1, .int .u8 1] 5)).heap.size rfl rfl (by unfold maxLen; omega) (Nat.le_refl _)).rdn (n := 8) rfl
    have hz : (w.alloc (.cells #[.int .u8 1, .int .u8 1, .int .u8 1, .int .u8 1, .int .u8 1, .int .u8 1, .int .u8 1, .int .u8 1] 5)).heap.size = w.heap.size + 1 := by simp
    rw [hz] at e
    cases e
    unfold weakCH
    exact ((hr.later (Ext.alloc _ _)).later (Ext.alloc _ _)).later (Ext.alloc _ _)
  | 2, _ =>
    obtain ⟨A, c, e, hr, _⟩ := (Own.lit ((w.alloc (.cells #[.int .u8 1, .int .u8 1, .int .u8 1, .int .u8 1, .int .u8 1, .int .u8 1, .int .u8 1, .int .u8 1] 5)).alloc (.cells #[.int .u8 254, .int .u8 254, .int .u8 254, .int .u8 254, .int .u8 254, .int .u8 254, .int .u8 254, .int .u8 254] 5)) (weakL 2) #[.int .u8 31, .int .u8 31, .int .u8 31, .int .u8 31, .int .u8 14, .int .u8 14, .int .u8 14, .int .u8 14] 8 ((w.alloc (.cells #[.int .u8 1, .int .u8 1, .int .u8 1, .int .u8 1, .int .u8 1, .int .u8 1, .int .u8 1, .int .u8 1] 5)).alloc (.cells #[.int .u8 254, .int .u8 254, .int .u8 254, .int .u8 254, .int .u8 254, .int .u8 254, .int .u8 254, .int .u8 254] 5)).heap.size rfl rfl (by unfold maxLen; omega) (Nat.le_refl _)).rdn (n := 8) rfl
    have hz : ((w.alloc (.cells #[.int .u8 1, .int .u8 1, .int .u8 1, .int .u8 1, .int .u8 1, .int .u8 1, .int .u8 1, .int .u8 1] 5)).alloc (.cells #[.int .u8 254, .int .u8 254, .int .u8 254, .int .u8 254, .int .u8 254, .int .u8 254, .int .u8 254, .int .u8 254] 5)).heap.size = w.heap.size + 2 := by simp
    rw [hz] at e
    cases e
    unfold weakCH
    exact (hr.later (Ext.alloc _ _)).later (Ext.alloc _ _)
  | 3, _ =>
    obtain ⟨A, c, e, hr, _⟩ := (Own.lit (((w.alloc (.cells #[.int .u8 1, .int .u8 1, .int .u8 1, .int .u8 1, .int .u8 1, .int .u8 1, .int .u8 1, .int .u8 1] 5)).alloc (.cells #[.int .u8 254, .int .u8 254, .int .u8 254, .int .u8 254, .int .u8 254, .int .u8 254, .int .u8 254, .int .u8 254] 5)).alloc (.cells #[.int .u8 31, .int .u8 31, .int .u8 31, .int .u8 31, .int .u8 14, .int .u8 14, .int .u8 14, .int .u8 14] 5)) (weakL 3) #[.int .u8 224, .int .u8 224, .int .u8 224, .int .u8 224, .int .u8 241, .int .u8 241, .int .u8 241, .int .u8 241] 8 (((w.alloc (.cells #[.int .u8 1, .int .u8 1, .int .u8 1, .int .u8 1, .int .u8 1, .int .u8 1, .int .u8 1, .int .u8 1] 5)).alloc (.cells #[.int .u8 254, .int .u8 254, .int .u8 254, .int .u8 254, .int .u8 254, .int .u8 254, .int .u8 254, .int .u8 254] 5)).alloc (.cells #[.int .u8 31, .int .u8 31, .int .u8 31, .int .u8 31, .int .u8 14, .int .u8 14, .int .u8 14, .int .u8 14] 5)).heap.size rfl rfl (by unfold maxLen; omega) (Nat.le_refl _)).rdn (n := 8) rfl
    have hz : (((w.alloc (.cells #[.int .u8 1, .int .u8 1, .int .u8 1, .int .u8 1, .int .u8 1, .int .u8 1, .int .u8 1, .int .u8 1] 5)).alloc (.cells #[.int .u8 254, .int .u8 254, .int .u8 254, .int .u8 254, .int .u8 254, .int .u8 254, .int .u8 254, .int .u8 254] 5)).alloc (.cells #[.int .u8 31, .int .u8 31, .int .u8 31, .int .u8 31, .int .u8 14, .int .u8 14, .int .u8 14, .int .u8 14] 5)).heap.size = w.heap.size + 3 := by simp
    rw [hz] at e
    cases e
    unfold weakCH
    exact hr.later (Ext.alloc _ _)
theorem weak_twice (q : Nat) (hq : q < 4) (b : List UInt8) (hb : b.length = 8) :
    blockL (manyOf (weakL q).length) (kfOf (weakL q)) false (blockL (manyOf (weakL q).length) (kfOf (weakL q)) false b) = b := by
  rw [block_one _ _ _ (weak_len q), block_one _ _ _ (weak_len q)]
  exact turnL_back b hb fun i _ => weak_flat q i (15 - i) hq
theorem cf12 (vs : Array Value) (w : World) : (callFunc 12 vs).run Tryd.prog w = .ok (.enter 12 vs) w := by go_simp
theorem weak_many (q : Nat) : manyOf (weakL q).length ≤ 1000 := by unfold manyOf; split <;> omega
def weakKs (X l1 : List UInt8) (len1 : Nat) : List K := [.byt 8 (X), .eq (.int .i64 8), .eq (.bool true), .eq (.bool true), .byt 8 (byL 8 l1), .eq (.string (str (byL 8 l1))), .byt len1 (l1), .byt 8 (byL 8 l1), .eq (.string (str (byL 8 l1))), .eq (.bool true), .eq (.bool true), .eq (.bool true)]
set_option maxRecDepth 100000 in
set_option maxHeartbeats 4000000 in
theorem weak_walk (a0 : Int) (a1 : Option Addr) (len1 cap1 : Nat) (z1 : List Int) (w : World) (_w0 : (Lit.int .i64 a0).wf = true) (w1 : IsRow .u8 w a1 len1 cap1 z1) (ho : Boxes w) :
    Calls Tryd.prog 7 #[.int .i64 a0, .slice a1 len1 cap1] w fun e w' => e = .returned (.bool true) ∧ Below w.heap.size w w' := by
  obtain ⟨l1, hr1, hmax1, _⟩ := w1.rdc
  unfold maxLen at hmax1
  clear w1
  have HO := hid ho
  have H1 := hid hr1
  clear ho hr1
  obtain ⟨q, hq⟩ : ∃ q : Nat, a0 % 4 = q := ⟨(a0 % 4).toNat, by omega⟩
  have hq4 : q < 4 := by omega
  have HQ := hid hq
  clear hq
  go_enter Tryd.func7, Tryd.ntmps7
  go_wp2_with fail
  refine (known_any _ HO.out).mono ?_
  rintro e wk ⟨rfl, hxk⟩
  have HXK := hid hxk
  clear hxk
  have hcell := weak_cell wk q hq4
  have HRW := hid (weak_rd wk q hq4)
  have HX0 := hid (Ext.trans HXK.out (weak_ext wk))
  unfold weakCH at hcell
  go_wp2_with (go_at_call 20; refine (within_any _ _ _ (by omega) (by omega)).mono ?_; rintro e w' ⟨rfl, rfl⟩; rw [HQ.out])
  clear hcell HXK
  rw [show (((((wk.alloc (.cells #[.int .u8 1, .int .u8 1, .int .u8 1, .int .u8 1, .int .u8 1, .int .u8 1, .int .u8 1, .int .u8 1] 5)).alloc (.cells #[.int .u8 254, .int .u8 254, .int .u8 254, .int .u8 254, .int .u8 254, .int .u8 254, .int .u8 254, .int .u8 254] 5)).alloc (.cells #[.int .u8 31, .int .u8 31, .int .u8 31, .int .u8 31, .int .u8 14, .int .u8 14, .int .u8 14, .int .u8 14] 5)).alloc (.cells #[.int .u8 224, .int .u8 224, .int .u8 224, .int .u8 224, .int .u8 241, .int .u8 241, .int .u8 241, .int .u8 241] 5)).alloc (.cells #[.slice (some ⟨wk.heap.size, 0, none⟩) 8 8, .slice (some ⟨wk.heap.size + 1, 0, none⟩) 8 8, .slice (some ⟨wk.heap.size + 2, 0, none⟩) 8 8, .slice (some ⟨wk.heap.size + 3, 0, none⟩) 8 8] 22)) = weakCH wk from rfl]
  obtain ⟨w1, hw1⟩ : ∃ w1, weakCH wk = w1 := ⟨_, rfl⟩
  obtain ⟨bx, hbx⟩ : ∃ bx, wk.heap.size + q = bx := ⟨_, rfl⟩
  rw [hw1] at HRW HX0 ⊢
  rw [hbx] at HRW ⊢
  clear hw1 hbx
  refine (keys_any _ _ _ _ HRW.out).mono ?_
  rintro e w2 ⟨bk, ck, rfl, hck, hko, hx2⟩
  have HX2 := hid (Ext.trans HX0.out hx2)
  have HR2 := hid (HRW.out.later hx2)
  have HK2 := hid hko.kr
  clear hko hx2 HX0 HRW
  go_wp2_with fail
  refine (new_any _ 8 _ _ _ (.inl rfl) HR2.out (by omega)).mono ?_
  rintro e w3 ⟨p, rfl, hd3, hx3⟩
  have HX3 := hid (Ext.trans HX2.out hx3)
  have HK3 := hid (HK2.out.later hx3)
  have HD3 := hid hd3
  clear hd3 hx3 HX2 HR2 HK2
  go_wp2_with fail
  go_loopw [10] (fun i wr => ∃ k : Nat, 1 ≤ k ∧ k ≤ 16 ∧ i = .int .i64 k ∧ Ext w3 wr) (fun i _ => 16 - (intOf i).toNat)
  case atStart => exact ⟨1, by omega, by omega, rfl, Ext.refl _⟩
  case round =>
    obtain ⟨k, hk1, hk, rfl, hx⟩ := hrel
    by_cases hlt : k < 16
    · obtain ⟨A1, d1, hc1, hr1⟩ := (HK3.out.later hx).2 k hlt
      obtain ⟨A2, d2, hc2, hr2⟩ := (HK3.out.later hx).2 0 (by omega)
      rw [Nat.zero_add] at hc1 hc2
      rw [weak_flat q k 0 hq4] at hr1
      have t1 := fun n => strq (c := d1) (hr1.later (below_drewN' (Ext.refl wr) n))
      have t2 := fun n => strq (c := d2) (hr2.later (below_drewN' (Ext.refl wr) n))
      have HX := hid hx
      clear hx hr1 hr2
      go_wp2_with fail
      go_quiet (fail)
      go_wp2_with fail
      go_roundw
      case rel => exact ⟨k + 1, by omega, by omega, by go_num, below_drewN' HX.out nq⟩
      case measure => simp [intOf]; omega
    · obtain rfl : k = 16 := by omega
      have HX4 := hid (Ext.trans HX3.out hx)
      have HD4 := hid (HD3.out.later hx)
      clear hx HX3 HD3 HK3
      go_wp2_with fail
      refine (bytes_rd _ 8 _ _ _ _ (H1.out.later HX4.out) (by omega) (by omega)).mono ?_
      rintro e w5 ⟨A3, c3, rfl, hc3, hr3, hx5⟩
      have HX5 := hid (Ext.trans HX4.out hx5)
      have HD5 := hid (HD4.out.later hx5)
      have HR5 := hid hr3
      clear hr3 hx5 HX4 HD4
      go_wp2_with fail
      refine (block_any _ p _ _ _ _ false _ HD5.out (weak_many q) HR5.out (HO.out.later HX5.out)).mono ?_
      rintro e w6 ⟨A5, c5, rfl, hc5, hr5, hx6⟩
      have HX6 := hid (Ext.trans HX5.out hx6)
      have HD6 := hid (HD5.out.later hx6)
      have HR6 := hid hr5
      clear hr5 hx6 HX5 HD5 HR5
      go_wp2_with fail
      refine (block_any _ p _ _ _ _ false _ HD6.out (weak_many q) HR6.out (HO.out.later HX6.out)).mono ?_
      rw [weak_twice q hq4 _ (byL_len _ _)]
      rintro e w7 ⟨A7, c7, rfl, hc7, hr7, hx7⟩
      have HX7 := hid (Ext.trans HX6.out hx7)
      have HP7 := hid (HR6.out.later hx7)
      have HR7 := hid hr7
      obtain ⟨X, hX⟩ : ∃ X, blockL (manyOf (weakL q).length) (kfOf (weakL q)) false (byL 8 l1) = X := ⟨_, rfl⟩
      rw [hX] at HP7
      clear hr7 hx7 HX6 HD6 HR6 hX
      go_wp2_with fail
      refine region_inv mixed rfl (by kernel_rfl) (kV (weakKs X l1 len1)) (kV_keep _) (forall_ops ⟨?_, ?_, ?_, ?_, ?_, ?_, ?_, ?_, ?_, ?_, ?_, ?_, trivial⟩) ?_
      · intro a w hk
        have s11 : a.tmps.getD 11 undef = .slice A5 8 c5 := hk.was 11 (by kernel_rfl) rfl
        have r11 := (HP7.out).later hk.ext
        exact step_move rfl rfl s11 ⟨_, _, rfl, r11⟩
      · intro a w hk
        obtain ⟨A78, c78, s78, r78⟩ := hk.byt_ 0 78 (by kernel_rfl) rfl
        refine step_val (v := .int .i64 8) (w' := w) rfl ?_ (Ext.refl w) rfl
        go_simp
      · intro a w hk
        have s79 := hk.eq_ 1 79 (by kernel_rfl) rfl
        refine step_val (v := .bool true) (w' := w) rfl ?_ (Ext.refl w) rfl
        go_simp
      · intro a w hk
        have s80 := hk.eq_ 2 80 (by kernel_rfl) rfl
        exact step_move rfl rfl s80 rfl
      · intro a w hk
        refine hk.run 3 81 true true rfl (by kernel_rfl) rfl fun hw => ?_
        have s13 : a.tmps.getD 13 undef = .slice A7 8 c7 := hk.was 13 (by kernel_rfl) rfl
        have r13 := (HR7.out).later hk.ext
        exact step_move hw rfl s13 ⟨_, _, rfl, r13⟩
      · intro a w hk
        refine hk.run 3 81 true true rfl (by kernel_rfl) rfl fun hw => ?_
        obtain ⟨A82, c82, s82, r82⟩ := hk.byt_ 4 82 (by kernel_rfl) rfl
        exact step_conv hw rfl s82 (strq r82) rfl
      · intro a w hk
        refine hk.run 3 81 true true rfl (by kernel_rfl) rfl fun hw => ?_
        have s1 : a.tmps.getD 1 undef = .slice a1 len1 cap1 := hk.was 1 (by kernel_rfl) rfl
        have r1 := ((H1.out.later HX7.out)).later hk.ext
        exact step_move hw rfl s1 ⟨_, _, rfl, r1⟩
      · intro a w hk
        refine hk.run 3 81 true true rfl (by kernel_rfl) rfl fun hw => ?_
        obtain ⟨A84, c84, s84, r84⟩ := hk.byt_ 6 84 (by kernel_rfl) rfl
        exact step_call hw rfl (by simp only [List.map_toArray, List.map_cons, List.map_nil, Act.eval, s84] <;> rfl) cf12 (bytes_any _ 8 _ _ _ w r84 (by omega) (by omega)) (fun e w2 h => RetB.k (byL_len _ _) e w2 h)
      · intro a w hk
        refine hk.run 3 81 true true rfl (by kernel_rfl) rfl fun hw => ?_
        obtain ⟨A85, c85, s85, r85⟩ := hk.byt_ 7 85 (by kernel_rfl) rfl
        exact step_conv hw rfl s85 (strq r85) rfl
      · intro a w hk
        refine hk.run 3 81 true true rfl (by kernel_rfl) rfl fun hw => ?_
        have s83 := hk.eq_ 5 83 (by kernel_rfl) rfl
        have s86 := hk.eq_ 8 86 (by kernel_rfl) rfl
        refine step_val (v := .bool true) (w' := w) hw ?_ (Ext.refl w) rfl
        go_simp
      · intro a w hk
        have s81 := hk.eq_ 3 81 (by kernel_rfl) rfl
        have s87 := hk.eq_ 9 87 (by kernel_rfl) rfl
        exact step_pick (b := true) rfl rfl s81 s87 rfl
      · intro a w hk
        have s88 := hk.eq_ 10 88 (by kernel_rfl) rfl
        exact step_assign rfl rfl s88 rfl
      · intro a w1 hf
        obtain ⟨A78, c78, s78, r78⟩ := hf.val 0 78 (by kernel_rfl) rfl
        have s79 := hf.eq_ 1 79 (by kernel_rfl) rfl
        have s80 := hf.eq_ 2 80 (by kernel_rfl) rfl
        have s81 := hf.eq_ 3 81 (by kernel_rfl) rfl
        obtain ⟨A82, c82, s82, r82⟩ := hf.val 4 82 (by kernel_rfl) rfl
        have s83 := hf.eq_ 5 83 (by kernel_rfl) rfl
        obtain ⟨A84, c84, s84, r84⟩ := hf.val 6 84 (by kernel_rfl) rfl
        obtain ⟨A85, c85, s85, r85⟩ := hf.val 7 85 (by kernel_rfl) rfl
        have s86 := hf.eq_ 8 86 (by kernel_rfl) rfl
        have s87 := hf.eq_ 9 87 (by kernel_rfl) rfl
        have s88 := hf.eq_ 10 88 (by kernel_rfl) rfl
        have s4 := hf.eq_ 11 4 (by kernel_rfl) rfl
        have hx := hf.ext
        have e := hf.frame
        clear hf
        simp only [regFrame, Act.put, List.setIfInBounds_toArray, List.set_cons_zero, List.set_cons_succ, s78, s79, s80, s81, s82, s83, s84, s85, s86, s87, s88, s4] at e
        clear s78 s79 s80 s81 s82 s83 s84 s85 s86 s87 s88 s4
        subst e
        go_wp2_with fail
        go_ret
        exact ⟨rfl, Ext.trans HX7.out hx⟩
end Go.Proofs.YthfcndaccfpnmaaDoor
