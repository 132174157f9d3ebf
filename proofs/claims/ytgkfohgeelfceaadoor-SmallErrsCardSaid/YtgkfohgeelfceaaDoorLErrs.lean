/- The law on what is refused, walked; own text of the verifier. -/
import Derived.Test.YtgkfohgeelfceaaDoorY6
namespace Go.Proofs.YtgkfohgeelfceaaDoor
open Go.RowKit
/-- The errno of New, of a tag and a key's length. -/
def errOf (T : Int) (n : Nat) : Int := if T = 4 then (if n = 16 then 0 else 4) else if T = 5 then (if n = 32 then 0 else 4) else if T = 8 then (if n = 16 then 0 else 4) else 2
theorem errOf_code (t : T3) (n : Nat) : errOf t.code n = if n = t.size then 0 else 4 := by
  cases t <;> rfl
theorem errOf_bad (T : Int) (n : Nat) (h4 : T ≠ 4) (h5 : T ≠ 5) (h8 : T ≠ 8) : errOf T n = 2 := by simp [errOf, h4, h5, h8]
/-- A pointer that is nil just where there is an errno. -/
def NilOk (u : Value) (e : Int) : Prop := (e = 0 ∧ ∃ p, u = .pointer (some ⟨p, 0, none⟩)) ∨ (e ≠ 0 ∧ u = .pointer none)
def ErrRet (T : Int) (n : Nat) (w : World) (e : Ending) (w' : World) : Prop := ∃ u, e = .returned (.tuple #[u, .int .i64 (errOf T n)]) ∧ NilOk u (errOf T n) ∧ Ext w w'
def ErrP (T : Int) (n : Nat) (_ : World) (v : Value) : Prop := ∃ u, v = .tuple #[u, .int .i64 (errOf T n)] ∧ NilOk u (errOf T n)
theorem ErrP.keep (T : Int) (n : Nat) : ∀ w w' v, Ext w w' → ErrP T n w v → ErrP T n w' v := fun _ _ _ _ h => h
def NilP (T : Int) (n : Nat) (_ : World) (v : Value) : Prop := ∃ u, v = u ∧ NilOk u (errOf T n)
theorem NilP.keep (T : Int) (n : Nat) : ∀ w w' v, Ext w w' → NilP T n w v → NilP T n w' v := fun _ _ _ _ h => h
theorem retErr {w : World} {T : Int} {n : Nat} (e : Ending) (w' : World) (h : ErrRet T n w e w') : ∃ v, e = .returned v ∧ Ext w w' ∧ K.holds (.gen (ErrP T n) (ErrP.keep _ _)) w' v := by
  obtain ⟨u, rfl, hu, hx⟩ := h
  exact ⟨_, rfl, hx, u, rfl, hu⟩
theorem code_of (T : Int) : (∃ t : T3, T = t.code) ∨ (T ≠ 4 ∧ T ≠ 5 ∧ T ≠ 8) := by
  by_cases h4 : T = 4
  · exact .inl ⟨.x, h4⟩
  · by_cases h5 : T = 5
    · exact .inl ⟨.m, h5⟩
    · by_cases h8 : T = 8
      · exact .inl ⟨.r, h8⟩
      · exact .inr ⟨h4, h5, h8⟩
theorem newE_any (T : Int) (A : Option Addr) (n c : Nat) (kb : List UInt8) (w : World) (h : Rd w w.heap.size A n kb) (hc : n ≤ c) (hcb : c ≤ 9223372036854775807) :
    Calls Tryd.prog 14 #[.int .i64 T, .slice A n c] w (ErrRet T n w) := by
  rcases code_of T with ⟨t, rfl⟩ | ⟨h4, h5, h8⟩
  · by_cases hn : n = t.size
    · subst hn
      refine (new_any t A c kb w h hc hcb).mono ?_
      rintro e w' ⟨p, rfl, _, hx⟩
      have he : errOf t.code t.size = 0 := by rw [errOf_code, if_pos rfl]
      exact ⟨_, by rw [he], by rw [he]; exact .inl ⟨rfl, p, rfl⟩, hx⟩
    · refine (new_key t A n c w hn).mono ?_
      rintro e w' ⟨rfl, hx⟩
      have he : errOf t.code n = 4 := by rw [errOf_code, if_neg hn]
      exact ⟨_, by rw [he], by rw [he]; exact .inr ⟨by omega, rfl⟩, hx⟩
  · refine (new_tag T A n c w h4 h5 h8).mono ?_
    rintro e w' ⟨rfl, hx⟩
    have he := errOf_bad T n h4 h5 h8
    exact ⟨_, by rw [he], by rw [he]; exact .inr ⟨by omega, rfl⟩, hx⟩
theorem rnewE_any (T : Int) (A : Option Addr) (n c : Nat) (kb : List UInt8) (w : World) (h : Rd w w.heap.size A n kb) (hc : n ≤ c) (hcb : c ≤ 9223372036854775807) :
    Calls Tryd.prog 17 #[.int .i64 T, .slice A n c] w (ErrRet T n w) := by
  rcases code_of T with ⟨t, rfl⟩ | ⟨h4, h5, h8⟩
  · by_cases hn : n = t.size
    · subst hn
      refine (rnew_any t A c kb w h hc hcb).mono ?_
      rintro e w' ⟨p, rfl, _, hx⟩
      have he : errOf t.code t.size = 0 := by rw [errOf_code, if_pos rfl]
      exact ⟨_, by rw [he], by rw [he]; exact .inl ⟨rfl, p, rfl⟩, hx⟩
    · refine (rnew_key t A n c w hn).mono ?_
      rintro e w' ⟨rfl, hx⟩
      have he : errOf t.code n = 4 := by rw [errOf_code, if_neg hn]
      exact ⟨_, by rw [he], by rw [he]; exact .inr ⟨by omega, rfl⟩, hx⟩
  · refine (rnew_tag T A n c w h4 h5 h8).mono ?_
    rintro e w' ⟨rfl, hx⟩
    have he := errOf_bad T n h4 h5 h8
    exact ⟨_, by rw [he], by rw [he]; exact .inr ⟨by omega, rfl⟩, hx⟩
theorem IsRow.capmax {w : World} {a : Option Addr} {len cap : Nat} {zs : List Int} (h : IsRow .u8 w a len cap zs) : cap ≤ 9223372036854775807 := by
  rcases h with ⟨_, _, rfl, _⟩ | ⟨x, _, _, h3, _⟩
  · omega
  · unfold maxLen at h3; omega
theorem cf20 (vs : Array Value) (w : World) : (callFunc 20 vs).run Tryd.prog w = .ok (.enter 20 vs) w := by go_simp
def allT (a0 : Int) : List Int := [a0, a0 % 10, 4, 5, 8]
theorem all_cell (w : World) (a0 : Int) (j : Nat) (h : j < 5) : (w.alloc (.cells #[.int .i64 a0, .int .i64 (a0 % 10), .int .i64 4, .int .i64 5, .int .i64 8] 3)).cell? ⟨w.heap.size, j, none⟩ = some (.int .i64 ((allT a0).getD j 0)) := by
  rw [cell_of_heap (heap_alloc_new w _)]
  match j, h with
  | 0, _ => rfl
  | 1, _ => rfl
  | 2, _ => rfl
  | 3, _ => rfl
  | 4, _ => rfl
def er11 (G j : Nat) (T a3 : Int) (kb : List UInt8) (len1 m : Nat) : List K := [.eq (.slice (some ⟨G, 0, none⟩) 5 5), .eq (.int .i64 j), .eq (.pointer (some ⟨G, j, none⟩)), .eq (.int .i64 T), .eq (.int .i64 a3), .eq (.int .i64 (m : Nat)), .byt len1 (kb), .bycm m (byL m kb), .gen (ErrP T m) (ErrP.keep _ _), .gen (ErrP T m) (ErrP.keep _ _), .gen (NilP T m) (NilP.keep _ _), .eq (.int .i64 (errOf T m)), .gen (NilP T m) (NilP.keep _ _), .eq (.int .i64 (errOf T m))]
def er12 (G j : Nat) (T a3 : Int) (kb : List UInt8) (len1 m : Nat) : List K := [.eq (.slice (some ⟨G, 0, none⟩) 5 5), .eq (.int .i64 j), .eq (.pointer (some ⟨G, j, none⟩)), .eq (.int .i64 T), .eq (.int .i64 a3), .eq (.int .i64 (m : Nat)), .byt len1 (kb), .bycm m (byL m kb), .gen (ErrP T m) (ErrP.keep _ _), .gen (ErrP T m) (ErrP.keep _ _), .gen (NilP T m) (NilP.keep _ _), .eq (.int .i64 (errOf T m)), .gen (NilP T m) (NilP.keep _ _), .eq (.int .i64 (errOf T m))]
def er16 (k : Nat) (t : T3) (kb : List UInt8) (len1 : Nat) : List K := [.row 3 tagsV, .eq (.int .i64 k), .ptr (.int .i64 t.code), .eq (.int .i64 t.code), .eq (.int .i64 k), .eq (.int .i64 t.size), .byt len1 (kb), .bycm t.size (byL t.size kb), .gen (NewP t (byL t.size kb)) (NewP.keep _ _), .gen (NewP t (byL t.size kb)) (NewP.keep _ _), .gen (PtrP t (byL t.size kb)) (PtrP.keep _ _), .eq (.int .i64 0), .gen (PtrP t (byL t.size kb)) (PtrP.keep _ _), .eq (.int .i64 0)]
set_option maxRecDepth 100000 in
set_option maxHeartbeats 4000000 in
theorem errs_walk (a0 : Int) (a1 : Option Addr) (len1 cap1 : Nat) (z1 : List Int) (a2 : Option Addr) (len2 cap2 : Nat) (z2 : List Int) (a3 : Int) (w : World) (_w0 : (Lit.int .i64 a0).wf = true) (w1 : IsRow .u8 w a1 len1 cap1 z1) (w2 : IsRow .u8 w a2 len2 cap2 z2) (_w3 : (Lit.int .i64 a3).wf = true) (hG : GRows w) :
    Calls Tryd.prog 6 #[.int .i64 a0, .slice a1 len1 cap1, .slice a2 len2 cap2, .int .i64 a3] w fun e w' => e = .returned (.bool true) ∧ Below w.heap.size w w' := by
  obtain ⟨kb, hrk, hm1, hc1⟩ := w1.rdc
  obtain ⟨pb, hrp, hm2, hc2⟩ := w2.rdc
  unfold maxLen at hm1 hm2
  have HC1M := hid w1.capmax
  have HC2M := hid w2.capmax
  have HC1 := hid hc1
  have HC2 := hid hc2
  have HG := hid hG
  have HK0 := hid hrk
  have HP0 := hid hrp
  have HM1 := hid hm1
  clear hG hrk hrp hm1 hm2 w1 w2 hc1 hc2
  go_enter Tryd.func6, Tryd.ntmps6
  go_wp2_with fail
  refine (known_any _ HG.out).mono ?_
  rintro e w1 ⟨rfl, hx1⟩
  have HX1 := hid hx1
  clear hx1
  by_cases h100 : 100 < len1
  · go_wp2_with fail
    go_ret
    exact ⟨rfl, HX1.out⟩
  · by_cases h101 : 100 < len2
    · go_wp2_with fail
      go_ret
      exact ⟨rfl, HX1.out⟩
    · go_wp2_with fail
      refine (within_any _ _ _ (by omega) (by omega)).mono ?_
      rintro e w2 ⟨rfl, rfl⟩
      have HCELL := hid (all_cell w1 a0)
      have hx2 := Ext.trans HX1.out (Ext.alloc w1 (.cells #[.int .i64 a0, .int .i64 (a0 % 10), .int .i64 4, .int .i64 5, .int .i64 8] 3))
      have hz : w1.heap.size < (w1.alloc (.cells #[.int .i64 a0, .int .i64 (a0 % 10), .int .i64 4, .int .i64 5, .int .i64 8] 3)).heap.size := by simp
      obtain ⟨G, hGe⟩ : ∃ G, w1.heap.size = G := ⟨_, rfl⟩
      obtain ⟨W, hW⟩ : ∃ W, w1.alloc (.cells #[.int .i64 a0, .int .i64 (a0 % 10), .int .i64 4, .int .i64 5, .int .i64 8] 3) = W := ⟨_, rfl⟩
      rw [hW] at HCELL hx2 hz
      rw [hGe] at HCELL hz
      have HX2 := hid hx2
      have HGE := hid (And.intro hGe hW)
      clear hx2 hGe hW HX1
      obtain ⟨m, hm⟩ : ∃ m : Nat, a3 % 40 = m := ⟨(a3 % 40).toNat, by omega⟩
      have HM40 := hid (show m < 40 by omega)
      have HW40 := hid (fun w => (hm ▸ within_any a3 40 w (by omega) (by omega) : Calls Tryd.prog 20 #[.int .i64 a3, .int .i64 40] w fun e w' => e = .returned (.int .i64 (m : Nat)) ∧ w = w'))
      clear hm
      go_wp2_with fail
      rw [HGE.out.1, HGE.out.2]
      go_loopw [10] (fun i wr => ∃ j : Nat, j ≤ 5 ∧ i = .int .i64 j ∧ Ext W wr) (fun i _ => 5 - (intOf i).toNat)
      case atStart => exact ⟨0, by omega, rfl, Ext.refl _⟩
      case round =>
        obtain ⟨j, hj, rfl, hx⟩ := hrel
        have HX := hid (Ext.trans HX2.out hx)
        have HXW := hid hx
        have HRK := hid (HK0.out.later HX.out)
        clear hx
        by_cases hlt : j < 5
        · have HJ5 := hid hlt
          have hj5 : (j : Int) < 5 := by omega
          obtain ⟨T, hT⟩ : ∃ T, (allT a0).getD j 0 = T := ⟨_, rfl⟩
          have hcell := HCELL.out j hlt
          rw [hT] at hcell
          have hcell := cell_at HXW.out hcell
          clear hT
          go_wp2_with fail
          refine (newE_any T a1 len1 cap1 kb _ HRK.out HC1.out HC1M.out).mono ?_
          rintro e w3 ⟨u11, rfl, hn11, hx3⟩
          have hcell := cell_at hx3 hcell
          have HX3 := hid (Ext.trans HX.out hx3)
          have HW3 := hid (Ext.trans HXW.out hx3)
          have HRK := hid (HRK.out.later hx3)
          have HN11 := hid hn11
          clear hx3 hn11 HX HXW
          go_wp2_with fail
          refine (rnewE_any T a1 len1 cap1 kb _ HRK.out HC1.out HC1M.out).mono ?_
          rintro e w4 ⟨u13, rfl, hn13, hx4⟩
          have hcell := cell_at hx4 hcell
          have HX4 := hid (Ext.trans HX3.out hx4)
          have HW4 := hid (Ext.trans HW3.out hx4)
          have HRK := hid (HRK.out.later hx4)
          have HC := hid hcell
          clear hx4 hn13 HX3 HW3 hcell
          go_wp2_with fail
          refine region_inv mixed rfl (by kernel_rfl) (kV (er11 G j T a3 kb len1 m)) (kV_keep _) (forall_ops ⟨?_, ?_, ?_, ?_, ?_, ?_, ?_, ?_, ?_, ?_, ?_, ?_, ?_, ?_, trivial⟩) ?_
          · intro a w hk
            have s9 : a.tmps.getD 9 undef = .slice (some ⟨G, 0, none⟩) 5 5 := hk.was 9 (by kernel_rfl) rfl
            exact step_move rfl rfl s9 rfl
          · intro a w hk
            have s10 : a.tmps.getD 10 undef = .int .i64 j := hk.was 10 (by kernel_rfl) rfl
            exact step_move rfl rfl s10 rfl
          · intro a w hk
            have s63 := hk.eq_ 0 63 (by kernel_rfl) rfl
            have s64 := hk.eq_ 1 64 (by kernel_rfl) rfl
            refine step_val (v := .pointer (some ⟨G, j, none⟩)) (w' := w) rfl ?_ (Ext.refl w) rfl
            have hj5 : (j : Int) < 5 := by have := HJ5.out; omega
            go_simp
          · intro a w hk
            have s65 := hk.eq_ 2 65 (by kernel_rfl) rfl
            refine step_val (v := .int .i64 T) (w' := w) rfl ?_ (Ext.refl w) rfl
            have hc := cell_at hk.ext HC.out
            go_simp
          · intro a w hk
            have s3 : a.tmps.getD 3 undef = .int .i64 a3 := hk.was 3 (by kernel_rfl) rfl
            exact step_move rfl rfl s3 rfl
          · intro a w hk
            have s67 := hk.eq_ 4 67 (by kernel_rfl) rfl
            exact step_call rfl rfl (by simp only [List.map_toArray, List.map_cons, List.map_nil, Act.eval, s67] <;> rfl) cf20 (HW40.out w) (fun e w1 h => retE e w1 h)
          · intro a w hk
            have s1 : a.tmps.getD 1 undef = .slice a1 len1 cap1 := hk.was 1 (by kernel_rfl) rfl
            have r1 := (HRK.out).later hk.ext
            exact step_move rfl rfl s1 ⟨_, _, rfl, r1⟩
          · intro a w hk
            have s68 := hk.eq_ 5 68 (by kernel_rfl) rfl
            obtain ⟨A69, c69, s69, r69⟩ := hk.byt_ 6 69 (by kernel_rfl) rfl
            exact step_call rfl rfl (by simp only [List.map_toArray, List.map_cons, List.map_nil, Act.eval, s68, s69] <;> rfl) cf13 (by_any A69 m len1 c69 kb w r69 (by have := HM40.out; omega) HM1.out) (fun e w1 h => retByc (byL_len _ _) e w1 h)
          · intro a w hk
            have s66 := hk.eq_ 3 66 (by kernel_rfl) rfl
            obtain ⟨A70, c70, s70, k70, m70, r70⟩ := hk.val 7 70 (by kernel_rfl) rfl
            exact step_call rfl rfl (by simp only [List.map_toArray, List.map_cons, List.map_nil, Act.eval, s66, s70] <;> rfl) cf14 (newE_any T A70 m c70 (byL m kb) w r70 k70 m70) (fun e w1 h => retErr e w1 h)
          · intro a w hk
            obtain ⟨u71, s71, g71⟩ := hk.val 8 71 (by kernel_rfl) rfl
            exact step_move rfl rfl s71 ⟨_, rfl, g71⟩
          · intro a w hk
            obtain ⟨u62, s62, g62⟩ := hk.val 9 62 (by kernel_rfl) rfl
            exact step_extract rfl rfl s62 rfl ⟨_, rfl, g62⟩
          · intro a w hk
            obtain ⟨u62, s62, g62⟩ := hk.val 9 62 (by kernel_rfl) rfl
            exact step_extract rfl rfl s62 rfl rfl
          · intro a w hk
            obtain ⟨u72, s72, g72⟩ := hk.val 10 72 (by kernel_rfl) rfl
            exact step_assign rfl rfl s72 ⟨_, rfl, g72⟩
          · intro a w hk
            have s73 := hk.eq_ 11 73 (by kernel_rfl) rfl
            exact step_assign rfl rfl s73 rfl
          · intro a w5 hf
            have s63 := hf.eq_ 0 63 (by kernel_rfl) rfl
            have s64 := hf.eq_ 1 64 (by kernel_rfl) rfl
            have s65 := hf.eq_ 2 65 (by kernel_rfl) rfl
            have s66 := hf.eq_ 3 66 (by kernel_rfl) rfl
            have s67 := hf.eq_ 4 67 (by kernel_rfl) rfl
            have s68 := hf.eq_ 5 68 (by kernel_rfl) rfl
            obtain ⟨A69, c69, s69, r69⟩ := hf.val 6 69 (by kernel_rfl) rfl
            obtain ⟨A70, c70, s70, k70, m70, r70⟩ := hf.val 7 70 (by kernel_rfl) rfl
            obtain ⟨u71, s71, g71⟩ := hf.val 8 71 (by kernel_rfl) rfl
            obtain ⟨u62, s62, g62⟩ := hf.val 9 62 (by kernel_rfl) rfl
            obtain ⟨u72, s72, g72⟩ := hf.val 10 72 (by kernel_rfl) rfl
            have s73 := hf.eq_ 11 73 (by kernel_rfl) rfl
            obtain ⟨u15, s15, g15⟩ := hf.val 12 15 (by kernel_rfl) rfl
            have s16 := hf.eq_ 13 16 (by kernel_rfl) rfl
            have hx := hf.ext
            have e := hf.frame
            clear hf
            simp only [regFrame, Act.put, List.setIfInBounds_toArray, List.set_cons_zero, List.set_cons_succ, s63, s64, s65, s66, s67, s68, s69, s70, s71, s62, s72, s73, s15, s16] at e
            clear s63 s64 s65 s66 s67 s68 s69 s70 s71 s62 s72 s73 s15 s16
            subst e
            have HX5 := hid (Ext.trans HX4.out hx)
            have HW5 := hid (Ext.trans HW4.out hx)
            have HRK := hid (HRK.out.later hx)
            have HC := hid (cell_at hx HC.out)
            have HN15 := hid g15
            clear hx g15 g72 g62 g71 r69 r70 k70 m70 HX4 HW4
            go_wp2_with fail
            refine region_inv mixed rfl (by kernel_rfl) (kV (er12 G j T a3 kb len1 m)) (kV_keep _) (forall_ops ⟨?_, ?_, ?_, ?_, ?_, ?_, ?_, ?_, ?_, ?_, ?_, ?_, ?_, ?_, trivial⟩) ?_
            · intro a w hk
              have s9 : a.tmps.getD 9 undef = .slice (some ⟨G, 0, none⟩) 5 5 := hk.was 9 (by kernel_rfl) rfl
              exact step_move rfl rfl s9 rfl
            · intro a w hk
              have s10 : a.tmps.getD 10 undef = .int .i64 j := hk.was 10 (by kernel_rfl) rfl
              exact step_move rfl rfl s10 rfl
            · intro a w hk
              have s75 := hk.eq_ 0 75 (by kernel_rfl) rfl
              have s76 := hk.eq_ 1 76 (by kernel_rfl) rfl
              refine step_val (v := .pointer (some ⟨G, j, none⟩)) (w' := w) rfl ?_ (Ext.refl w) rfl
              have hj5 : (j : Int) < 5 := by have := HJ5.out; omega
              go_simp
            · intro a w hk
              have s77 := hk.eq_ 2 77 (by kernel_rfl) rfl
              refine step_val (v := .int .i64 T) (w' := w) rfl ?_ (Ext.refl w) rfl
              have hc := cell_at hk.ext HC.out
              go_simp
            · intro a w hk
              have s3 : a.tmps.getD 3 undef = .int .i64 a3 := hk.was 3 (by kernel_rfl) rfl
              exact step_move rfl rfl s3 rfl
            · intro a w hk
              have s79 := hk.eq_ 4 79 (by kernel_rfl) rfl
              exact step_call rfl rfl (by simp only [List.map_toArray, List.map_cons, List.map_nil, Act.eval, s79] <;> rfl) cf20 (HW40.out w) (fun e w1 h => retE e w1 h)
            · intro a w hk
              have s1 : a.tmps.getD 1 undef = .slice a1 len1 cap1 := hk.was 1 (by kernel_rfl) rfl
              have r1 := (HRK.out).later hk.ext
              exact step_move rfl rfl s1 ⟨_, _, rfl, r1⟩
            · intro a w hk
              have s80 := hk.eq_ 5 80 (by kernel_rfl) rfl
              obtain ⟨A81, c81, s81, r81⟩ := hk.byt_ 6 81 (by kernel_rfl) rfl
              exact step_call rfl rfl (by simp only [List.map_toArray, List.map_cons, List.map_nil, Act.eval, s80, s81] <;> rfl) cf13 (by_any A81 m len1 c81 kb w r81 (by have := HM40.out; omega) HM1.out) (fun e w1 h => retByc (byL_len _ _) e w1 h)
            · intro a w hk
              have s78 := hk.eq_ 3 78 (by kernel_rfl) rfl
              obtain ⟨A82, c82, s82, k82, m82, r82⟩ := hk.val 7 82 (by kernel_rfl) rfl
              exact step_call rfl rfl (by simp only [List.map_toArray, List.map_cons, List.map_nil, Act.eval, s78, s82] <;> rfl) cf17 (rnewE_any T A82 m c82 (byL m kb) w r82 k82 m82) (fun e w1 h => retErr e w1 h)
            · intro a w hk
              obtain ⟨u83, s83, g83⟩ := hk.val 8 83 (by kernel_rfl) rfl
              exact step_move rfl rfl s83 ⟨_, rfl, g83⟩
            · intro a w hk
              obtain ⟨u74, s74, g74⟩ := hk.val 9 74 (by kernel_rfl) rfl
              exact step_extract rfl rfl s74 rfl ⟨_, rfl, g74⟩
            · intro a w hk
              obtain ⟨u74, s74, g74⟩ := hk.val 9 74 (by kernel_rfl) rfl
              exact step_extract rfl rfl s74 rfl rfl
            · intro a w hk
              obtain ⟨u84, s84, g84⟩ := hk.val 10 84 (by kernel_rfl) rfl
              exact step_assign rfl rfl s84 ⟨_, rfl, g84⟩
            · intro a w hk
              have s85 := hk.eq_ 11 85 (by kernel_rfl) rfl
              exact step_assign rfl rfl s85 rfl
            · intro a w6 hf
              have s75 := hf.eq_ 0 75 (by kernel_rfl) rfl
              have s76 := hf.eq_ 1 76 (by kernel_rfl) rfl
              have s77 := hf.eq_ 2 77 (by kernel_rfl) rfl
              have s78 := hf.eq_ 3 78 (by kernel_rfl) rfl
              have s79 := hf.eq_ 4 79 (by kernel_rfl) rfl
              have s80 := hf.eq_ 5 80 (by kernel_rfl) rfl
              obtain ⟨A81, c81, s81, r81⟩ := hf.val 6 81 (by kernel_rfl) rfl
              obtain ⟨A82, c82, s82, k82, m82, r82⟩ := hf.val 7 82 (by kernel_rfl) rfl
              obtain ⟨u83, s83, g83⟩ := hf.val 8 83 (by kernel_rfl) rfl
              obtain ⟨u74, s74, g74⟩ := hf.val 9 74 (by kernel_rfl) rfl
              obtain ⟨u84, s84, g84⟩ := hf.val 10 84 (by kernel_rfl) rfl
              have s85 := hf.eq_ 11 85 (by kernel_rfl) rfl
              obtain ⟨u17, s17, g17⟩ := hf.val 12 17 (by kernel_rfl) rfl
              have s18 := hf.eq_ 13 18 (by kernel_rfl) rfl
              have hx := hf.ext
              have e := hf.frame
              clear hf
              simp only [regFrame, Act.put, List.setIfInBounds_toArray, List.set_cons_zero, List.set_cons_succ, s75, s76, s77, s78, s79, s80, s81, s82, s83, s74, s84, s85, s17, s18] at e
              clear s75 s76 s77 s78 s79 s80 s81 s82 s83 s74 s84 s85 s17 s18
              subst e
              have HX6 := hid (Ext.trans HX5.out hx)
              have HW6 := hid (Ext.trans HW5.out hx)
              clear hx g17 g84 g74 g83 r81 r82 k82 m82 HX5 HW5 HC
              obtain ⟨E1, hE1⟩ : ∃ E, errOf T len1 = E := ⟨_, rfl⟩
              obtain ⟨E2, hE2⟩ : ∃ E, errOf T m = E := ⟨_, rfl⟩
              rw [hE1] at HN11
              rw [hE2] at HN15
              rw [hE1, hE2]
              clear hE1 hE2
              rcases HN11.out with ⟨rfl, p1, rfl⟩ | ⟨hne1, rfl⟩
              · rcases HN15.out with ⟨rfl, p2, rfl⟩ | ⟨hne2, rfl⟩
                · go_wp2_with fail
                  go_roundw
                  case rel => exact ⟨j + 1, by omega, by go_num, HW6.out⟩
                  case measure => simp [intOf]; omega
                · have hb2 : (E2 != 0) = true := by simp [hne2]
                  go_wp2_with fail
                  go_roundw
                  case rel => exact ⟨j + 1, by omega, by go_num, HW6.out⟩
                  case measure => simp [intOf]; omega
              · have hb1 : (E1 != 0) = true := by simp [hne1]
                rcases HN15.out with ⟨rfl, p2, rfl⟩ | ⟨hne2, rfl⟩
                · go_wp2_with fail
                  go_roundw
                  case rel => exact ⟨j + 1, by omega, by go_num, HW6.out⟩
                  case measure => simp [intOf]; omega
                · have hb2 : (E2 != 0) = true := by simp [hne2]
                  go_wp2_with fail
                  go_roundw
                  case rel => exact ⟨j + 1, by omega, by go_num, HW6.out⟩
                  case measure => simp [intOf]; omega
        · clear HW40 HM40
          go_wp2_with fail
          refine (within_any _ _ _ (by omega) (by omega)).mono ?_
          rintro e w7 ⟨rfl, rfl⟩
          obtain ⟨k, hk⟩ : ∃ k : Nat, a3 % 3 = (k : Int) := ⟨(a3 % 3).toNat, by omega⟩
          have hlt : k < 3 := by omega
          rw [hk]
          clear hk
          have HK3 := hid hlt
          obtain ⟨t, ht⟩ : ∃ t, T3.at k = t := ⟨_, rfl⟩
          have HTG := hid (show tagsV.getD k undef = .int .i64 t.code by rw [← ht]; exact tagsV_get k hlt)
          have HSZ := hid (fun w => (ht ▸ size_any k w hlt : Calls Tryd.prog 16 #[.int .i64 k] w fun e w' => e = .returned (.int .i64 t.size) ∧ Ext w w'))
          clear ht
          go_wp2_with fail
          refine region_inv mixed rfl (by kernel_rfl) (kV (er16 k t kb len1)) (kV_keep _) (forall_ops ⟨?_, ?_, ?_, ?_, ?_, ?_, ?_, ?_, ?_, ?_, ?_, ?_, ?_, ?_, trivial⟩) ?_
          · intro a w hk
            exact step_call rfl rfl (by simp only [List.map_toArray, List.map_nil]) cf15 (tags_any w) (fun e w1 h => h)
          · intro a w hk
            have s19 : a.tmps.getD 19 undef = .int .i64 k := hk.was 19 (by kernel_rfl) rfl
            exact step_move rfl rfl s19 rfl
          · intro a w hk
            obtain ⟨b111, s111, h111, g111⟩ := hk.val 0 111 (by kernel_rfl) rfl
            have s112 := hk.eq_ 1 112 (by kernel_rfl) rfl
            refine step_val (v := .pointer (some ⟨b111, k, none⟩)) (w' := w) rfl ?_ (Ext.refl w) ⟨_, rfl, h111, (g111 k HK3.out).trans (by rw [HTG.out])⟩
            have hk3 : (k : Int) < 3 := by have := HK3.out; omega
            go_simp
          · intro a w hk
            obtain ⟨p113, s113, h113, g113⟩ := hk.val 2 113 (by kernel_rfl) rfl
            refine step_val (v := .int .i64 t.code) (w' := w) rfl ?_ (Ext.refl w) rfl
            go_simp
          · intro a w hk
            have s19 : a.tmps.getD 19 undef = .int .i64 k := hk.was 19 (by kernel_rfl) rfl
            exact step_move rfl rfl s19 rfl
          · intro a w hk
            have s115 := hk.eq_ 4 115 (by kernel_rfl) rfl
            exact step_call rfl rfl (by simp only [List.map_toArray, List.map_cons, List.map_nil, Act.eval, s115] <;> rfl) cf16 (HSZ.out w) (fun e w1 h => by obtain ⟨rfl, hx⟩ := h; exact ⟨_, rfl, hx, rfl⟩)
          · intro a w hk
            have s1 : a.tmps.getD 1 undef = .slice a1 len1 cap1 := hk.was 1 (by kernel_rfl) rfl
            have r1 := (HRK.out).later hk.ext
            exact step_move rfl rfl s1 ⟨_, _, rfl, r1⟩
          · intro a w hk
            have s116 := hk.eq_ 5 116 (by kernel_rfl) rfl
            obtain ⟨A117, c117, s117, r117⟩ := hk.byt_ 6 117 (by kernel_rfl) rfl
            exact step_call rfl rfl (by simp only [List.map_toArray, List.map_cons, List.map_nil, Act.eval, s116, s117] <;> rfl) cf13 (by_any _ t.size _ _ kb w r117 (by have := size_le t; omega) HM1.out) (fun e w1 h => retByc (byL_len _ _) e w1 h)
          · intro a w hk
            have s114 := hk.eq_ 3 114 (by kernel_rfl) rfl
            obtain ⟨A118, c118, s118, k118, m118, r118⟩ := hk.val 7 118 (by kernel_rfl) rfl
            exact step_call rfl rfl (by simp only [List.map_toArray, List.map_cons, List.map_nil, Act.eval, s114, s118] <;> rfl) cf14 (new_any t A118 c118 (byL t.size kb) w r118 k118 m118) (fun e w1 h => retNew e w1 h)
          · intro a w hk
            obtain ⟨p119, s119, g119⟩ := hk.val 8 119 (by kernel_rfl) rfl
            exact step_move rfl rfl s119 ⟨p119, rfl, g119⟩
          · intro a w hk
            obtain ⟨p110, s110, g110⟩ := hk.val 9 110 (by kernel_rfl) rfl
            exact step_extract rfl rfl s110 rfl ⟨p110, rfl, g110⟩
          · intro a w hk
            obtain ⟨p110, s110, g110⟩ := hk.val 9 110 (by kernel_rfl) rfl
            exact step_extract rfl rfl s110 rfl rfl
          · intro a w hk
            obtain ⟨p120, s120, g120⟩ := hk.val 10 120 (by kernel_rfl) rfl
            exact step_assign rfl rfl s120 ⟨p120, rfl, g120⟩
          · intro a w hk
            have s121 := hk.eq_ 11 121 (by kernel_rfl) rfl
            exact step_assign rfl rfl s121 rfl
          · intro a w8 hf
            obtain ⟨b111, s111, h111, g111⟩ := hf.val 0 111 (by kernel_rfl) rfl
            have s112 := hf.eq_ 1 112 (by kernel_rfl) rfl
            have s114 := hf.eq_ 3 114 (by kernel_rfl) rfl
            have s115 := hf.eq_ 4 115 (by kernel_rfl) rfl
            have s116 := hf.eq_ 5 116 (by kernel_rfl) rfl
            obtain ⟨A117, c117, s117, r117⟩ := hf.val 6 117 (by kernel_rfl) rfl
            obtain ⟨A118, c118, s118, k118, m118, r118⟩ := hf.val 7 118 (by kernel_rfl) rfl
            obtain ⟨p119, s119, g119⟩ := hf.val 8 119 (by kernel_rfl) rfl
            obtain ⟨p110, s110, g110⟩ := hf.val 9 110 (by kernel_rfl) rfl
            obtain ⟨p120, s120, g120⟩ := hf.val 10 120 (by kernel_rfl) rfl
            have s121 := hf.eq_ 11 121 (by kernel_rfl) rfl
            obtain ⟨p20, s20, g20⟩ := hf.val 12 20 (by kernel_rfl) rfl
            have s21 := hf.eq_ 13 21 (by kernel_rfl) rfl
            have hx := hf.ext
            have e := hf.frame
            clear hf
            simp only [regFrame, Act.put, List.setIfInBounds_toArray, List.set_cons_zero, List.set_cons_succ, s111, s112, s114, s115, s116, s117, s118, s119, s110, s120, s121, s20, s21] at e
            generalize a.tmps.getD 113 undef = u113 at e
            clear s111 s112 s114 s115 s116 s117 s118 s119 s110 s120 s121 s20 s21
            subst e
            have HX8 := hid (Ext.trans HX.out hx)
            have HS8 := hid g20
            have HRP := hid (HP0.out.later HX8.out)
            clear hx g20 g120 g110 g119 r117 r118 k118 m118 HX
            by_cases h8 : len2 = 8
            · subst h8
              go_wp2_with fail
              refine (block_any t (byL t.size kb) _ p20 a2 cap2 pb _ HS8.out (HG.out.later HX8.out) HRP.out HC2.out HC2M.out).mono ?_
              rintro e w9 ⟨v22, rfl, ho, hx9⟩
              obtain ⟨A22, c22, rfl, _, _, _⟩ := ho.rdm (n := 8) (blockL_length _ _ _ _)
              have HX9 := hid (Ext.trans HX8.out hx9)
              clear ho hx9 HX8 HS8 HRP
              go_wp2_with fail
              go_ret
              exact ⟨rfl, HX9.out⟩
            · go_wp2_with fail
              refine (block_bad p20 a2 len2 cap2 _ _ h8).mono ?_
              rintro e w9 ⟨rfl, hx9⟩
              have HX9 := hid (Ext.trans HX8.out hx9)
              clear hx9 HX8 HS8 HRP
              go_wp2_with fail
              go_ret
              exact ⟨rfl, HX9.out⟩
end Go.Proofs.YtgkfohgeelfceaaDoor
