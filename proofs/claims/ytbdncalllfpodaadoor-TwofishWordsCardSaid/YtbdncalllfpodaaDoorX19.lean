/- Walk over mixed of the program; own lemmas of the verifier, no statement is proved here. -/
import Derived.Test.YtbdncalllfpodaaDoorX18
namespace Go.Proofs.YtbdncalllfpodaaDoor
open Go.RowKit
/-- The program's Twofish: forty words, and H's words. -/
structure TwoAt (w : World) (p : Nat) (ks ss : List UInt32) (A : Option Addr) (n c : Nat) : Prop where
  key : ∀ j, j < 40 → w.cell? ⟨p, j, none⟩ = some (.int .u32 ((ks.getD j 0).toNat : Nat))
  row : w.cell? ⟨p, 40, none⟩ = some (.slice A n c)
  rd : RdN .u32 w w.heap.size A n (nW ss)
  two : 2 ≤ n
  four : n ≤ 4
theorem TwoAt.later {w w' : World} {p n c : Nat} {ks ss : List UInt32} {A : Option Addr} (h : TwoAt w p ks ss A n c) (hx : Ext w w') : TwoAt w' p ks ss A n c :=
  ⟨fun j hj => cell_at hx (h.key j hj), cell_at hx h.row, h.rd.later hx, h.two, h.four⟩
def IsTwo (w : World) (p : Nat) (ks ss : List UInt32) : Prop := ∃ A n c, TwoAt w p ks ss A n c
theorem IsTwo.later {w w' : World} {p : Nat} {ks ss : List UInt32} (h : IsTwo w p ks ss) (hx : Ext w w') : IsTwo w' p ks ss := by
  obtain ⟨A, n, c, h⟩ := h
  exact ⟨A, n, c, h.later hx⟩
theorem retE {w : World} {v : Value} (e : Ending) (w' : World) (h : e = .returned v ∧ w = w') : ∃ u, e = .returned u ∧ Ext w w' ∧ K.holds (.eq v) w' u := by
  obtain ⟨rfl, rfl⟩ := h
  exact ⟨_, rfl, Ext.refl _, rfl⟩
theorem retX {w : World} {v : Value} (e : Ending) (w' : World) (h : e = .returned v ∧ Ext w w') : ∃ u, e = .returned u ∧ Ext w w' ∧ K.holds (.eq v) w' u := by
  obtain ⟨rfl, hx⟩ := h
  exact ⟨_, rfl, hx, rfl⟩
theorem arr74_l (g l : Nat) (w : World) (hl : l < 40) :
    (Instr.sliceAt 74 (.pointer (some ⟨g, 0, none⟩)) (some (.int .i64 (l : Int))) none none).run Tryd.prog w = .ok (.slice (some ⟨g, l, none⟩) (40 - l) (40 - l)) w := by
  have hN : Tryd.prog.arrayLen 74 = 40 := by kernel_rfl
  have hs : (sizeOf (Tryd.prog.elem 74)).run Tryd.prog w = .ok 1 w := by kernel_rfl
  rw [run_sliceAt_array_l w 74 ⟨g, 0, none⟩ (by kernel_rfl) .i64 l (by omega) (by rw [hN]; omega), hs, hN]
  simp only [Result.andThen, slicedAt, Int.toNat_natCast]
  rw [if_neg (by omega)]
  simp [add_off]
theorem arr74_lh (g l h : Nat) (w : World) (hl : l < 40) (hh : h ≤ 40) (hlh : l ≤ h) :
    (Instr.sliceAt 74 (.pointer (some ⟨g, 0, none⟩)) (some (.int .i64 (l : Int))) (some (.int .i64 (h : Int))) none).run Tryd.prog w = .ok (.slice (some ⟨g, l, none⟩) (h - l) (40 - l)) w := by
  have hN : Tryd.prog.arrayLen 74 = 40 := by kernel_rfl
  have hs : (sizeOf (Tryd.prog.elem 74)).run Tryd.prog w = .ok 1 w := by kernel_rfl
  rw [run_sliceAt_array_lh w 74 ⟨g, 0, none⟩ (by kernel_rfl) .i64 .i64 l h (by omega) (by omega) (by rw [hN]; omega), hs, hN]
  simp only [Result.andThen, slicedAt, Int.toNat_natCast]
  rw [if_neg (by omega)]
  simp [add_off]
theorem cf16 (vs : Array Value) (w : World) : (callFunc 16 vs).run Tryd.prog w = .ok (.enter 16 vs) w := by go_simp
theorem cf45 (vs : Array Value) (w : World) : (callFunc 45 vs).run Tryd.prog w = .ok (.enter 45 vs) w := by go_simp
def mxK (p n c : Nat) (A : Option Addr) (x y yr h1 h2 : UInt32) : List K := [.eq (.int .u32 (x.toNat : Nat)), .eq (.pointer (some ⟨p, 0, none⟩)), .eq (.pointer (some ⟨p, 0, none⟩)), .eq (.pointer (some ⟨p, 40, none⟩)), .eq (.slice A n c), .eq (.int .u32 (h1.toNat : Nat)), .eq (.int .u32 (y.toNat : Nat)), .eq (.int .u32 (yr.toNat : Nat)), .eq (.pointer (some ⟨p, 0, none⟩)), .eq (.pointer (some ⟨p, 0, none⟩)), .eq (.pointer (some ⟨p, 40, none⟩)), .eq (.slice A n c), .eq (.int .u32 (h2.toNat : Nat)), .eq (.int .u32 (h1.toNat : Nat)), .eq (.int .u32 (h2.toNat : Nat))]
set_option maxRecDepth 100000 in
set_option maxHeartbeats 4000000 in
theorem mixed_any (p n c i : Nat) (x y : UInt32) (ks ss : List UInt32) (A : Option Addr) (w : World) (hG : GT w) (hT : TwoAt w p ks ss A n c) (hi : i < 16) :
    Calls Tryd.prog 49 #[.pointer (some ⟨p, 0, none⟩), .int .u32 (x.toNat : Nat), .int .u32 (y.toNat : Nat), .int .i64 i] w fun e w' => e = .returned (.tuple #[.int .u32 ((mF ks ss x y i).toNat : Nat), .int .u32 ((mG ks ss x y i).toNat : Nat)]) ∧ Ext w w' := by
  have hF : mF ks ss x y i = HW x ss + HW (rolI y 8) ss + ks.getD (8 + 2 * i) 0 := rfl
  have hGG : mG ks ss x y i = HW x ss + 2 * HW (rolI y 8) ss + ks.getD (9 + 2 * i) 0 := rfl
  have ck0 := fun w (h : TwoAt w p ks ss A n c) => h.key (8 + 2 * i) (by omega)
  have ck1 := fun w (h : TwoAt w p ks ss A n c) => h.key (9 + 2 * i) (by omega)
  obtain ⟨k0, hk0⟩ : ∃ k0, ks.getD (8 + 2 * i) 0 = k0 := ⟨_, rfl⟩
  obtain ⟨k1, hk1⟩ : ∃ k1, ks.getD (9 + 2 * i) 0 = k1 := ⟨_, rfl⟩
  rw [hk0] at ck0 hF
  rw [hk1] at ck1 hGG
  obtain ⟨yr, hyr⟩ : ∃ yr, rolI y 8 = yr := ⟨_, rfl⟩
  rw [hyr] at hF hGG
  have ha := fun w hG (h : TwoAt w p ks ss A n c) => h_any x ss A n c w hG h.rd h.two h.four
  have hb := fun w hG (h : TwoAt w p ks ss A n c) => h_any yr ss A n c w hG h.rd h.two h.four
  have hro := fun w => rol_w y 8 w
  rw [hyr] at hro
  obtain ⟨h1, hh1⟩ : ∃ h1, HW x ss = h1 := ⟨_, rfl⟩
  obtain ⟨h2, hh2⟩ : ∃ h2, HW yr ss = h2 := ⟨_, rfl⟩
  rw [hh1] at ha hF hGG
  rw [hh2] at hb hF hGG
  have e1 := w_add h1 h2
  have e2 := w_add (h1 + h2) k0
  have e3 := w_two h2
  have e4 := w_add h1 (2 * h2)
  have e5 := w_add (h1 + 2 * h2) k1
  rw [← hF] at e2
  rw [← hGG] at e5
  obtain ⟨r1, hr1⟩ : ∃ r, mF ks ss x y i = r := ⟨_, rfl⟩
  obtain ⟨r2, hr2⟩ : ∃ r, mG ks ss x y i = r := ⟨_, rfl⟩
  rw [hr1] at e2 ⊢
  rw [hr2] at e5 ⊢
  obtain ⟨s1, hs1⟩ : ∃ s, h1 + h2 = s := ⟨_, rfl⟩
  obtain ⟨d2, hd2⟩ : ∃ s, 2 * h2 = s := ⟨_, rfl⟩
  rw [hs1] at e1 e2
  rw [hd2] at e3 e4 e5
  obtain ⟨s2, hs2⟩ : ∃ s, h1 + d2 = s := ⟨_, rfl⟩
  rw [hs2] at e4 e5
  have HE := hid (And.intro e1 (And.intro e2 (And.intro e3 (And.intro e4 e5))))
  have HC := hid (And.intro ck0 ck1)
  have HA := hid ha
  have HBB := hid hb
  have HRO := hid hro
  have HT := hid hT
  have HG := hid hG
  have HI := hid hi
  clear e1 e2 e3 e4 e5 ck0 ck1 ha hb hro hT hG hF hGG hk0 hk1 hyr hh1 hh2 hr1 hr2 hs1 hs2 hd2 hi
  go_enter Tryd.func49, Tryd.ntmps49
  go_wp2_with fail
  refine region_upto 13 mixed rfl (by kernel_rfl) (by kernel_rfl) (by kernel_rfl) (kV (mxK p n c A x y yr h1 h2)) (kV_keep _) (forall_ops ⟨?_, ?_, ?_, ?_, ?_, ?_, ?_, ?_, ?_, ?_, ?_, ?_, ?_, trivial⟩) ?_
  · intro a w hk
    have s1 : a.tmps.getD 1 undef = .int .u32 (x.toNat : Nat) := hk.was 1 (by kernel_rfl) rfl
    exact step_move rfl rfl s1 rfl
  · intro a w hk
    have s0 : a.tmps.getD 0 undef = .pointer (some ⟨p, 0, none⟩) := hk.was 0 (by kernel_rfl) rfl
    exact step_move rfl rfl s0 rfl
  · intro a w hk
    have s14 := hk.eq_ 1 14 (by kernel_rfl) rfl
    refine step_val (v := .pointer (some ⟨p, 0, none⟩)) (w' := w) rfl ?_ (Ext.refl w) rfl
    go_simp
  · intro a w hk
    have s15 := hk.eq_ 2 15 (by kernel_rfl) rfl
    refine step_val (v := .pointer (some ⟨p, 40, none⟩)) (w' := w) rfl ?_ (Ext.refl w) rfl
    go_simp
  · intro a w hk
    have s16 := hk.eq_ 3 16 (by kernel_rfl) rfl
    refine step_val (v := .slice A n c) (w' := w) rfl ?_ (Ext.refl w) rfl
    have hc := (HT.out.later hk.ext).row
    go_simp
  · intro a w hk
    have s13 := hk.eq_ 0 13 (by kernel_rfl) rfl
    have s17 := hk.eq_ 4 17 (by kernel_rfl) rfl
    exact step_call rfl rfl (by simp only [List.map_toArray, List.map_cons, List.map_nil, Act.eval, s13, s17] <;> rfl) cf16 (HA.out w (HG.out.later hk.ext) (HT.out.later hk.ext)) (fun e w1 h => retX e w1 h)
  · intro a w hk
    have s2 : a.tmps.getD 2 undef = .int .u32 (y.toNat : Nat) := hk.was 2 (by kernel_rfl) rfl
    exact step_move rfl rfl s2 rfl
  · intro a w hk
    have s19 := hk.eq_ 6 19 (by kernel_rfl) rfl
    exact step_call rfl rfl (by simp only [List.map_toArray, List.map_cons, List.map_nil, Act.eval, s19] <;> rfl) cf45 (HRO.out w) (fun e w1 h => retE e w1 h)
  · intro a w hk
    have s0 : a.tmps.getD 0 undef = .pointer (some ⟨p, 0, none⟩) := hk.was 0 (by kernel_rfl) rfl
    exact step_move rfl rfl s0 rfl
  · intro a w hk
    have s21 := hk.eq_ 8 21 (by kernel_rfl) rfl
    refine step_val (v := .pointer (some ⟨p, 0, none⟩)) (w' := w) rfl ?_ (Ext.refl w) rfl
    go_simp
  · intro a w hk
    have s22 := hk.eq_ 9 22 (by kernel_rfl) rfl
    refine step_val (v := .pointer (some ⟨p, 40, none⟩)) (w' := w) rfl ?_ (Ext.refl w) rfl
    go_simp
  · intro a w hk
    have s23 := hk.eq_ 10 23 (by kernel_rfl) rfl
    refine step_val (v := .slice A n c) (w' := w) rfl ?_ (Ext.refl w) rfl
    have hc := (HT.out.later hk.ext).row
    go_simp
  · intro a w hk
    have s20 := hk.eq_ 7 20 (by kernel_rfl) rfl
    have s24 := hk.eq_ 11 24 (by kernel_rfl) rfl
    exact step_call rfl rfl (by simp only [List.map_toArray, List.map_cons, List.map_nil, Act.eval, s20, s24] <;> rfl) cf16 (HBB.out w (HG.out.later hk.ext) (HT.out.later hk.ext)) (fun e w1 h => retX e w1 h)
  · intro a w1 hf
    have s13 := hf.eq_ 0 13 (by kernel_rfl) rfl
    have s14 := hf.eq_ 1 14 (by kernel_rfl) rfl
    have s15 := hf.eq_ 2 15 (by kernel_rfl) rfl
    have s16 := hf.eq_ 3 16 (by kernel_rfl) rfl
    have s17 := hf.eq_ 4 17 (by kernel_rfl) rfl
    have s18 := hf.eq_ 5 18 (by kernel_rfl) rfl
    have s19 := hf.eq_ 6 19 (by kernel_rfl) rfl
    have s20 := hf.eq_ 7 20 (by kernel_rfl) rfl
    have s21 := hf.eq_ 8 21 (by kernel_rfl) rfl
    have s22 := hf.eq_ 9 22 (by kernel_rfl) rfl
    have s23 := hf.eq_ 10 23 (by kernel_rfl) rfl
    have s24 := hf.eq_ 11 24 (by kernel_rfl) rfl
    have s25 := hf.eq_ 12 25 (by kernel_rfl) rfl
    have hx := hf.ext
    have e := hf.frame
    clear hf
    simp only [List.take_succ_cons, List.take_zero, regFrame, Act.put, List.setIfInBounds_toArray, List.set_cons_zero, List.set_cons_succ, s13, s14, s15, s16, s17, s18, s19, s20, s21, s22, s23, s24, s25] at e
    clear s13 s14 s15 s16 s17 s18 s19 s20 s21 s22 s23 s24 s25
    subst e
    simp only [List.drop_succ_cons, List.drop_zero]
    have HT2 := hid (HT.out.later hx)
    have HX := hid hx
    have hi := HI.out
    obtain ⟨q, hq⟩ : ∃ q, 8 + 2 * i = q := ⟨_, rfl⟩
    have hc0 := HC.out.1 _ HT2.out
    have hc1 := HC.out.2 _ HT2.out
    rw [hq] at hc0
    rw [show 9 + 2 * i = q + 1 by omega] at hc1
    have hsl : ∀ w, (Instr.sliceAt 74 (.pointer (some ⟨p, 0, none⟩)) (some (.int .i64 (8 + (i : Int) * 2))) none none).run Tryd.prog w = .ok (.slice (some ⟨p, q, none⟩) (40 - q) (40 - q)) w := fun w => by
      have := arr74_l p q w (by omega)
      rw [show ((q : Nat) : Int) = 8 + (i : Int) * 2 by omega] at this
      exact this
    obtain ⟨m, hm⟩ : ∃ m, 40 - q = m := ⟨_, rfl⟩
    rw [hm] at hsl
    have h0m : (0 : Int) < (m : Int) := by omega
    have h1m : (1 : Int) < (m : Int) := by omega
    have HSL := hid hsl
    have hi16 : (i : Int) < 16 := by omega
    have l1 := wlt h1
    have l2 := wlt h2
    obtain ⟨e1, e2, e3, e4, e5⟩ := HE.out
    clear hx hq hm hsl
    go_wp2_with (rw [HSL.out]; simp only [Result.andThen]; rw [Oper.upon_value])
    go_quiet (fail)
    rw [e2, e5]
    have HQX := hid (HX.out.drewN nq)
    clear e1 e2 e3 e4 e5
    go_wp2_with fail
    go_ret2
    exact ⟨rfl, HQX.out⟩
end Go.Proofs.YtbdncalllfpodaaDoor
