/- Walks over turn and turnBack of the program; own lemmas of the verifier, no statement is proved here. -/
import Derived.Test.YtbdncalllfpodaaDoorX19
namespace Go.Proofs.YtbdncalllfpodaaDoor
open Go.RowKit
theorem exec_load77 {o : Oper} {a : Act} {w : World} {t : Tmp} {B : Nat} {x : W4} (ho : o.op = .load 77 (.tmp t)) (ht : a.tmps.getD t undef = .pointer (some ⟨B, 0, none⟩)) (hA : V4 w B x) :
    (execOp a.eval o).run Tryd.prog w = .ok (.value (.agg x.cells)) w := by
  have h := run_loadVar_row (P := Tryd.prog) w B 77 77 x.cells (0, 0) _ hA Tryd.underlying77 rfl (W4.size x)
  unfold execOp
  simp only [ho, Act.eval, ht, Instr.loadAt, Instr.sureAddr, Sem.run_bind, Sem.run_pure, Result.andThen_ok, h]
theorem arr74_4 (g : Nat) (w : World) :
    (Instr.sliceAt 74 (.pointer (some ⟨g, 0, none⟩)) none (some (.int .i64 4)) none).run Tryd.prog w = .ok (.slice (some ⟨g, 0, none⟩) 4 40) w := by
  have hN : Tryd.prog.arrayLen 74 = 40 := by kernel_rfl
  have hs : (sizeOf (Tryd.prog.elem 74)).run Tryd.prog w = .ok 1 w := by kernel_rfl
  have e := run_sliceAt_array_h (P := Tryd.prog) w 74 ⟨g, 0, none⟩ (by kernel_rfl) .i64 4 (by omega) (by rw [hN]; omega)
  rw [hs, hN] at e
  refine e.trans ?_
  simp [Result.andThen, slicedAt, add_off]
theorem arr74_48 (g : Nat) (w : World) :
    (Instr.sliceAt 74 (.pointer (some ⟨g, 0, none⟩)) (some (.int .i64 4)) (some (.int .i64 8)) none).run Tryd.prog w = .ok (.slice (some ⟨g, 4, none⟩) 4 36) w :=
  arr74_lh g 4 8 w (by omega) (by omega) (by omega)
theorem cf47 (vs : Array Value) (w : World) : (callFunc 47 vs).run Tryd.prog w = .ok (.enter 47 vs) w := by go_simp
theorem cf48 (vs : Array Value) (w : World) : (callFunc 48 vs).run Tryd.prog w = .ok (.enter 48 vs) w := by go_simp
def iAt (k : Nat) (a : Act) : Nat := match a.tmps.getD k undef with | .int _ q => q.toNat | _ => 0
structure TurnS (p n c : Nat) (A : Option Addr) (ks ss : List UInt32) (G : Nat) (y : W4) (w w1 : World) : Prop where
  ext : Ext w w1
  two : TwoAt w1 p ks ss A n c
  at_ : V4 w1 G y
  res : V4 w1 (G + 1) ⟨0, 0, 0, 0⟩
  tab : GT w1
def TurnJ (p n c : Nat) (A : Option Addr) (ks ss : List UInt32) (x : W4) (G : Nat) (w : World) (a : Act) (w1 : World) : Prop :=
  ∃ (i : Nat) (y : W4) (u6 u7 u8 u9 u10 u11 u12 u13 u14 u15 u16 u17 u18 u19 u20 u21 u22 u23 u24 u25 u26 u27 u28 u29 u30 u31 u32 u33 u34 u35 u36 u37 u38 u39 u40 u41 u42 u43 u44 u45 u46 u47 u48 u49 : Value),
    a = { tmps := #[.pointer (some ⟨p, 0, none⟩), .agg x.cells, undef, .pointer (some ⟨G, 0, none⟩), .pointer (some ⟨G + 1, 0, none⟩), .int .i64 i, u6, u7, u8, u9, u10, u11, u12, u13, u14, u15, u16, u17, u18, u19, u20, u21, u22, u23, u24, u25, u26, u27, u28, u29, u30, u31, u32, u33, u34, u35, u36, u37, u38, u39, u40, u41, u42, u43, u44, u45, u46, u47, u48, u49], defers := [] } ∧ i ≤ 16 ∧
    y = fwd ks ss (x.xor ks 0) i ∧ TurnS p n c A ks ss G y w w1
def ta1 (p : Nat) (x : W4) (ks : List UInt32) : List K := [.eq (.agg x.cells), .eq (.pointer (some ⟨p, 0, none⟩)), .eq (.pointer (some ⟨p, 0, none⟩)), .eq (.pointer (some ⟨p, 0, none⟩)), .eq (.slice (some ⟨p, 0, none⟩) 4 40), .eq (.agg ((x).xor ks 0).cells), .any]
def ta5 (G : Nat) (y : W4) (f g n1 n2 n3 n4 : UInt32) : List K := [.eq (.pointer (some ⟨G, 2, none⟩)), .eq (.int .u32 ((y.c).toNat : Nat)), .eq (.int .u32 (f.toNat : Nat)), .eq (.int .u32 ((n1).toNat : Nat)), .eq (.int .u32 ((n2).toNat : Nat)), .eq (.pointer (some ⟨G, 3, none⟩)), .eq (.int .u32 ((y.d).toNat : Nat)), .eq (.int .u32 ((n3).toNat : Nat)), .eq (.int .u32 (g.toNat : Nat)), .eq (.int .u32 ((n4).toNat : Nat)), .eq (.pointer (some ⟨G, 0, none⟩)), .eq (.int .u32 ((y.a).toNat : Nat)), .eq (.pointer (some ⟨G, 1, none⟩)), .eq (.int .u32 ((y.b).toNat : Nat)), .eq (.agg (W4.mk n2 n4 y.a y.b).cells), .any]
def ta7 (p : Nat) (y : W4) (ks : List UInt32) : List K := [.eq (.agg y.cells), .eq (.agg y.cross.cells), .eq (.pointer (some ⟨p, 0, none⟩)), .eq (.pointer (some ⟨p, 0, none⟩)), .eq (.pointer (some ⟨p, 0, none⟩)), .eq (.slice (some ⟨p, 4, none⟩) 4 36), .eq (.agg ((y.cross).xor ks 4).cells), .any]
set_option maxRecDepth 100000 in
set_option maxHeartbeats 4000000 in
theorem turn_any (p n c : Nat) (A : Option Addr) (ks ss : List UInt32) (x : W4) (w : World) (hG : GT w) (hT : TwoAt w p ks ss A n c) :
    Calls Tryd.prog 40 #[.pointer (some ⟨p, 0, none⟩), .agg x.cells] w (RetV w (thereW ks ss x)) := by
  have h1 := heap_alloc2_old w (.cells x.cells 77) (.cells #[.int .u32 0, .int .u32 0, .int .u32 0, .int .u32 0] 77)
  have h2 := heap_alloc2_new w (.cells x.cells 77) (.cells #[.int .u32 0, .int .u32 0, .int .u32 0, .int .u32 0] 77)
  have h3 := (Ext.alloc w (.cells x.cells 77)).trans (Ext.alloc _ (.cells #[.int .u32 0, .int .u32 0, .int .u32 0, .int .u32 0] 77))
  have HT0 := hid hT
  have HG0 := hid hG
  clear hT hG
  go_enter Tryd.func40, Tryd.ntmps40
  go_wp2_with fail
  refine wp_scope_jumps2 0 (TurnJ p n c A ks ss x w.heap.size w) (fun a _ => 16 - iAt 5 a) rfl ?_ ?_
  · clear h1 h2 h3
    obtain ⟨G, hGe⟩ : ∃ G, w.heap.size = G := ⟨_, rfl⟩
    rw [hGe]
    have HGE := hid hGe
    clear hGe
    rintro a w1 ⟨i, y, u6, u7, u8, u9, u10, u11, u12, u13, u14, u15, u16, u17, u18, u19, u20, u21, u22, u23, u24, u25, u26, u27, u28, u29, u30, u31, u32, u33, u34, u35, u36, u37, u38, u39, u40, u41, u42, u43, u44, u45, u46, u47, u48, u49, rfl, hi, hy, hS⟩
    have HX := hid hS.ext
    have HT := hid hS.two
    have HB := hid hS.at_
    have HRS := hid hS.res
    have HGT := hid hS.tab
    clear hS
    by_cases hlt : i < 16
    · have HST := hid (show fwd ks ss (x.xor ks 0) (i + 1) = ⟨rolI (y.c ^^^ mF ks ss y.a y.b i) (-1), rolI y.d 1 ^^^ mG ks ss y.a y.b i, y.a, y.b⟩ by rw [fwd_succ, ← hy]; rfl)
      have HM := hid (mixed_any p n c i y.a y.b ks ss A w1 HGT.out HT.out hlt)
      obtain ⟨f, hf⟩ : ∃ f, mF ks ss y.a y.b i = f := ⟨_, rfl⟩
      obtain ⟨g, hg⟩ : ∃ g, mG ks ss y.a y.b i = g := ⟨_, rfl⟩
      rw [hf] at HM HST
      rw [hg] at HM HST
      obtain ⟨n1, hn1⟩ : ∃ z, y.c ^^^ f = z := ⟨_, rfl⟩
      have hx1 := w_xor y.c f
      have hr1 := fun w => rol_w n1 (-1) w
      have hr2 := fun w => rol_w y.d 1 w
      rw [hn1] at HST hx1
      obtain ⟨n2, hn2⟩ : ∃ z, rolI n1 (-1) = z := ⟨_, rfl⟩
      obtain ⟨n3, hn3⟩ : ∃ z, rolI y.d 1 = z := ⟨_, rfl⟩
      rw [hn2] at HST hr1
      rw [hn3] at HST hr2
      have hx2 := w_xor n3 g
      obtain ⟨n4, hn4⟩ : ∃ z, n3 ^^^ g = z := ⟨_, rfl⟩
      rw [hn4] at HST hx2
      have HX1 := hid hx1
      have HX2 := hid hx2
      have HR1 := hid hr1
      have HR2 := hid hr2
      have HI := hid hlt
      have c0 := HB.out.c0
      have c1 := HB.out.c1
      clear hf hg hn1 hn2 hn3 hn4 hx1 hx2 hr1 hr2 hy hi
      go_wp2_with fail
      refine HM.out.mono ?_
      rintro e w2 ⟨rfl, hx2⟩
      have HX := hid (Ext.trans HX.out hx2)
      have HT := hid (HT.out.later hx2)
      have HB := hid (HB.out.later hx2)
      have HRS := hid (HRS.out.later hx2)
      have HGT := hid (HGT.out.later hx2)
      clear hx2 c0 c1 HM
      go_wp2_with fail
      refine region_upto 15 mixed rfl (by kernel_rfl) (by kernel_rfl) (by kernel_rfl) (kV (ta5 G y f g n1 n2 n3 n4)) (kV_keep _) (forall_ops ⟨?_, ?_, ?_, ?_, ?_, ?_, ?_, ?_, ?_, ?_, ?_, ?_, ?_, ?_, ?_, trivial⟩) ?_
      · intro a w hk
        have s3 : a.tmps.getD 3 undef = .pointer (some ⟨G, 0, none⟩) := hk.was 3 (by kernel_rfl) rfl
        refine step_val (v := .pointer (some ⟨G, 2, none⟩)) (w' := w) rfl ?_ (Ext.refl w) rfl
        go_simp
      · intro a w hk
        have s26 := hk.eq_ 0 26 (by kernel_rfl) rfl
        refine step_val (v := .int .u32 ((y.c).toNat : Nat)) (w' := w) rfl ?_ (Ext.refl w) rfl
        have hc := (HB.out.later hk.ext).c2
        go_simp
      · intro a w hk
        have s6 : a.tmps.getD 6 undef = .int .u32 (f.toNat : Nat) := hk.was 6 (by kernel_rfl) rfl
        exact step_move rfl rfl s6 rfl
      · intro a w hk
        have s27 := hk.eq_ 1 27 (by kernel_rfl) rfl
        have s28 := hk.eq_ 2 28 (by kernel_rfl) rfl
        refine step_val (v := .int .u32 ((n1).toNat : Nat)) (w' := w) rfl ?_ (Ext.refl w) rfl
        have hz := HX1.out
        go_simp
      · intro a w hk
        have s29 := hk.eq_ 3 29 (by kernel_rfl) rfl
        exact step_call rfl rfl (by simp only [List.map_toArray, List.map_cons, List.map_nil, Act.eval, s29] <;> rfl) cf45 (HR1.out w) (fun e w3 h => retE e w3 h)
      · intro a w hk
        have s3 : a.tmps.getD 3 undef = .pointer (some ⟨G, 0, none⟩) := hk.was 3 (by kernel_rfl) rfl
        refine step_val (v := .pointer (some ⟨G, 3, none⟩)) (w' := w) rfl ?_ (Ext.refl w) rfl
        go_simp
      · intro a w hk
        have s31 := hk.eq_ 5 31 (by kernel_rfl) rfl
        refine step_val (v := .int .u32 ((y.d).toNat : Nat)) (w' := w) rfl ?_ (Ext.refl w) rfl
        have hc := (HB.out.later hk.ext).c3
        go_simp
      · intro a w hk
        have s32 := hk.eq_ 6 32 (by kernel_rfl) rfl
        exact step_call rfl rfl (by simp only [List.map_toArray, List.map_cons, List.map_nil, Act.eval, s32] <;> rfl) cf45 (HR2.out w) (fun e w3 h => retE e w3 h)
      · intro a w hk
        have s7 : a.tmps.getD 7 undef = .int .u32 (g.toNat : Nat) := hk.was 7 (by kernel_rfl) rfl
        exact step_move rfl rfl s7 rfl
      · intro a w hk
        have s33 := hk.eq_ 7 33 (by kernel_rfl) rfl
        have s34 := hk.eq_ 8 34 (by kernel_rfl) rfl
        refine step_val (v := .int .u32 ((n4).toNat : Nat)) (w' := w) rfl ?_ (Ext.refl w) rfl
        have hz := HX2.out
        go_simp
      · intro a w hk
        have s3 : a.tmps.getD 3 undef = .pointer (some ⟨G, 0, none⟩) := hk.was 3 (by kernel_rfl) rfl
        refine step_val (v := .pointer (some ⟨G, 0, none⟩)) (w' := w) rfl ?_ (Ext.refl w) rfl
        go_simp
      · intro a w hk
        have s36 := hk.eq_ 10 36 (by kernel_rfl) rfl
        refine step_val (v := .int .u32 ((y.a).toNat : Nat)) (w' := w) rfl ?_ (Ext.refl w) rfl
        have hc := (HB.out.later hk.ext).c0
        go_simp
      · intro a w hk
        have s3 : a.tmps.getD 3 undef = .pointer (some ⟨G, 0, none⟩) := hk.was 3 (by kernel_rfl) rfl
        refine step_val (v := .pointer (some ⟨G, 1, none⟩)) (w' := w) rfl ?_ (Ext.refl w) rfl
        go_simp
      · intro a w hk
        have s38 := hk.eq_ 12 38 (by kernel_rfl) rfl
        refine step_val (v := .int .u32 ((y.b).toNat : Nat)) (w' := w) rfl ?_ (Ext.refl w) rfl
        have hc := (HB.out.later hk.ext).c1
        go_simp
      · intro a w hk
        have s30 := hk.eq_ 4 30 (by kernel_rfl) rfl
        have s35 := hk.eq_ 9 35 (by kernel_rfl) rfl
        have s37 := hk.eq_ 11 37 (by kernel_rfl) rfl
        have s39 := hk.eq_ 13 39 (by kernel_rfl) rfl
        refine step_val (v := .agg (W4.mk n2 n4 y.a y.b).cells) (w' := w) rfl ?_ (Ext.refl w) rfl
        have e := build77 n2 n4 y.a y.b w
        simp only [execOp, Act.eval, List.map_toArray, List.map_cons, List.map_nil, s30, s35, s37, s39, Sem.run_bind, e, Sem.run_pure, Result.andThen]
      · intro a w3 hf
        have s26 := hf.eq_ 0 26 (by kernel_rfl) rfl
        have s27 := hf.eq_ 1 27 (by kernel_rfl) rfl
        have s28 := hf.eq_ 2 28 (by kernel_rfl) rfl
        have s29 := hf.eq_ 3 29 (by kernel_rfl) rfl
        have s30 := hf.eq_ 4 30 (by kernel_rfl) rfl
        have s31 := hf.eq_ 5 31 (by kernel_rfl) rfl
        have s32 := hf.eq_ 6 32 (by kernel_rfl) rfl
        have s33 := hf.eq_ 7 33 (by kernel_rfl) rfl
        have s34 := hf.eq_ 8 34 (by kernel_rfl) rfl
        have s35 := hf.eq_ 9 35 (by kernel_rfl) rfl
        have s36 := hf.eq_ 10 36 (by kernel_rfl) rfl
        have s37 := hf.eq_ 11 37 (by kernel_rfl) rfl
        have s38 := hf.eq_ 12 38 (by kernel_rfl) rfl
        have s39 := hf.eq_ 13 39 (by kernel_rfl) rfl
        have s40 := hf.eq_ 14 40 (by kernel_rfl) rfl
        have hx := hf.ext
        have e := hf.frame
        clear hf
        simp only [List.take_succ_cons, List.take_zero, regFrame, Act.put, List.setIfInBounds_toArray, List.set_cons_zero, List.set_cons_succ, s26, s27, s28, s29, s30, s31, s32, s33, s34, s35, s36, s37, s38, s39, s40] at e
        clear s26 s27 s28 s29 s30 s31 s32 s33 s34 s35 s36 s37 s38 s39 s40
        subst e
        simp only [List.drop_succ_cons, List.drop_zero]
        have HB3 := hid (HB.out.later hx)
        have HB4 := hid ((HB.out.later hx).put ⟨n2, n4, y.a, y.b⟩)
        have HRS3 := hid ((HRS.out.later hx).putne G (W4.mk n2 n4 y.a y.b).cells (by omega))
        have HX3 := hid (Below.setRow_ (Ext.trans HX.out hx) (show w.heap.size ≤ G by have := HGE.out; omega) (W4.mk n2 n4 y.a y.b).cells)
        have HT3 := hid (HT0.out.later (show Ext w _ from HX3.out))
        have HG3 := hid (HG0.out.later (show Ext w _ from HX3.out))
        clear hx
        go_wp2_with (refine wpList_store_row rfl 77 (.tmp 3) (.tmp 40) rfl G (W4.mk n2 n4 y.a y.b).cells rfl rfl 77 _ HB3.out (W4.size _) rfl (W4.all _) ?_)
        (try go_step3)
        (try simp only [Exit.jump])
        refine ⟨rfl, ⟨i + 1, W4.mk n2 n4 y.a y.b, _, _, _, _, _, _, _, _, _, _, _, _, _, _, _, _, _, _, _, _, _, _, _, _, _, _, _, _, _, _, _, _, _, _, _, _, _, _, _, _, _, _, _, _, rfl, by omega, HST.out.symm, ⟨HX3.out, HT3.out, HB4.out, HRS3.out, HG3.out⟩⟩, ?_⟩
        have := HI.out; simp [iAt]; omega
    · obtain rfl : i = 16 := by omega
      have HY := hid (show (y.cross.xor ks 4) = thereW ks ss x by rw [hy]; rfl)
      have HGE2 := hid (show w.heap.size ≤ G + 1 by have := HGE.out; omega)
      clear hy hlt hi
      go_wp2_with fail
      refine region_upto 7 mixed rfl (by kernel_rfl) (by kernel_rfl) (by kernel_rfl) (kV (ta7 p y ks)) (kV_keep _) (forall_ops ⟨?_, ?_, ?_, ?_, ?_, ?_, ?_, trivial⟩) ?_
      · intro a w hk
        have s3 : a.tmps.getD 3 undef = .pointer (some ⟨G, 0, none⟩) := hk.was 3 (by kernel_rfl) rfl
        refine step_val (v := .agg (y).cells) (w' := w) rfl ?_ (Ext.refl w) rfl
        exact exec_load77 rfl s3 (HB.out.later hk.ext)
      · intro a w hk
        have s43 := hk.eq_ 0 43 (by kernel_rfl) rfl
        exact step_call rfl rfl (by simp only [List.map_toArray, List.map_cons, List.map_nil, Act.eval, s43] <;> rfl) cf47 (crossed_any y w) (fun e w3 h => retX e w3 h)
      · intro a w hk
        have s0 : a.tmps.getD 0 undef = .pointer (some ⟨p, 0, none⟩) := hk.was 0 (by kernel_rfl) rfl
        exact step_move rfl rfl s0 rfl
      · intro a w hk
        have s45 := hk.eq_ 2 45 (by kernel_rfl) rfl
        refine step_val (v := .pointer (some ⟨p, 0, none⟩)) (w' := w) rfl ?_ (Ext.refl w) rfl
        go_simp
      · intro a w hk
        have s46 := hk.eq_ 3 46 (by kernel_rfl) rfl
        refine step_val (v := .pointer (some ⟨p, 0, none⟩)) (w' := w) rfl ?_ (Ext.refl w) rfl
        go_simp
      · intro a w hk
        have s47 := hk.eq_ 4 47 (by kernel_rfl) rfl
        refine step_val (v := .slice (some ⟨p, 4, none⟩) 4 36) (w' := w) rfl ?_ (Ext.refl w) rfl
        have e := arr74_48 p w
        simp only [execOp, Act.eval, Option.map_some, Option.map_none, s47, Sem.run_bind, e, Sem.run_pure, Result.andThen]
      · intro a w hk
        have s44 := hk.eq_ 1 44 (by kernel_rfl) rfl
        have s48 := hk.eq_ 5 48 (by kernel_rfl) rfl
        exact step_call rfl rfl (by simp only [List.map_toArray, List.map_cons, List.map_nil, Act.eval, s44, s48] <;> rfl) cf48 (xored_any (y.cross) p 4 4 36 4 ks w (by omega) (fun i hi => (HT.out.later hk.ext).key _ (by omega))) (fun e w3 h => retX e w3 h)
      · intro a w3 hf
        have s43 := hf.eq_ 0 43 (by kernel_rfl) rfl
        have s44 := hf.eq_ 1 44 (by kernel_rfl) rfl
        have s45 := hf.eq_ 2 45 (by kernel_rfl) rfl
        have s46 := hf.eq_ 3 46 (by kernel_rfl) rfl
        have s47 := hf.eq_ 4 47 (by kernel_rfl) rfl
        have s48 := hf.eq_ 5 48 (by kernel_rfl) rfl
        have s49 := hf.eq_ 6 49 (by kernel_rfl) rfl
        have hx := hf.ext
        have e := hf.frame
        clear hf
        simp only [List.take_succ_cons, List.take_zero, regFrame, Act.put, List.setIfInBounds_toArray, List.set_cons_zero, List.set_cons_succ, s43, s44, s45, s46, s47, s48, s49] at e
        clear s43 s44 s45 s46 s47 s48 s49
        subst e
        simp only [List.drop_succ_cons, List.drop_zero]
        have HR2 := hid (HRS.out.later hx)
        have HR3 := hid ((HRS.out.later hx).put (y.cross.xor ks 4))
        have HX2 := hid (Below.setRow_ (Ext.trans HX.out hx) HGE2.out (y.cross.xor ks 4).cells)
        clear hx
        rw [HY.out] at HR3 HX2
        go_wp2_with (refine wpList_store_row rfl 77 (.tmp 4) (.tmp 49) rfl (G + 1) (y.cross.xor ks 4).cells rfl rfl 77 _ HR2.out (W4.size _) rfl (W4.all _) ?_)
        rw [HY.out]
        (try simp only [Exit.jump])
        exact ret_cell rfl rfl (G + 1) 77 _ (0, 0) rfl HR3.out Tryd.underlying77 (W4.size _) ⟨rfl, HX2.out⟩
  · intro hfirst
    obtain ⟨W1, hW1⟩ : ∃ W1, (w.alloc (.cells x.cells 77)).alloc (.cells #[.int .u32 0, .int .u32 0, .int .u32 0, .int .u32 0] 77) = W1 := ⟨_, rfl⟩
    rw [hW1] at h1 h2 h3
    obtain ⟨G, hGe⟩ : ∃ G, w.heap.size = G := ⟨_, rfl⟩
    have HB := hid (show V4 W1 G x by rw [← hGe]; exact h1)
    have HRes := hid (show V4 W1 (G + 1) ⟨0, 0, 0, 0⟩ by rw [← hGe]; exact h2)
    have HX := hid h3
    have HW := hid hW1
    have HGE := hid hGe
    clear h1 h2 h3 hW1
    go_wp2_with fail
    rw [HW.out]
    rw [hGe] at hfirst ⊢
    clear hGe HW
    have HT := hid (HT0.out.later HX.out)
    refine region_upto 6 mixed rfl (by kernel_rfl) (by kernel_rfl) (by kernel_rfl) (kV (ta1 p x ks)) (kV_keep _) (forall_ops ⟨?_, ?_, ?_, ?_, ?_, ?_, trivial⟩) ?_
    · intro a w hk
      have s3 : a.tmps.getD 3 undef = .pointer (some ⟨G, 0, none⟩) := hk.was 3 (by kernel_rfl) rfl
      refine step_val (v := .agg (x).cells) (w' := w) rfl ?_ (Ext.refl w) rfl
      exact exec_load77 rfl s3 (HB.out.later hk.ext)
    · intro a w hk
      have s0 : a.tmps.getD 0 undef = .pointer (some ⟨p, 0, none⟩) := hk.was 0 (by kernel_rfl) rfl
      exact step_move rfl rfl s0 rfl
    · intro a w hk
      have s9 := hk.eq_ 1 9 (by kernel_rfl) rfl
      refine step_val (v := .pointer (some ⟨p, 0, none⟩)) (w' := w) rfl ?_ (Ext.refl w) rfl
      go_simp
    · intro a w hk
      have s10 := hk.eq_ 2 10 (by kernel_rfl) rfl
      refine step_val (v := .pointer (some ⟨p, 0, none⟩)) (w' := w) rfl ?_ (Ext.refl w) rfl
      go_simp
    · intro a w hk
      have s11 := hk.eq_ 3 11 (by kernel_rfl) rfl
      refine step_val (v := .slice (some ⟨p, 0, none⟩) 4 40) (w' := w) rfl ?_ (Ext.refl w) rfl
      have e := arr74_4 p w
      simp only [execOp, Act.eval, Option.map_some, Option.map_none, s11, Sem.run_bind, e, Sem.run_pure, Result.andThen]
    · intro a w hk
      have s8 := hk.eq_ 0 8 (by kernel_rfl) rfl
      have s12 := hk.eq_ 4 12 (by kernel_rfl) rfl
      exact step_call rfl rfl (by simp only [List.map_toArray, List.map_cons, List.map_nil, Act.eval, s8, s12] <;> rfl) cf48 (xored_any (x) p 0 4 40 0 ks w (by omega) (fun i hi => (HT.out.later hk.ext).key _ (by omega))) (fun e w1 h => retX e w1 h)
    · intro a w1 hf
      have s8 := hf.eq_ 0 8 (by kernel_rfl) rfl
      have s9 := hf.eq_ 1 9 (by kernel_rfl) rfl
      have s10 := hf.eq_ 2 10 (by kernel_rfl) rfl
      have s11 := hf.eq_ 3 11 (by kernel_rfl) rfl
      have s12 := hf.eq_ 4 12 (by kernel_rfl) rfl
      have s13 := hf.eq_ 5 13 (by kernel_rfl) rfl
      have hx := hf.ext
      have e := hf.frame
      clear hf
      simp only [List.take_succ_cons, List.take_zero, regFrame, Act.put, List.setIfInBounds_toArray, List.set_cons_zero, List.set_cons_succ, s8, s9, s10, s11, s12, s13] at e
      clear s8 s9 s10 s11 s12 s13
      subst e
      simp only [List.drop_succ_cons, List.drop_zero]
      have HB1 := hid (HB.out.later hx)
      have HB2 := hid ((HB.out.later hx).put (x.xor ks 0))
      have HRes2 := hid (((HRes.out.later hx)).putne G (x.xor ks 0).cells (by omega))
      have hg := HGE.out
      have HX2 := hid (Below.setRow_ (Ext.trans HX.out hx) (by omega) (x.xor ks 0).cells : Below w.heap.size w (w1.setRow G (x.xor ks 0).cells))
      have HT2 := hid (HT0.out.later (show Ext w _ from HX2.out))
      have HG2 := hid (HG0.out.later (show Ext w _ from HX2.out))
      clear hg hx HX HB HRes HT
      go_wp2_with (refine wpList_store_row rfl 77 (.tmp 3) (.tmp 13) rfl G (x.xor ks 0).cells rfl rfl 77 _ HB1.out (W4.size _) rfl (W4.all _) ?_)
      go_step3
      simp only [Exit.then]
      rename_i hK
      refine hK _ _ ?_
      have HGE2 := HGE.out
      subst HGE2
      exact hfirst.out _ _ ⟨0, x.xor ks 0, _, _, _, _, _, _, _, _, _, _, _, _, _, _, _, _, _, _, _, _, _, _, _, _, _, _, _, _, _, _, _, _, _, _, _, _, _, _, _, _, _, _, _, _, rfl, by omega, rfl, ⟨HX2.out, HT2.out, HB2.out, HRes2.out, HG2.out⟩⟩
def BackJ (p n c : Nat) (A : Option Addr) (ks ss : List UInt32) (x : W4) (G : Nat) (w : World) (a : Act) (w1 : World) : Prop :=
  ∃ (i : Nat) (y : W4) (u6 u7 u8 u9 u10 u11 u12 u13 u14 u15 u16 u17 u18 u19 u20 u21 u22 u23 u24 u25 u26 u27 u28 u29 u30 u31 u32 u33 u34 u35 u36 u37 u38 u39 u40 u41 u42 u43 u44 u45 u46 u47 u48 u49 : Value),
    a = { tmps := #[.pointer (some ⟨p, 0, none⟩), .agg x.cells, undef, .pointer (some ⟨G, 0, none⟩), .pointer (some ⟨G + 1, 0, none⟩), .int .i64 ((16 - i : Nat) : Int), u6, u7, u8, u9, u10, u11, u12, u13, u14, u15, u16, u17, u18, u19, u20, u21, u22, u23, u24, u25, u26, u27, u28, u29, u30, u31, u32, u33, u34, u35, u36, u37, u38, u39, u40, u41, u42, u43, u44, u45, u46, u47, u48, u49], defers := [] } ∧ i ≤ 16 ∧
    y = bwd ks ss (x.xor ks 4).cross i ∧ TurnS p n c A ks ss G y w w1
def tz1 (p : Nat) (x : W4) (ks : List UInt32) : List K := [.eq (.agg x.cells), .eq (.pointer (some ⟨p, 0, none⟩)), .eq (.pointer (some ⟨p, 0, none⟩)), .eq (.pointer (some ⟨p, 0, none⟩)), .eq (.slice (some ⟨p, 4, none⟩) 4 36), .eq (.agg ((x).xor ks 4).cells), .eq (.agg (x.xor ks 4).cross.cells), .any]
def tz6 (G : Nat) (y : W4) (f g n1 n2 n3 n4 : UInt32) : List K := [.eq (.pointer (some ⟨G, 2, none⟩)), .eq (.int .u32 ((y.c).toNat : Nat)), .eq (.pointer (some ⟨G, 3, none⟩)), .eq (.int .u32 ((y.d).toNat : Nat)), .eq (.pointer (some ⟨G, 0, none⟩)), .eq (.int .u32 ((y.a).toNat : Nat)), .eq (.int .u32 ((n1).toNat : Nat)), .eq (.int .u32 (f.toNat : Nat)), .eq (.int .u32 ((n2).toNat : Nat)), .eq (.pointer (some ⟨G, 1, none⟩)), .eq (.int .u32 ((y.b).toNat : Nat)), .eq (.int .u32 (g.toNat : Nat)), .eq (.int .u32 ((n3).toNat : Nat)), .eq (.int .u32 ((n4).toNat : Nat)), .eq (.agg (W4.mk y.c y.d n2 n4).cells), .any]
def tz7 (p : Nat) (y : W4) (ks : List UInt32) : List K := [.eq (.agg y.cells), .eq (.pointer (some ⟨p, 0, none⟩)), .eq (.pointer (some ⟨p, 0, none⟩)), .eq (.pointer (some ⟨p, 0, none⟩)), .eq (.slice (some ⟨p, 0, none⟩) 4 40), .eq (.agg ((y).xor ks 0).cells), .any]
set_option maxRecDepth 100000 in
set_option maxHeartbeats 4000000 in
theorem turnBack_any (p n c : Nat) (A : Option Addr) (ks ss : List UInt32) (x : W4) (w : World) (hG : GT w) (hT : TwoAt w p ks ss A n c) :
    Calls Tryd.prog 39 #[.pointer (some ⟨p, 0, none⟩), .agg x.cells] w (RetV w (backW ks ss x)) := by
  have h1 := heap_alloc2_old w (.cells x.cells 77) (.cells #[.int .u32 0, .int .u32 0, .int .u32 0, .int .u32 0] 77)
  have h2 := heap_alloc2_new w (.cells x.cells 77) (.cells #[.int .u32 0, .int .u32 0, .int .u32 0, .int .u32 0] 77)
  have h3 := (Ext.alloc w (.cells x.cells 77)).trans (Ext.alloc _ (.cells #[.int .u32 0, .int .u32 0, .int .u32 0, .int .u32 0] 77))
  have HT0 := hid hT
  have HG0 := hid hG
  clear hT hG
  go_enter Tryd.func39, Tryd.ntmps39
  go_wp2_with fail
  refine wp_scope_jumps2 0 (BackJ p n c A ks ss x w.heap.size w) (fun a _ => iAt 5 a) rfl ?_ ?_
  · clear h1 h2 h3
    obtain ⟨G, hGe⟩ : ∃ G, w.heap.size = G := ⟨_, rfl⟩
    rw [hGe]
    have HGE := hid hGe
    clear hGe
    rintro a w1 ⟨i, y, u6, u7, u8, u9, u10, u11, u12, u13, u14, u15, u16, u17, u18, u19, u20, u21, u22, u23, u24, u25, u26, u27, u28, u29, u30, u31, u32, u33, u34, u35, u36, u37, u38, u39, u40, u41, u42, u43, u44, u45, u46, u47, u48, u49, rfl, hi, hy, hS⟩
    have HX := hid hS.ext
    have HT := hid hS.two
    have HB := hid hS.at_
    have HRS := hid hS.res
    have HGT := hid hS.tab
    clear hS
    by_cases hlt : i < 16
    · obtain ⟨m, hme⟩ : ∃ m, 16 - i = m + 1 := ⟨16 - i - 1, by omega⟩
      have hmm : 15 - i = m := by omega
      have HMM := hid (show 16 - (i + 1) = m by omega)
      have HST := hid (show bwd ks ss (x.xor ks 4).cross (i + 1) = ⟨y.c, y.d, rolI y.a 1 ^^^ mF ks ss y.c y.d m, rolI (y.b ^^^ mG ks ss y.c y.d m) (-1)⟩ by rw [bwd_succ, hmm, ← hy]; rfl)
      have HM := hid (mixed_any p n c m y.c y.d ks ss A w1 HGT.out HT.out (by omega))
      obtain ⟨f, hf⟩ : ∃ f, mF ks ss y.c y.d m = f := ⟨_, rfl⟩
      obtain ⟨g, hg⟩ : ∃ g, mG ks ss y.c y.d m = g := ⟨_, rfl⟩
      rw [hf] at HM HST
      rw [hg] at HM HST
      have hr1 := fun w => rol_w y.a 1 w
      obtain ⟨n1, hn1⟩ : ∃ z, rolI y.a 1 = z := ⟨_, rfl⟩
      rw [hn1] at HST hr1
      have hx1 := w_xor n1 f
      obtain ⟨n2, hn2⟩ : ∃ z, n1 ^^^ f = z := ⟨_, rfl⟩
      rw [hn2] at HST hx1
      have hx2 := w_xor y.b g
      obtain ⟨n3, hn3⟩ : ∃ z, y.b ^^^ g = z := ⟨_, rfl⟩
      rw [hn3] at HST hx2
      have hr2 := fun w => rol_w n3 (-1) w
      obtain ⟨n4, hn4⟩ : ∃ z, rolI n3 (-1) = z := ⟨_, rfl⟩
      rw [hn4] at HST hr2
      have e1 : (((m + 1 : Nat) : Int)) - 1 = (m : Int) := by omega
      have e2 : (0 : Int) < ((m + 1 : Nat) : Int) := by omega
      have hm16 : (m : Int) < 16 := by omega
      rw [hme]
      have HX1 := hid hx1
      have HX2 := hid hx2
      have HR1 := hid hr1
      have HR2 := hid hr2
      have HI := hid hlt
      have c0 := HB.out.c2
      have c1 := HB.out.c3
      clear hmm hme hf hg hn1 hn2 hn3 hn4 hx1 hx2 hr1 hr2 hy hi
      go_wp2_with fail
      refine HM.out.mono ?_
      rintro e w2 ⟨rfl, hx2⟩
      have HX := hid (Ext.trans HX.out hx2)
      have HT := hid (HT.out.later hx2)
      have HB := hid (HB.out.later hx2)
      have HRS := hid (HRS.out.later hx2)
      have HGT := hid (HGT.out.later hx2)
      clear hx2 c0 c1 HM
      go_wp2_with fail
      refine region_upto 15 mixed rfl (by kernel_rfl) (by kernel_rfl) (by kernel_rfl) (kV (tz6 G y f g n1 n2 n3 n4)) (kV_keep _) (forall_ops ⟨?_, ?_, ?_, ?_, ?_, ?_, ?_, ?_, ?_, ?_, ?_, ?_, ?_, ?_, ?_, trivial⟩) ?_
      · intro a w hk
        have s3 : a.tmps.getD 3 undef = .pointer (some ⟨G, 0, none⟩) := hk.was 3 (by kernel_rfl) rfl
        refine step_val (v := .pointer (some ⟨G, 2, none⟩)) (w' := w) rfl ?_ (Ext.refl w) rfl
        go_simp
      · intro a w hk
        have s29 := hk.eq_ 0 29 (by kernel_rfl) rfl
        refine step_val (v := .int .u32 ((y.c).toNat : Nat)) (w' := w) rfl ?_ (Ext.refl w) rfl
        have hc := (HB.out.later hk.ext).c2
        go_simp
      · intro a w hk
        have s3 : a.tmps.getD 3 undef = .pointer (some ⟨G, 0, none⟩) := hk.was 3 (by kernel_rfl) rfl
        refine step_val (v := .pointer (some ⟨G, 3, none⟩)) (w' := w) rfl ?_ (Ext.refl w) rfl
        go_simp
      · intro a w hk
        have s31 := hk.eq_ 2 31 (by kernel_rfl) rfl
        refine step_val (v := .int .u32 ((y.d).toNat : Nat)) (w' := w) rfl ?_ (Ext.refl w) rfl
        have hc := (HB.out.later hk.ext).c3
        go_simp
      · intro a w hk
        have s3 : a.tmps.getD 3 undef = .pointer (some ⟨G, 0, none⟩) := hk.was 3 (by kernel_rfl) rfl
        refine step_val (v := .pointer (some ⟨G, 0, none⟩)) (w' := w) rfl ?_ (Ext.refl w) rfl
        go_simp
      · intro a w hk
        have s33 := hk.eq_ 4 33 (by kernel_rfl) rfl
        refine step_val (v := .int .u32 ((y.a).toNat : Nat)) (w' := w) rfl ?_ (Ext.refl w) rfl
        have hc := (HB.out.later hk.ext).c0
        go_simp
      · intro a w hk
        have s34 := hk.eq_ 5 34 (by kernel_rfl) rfl
        exact step_call rfl rfl (by simp only [List.map_toArray, List.map_cons, List.map_nil, Act.eval, s34] <;> rfl) cf45 (HR1.out w) (fun e w3 h => retE e w3 h)
      · intro a w hk
        have s6 : a.tmps.getD 6 undef = .int .u32 (f.toNat : Nat) := hk.was 6 (by kernel_rfl) rfl
        exact step_move rfl rfl s6 rfl
      · intro a w hk
        have s35 := hk.eq_ 6 35 (by kernel_rfl) rfl
        have s36 := hk.eq_ 7 36 (by kernel_rfl) rfl
        refine step_val (v := .int .u32 ((n2).toNat : Nat)) (w' := w) rfl ?_ (Ext.refl w) rfl
        have hz := HX1.out
        go_simp
      · intro a w hk
        have s3 : a.tmps.getD 3 undef = .pointer (some ⟨G, 0, none⟩) := hk.was 3 (by kernel_rfl) rfl
        refine step_val (v := .pointer (some ⟨G, 1, none⟩)) (w' := w) rfl ?_ (Ext.refl w) rfl
        go_simp
      · intro a w hk
        have s38 := hk.eq_ 9 38 (by kernel_rfl) rfl
        refine step_val (v := .int .u32 ((y.b).toNat : Nat)) (w' := w) rfl ?_ (Ext.refl w) rfl
        have hc := (HB.out.later hk.ext).c1
        go_simp
      · intro a w hk
        have s7 : a.tmps.getD 7 undef = .int .u32 (g.toNat : Nat) := hk.was 7 (by kernel_rfl) rfl
        exact step_move rfl rfl s7 rfl
      · intro a w hk
        have s39 := hk.eq_ 10 39 (by kernel_rfl) rfl
        have s40 := hk.eq_ 11 40 (by kernel_rfl) rfl
        refine step_val (v := .int .u32 ((n3).toNat : Nat)) (w' := w) rfl ?_ (Ext.refl w) rfl
        have hz := HX2.out
        go_simp
      · intro a w hk
        have s41 := hk.eq_ 12 41 (by kernel_rfl) rfl
        exact step_call rfl rfl (by simp only [List.map_toArray, List.map_cons, List.map_nil, Act.eval, s41] <;> rfl) cf45 (HR2.out w) (fun e w3 h => retE e w3 h)
      · intro a w hk
        have s30 := hk.eq_ 1 30 (by kernel_rfl) rfl
        have s32 := hk.eq_ 3 32 (by kernel_rfl) rfl
        have s37 := hk.eq_ 8 37 (by kernel_rfl) rfl
        have s42 := hk.eq_ 13 42 (by kernel_rfl) rfl
        refine step_val (v := .agg (W4.mk y.c y.d n2 n4).cells) (w' := w) rfl ?_ (Ext.refl w) rfl
        have e := build77 y.c y.d n2 n4 w
        simp only [execOp, Act.eval, List.map_toArray, List.map_cons, List.map_nil, s30, s32, s37, s42, Sem.run_bind, e, Sem.run_pure, Result.andThen]
      · intro a w3 hf
        have s29 := hf.eq_ 0 29 (by kernel_rfl) rfl
        have s30 := hf.eq_ 1 30 (by kernel_rfl) rfl
        have s31 := hf.eq_ 2 31 (by kernel_rfl) rfl
        have s32 := hf.eq_ 3 32 (by kernel_rfl) rfl
        have s33 := hf.eq_ 4 33 (by kernel_rfl) rfl
        have s34 := hf.eq_ 5 34 (by kernel_rfl) rfl
        have s35 := hf.eq_ 6 35 (by kernel_rfl) rfl
        have s36 := hf.eq_ 7 36 (by kernel_rfl) rfl
        have s37 := hf.eq_ 8 37 (by kernel_rfl) rfl
        have s38 := hf.eq_ 9 38 (by kernel_rfl) rfl
        have s39 := hf.eq_ 10 39 (by kernel_rfl) rfl
        have s40 := hf.eq_ 11 40 (by kernel_rfl) rfl
        have s41 := hf.eq_ 12 41 (by kernel_rfl) rfl
        have s42 := hf.eq_ 13 42 (by kernel_rfl) rfl
        have s43 := hf.eq_ 14 43 (by kernel_rfl) rfl
        have hx := hf.ext
        have e := hf.frame
        clear hf
        simp only [List.take_succ_cons, List.take_zero, regFrame, Act.put, List.setIfInBounds_toArray, List.set_cons_zero, List.set_cons_succ, s29, s30, s31, s32, s33, s34, s35, s36, s37, s38, s39, s40, s41, s42, s43] at e
        clear s29 s30 s31 s32 s33 s34 s35 s36 s37 s38 s39 s40 s41 s42 s43
        subst e
        simp only [List.drop_succ_cons, List.drop_zero]
        have HB3 := hid (HB.out.later hx)
        have HB4 := hid ((HB.out.later hx).put ⟨y.c, y.d, n2, n4⟩)
        have HRS3 := hid ((HRS.out.later hx).putne G (W4.mk y.c y.d n2 n4).cells (by omega))
        have HX3 := hid (Below.setRow_ (Ext.trans HX.out hx) (show w.heap.size ≤ G by have := HGE.out; omega) (W4.mk y.c y.d n2 n4).cells)
        have HT3 := hid (HT0.out.later (show Ext w _ from HX3.out))
        have HG3 := hid (HG0.out.later (show Ext w _ from HX3.out))
        clear hx
        go_wp2_with (refine wpList_store_row rfl 77 (.tmp 3) (.tmp 43) rfl G (W4.mk y.c y.d n2 n4).cells rfl rfl 77 _ HB3.out (W4.size _) rfl (W4.all _) ?_)
        (try go_step3)
        (try simp only [Exit.jump])
        refine ⟨rfl, ⟨i + 1, W4.mk y.c y.d n2 n4, _, _, _, _, _, _, _, _, _, _, _, _, _, _, _, _, _, _, _, _, _, _, _, _, _, _, _, _, _, _, _, _, _, _, _, _, _, _, _, _, _, _, _, _, by rw [HMM.out]; rfl, by omega, HST.out.symm, ⟨HX3.out, HT3.out, HB4.out, HRS3.out, HG3.out⟩⟩, ?_⟩
        exact Nat.lt_succ_self m
    · obtain rfl : i = 16 := by omega
      rw [Nat.sub_self]
      have HY := hid (show (y.xor ks 0) = backW ks ss x by rw [hy]; rfl)
      have HGE2 := hid (show w.heap.size ≤ G + 1 by have := HGE.out; omega)
      clear hy hlt hi
      go_wp2_with fail
      refine region_upto 6 mixed rfl (by kernel_rfl) (by kernel_rfl) (by kernel_rfl) (kV (tz7 p y ks)) (kV_keep _) (forall_ops ⟨?_, ?_, ?_, ?_, ?_, ?_, trivial⟩) ?_
      · intro a w hk
        have s3 : a.tmps.getD 3 undef = .pointer (some ⟨G, 0, none⟩) := hk.was 3 (by kernel_rfl) rfl
        refine step_val (v := .agg (y).cells) (w' := w) rfl ?_ (Ext.refl w) rfl
        exact exec_load77 rfl s3 (HB.out.later hk.ext)
      · intro a w hk
        have s0 : a.tmps.getD 0 undef = .pointer (some ⟨p, 0, none⟩) := hk.was 0 (by kernel_rfl) rfl
        exact step_move rfl rfl s0 rfl
      · intro a w hk
        have s45 := hk.eq_ 1 45 (by kernel_rfl) rfl
        refine step_val (v := .pointer (some ⟨p, 0, none⟩)) (w' := w) rfl ?_ (Ext.refl w) rfl
        go_simp
      · intro a w hk
        have s46 := hk.eq_ 2 46 (by kernel_rfl) rfl
        refine step_val (v := .pointer (some ⟨p, 0, none⟩)) (w' := w) rfl ?_ (Ext.refl w) rfl
        go_simp
      · intro a w hk
        have s47 := hk.eq_ 3 47 (by kernel_rfl) rfl
        refine step_val (v := .slice (some ⟨p, 0, none⟩) 4 40) (w' := w) rfl ?_ (Ext.refl w) rfl
        have e := arr74_4 p w
        simp only [execOp, Act.eval, Option.map_some, Option.map_none, s47, Sem.run_bind, e, Sem.run_pure, Result.andThen]
      · intro a w hk
        have s44 := hk.eq_ 0 44 (by kernel_rfl) rfl
        have s48 := hk.eq_ 4 48 (by kernel_rfl) rfl
        exact step_call rfl rfl (by simp only [List.map_toArray, List.map_cons, List.map_nil, Act.eval, s44, s48] <;> rfl) cf48 (xored_any (y) p 0 4 40 0 ks w (by omega) (fun i hi => (HT.out.later hk.ext).key _ (by omega))) (fun e w3 h => retX e w3 h)
      · intro a w3 hf
        have s44 := hf.eq_ 0 44 (by kernel_rfl) rfl
        have s45 := hf.eq_ 1 45 (by kernel_rfl) rfl
        have s46 := hf.eq_ 2 46 (by kernel_rfl) rfl
        have s47 := hf.eq_ 3 47 (by kernel_rfl) rfl
        have s48 := hf.eq_ 4 48 (by kernel_rfl) rfl
        have s49 := hf.eq_ 5 49 (by kernel_rfl) rfl
        have hx := hf.ext
        have e := hf.frame
        clear hf
        simp only [List.take_succ_cons, List.take_zero, regFrame, Act.put, List.setIfInBounds_toArray, List.set_cons_zero, List.set_cons_succ, s44, s45, s46, s47, s48, s49] at e
        clear s44 s45 s46 s47 s48 s49
        subst e
        simp only [List.drop_succ_cons, List.drop_zero]
        have HR2 := hid (HRS.out.later hx)
        have HR3 := hid ((HRS.out.later hx).put (y.xor ks 0))
        have HX2 := hid (Below.setRow_ (Ext.trans HX.out hx) HGE2.out (y.xor ks 0).cells)
        clear hx
        rw [HY.out] at HR3 HX2
        go_wp2_with (refine wpList_store_row rfl 77 (.tmp 4) (.tmp 49) rfl (G + 1) (y.xor ks 0).cells rfl rfl 77 _ HR2.out (W4.size _) rfl (W4.all _) ?_)
        rw [HY.out]
        (try simp only [Exit.jump])
        exact ret_cell rfl rfl (G + 1) 77 _ (0, 0) rfl HR3.out Tryd.underlying77 (W4.size _) ⟨rfl, HX2.out⟩
  · intro hfirst
    obtain ⟨W1, hW1⟩ : ∃ W1, (w.alloc (.cells x.cells 77)).alloc (.cells #[.int .u32 0, .int .u32 0, .int .u32 0, .int .u32 0] 77) = W1 := ⟨_, rfl⟩
    rw [hW1] at h1 h2 h3
    obtain ⟨G, hGe⟩ : ∃ G, w.heap.size = G := ⟨_, rfl⟩
    have HB := hid (show V4 W1 G x by rw [← hGe]; exact h1)
    have HRes := hid (show V4 W1 (G + 1) ⟨0, 0, 0, 0⟩ by rw [← hGe]; exact h2)
    have HX := hid h3
    have HW := hid hW1
    have HGE := hid hGe
    clear h1 h2 h3 hW1
    go_wp2_with fail
    rw [HW.out]
    rw [hGe] at hfirst ⊢
    clear hGe HW
    have HT := hid (HT0.out.later HX.out)
    refine region_upto 7 mixed rfl (by kernel_rfl) (by kernel_rfl) (by kernel_rfl) (kV (tz1 p x ks)) (kV_keep _) (forall_ops ⟨?_, ?_, ?_, ?_, ?_, ?_, ?_, trivial⟩) ?_
    · intro a w hk
      have s3 : a.tmps.getD 3 undef = .pointer (some ⟨G, 0, none⟩) := hk.was 3 (by kernel_rfl) rfl
      refine step_val (v := .agg (x).cells) (w' := w) rfl ?_ (Ext.refl w) rfl
      exact exec_load77 rfl s3 (HB.out.later hk.ext)
    · intro a w hk
      have s0 : a.tmps.getD 0 undef = .pointer (some ⟨p, 0, none⟩) := hk.was 0 (by kernel_rfl) rfl
      exact step_move rfl rfl s0 rfl
    · intro a w hk
      have s9 := hk.eq_ 1 9 (by kernel_rfl) rfl
      refine step_val (v := .pointer (some ⟨p, 0, none⟩)) (w' := w) rfl ?_ (Ext.refl w) rfl
      go_simp
    · intro a w hk
      have s10 := hk.eq_ 2 10 (by kernel_rfl) rfl
      refine step_val (v := .pointer (some ⟨p, 0, none⟩)) (w' := w) rfl ?_ (Ext.refl w) rfl
      go_simp
    · intro a w hk
      have s11 := hk.eq_ 3 11 (by kernel_rfl) rfl
      refine step_val (v := .slice (some ⟨p, 4, none⟩) 4 36) (w' := w) rfl ?_ (Ext.refl w) rfl
      have e := arr74_48 p w
      simp only [execOp, Act.eval, Option.map_some, Option.map_none, s11, Sem.run_bind, e, Sem.run_pure, Result.andThen]
    · intro a w hk
      have s8 := hk.eq_ 0 8 (by kernel_rfl) rfl
      have s12 := hk.eq_ 4 12 (by kernel_rfl) rfl
      exact step_call rfl rfl (by simp only [List.map_toArray, List.map_cons, List.map_nil, Act.eval, s8, s12] <;> rfl) cf48 (xored_any (x) p 4 4 36 4 ks w (by omega) (fun i hi => (HT.out.later hk.ext).key _ (by omega))) (fun e w1 h => retX e w1 h)
    · intro a w hk
      have s13 := hk.eq_ 5 13 (by kernel_rfl) rfl
      exact step_call rfl rfl (by simp only [List.map_toArray, List.map_cons, List.map_nil, Act.eval, s13] <;> rfl) cf47 (crossed_any (x.xor ks 4) w) (fun e w1 h => retX e w1 h)
    · intro a w1 hf
      have s8 := hf.eq_ 0 8 (by kernel_rfl) rfl
      have s9 := hf.eq_ 1 9 (by kernel_rfl) rfl
      have s10 := hf.eq_ 2 10 (by kernel_rfl) rfl
      have s11 := hf.eq_ 3 11 (by kernel_rfl) rfl
      have s12 := hf.eq_ 4 12 (by kernel_rfl) rfl
      have s13 := hf.eq_ 5 13 (by kernel_rfl) rfl
      have s14 := hf.eq_ 6 14 (by kernel_rfl) rfl
      have hx := hf.ext
      have e := hf.frame
      clear hf
      simp only [List.take_succ_cons, List.take_zero, regFrame, Act.put, List.setIfInBounds_toArray, List.set_cons_zero, List.set_cons_succ, s8, s9, s10, s11, s12, s13, s14] at e
      clear s8 s9 s10 s11 s12 s13 s14
      subst e
      simp only [List.drop_succ_cons, List.drop_zero]
      have HB1 := hid (HB.out.later hx)
      have HB2 := hid ((HB.out.later hx).put ((x.xor ks 4).cross))
      have HRes2 := hid (((HRes.out.later hx)).putne G ((x.xor ks 4).cross).cells (by omega))
      have hg := HGE.out
      have HX2 := hid (Below.setRow_ (Ext.trans HX.out hx) (by omega) ((x.xor ks 4).cross).cells : Below w.heap.size w (w1.setRow G ((x.xor ks 4).cross).cells))
      have HT2 := hid (HT0.out.later (show Ext w _ from HX2.out))
      have HG2 := hid (HG0.out.later (show Ext w _ from HX2.out))
      clear hg hx HX HB HRes HT
      go_wp2_with (refine wpList_store_row rfl 77 (.tmp 3) (.tmp 14) rfl G ((x.xor ks 4).cross).cells rfl rfl 77 _ HB1.out (W4.size _) rfl (W4.all _) ?_)
      go_step3
      simp only [Exit.then]
      rename_i hK
      refine hK _ _ ?_
      have HGE2 := HGE.out
      subst HGE2
      exact hfirst.out _ _ ⟨0, (x.xor ks 4).cross, _, _, _, _, _, _, _, _, _, _, _, _, _, _, _, _, _, _, _, _, _, _, _, _, _, _, _, _, _, _, _, _, _, _, _, _, _, _, _, _, _, _, _, _, rfl, by omega, rfl, ⟨HX2.out, HT2.out, HB2.out, HRes2.out, HG2.out⟩⟩
end Go.Proofs.YtbdncalllfpodaaDoor
