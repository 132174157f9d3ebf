/- Walk over the rest of a round, of the program; own lemmas of the verifier, no statement is proved here. -/
import Derived.Test.YtamolgbdpnpemaaX6
namespace Go.Proofs.Ytamolgbdpnpemaa
open Go.RowKit
theorem xor16 {a b : Nat} (ha : a < 65536) (hb : b < 65536) : bits .xor .i64 (a : Int) (b : Int) = ((a ^^^ b : Nat) : Int) := by
  have e0 : bits .xor .i64 (a : Int) (b : Int) = IntKind.i64.wrap ((BitVec.ofInt 64 (a : Int) ^^^ BitVec.ofInt 64 (b : Int)).toNat : Int) := rfl
  have h : a ^^^ b < 65536 := xor_lt16 ha hb
  have e : (BitVec.ofInt 64 (a : Int) ^^^ BitVec.ofInt 64 (b : Int)).toNat = a ^^^ b := by
    rw [BitVec.toNat_xor, BitVec.toNat_ofInt, BitVec.toNat_ofInt]
    have h1 : ((a : Int) % ((2 ^ 64 : Nat) : Int)).toNat = a := by omega
    have h2 : ((b : Int) % ((2 ^ 64 : Nat) : Int)).toNat = b := by omega
    rw [h1, h2]
  rw [e0, e]
  exact wrap_i64 (by omega) (by omega)
def mixKs (G : Nat) (x : F4) : List K := [.eq (.pointer (some ⟨G, 0, none⟩)), .eq (.int .i64 (x.a : Nat)), .eq (.pointer (some ⟨G, 1, none⟩)), .eq (.int .i64 (x.b : Nat)), .eq (.pointer (some ⟨G, 2, none⟩)), .eq (.int .i64 (x.c : Nat)), .eq (.pointer (some ⟨G, 3, none⟩)), .eq (.int .i64 (x.d : Nat)), .eq (.int .i64 (x.a : Nat)), .eq (.int .i64 (x.b : Nat)), .eq (.int .i64 (x.c : Nat)), .eq (.int .i64 (x.d : Nat))]
set_option maxRecDepth 100000 in
set_option maxHeartbeats 4000000 in
theorem mix_any (x : F4) (k5 k6 : Nat) (w : World) (hx : x.ok) (h5 : k5 < 65536) (h6 : k6 < 65536) :
    Calls Try.prog 30 #[.agg x.cells, .int .i64 k5, .int .i64 k6] w fun e w' => e = .returned (.agg (mixF x k5 k6).cells) ∧ Ext w w' := by
  have h1 := heap_alloc2_old w (.cells x.cells 57) (.cells (F4.mk 0 0 0 0).cells 57)
  have h2 := heap_alloc2_new w (.cells x.cells 57) (.cells (F4.mk 0 0 0 0).cells 57)
  have h3 := (Ext.alloc w (.cells x.cells 57)).trans (Ext.alloc _ (.cells (F4.mk 0 0 0 0).cells 57))
  have l1 := xor_lt16 hx.a hx.c
  have l2 := xor_lt16 hx.b hx.d
  have l3 := mF_lt x k5
  have l4 := mG_lt x k5 k6
  have l5 := mH_lt x k5 k6
  have e1 := xor16 hx.a hx.c
  have e2 := xor16 hx.b hx.d
  have e3 := xor16 hx.a l4
  have e4 := xor16 hx.c l4
  have e5 := xor16 hx.b l5
  have e6 := xor16 hx.d l5
  have c1 := fun w => mul_any (x.a ^^^ x.c) k5 w l1 h5
  have c2 := fun w => sum_any (x.b ^^^ x.d) (mF x k5) w l2 l3
  have c3 := fun w => mul_any (((x.b ^^^ x.d) + mF x k5) % 65536) k6 w (Nat.mod_lt _ (by omega)) h6
  have c4 := fun w => sum_any (mF x k5) (mG x k5 k6) w l3 l4
  rw [show mulF (x.a ^^^ x.c) k5 = mF x k5 from rfl] at c1
  rw [show mulF (((x.b ^^^ x.d) + mF x k5) % 65536) k6 = mG x k5 k6 from rfl] at c3
  rw [show (mF x k5 + mG x k5 k6) % 65536 = mH x k5 k6 from rfl] at c4
  have HM := hid (show mixF x k5 k6 = ⟨x.a ^^^ mG x k5 k6, x.c ^^^ mG x k5 k6, x.b ^^^ mH x k5 k6, x.d ^^^ mH x k5 k6⟩ from rfl)
  obtain ⟨y1, hy1⟩ : ∃ y, x.a ^^^ x.c = y := ⟨_, rfl⟩
  obtain ⟨y2, hy2⟩ : ∃ y, x.b ^^^ x.d = y := ⟨_, rfl⟩
  obtain ⟨y3, hy3⟩ : ∃ y, x.a ^^^ mG x k5 k6 = y := ⟨_, rfl⟩
  obtain ⟨y4, hy4⟩ : ∃ y, x.c ^^^ mG x k5 k6 = y := ⟨_, rfl⟩
  obtain ⟨y5, hy5⟩ : ∃ y, x.b ^^^ mH x k5 k6 = y := ⟨_, rfl⟩
  obtain ⟨y6, hy6⟩ : ∃ y, x.d ^^^ mH x k5 k6 = y := ⟨_, rfl⟩
  rw [hy1] at e1 c1
  rw [hy2] at e2 c2 c3
  rw [hy3] at e3 HM
  rw [hy4] at e4 HM
  rw [hy5] at e5 HM
  rw [hy6] at e6 HM
  obtain ⟨f, hf⟩ : ∃ f, mF x k5 = f := ⟨_, rfl⟩
  obtain ⟨g, hg⟩ : ∃ g, mG x k5 k6 = g := ⟨_, rfl⟩
  obtain ⟨u, hu⟩ : ∃ u, mH x k5 k6 = u := ⟨_, rfl⟩
  rw [hf] at c1 c2 c3 c4
  rw [hg] at c3 c4 e3 e4
  rw [hu] at c4 e5 e6
  obtain ⟨z, hz⟩ : ∃ z, (y2 + f) % 65536 = z := ⟨_, rfl⟩
  rw [hz] at c2 c3
  have C1 := hid c1
  have C2 := hid c2
  have C3 := hid c3
  have C4 := hid c4
  have EE := hid (And.intro e1 (And.intro e2 (And.intro e3 (And.intro e4 (And.intro e5 e6)))))
  clear hf hg hu hz hy1 hy2 hy3 hy4 hy5 hy6 c1 c2 c3 c4 e1 e2 e3 e4 e5 e6 l1 l2 l3 l4 l5 hx h5 h6
  go_enter Try.func30, Try.ntmps30
  go_wp2_with fail
  obtain ⟨W1, hW1⟩ : ∃ W1, (w.alloc (.cells x.cells 57)).alloc (.cells #[.int .i64 0, .int .i64 0, .int .i64 0, .int .i64 0] 57) = W1 := ⟨_, rfl⟩
  rw [show (w.alloc (.cells x.cells 57)).alloc (.cells (F4.mk 0 0 0 0).cells 57) = W1 from hW1] at h1 h2 h3
  rw [hW1]
  obtain ⟨G, hG⟩ : ∃ G, w.heap.size = G := ⟨_, rfl⟩
  rw [hG]
  have HX := hid (show B4 W1 G x by rw [← hG]; exact h1)
  have HR := hid (show B4 W1 (G + 1) ⟨0, 0, 0, 0⟩ by rw [← hG]; exact h2)
  have HE := hid (show Ext w W1 from h3)
  have HG := hid hG
  clear hW1 h1 h2 h3 hG
  refine region_inv mixed rfl (by kernel_rfl) (kV (mixKs G x)) (kV_keep _) (forall_ops ⟨?_, ?_, ?_, ?_, ?_, ?_, ?_, ?_, ?_, ?_, ?_, ?_, trivial⟩) ?_
  · intro a w hk
    have s3 : a.tmps.getD 3 undef = .pointer (some ⟨G, 0, none⟩) := hk.was 3 (by kernel_rfl) rfl
    refine step_val (v := .pointer (some ⟨G, 0, none⟩)) (w' := w) rfl ?_ (Ext.refl w) rfl
    go_simp
  · intro a w hk
    have s13 := hk.eq_ 0 13 (by kernel_rfl) rfl
    refine step_val (v := .int .i64 (x.a : Nat)) (w' := w) rfl ?_ (Ext.refl w) rfl
    have hc := (HX.out.later hk.ext).ca
    go_simp
  · intro a w hk
    have s3 : a.tmps.getD 3 undef = .pointer (some ⟨G, 0, none⟩) := hk.was 3 (by kernel_rfl) rfl
    refine step_val (v := .pointer (some ⟨G, 1, none⟩)) (w' := w) rfl ?_ (Ext.refl w) rfl
    go_simp
  · intro a w hk
    have s15 := hk.eq_ 2 15 (by kernel_rfl) rfl
    refine step_val (v := .int .i64 (x.b : Nat)) (w' := w) rfl ?_ (Ext.refl w) rfl
    have hc := (HX.out.later hk.ext).cb
    go_simp
  · intro a w hk
    have s3 : a.tmps.getD 3 undef = .pointer (some ⟨G, 0, none⟩) := hk.was 3 (by kernel_rfl) rfl
    refine step_val (v := .pointer (some ⟨G, 2, none⟩)) (w' := w) rfl ?_ (Ext.refl w) rfl
    go_simp
  · intro a w hk
    have s17 := hk.eq_ 4 17 (by kernel_rfl) rfl
    refine step_val (v := .int .i64 (x.c : Nat)) (w' := w) rfl ?_ (Ext.refl w) rfl
    have hc := (HX.out.later hk.ext).cc
    go_simp
  · intro a w hk
    have s3 : a.tmps.getD 3 undef = .pointer (some ⟨G, 0, none⟩) := hk.was 3 (by kernel_rfl) rfl
    refine step_val (v := .pointer (some ⟨G, 3, none⟩)) (w' := w) rfl ?_ (Ext.refl w) rfl
    go_simp
  · intro a w hk
    have s19 := hk.eq_ 6 19 (by kernel_rfl) rfl
    refine step_val (v := .int .i64 (x.d : Nat)) (w' := w) rfl ?_ (Ext.refl w) rfl
    have hc := (HX.out.later hk.ext).cd
    go_simp
  · intro a w hk
    have s14 := hk.eq_ 1 14 (by kernel_rfl) rfl
    exact step_assign rfl rfl s14 rfl
  · intro a w hk
    have s16 := hk.eq_ 3 16 (by kernel_rfl) rfl
    exact step_assign rfl rfl s16 rfl
  · intro a w hk
    have s18 := hk.eq_ 5 18 (by kernel_rfl) rfl
    exact step_assign rfl rfl s18 rfl
  · intro a w hk
    have s20 := hk.eq_ 7 20 (by kernel_rfl) rfl
    exact step_assign rfl rfl s20 rfl
  · intro a w1 hf
    have s13 := hf.eq_ 0 13 (by kernel_rfl) rfl
    have s14 := hf.eq_ 1 14 (by kernel_rfl) rfl
    have s15 := hf.eq_ 2 15 (by kernel_rfl) rfl
    have s16 := hf.eq_ 3 16 (by kernel_rfl) rfl
    have s17 := hf.eq_ 4 17 (by kernel_rfl) rfl
    have s18 := hf.eq_ 5 18 (by kernel_rfl) rfl
    have s19 := hf.eq_ 6 19 (by kernel_rfl) rfl
    have s20 := hf.eq_ 7 20 (by kernel_rfl) rfl
    have s7 := hf.eq_ 8 7 (by kernel_rfl) rfl
    have s8 := hf.eq_ 9 8 (by kernel_rfl) rfl
    have s9 := hf.eq_ 10 9 (by kernel_rfl) rfl
    have s10 := hf.eq_ 11 10 (by kernel_rfl) rfl
    have hx := hf.ext
    have e := hf.frame
    clear hf
    simp only [regFrame, Act.put, List.setIfInBounds_toArray, List.set_cons_zero, List.set_cons_succ, s13, s14, s15, s16, s17, s18, s19, s20, s7, s8, s9, s10] at e
    clear s13 s14 s15 s16 s17 s18 s19 s20 s7 s8 s9 s10
    subst e
    have HR1 := hid ((HR.out.later hx).heap)
    have HR2 := hid (((HR.out.later hx).put (mixF x k5 k6)).heap)
    have HE2 := hid (Below.setRow_ (HE.out.trans hx) (g := G + 1) (by have := HG.out; omega) (mixF x k5 k6).cells)
    rw [HM.out] at HR2 HE2
    obtain ⟨e1, e2, e3, e4, e5, e6⟩ := EE.out
    clear hx
    go_wp2_with fail
    refine (C1.out _).mono ?_
    rintro e w' ⟨rfl, rfl⟩
    go_wp2_with fail
    refine (C2.out _).mono ?_
    rintro e w' ⟨rfl, rfl⟩
    go_wp2_with fail
    refine (C3.out _).mono ?_
    rintro e w' ⟨rfl, rfl⟩
    go_wp2_with fail
    refine (C4.out _).mono ?_
    rintro e w' ⟨rfl, rfl⟩
    go_wp2_with (refine wpList_store_row rfl 57 (.tmp 6) (.tmp 48) rfl (G + 1) (F4.mk y3 y4 y5 y6).cells rfl rfl 57 _ HR1.out (F4.size _) rfl (F4.all _) ?_)
    refine ret_cell rfl rfl (G + 1) 57 _ (0, 0) rfl HR2.out Try.underlying57 (F4.size _) ⟨by rw [HM.out], HE2.out⟩
end Go.Proofs.Ytamolgbdpnpemaa
