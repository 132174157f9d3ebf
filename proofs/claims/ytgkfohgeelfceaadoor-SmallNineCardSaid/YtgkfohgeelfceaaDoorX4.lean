/- Walk over turn of the program; own lemmas of the verifier, no statement is proved here. -/
import Derived.Test.YtgkfohgeelfceaaDoorX3
namespace Go.Proofs.YtgkfohgeelfceaaDoor
open Go.RowKit
/-- Words in memory. -/
def KW (w : World) (b o : Nat) (ks : List UInt32) : Prop := ∀ j, j < ks.length → w.cell? ⟨b, o + j, none⟩ = some (.int .u32 ((ks.getD j 0).toNat : Nat))
theorem KW.later {w w' : World} {b o : Nat} {ks : List UInt32} (h : KW w b o ks) (hx : Ext w w') : KW w' b o ks := fun j hj => cell_at hx (h j hj)
/-- The program's Small. -/
structure Small_ (w : World) (p b o c : Nat) (t : T3) (ah : W2) (ks : List UInt32) : Prop where
  tag : w.cell? ⟨p, 0, none⟩ = some (.int .i64 t.code)
  a0 : w.cell? ⟨p, 1, none⟩ = some (.int .u32 (ah.a.toNat : Nat))
  a1 : w.cell? ⟨p, 2, none⟩ = some (.int .u32 (ah.b.toNat : Nat))
  keys : w.cell? ⟨p, 3, none⟩ = some (.slice (some ⟨b, o, none⟩) ks.length c)
  room : ks.length ≤ c
  at_ : KW w b o ks
theorem Small_.later {w w' : World} {p b o c : Nat} {t : T3} {ah : W2} {ks : List UInt32} (h : Small_ w p b o c t ah ks) (hx : Ext w w') : Small_ w' p b o c t ah ks :=
  ⟨cell_at hx h.tag, cell_at hx h.a0, cell_at hx h.a1, cell_at hx h.keys, h.room, h.at_.later hx⟩
def IsSmall (w : World) (p : Nat) (t : T3) (ah : W2) (ks : List UInt32) : Prop := ∃ b o c, Small_ w p b o c t ah ks
theorem IsSmall.later {w w' : World} {p : Nat} {t : T3} {ah : W2} {ks : List UInt32} (h : IsSmall w p t ah ks) (hx : Ext w w') : IsSmall w' p t ah ks := by
  obtain ⟨b, o, c, h⟩ := h
  exact ⟨b, o, c, h.later hx⟩
theorem Ext.drewN {w w' : World} (h : Ext w w') (n : Nat) : Ext w (w'.drewN n) := ⟨h.os, h.tape, h.output, h.size, h.block⟩
theorem quietSame {P : Program} {f : FuncId} {args : Array Value} {w : World} {n : Nat} {v : Value}
    (h : Calls P f args (w.drewN n) fun e w' => e = .returned v ∧ w.drewN n = w') : Calls P f args (w.drewN n) fun e w'' => e = .returned v ∧ ∃ m, w'' = w.drewN m :=
  h.mono fun _ _ ⟨he, hm⟩ => ⟨he, n, hm.symm⟩
def iAt (k : Nat) (a : Act) : Nat := match a.tmps.getD k undef with | .int _ q => q.toNat | _ => 0
structure TurnS (p b o c : Nat) (t : T3) (ah : W2) (ks : List UInt32) (G : Nat) (w w1 : World) : Prop where
  ext : Ext w w1
  sm : Small_ w1 p b o c t ah ks
  res : B2 w1 (G + 1) ⟨0, 0⟩
  rows : GRows w1
def TurnJ (p b o c : Nat) (t : T3) (ah : W2) (ks : List UInt32) (x : W2) (G : Nat) (w : World) (a : Act) (w1 : World) : Prop :=
  ∃ (i : Nat) (y : W2) (u8 u9 u10 u11 u12 u13 u14 u15 u16 u17 u18 u19 u20 u21 u22 u23 u24 u25 u26 u27 u28 u29 u30 u31 u32 u33 u34 u35 u36 u37 u38 u39 u40 u41 u42 u43 u44 u45 u46 u47 u48 u49 u50 u51 u52 u53 u54 u55 : Value),
    a = { tmps := #[.pointer (some ⟨p, 0, none⟩), .agg x.cells, undef, .pointer (some ⟨G, 0, none⟩), .pointer (some ⟨G + 1, 0, none⟩), .int .u32 (y.a.toNat : Nat), .int .u32 (y.b.toNat : Nat), .int .i64 i, u8, u9, u10, u11, u12, u13, u14, u15, u16, u17, u18, u19, u20, u21, u22, u23, u24, u25, u26, u27, u28, u29, u30, u31, u32, u33, u34, u35, u36, u37, u38, u39, u40, u41, u42, u43, u44, u45, u46, u47, u48, u49, u50, u51, u52, u53, u54, u55], defers := [] } ∧ i ≤ ks.length ∧
    y = fwd t ks ⟨x.a + ah.a, x.b + ah.b⟩ i ∧ TurnS p b o c t ah ks G w w1
set_option maxRecDepth 100000 in
set_option maxHeartbeats 4000000 in
theorem turn_any (p b o c : Nat) (t : T3) (ah : W2) (ks : List UInt32) (x : W2) (w : World) (hs : Small_ w p b o c t ah ks) (hn : ks.length ≤ 1000) (hG : GRows w) :
    Calls Tryd.prog 34 #[.pointer (some ⟨p, 0, none⟩), .agg x.cells] w (Ret2 w (thereW t ah ks x)) := by
  have h1 := heap_alloc2_old w (.cells x.cells 58) (.cells #[.int .u32 0, .int .u32 0] 58)
  have h2 := heap_alloc2_new w (.cells x.cells 58) (.cells #[.int .u32 0, .int .u32 0] 58)
  have h3 := (Ext.alloc w (.cells x.cells 58)).trans (Ext.alloc _ (.cells #[.int .u32 0, .int .u32 0] 58))
  have HS := hid hs
  have HGR := hid hG
  clear hs hG
  go_enter Tryd.func34, Tryd.ntmps34
  go_wp2_with fail
  refine wp_scope_jumps2 0 (TurnJ p b o c t ah ks x w.heap.size w) (fun a _ => ks.length - iAt 7 a) rfl ?_ ?_
  · clear h1 h2 h3 HS HGR
    obtain ⟨G, hGe⟩ : ∃ G, w.heap.size = G := ⟨_, rfl⟩
    rw [hGe]
    have HGE := hid hGe
    clear hGe
    rintro a w1 ⟨i, y, u8, u9, u10, u11, u12, u13, u14, u15, u16, u17, u18, u19, u20, u21, u22, u23, u24, u25, u26, u27, u28, u29, u30, u31, u32, u33, u34, u35, u36, u37, u38, u39, u40, u41, u42, u43, u44, u45, u46, u47, u48, u49, u50, u51, u52, u53, u54, u55, rfl, hi, hy, hS⟩
    have HSM := hid hS.sm
    have ct := hS.sm.tag
    have ck := hS.sm.keys
    have hroom := hS.sm.room
    by_cases hlt : i < ks.length
    · have hcell := hS.sm.at_ i hlt
      obtain ⟨k, hk⟩ : ∃ k, ks.getD i 0 = k := ⟨_, rfl⟩
      rw [hk] at hcell
      have hst : fwd t ks ⟨x.a + ah.a, x.b + ah.b⟩ (i + 1) = ⟨y.b, madeW t y.a y.b k⟩ := by rw [fwd, hk, ← hy]
      have HST := hid hst
      have hm := fun n => made_any t y.a y.b k (w1.drewN n) hS.rows
      have HR := hid hS.res
      have HX := hid hS.ext
      have HRO := hid hS.rows
      have b1 := wlt y.a
      have b2 := wlt y.b
      obtain ⟨T, hT⟩ : ∃ T, t.code = T := ⟨_, rfl⟩
      rw [hT] at ct hm
      have hl := hid hy
      clear hy hk hst hS
      have HM := hid hm
      clear hm
      go_wp2_with fail
      go_quiet ((go_at_call 51; exact quietSame (HM.out _)))
      go_wp2_with fail
      go_step3
      (try simp only [Exit.jump])
      refine ⟨rfl, ⟨i + 1, ⟨y.b, madeW t y.a y.b k⟩, _, _, _, _, _, _, _, _, _, _, _, _, _, _, _, _, _, _, _, _, _, _, _, _, _, _, _, _, _, _, _, _, _, _, _, _, _, _, _, _, _, _, _, _, _, _, _, _, rfl, by omega, HST.out.symm, ⟨HX.out.drewN nq, HSM.out.later ((Ext.refl _).drewN nq), HR.out, HRO.out⟩⟩, ?_⟩
      simp [iAt]; omega
    · obtain rfl : i = ks.length := by omega
      have HX := hid hS.ext
      have HR := hid hS.res
      have HGE2 := hid (show w.heap.size ≤ G + 1 by have := HGE.out; omega)
      have HY := hid (show crs t y = thereW t ah ks x by rw [hy]; rfl)
      have hc := fun w => crossed_any t y w
      obtain ⟨T, hT⟩ : ∃ T, t.code = T := ⟨_, rfl⟩
      rw [hT] at ct hc
      obtain ⟨n, hne⟩ : ∃ n, ks.length = n := ⟨_, rfl⟩
      rw [hne] at ck hroom hi hn ⊢
      have HC := hid hc
      clear hy hS hc hlt
      go_wp2_with fail
      refine (HC.out _).mono ?_
      rintro e w2 ⟨rfl, hx2⟩
      have HR2 := hid (HR.out.later hx2)
      have HR3 := hid ((HR.out.later hx2).put (crs t y))
      have HX2 := hid (Below.setRow_ (Ext.trans HX.out hx2) HGE2.out (crs t y).cells)
      clear hx2 HX
      rw [HY.out] at HR3 HX2 ⊢
      go_wp2_with (refine wpList_store_row rfl 58 (.tmp 4) (.tmp 55) rfl (G + 1) (thereW t ah ks x).cells rfl rfl 58 _ HR2.out (W2.size _) rfl (W2.all _) ?_)
      (try simp only [Exit.jump])
      exact ret_cell rfl rfl (G + 1) 58 _ (0, 0) rfl HR3.out Tryd.underlying58 (W2.size _) ⟨rfl, HX2.out⟩
  · intro hfirst
    obtain ⟨W1, hW1⟩ : ∃ W1, (w.alloc (.cells x.cells 58)).alloc (.cells #[.int .u32 0, .int .u32 0] 58) = W1 := ⟨_, rfl⟩
    rw [hW1] at h1 h2 h3
    have HB := hid (show B2 W1 w.heap.size x from h1)
    have HRes := hid (show B2 W1 (w.heap.size + 1) ⟨0, 0⟩ from h2)
    have HX := hid h3
    have HW := hid hW1
    clear h1 h2 h3 hW1
    go_wp2_with fail
    rw [HW.out]
    clear HW
    have HSM := hid (HS.out.later HX.out)
    have HRO := hid (HGR.out.later HX.out)
    have c0 := HB.out.ca
    have c1 := HB.out.cb
    have p0 := HSM.out.a0
    have p1 := HSM.out.a1
    have e0 := w_add x.a ah.a
    have e1 := w_add x.b ah.b
    have l1 := wlt x.a
    have l2 := wlt x.b
    have l3 := wlt ah.a
    have l4 := wlt ah.b
    clear HS HGR
    go_quiet (fail)
    rw [e0, e1]
    go_wp2_with fail
    go_step3
    simp only [Exit.then]
    rename_i hK
    refine hK _ _ ?_
    exact hfirst.out _ _ ⟨0, ⟨x.a + ah.a, x.b + ah.b⟩, _, _, _, _, _, _, _, _, _, _, _, _, _, _, _, _, _, _, _, _, _, _, _, _, _, _, _, _, _, _, _, _, _, _, _, _, _, _, _, _, _, _, _, _, _, _, _, _, rfl, by omega, rfl, ⟨HX.out.drewN nq, HSM.out.later ((Ext.refl _).drewN nq), HRes.out, HRO.out⟩⟩
end Go.Proofs.YtgkfohgeelfceaaDoor
