/- What the variables that the law CipherSame lists give its walk; own lemmas of the verifier, no statement is proved here. -/
import Derived.Test.YtbgkmicelmenfaaGreatDoorZ1
namespace Go.Proofs.YtbgkmicelmenfaaGreatDoor.C
open Go.ChangeShapes Go.WideShapes Go.ChangeAt Go.RowKit
set_option maxRecDepth 100000
theorem door_met_same (os : Os) (args : Array Value) : laidMetH Tryz.prog Rows.cipherSameRow.laid ((World.doorLaid Tryz.prog 400 os).forCall (fun _ _ => 0) ⟨#[], args, []⟩).memory :=
  laidMetH_of_parts3 (fuel := 8) (laidMet_of_run' 8 (by kernel_rfl) (by kernel_rfl)) (by kernel_rfl) (by kernel_rfl)
/-- What the walks ask of the package-level variables. -/
theorem gc_of_same {W : World} (h : laidMetH Tryz.prog Rows.cipherSameRow.laid W) (hs : W.ShapedOpen Tryz.prog) : ∃ (bt : D.BT) (rt : S.RT), @GC ⟨bt⟩ ⟨rt⟩ W := by
  obtain ⟨bt, hbt⟩ := boxes_of hs
  obtain ⟨rt, hrt⟩ := rows_of hs
  refine ⟨bt, rt, ?_⟩
  rw [MakeChecks.laidMetH_plain _ _ _ (by kernel_rfl)] at h
  obtain ⟨ps, ⟨g0, t0, cs0, f0, p0, q0, hg0, ht0, hv0, hd0, ⟨g1, t1, cs1, f1, p1, q1, hg1, ht1, hv1, hd1, ⟨g2, t2, cs2, f2, p2, q2, hg2, ht2, hv2, hd2, ⟨g3, t3, cs3, f3, p3, q3, hg3, ht3, hv3, hd3, ⟨g4, t4, cs4, f4, p4, q4, hg4, ht4, hv4, hd4, ⟨g5, t5, cs5, f5, p5, q5, hg5, ht5, hv5, hd5, ⟨g6, t6, cs6, f6, p6, q6, hg6, ht6, hv6, hd6, ⟨g7, t7, cs7, f7, p7, q7, hg7, ht7, hv7, hd7, ⟨g8, t8, cs8, f8, p8, q8, hg8, ht8, hv8, hd8, ⟨g9, t9, cs9, f9, p9, q9, hg9, ht9, hv9, hd9, ⟨g10, t10, cs10, f10, p10, q10, hg10, ht10, hv10, hd10, ⟨g11, t11, cs11, f11, p11, q11, hg11, ht11, hv11, hd11, ⟨g12, t12, cs12, f12, p12, q12, hg12, ht12, hv12, hd12, _, _⟩, _⟩, _⟩, _⟩, _⟩, _⟩, _⟩, _⟩, _⟩, _⟩, _⟩, _⟩, _⟩, _, _⟩ := h
  obtain rfl := Option.some.inj (g_odd.symm.trans hg0)
  obtain rfl := Option.some.inj (t_odd.symm.trans ht0)
  obtain rfl := Option.some.inj (g_rows1.symm.trans hg1)
  obtain rfl := Option.some.inj (t_rows1.symm.trans ht1)
  obtain rfl := Option.some.inj (g_rows2.symm.trans hg2)
  obtain rfl := Option.some.inj (t_rows2.symm.trans ht2)
  obtain rfl := Option.some.inj (g_sev.symm.trans hg3)
  obtain rfl := Option.some.inj (t_sev.symm.trans ht3)
  obtain rfl := Option.some.inj (g_con.symm.trans hg4)
  obtain rfl := Option.some.inj (t_con.symm.trans ht4)
  obtain rfl := Option.some.inj (g_tur.symm.trans hg5)
  obtain rfl := Option.some.inj (t_tur.symm.trans ht5)
  obtain rfl := Option.some.inj (g_trow.symm.trans hg7)
  obtain rfl := Option.some.inj (t_trow.symm.trans ht7)
  obtain rfl := Option.some.inj (g_tord.symm.trans hg8)
  obtain rfl := Option.some.inj (t_tord.symm.trans ht8)
  obtain rfl := Option.some.inj (g_tmix.symm.trans hg9)
  obtain rfl := Option.some.inj (t_tmix.symm.trans ht9)
  obtain rfl := Option.some.inj (g_tshr.symm.trans hg10)
  obtain rfl := Option.some.inj (t_tshr.symm.trans ht10)
  obtain rfl := Option.some.inj (g_sh.symm.trans hg12)
  obtain rfl := Option.some.inj (t_sh.symm.trans ht12)
  have n0 := flat (kd := .u8) (row := oddI) Tryz.underlying132 Tryz.underlying5 (by kernel_rfl) rfl hd0 d_odd
  have n1 := flat (kd := .u8) (row := bytI A.rows1) Tryz.underlying194 Tryz.underlying5 (by kernel_rfl) rfl hd1 d_rows1
  have n2 := flat (kd := .u8) (row := bytI A.rows2) Tryz.underlying194 Tryz.underlying5 (by kernel_rfl) rfl hd2 d_rows2
  have n3 := nested (kd := .u8) (rows := A.sevT) Tryz.underlying237 Tryz.underlying236 Tryz.underlying5 (by kernel_rfl) (by kernel_rfl) shape_sev.1 shape_sev.2 hd3 d_sev
  have n4 := nested (kd := .u64) (rows := conN) Tryz.underlying260 Tryz.underlying259 Tryz.underlying209 (by kernel_rfl) (by kernel_rfl) shape_con.1 shape_con.2 hd4 d_con
  have n5 := flat (kd := .i64) (row := turI) Tryz.underlying200 Tryz.underlying3 (by kernel_rfl) rfl hd5 d_tur
  have m0 := nested (kd := .u64) (rows := T.rowsN) Tryz.underlying270 Tryz.underlying227 Tryz.underlying209 (by kernel_rfl) (by kernel_rfl) shape_trow.1 shape_trow.2 hd7 d_trow
  have m2 := nested (kd := .i64) (rows := T.ordsN) Tryz.underlying267 Tryz.underlying110 Tryz.underlying3 (by kernel_rfl) (by kernel_rfl) shape_tord.1 shape_tord.2 hd8 d_tord
  have m3 := nested (kd := .u8) (rows := T.mixsN) Tryz.underlying244 Tryz.underlying241 Tryz.underlying5 (by kernel_rfl) (by kernel_rfl) shape_tmix.1 shape_tmix.2 hd9 d_tmix
  have m1 := nested (kd := .u8) (rows := T.shrsN) Tryz.underlying230 Tryz.underlying194 Tryz.underlying5 (by kernel_rfl) (by kernel_rfl) shape_tshr.1 shape_tshr.2 hd10 d_tshr
  have k0 := nestS (kd := .i64) (rows := shN) (N := 9) (M := 3) Tryz.underlying170 Tryz.underlying91 rfl (fun r hr => by match r, hr with | 0, _ => exact ⟨_, rfl, rfl, rfl⟩ | 1, _ => exact ⟨_, rfl, rfl, rfl⟩ | 2, _ => exact ⟨_, rfl, rfl, rfl⟩) Tryz.underlying3 (by kernel_rfl) (by kernel_rfl) shape_sh.1 shape_sh.2 hd12 d_sh
  refine @GC.mk ⟨bt⟩ ⟨rt⟩ W (fun t ht => ?_) hbt hrt ⟨fun q hq i hi => ?_, fun j hj => ?_, fun l hl i hi => ?_, fun j hj => ?_⟩ ⟨fun j hj => ?_, ⟨range_of fun j hj => ?_, range_of fun j hj => ?_⟩, range_of fun j hj => ?_, fun j hj => ?_, fun q hq => ?_⟩
  · have e := sh_get t ht
    have h0 := k0 t (by omega) 0 (by omega)
    have h1 := k0 t (by omega) 1 (by omega)
    have h2 := k0 t (by omega) 2 (by omega)
    rw [e.1] at h0
    rw [e.2.1] at h1
    rw [e.2.2] at h2
    refine ⟨?_, ?_, ?_⟩
    · rw [World.var?_cell hg12 hv12, ← Array.getElem?_toList]; exact h0
    · rw [World.var?_cell hg12 hv12, ← Array.getElem?_toList]; exact h1
    · rw [World.var?_cell hg12 hv12, ← Array.getElem?_toList]; exact h2
  · rw [World.var?_cell hg7 hv7, ← Array.getElem?_toList]
    exact m0 q hq i hi
  · rw [World.var?_cell hg10 hv10, ← Array.getElem?_toList]
    have := m1 (j / 8) (by omega) (j % 8) (by omega)
    rw [show j / 8 * 8 + j % 8 = j by omega] at this
    exact this
  · rw [World.var?_cell hg8 hv8, ← Array.getElem?_toList]
    exact m2 l hl i hi
  · rw [World.var?_cell hg9 hv9, ← Array.getElem?_toList]
    have := m3 (j / 4) (by omega) (j % 4) (by omega)
    rw [show j / 4 * 4 + j % 4 = j by omega] at this
    exact this
  · rw [World.var?_cell hg0 hv0, ← Array.getElem?_toList, n0 j hj, odd_get j hj]
  · rw [World.var?_cell hg1 hv1, ← Array.getElem?_toList, n1 j hj, bytI_get _ _ hj]
  · rw [World.var?_cell hg2 hv2, ← Array.getElem?_toList, n2 j hj, bytI_get _ _ hj]
  · rw [A.sevB_length] at hj
    have h := n3 (j / 7) (by omega) (j % 7) (by omega)
    rw [show j / 7 * 7 + j % 7 = j by omega] at h
    rw [World.var?_cell hg3 hv3, ← Array.getElem?_toList, h, sevB_get j hj]
  · have h0 := n4 j hj 0 (by omega)
    have h1 := n4 j hj 1 (by omega)
    rw [(con_get j hj).1] at h0
    rw [(con_get j hj).2] at h1
    intro k v hv
    match k, hv with
    | 0, hv =>
      cases hv
      rw [World.var?_cell hg4 hv4, ← Array.getElem?_toList]; exact h0
    | 1, hv =>
      cases hv
      rw [World.var?_cell hg4 hv4, ← Array.getElem?_toList]; exact h1
    | k + 2, hv => simp at hv
  · rw [World.var?_cell hg5 hv5, ← Array.getElem?_toList, n5 q hq, tur_get q hq]
end Go.Proofs.YtbgkmicelmenfaaGreatDoor.C
