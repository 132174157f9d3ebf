/- Walk over the rounds of the program; own lemmas of the verifier, no statement is proved here. -/
import Derived.Test.YtamolgbdpnpemaaX7
namespace Go.Proofs.Ytamolgbdpnpemaa
open Go.RowKit
theorem exec_load57 {o : Oper} {a : Act} {w : World} {t : Tmp} {B : Nat} {x : F4} (ho : o.op = .load 57 (.tmp t)) (ht : a.tmps.getD t undef = .pointer (some ⟨B, 0, none⟩)) (hA : B4 w B x) :
    (execOp a.eval o).run Try.prog w = .ok (.value (.agg x.cells)) w := by
  have h := run_loadVar_row (P := Try.prog) w B 57 57 x.cells (0, 0) _ hA.heap Try.underlying57 rfl (F4.size x)
  unfold execOp
  simp only [ho, Act.eval, ht, Instr.loadAt, Instr.sureAddr, Sem.run_bind, Sem.run_pure, Result.andThen_ok, h]
def passKs (kb ko c r : Nat) (y : F4) (k : Nat → Nat) : List K := [.eq (.agg y.cells), .eq (.slice (some ⟨kb, ko + 6 * r, none⟩) (52 - 6 * r) (c - 6 * r)), .eq (.agg (byF y fun i => k (6 * r + i)).cells), .eq (.slice (some ⟨kb, ko + 6 * r, none⟩) (52 - 6 * r) (c - 6 * r)), .eq (.pointer (some ⟨kb, ko + 6 * r + 4, none⟩)), .eq (.int .i64 (k (6 * r + 4) : Nat)), .eq (.slice (some ⟨kb, ko + 6 * r, none⟩) (52 - 6 * r) (c - 6 * r)), .eq (.pointer (some ⟨kb, ko + 6 * r + 5, none⟩)), .eq (.int .i64 (k (6 * r + 5) : Nat)), .eq (.agg (mixF (byF y fun i => k (6 * r + i)) (k (6 * r + 4)) (k (6 * r + 5))).cells), .any]
structure PassS (k : Nat → Nat) (x : F4) (kb ko : Nat) (w : World) (G r : Nat) (w1 : World) : Prop where
  hr : r ≤ 8
  ext : Ext w w1
  blk : B4 w1 G (rndF k x r)
  res : B4 w1 (G + 1) ⟨0, 0, 0, 0⟩
  keys : KAt w1 kb ko 52 k
def PassJ (k : Nat → Nat) (x : F4) (kb ko c : Nat) (w : World) (G : Nat) (a : Act) (w1 : World) : Prop :=
  ∃ (r : Nat) (u5 u6 u7 u8 u9 u10 u11 u12 u13 u14 u15 u16 u17 u18 u19 u20 u21 u22 u23 u24 u25 u26 u27 : Value),
    a = { tmps := #[.agg x.cells, .slice (some ⟨kb, ko + 6 * r, none⟩) (52 - 6 * r) (c - 6 * r), .pointer (some ⟨G, 0, none⟩), undef, .pointer (some ⟨G + 1, 0, none⟩), u5, u6, u7, u8, u9, u10, u11, u12, u13, u14, u15, u16, u17, u18, u19, u20, u21, u22, u23, u24, u25, u26, u27, undef], defers := [] } ∧ PassS k x kb ko w G r w1
def lenAt (a : Act) : Nat := match a.tmps.getD 1 undef with | .slice _ n _ => n | _ => 0
theorem swap_list (x : F4) : (x.list.set 1 (x.c : Nat)).set 2 (x.b : Nat) = (swF x).list := rfl
theorem cell_setRow_ne {w : World} {g : Nat} {cs : Array Value} {p : Addr} (h : p.block ≠ g) : (w.setRow g cs).cell? p = w.cell? p := by
  unfold World.cell?
  rw [setRow_other w g p.block cs h]
theorem slice_six (kb ko c r : Nat) (w : World) (hr : r < 8) (hc : 52 ≤ c) :
    (Instr.sliceAt 25 (.slice (some ⟨kb, ko + 6 * r, none⟩) (52 - 6 * r) (c - 6 * r)) (some (.int .i64 6)) none none).run Try.prog w = .ok (.slice (some ⟨kb, ko + 6 * (r + 1), none⟩) (52 - 6 * (r + 1)) (c - 6 * (r + 1))) w := by
  have e := slice_lo25 kb (ko + 6 * r) (52 - 6 * r) (c - 6 * r) 6 w (by omega) (by omega)
  rw [show ((6 : Nat) : Int) = 6 from rfl] at e
  rw [e]
  congr 2 <;> first | omega | (congr 2; omega)
set_option maxRecDepth 100000 in
set_option maxHeartbeats 4000000 in
theorem pass_any (x : F4) (kb ko c : Nat) (k : Nat → Nat) (w : World) (hx : x.ok) (hk : KAt w kb ko 52 k) (hl : ∀ i, k i < 65536) (hc : 52 ≤ c) (hcb : c ≤ 1000) :
    Calls Try.prog 26 #[.agg x.cells, .slice (some ⟨kb, ko, none⟩) 52 c] w fun e w' => e = .returned (.agg (passF k x).cells) ∧ Ext w w' := by
  have HXO := hid hx
  have HL := hid hl
  have HKW := hid hk
  have h1 := heap_alloc2_old w (.cells x.cells 57) (.cells (F4.mk 0 0 0 0).cells 57)
  have h2 := heap_alloc2_new w (.cells x.cells 57) (.cells (F4.mk 0 0 0 0).cells 57)
  have h3 := (Ext.alloc w (.cells x.cells 57)).trans (Ext.alloc _ (.cells (F4.mk 0 0 0 0).cells 57))
  clear hx hl hk
  go_enter Try.func26, Try.ntmps26
  go_wp2_with fail
  refine wp_scope_jumps2 0 (PassJ k x kb ko c w w.heap.size) (fun a _ => lenAt a) rfl ?_ ?_
  · clear h1 h2 h3
    obtain ⟨G, hG⟩ : ∃ G, w.heap.size = G := ⟨_, rfl⟩
    rw [hG]
    have HG := hid hG
    clear hG
    rintro a w1 ⟨r, u5, u6, u7, u8, u9, u10, u11, u12, u13, u14, u15, u16, u17, u18, u19, u20, u21, u22, u23, u24, u25, u26, u27, rfl, hS⟩
    have hr := hS.hr
    have HS := hid hS
    have HY := hid hS.blk
    have HO := hid (rndF_ok (k := k) HXO.out r)
    have HST := hid (show rndF k x (r + 1) = mixF (byF (rndF k x r) fun i => k (6 * r + i)) (k (6 * r + 4)) (k (6 * r + 5)) from rfl)
    clear hS
    by_cases hlt : r < 8
    · have HN := hid (show (4 : Int) < ((52 - 6 * r : Nat) : Int) ∧ (5 : Int) < ((52 - 6 * r : Nat) : Int) from ⟨by omega, by omega⟩)
      have HK := hid (HS.out.keys.cut (6 * r))
      obtain ⟨y, hy⟩ : ∃ y, rndF k x r = y := ⟨_, rfl⟩
      rw [hy] at HY HO HST
      clear hy
      have hg4 : 4 < 52 - 6 * r := by omega
      have hg4i : (4 : Int) < ((52 - 6 * r : Nat) : Int) := by omega
      go_wp2_with fail
      refine region_upto 10 mixed rfl (by kernel_rfl) (by kernel_rfl) (by kernel_rfl) (kV (passKs kb ko c r y k)) (kV_keep _) (forall_ops ⟨?_, ?_, ?_, ?_, ?_, ?_, ?_, ?_, ?_, ?_, trivial⟩) ?_
      · intro a w hk
        have s2 : a.tmps.getD 2 undef = .pointer (some ⟨G, 0, none⟩) := hk.was 2 (by kernel_rfl) rfl
        refine step_val (v := .agg y.cells) (w' := w) rfl ?_ (Ext.refl w) rfl
        exact exec_load57 rfl s2 (HY.out.later hk.ext)
      · intro a w hk
        have s1 : a.tmps.getD 1 undef = .slice (some ⟨kb, ko + 6 * r, none⟩) (52 - 6 * r) (c - 6 * r) := hk.was 1 (by kernel_rfl) rfl
        exact step_move rfl rfl s1 rfl
      · intro a w hk
        have s8 := hk.eq_ 0 8 (by kernel_rfl) rfl
        have s9 := hk.eq_ 1 9 (by kernel_rfl) rfl
        exact step_call rfl rfl (by simp only [List.map_toArray, List.map_cons, List.map_nil, Act.eval, s8, s9] <;> rfl) cf31 (byfour_any y kb (ko + 6 * r) (52 - 6 * r) (c - 6 * r) (fun i => k (6 * r + i)) w HO.out (HK.out.later hk.ext) (fun i => HL.out _) (by omega) (by omega)) (fun e w1 h => retX e w1 h)
      · intro a w hk
        have s1 : a.tmps.getD 1 undef = .slice (some ⟨kb, ko + 6 * r, none⟩) (52 - 6 * r) (c - 6 * r) := hk.was 1 (by kernel_rfl) rfl
        exact step_move rfl rfl s1 rfl
      · intro a w hk
        have s11 := hk.eq_ 3 11 (by kernel_rfl) rfl
        refine step_val (v := .pointer (some ⟨kb, ko + 6 * r + 4, none⟩)) (w' := w) rfl ?_ (Ext.refl w) rfl
        have hn4 := HN.out.1
        have hn5 := HN.out.2
        go_simp
      · intro a w hk
        have s12 := hk.eq_ 4 12 (by kernel_rfl) rfl
        refine step_val (v := .int .i64 (k (6 * r + 4) : Nat)) (w' := w) rfl ?_ (Ext.refl w) rfl
        have hc := (HK.out.later hk.ext).2 4 (by omega)
        go_simp
      · intro a w hk
        have s1 : a.tmps.getD 1 undef = .slice (some ⟨kb, ko + 6 * r, none⟩) (52 - 6 * r) (c - 6 * r) := hk.was 1 (by kernel_rfl) rfl
        exact step_move rfl rfl s1 rfl
      · intro a w hk
        have s14 := hk.eq_ 6 14 (by kernel_rfl) rfl
        refine step_val (v := .pointer (some ⟨kb, ko + 6 * r + 5, none⟩)) (w' := w) rfl ?_ (Ext.refl w) rfl
        have hn4 := HN.out.1
        have hn5 := HN.out.2
        go_simp
      · intro a w hk
        have s15 := hk.eq_ 7 15 (by kernel_rfl) rfl
        refine step_val (v := .int .i64 (k (6 * r + 5) : Nat)) (w' := w) rfl ?_ (Ext.refl w) rfl
        have hc := (HK.out.later hk.ext).2 5 (by omega)
        go_simp
      · intro a w hk
        have s10 := hk.eq_ 2 10 (by kernel_rfl) rfl
        have s13 := hk.eq_ 5 13 (by kernel_rfl) rfl
        have s16 := hk.eq_ 8 16 (by kernel_rfl) rfl
        exact step_call rfl rfl (by simp only [List.map_toArray, List.map_cons, List.map_nil, Act.eval, s10, s13, s16] <;> rfl) cf30 (mix_any _ _ _ w (byF_ok _ _) (HL.out _) (HL.out _)) (fun e w1 h => retX e w1 h)
      · intro a w1 hf
        have s8 := hf.eq_ 0 8 (by kernel_rfl) rfl
        have s9 := hf.eq_ 1 9 (by kernel_rfl) rfl
        have s10 := hf.eq_ 2 10 (by kernel_rfl) rfl
        have s11 := hf.eq_ 3 11 (by kernel_rfl) rfl
        have s12 := hf.eq_ 4 12 (by kernel_rfl) rfl
        have s13 := hf.eq_ 5 13 (by kernel_rfl) rfl
        have s14 := hf.eq_ 6 14 (by kernel_rfl) rfl
        have s15 := hf.eq_ 7 15 (by kernel_rfl) rfl
        have s16 := hf.eq_ 8 16 (by kernel_rfl) rfl
        have s17 := hf.eq_ 9 17 (by kernel_rfl) rfl
        have hx := hf.ext
        have e := hf.frame
        clear hf
        simp only [List.take_succ_cons, List.take_zero, regFrame, Act.put, List.setIfInBounds_toArray, List.set_cons_zero, List.set_cons_succ, s8, s9, s10, s11, s12, s13, s14, s15, s16, s17] at e
        clear s8 s9 s10 s11 s12 s13 s14 s15 s16 s17
        subst e
        simp only [List.drop_succ_cons, List.drop_zero]
        have hb1 := (HS.out.blk.later hx)
        have hr1 := (HS.out.res.later hx)
        have HB1 := hid hb1.heap
        have HS2 := hid (show PassS k x kb ko w G (r + 1) (w1.setRow G (mixF (byF y fun i => k (6 * r + i)) (k (6 * r + 4)) (k (6 * r + 5))).cells) from
          ⟨by omega, Below.setRow_ (HS.out.ext.trans hx) (by have := HG.out; omega) _, by rw [HST.out]; exact hb1.put _, Blk.putne hr1 _ _ (by omega),
            ⟨by rw [setRow_size]; exact (HS.out.keys.later hx).1, fun j hj => by
              rw [cell_setRow_ne (by show kb ≠ G; have := HKW.out.1; have := HG.out; omega)]
              exact (HS.out.keys.later hx).2 j hj⟩⟩)
        have HSL := hid (fun w => slice_six kb ko c r w hlt hc)
        clear hb1 hr1 hx
        go_wp2_with (first
          | (refine wpList_store_row rfl 57 (.tmp 2) (.tmp 17) rfl G (mixF (byF y fun i => k (6 * r + i)) (k (6 * r + 4)) (k (6 * r + 5))).cells rfl rfl 57 _ HB1.out (F4.size _) rfl (F4.all _) ?_)
          | (rw [HSL.out]; simp only [Result.andThen]; rw [Oper.upon_value]))
        go_step3
        refine ⟨rfl, ⟨r + 1, _, _, _, _, _, _, _, _, _, _, _, _, _, _, _, _, _, _, _, _, _, _, _, rfl, HS2.out⟩, ?_⟩
        simp [lenAt]; omega
    · obtain rfl : r = 8 := by omega
      have HE := hid HS.out.ext
      have hb0 := HS.out.blk
      have hcb := hb0.cb
      have hcc := hb0.cc
      have hf1 := Blk.frozen hb0 1
      have hf2 := Blk.frozen hb0 2
      have hsw := Blk.set_ (Blk.set_ hb0 1 ((rndF k x 8).c : Nat)) 2 ((rndF k x 8).b : Nat)
      rw [swap_list] at hsw
      have hext2 := Below.setCell (Below.setCell HS.out.ext (p := ⟨G, 1, none⟩) (by have := HG.out; simp; omega) (.int .i64 ((rndF k x 8).c : Nat))) (p := ⟨G, 2, none⟩) (by have := HG.out; simp; omega) (.int .i64 ((rndF k x 8).b : Nat))
      have hres2 := Blk.setne (Blk.setne HS.out.res ⟨G, 1, none⟩ (.int .i64 ((rndF k x 8).c : Nat)) (by simp)) ⟨G, 2, none⟩ (.int .i64 ((rndF k x 8).b : Nat)) (by simp)
      have hky := HKW.out.later (show Ext w _ from hext2)
      obtain ⟨y, hy⟩ : ∃ y, rndF k x 8 = y := ⟨_, rfl⟩
      have HP := hid (show passF k x = byF (swF y) fun i => k (48 + i) by rw [← hy]; rfl)
      rw [hy] at hb0 hcb hcc hsw hext2 hres2 hky HO
      have HSW := hid (B4.heap hsw)
      have HEX := hid hext2
      have HRS := hid hres2
      have HKY := hid (hky.cut 48)
      clear hy hb0 hsw hext2 hres2 hky HS HY HST
      rw [show ko + 6 * 8 = ko + 48 from rfl, show 52 - 6 * 8 = 4 from rfl, show c - 6 * 8 = c - 48 from rfl]
      go_wp2_with (refine wpList_load_row rfl 57 (.tmp 2) rfl G rfl 57 (swF y).cells (0, 0) _ HSW.out Try.underlying57 rfl (F4.size _) ?_)
      refine (byfour_any (swF y) kb (ko + 48) 4 (c - 48) (fun i => k (48 + i)) _ (swF_ok HO.out) HKY.out (fun i => HL.out _) (by omega) (by omega)).mono ?_
      rintro e w3 ⟨rfl, hx3⟩
      have HR1 := hid (B4.heap (B4.later (show B4 _ (G + 1) ⟨0, 0, 0, 0⟩ from HRS.out) hx3))
      have HR2 := hid (B4.heap ((B4.later (show B4 _ (G + 1) ⟨0, 0, 0, 0⟩ from HRS.out) hx3).put (byF (swF y) fun i => k (48 + i))))
      have HE2 := hid (Below.setRow_ (Ext.trans (show Ext w _ from HEX.out) hx3) (g := G + 1) (by have := HG.out; omega) (byF (swF y) fun i => k (48 + i)).cells)
      clear hx3
      go_wp2_with (refine wpList_store_row rfl 57 (.tmp 4) (.tmp 28) rfl (G + 1) (byF (swF y) fun i => k (48 + i)).cells rfl rfl 57 _ HR1.out (F4.size _) rfl (F4.all _) ?_)
      (try simp only [Exit.jump])
      refine ret_cell rfl rfl (G + 1) 57 _ (0, 0) rfl HR2.out Try.underlying57 (F4.size _) ⟨by rw [HP.out], HE2.out⟩
  · intro hfirst
    go_wp2_with fail
    go_step3
    simp only [Exit.then]
    rename_i hK
    refine hK _ _ ?_
    exact hfirst.out _ _ ⟨0, _, _, _, _, _, _, _, _, _, _, _, _, _, _, _, _, _, _, _, _, _, _, _, rfl, ⟨by omega, h3, h1, h2, HKW.out.later h3⟩⟩
end Go.Proofs.Ytamolgbdpnpemaa
