/- The law on known bits, walked; own text of the verifier. -/
import Derived.Test.YtakfndhknoleaaaB9
namespace Go.Proofs.Ytakfndhknoleaaa
open Go.RowKit
theorem mixed : Try.prog.follows .mixedOrders = true := by kernel_rfl
theorem cf12 (vs : Array Value) (w : World) : (callFunc 12 vs).run Try.prog w = .ok (.enter 12 vs) w := by go_simp
theorem retE {w : World} {v : Value} (e : Ending) (w' : World) (h : e = .returned v ∧ w = w') : ∃ u, e = .returned u ∧ Ext w w' ∧ K.holds (.eq v) w' u := by
  obtain ⟨rfl, rfl⟩ := h
  exact ⟨_, rfl, Ext.refl _, rfl⟩
theorem kb1 : bitN [1] 8 = 1 := by decide +kernel
theorem kb2 : bitN [1] 7 = 0 := by decide +kernel
theorem kb3 : bitN [0, 128] 9 = 1 := by decide +kernel
theorem six_true (j : Nat) (h : j < 6) : some ((List.replicate 6 (Value.bool true)).getD j undef) = some (.bool true) := by
  simp only [List.getD, List.getElem?_replicate, h, if_true, Option.getD_some]
def knownKs (A6 : Option Addr) (c6 b7 o7 c7 : Nat) : List K := [.byt 1 ([255]), .eq (.int .i64 1), .eq (.bool true), .eq (.bool true), .byt 1 ([255]), .ptr (.int .u8 (byteAt ([255]) 0)), .eq (.int .u8 (byteAt ([255]) 0)), .eq (.bool true), .eq (.bool true), .byt 1 ([160]), .eq (.int .i64 1), .eq (.bool true), .eq (.bool true), .byt 1 ([160]), .ptr (.int .u8 (byteAt ([160]) 0)), .eq (.int .u8 (byteAt ([160]) 0)), .eq (.bool true), .eq (.bool true), .eq (.bool false), .eq (.bool true), .eq (.bool true), .eq (.bool false), .eq (.bool true), .eq (.bool true), .eq (.bool true), .eq (.bool true), .eq (.slice A6 0 c6), .eq (.int .i64 0), .eq (.bool true), .eq (.bool true), .eq (.slice (some ⟨b7, o7, none⟩) 3 c7), .eq (.int .i64 3), .eq (.bool true), .eq (.bool true), .eq (.slice (some ⟨b7, o7, none⟩) 3 c7), .ptr (.int .i64 3), .eq (.int .i64 3), .eq (.bool true), .eq (.bool true), .eq (.bool true), .eq (.slice (some ⟨b7, o7, none⟩) 3 c7), .ptr (.int .i64 1), .eq (.int .i64 1), .eq (.bool true), .eq (.bool true), .eq (.bool true), .eq (.slice (some ⟨b7, o7, none⟩) 3 c7), .ptr (.int .i64 2), .eq (.int .i64 2), .eq (.bool true), .eq (.bool true), .byt 1 ([1]), .eq (.int .i64 1), .eq (.bool true), .eq (.bool true), .byt 1 ([1]), .eq (.int .i64 0), .eq (.bool true), .eq (.bool true), .eq (.bool true), .byt 2 ([0, 128]), .eq (.int .i64 1), .eq (.bool true), .eq (.bool true), .row 6 (List.replicate 6 (Value.bool true)), .row 6 (List.replicate 6 (Value.bool true))]
theorem lit_tab (w : World) (ys : List Int) (cs : Array Value) (n : Nat) (hcs : cs.toList = cN .i64 ys) (hn : ys.length = n) (hm : n ≤ 1000) (h : (ys.all fun t => (Lit.int .i64 t).wf) = true) :
    Tab (w.alloc (.cells cs 3)) (some ⟨w.heap.size, 0, none⟩) n n ys := by
  obtain ⟨A, c, hA, hc, hR, _⟩ := (OwnN.lit (e := 3) w ys cs n w.heap.size hcs hn (by unfold maxLen; omega) (Nat.le_refl _)).rdc hn
  cases hA
  exact ⟨hR, hc, hm, wf_list hn h⟩
theorem lit_rd (w : World) (ys : List UInt8) (cs : Array Value) (n : Nat) (hcs : cs.toList = cellsOf ys) (hn : ys.length = n) (hm : n ≤ 1000) :
    Rd (w.alloc (.cells cs 5)) (w.alloc (.cells cs 5)).heap.size (some ⟨w.heap.size, 0, none⟩) n ys := by
  obtain ⟨A, c, hA, hR, _⟩ := (Own.lit w ys cs n w.heap.size hcs hn (by unfold maxLen; omega) (Nat.le_refl _)).rdn hn
  cases hA
  exact hR
def PR (w : World) (r : Option (List UInt8)) (e : Ending) (w' : World) : Prop :=
  match r with
  | none => e = .returned (.tuple #[.slice none 0 0, .bool false]) ∧ Ext w w'
  | some out => ∃ A c, e = .returned (.tuple #[.slice A out.length c, .bool true]) ∧ Rd w' w'.heap.size A out.length out ∧ Ext w w'
theorem PR.of {w w1 w' : World} {r : Option (List UInt8)} {e : Ending} (hx : Ext w w1) (h : PermRet w1 r e w') : PR w r e w' := by
  cases r with
  | none => exact ⟨h.1, Ext.trans hx h.2⟩
  | some out =>
    obtain ⟨v, rfl, ho, hb⟩ := h
    obtain ⟨A, c, rfl, hr, _⟩ := ho.rd
    exact ⟨A, c, rfl, hr, Ext.trans hx hb⟩
theorem perm_lit (w : World) (bs : List UInt8) (cs : Array Value) (n : Nat) (ts : List Int) (ds : Array Value) (m : Nat) (R : Option (List UInt8))
    (hcs : cs.toList = cellsOf bs) (hn : bs.length = n) (hn' : n ≤ 1000) (hds : ds.toList = cN .i64 ts) (hm : ts.length = m) (hm' : m ≤ 1000) (hw : (ts.all fun t => (Lit.int .i64 t).wf) = true) (hR : permR bs ts = R) :
    Calls Try.prog 15 #[.slice (some ⟨w.heap.size, 0, none⟩) n n, .slice (some ⟨w.heap.size + 1, 0, none⟩) m m] ((w.alloc (.cells cs 5)).alloc (.cells ds 3)) (PR w R) := by
  have h1 := lit_rd w bs cs n hcs hn hn'
  have h2 := lit_tab (w.alloc (.cells cs 5)) ts ds m hds hm hm' hw
  have hz : (w.alloc (.cells cs 5)).heap.size = w.heap.size + 1 := by simp
  have hx1 := Ext.alloc w (.cells cs 5)
  have hx2 := Ext.alloc (w.alloc (.cells cs 5)) (.cells ds 3)
  rw [hz] at h2
  refine (perm_any _ _ _ _ _ _ _ _ _ (h1.later hx2) h2.1 (by omega) h2.2.1 h2.2.2.2).mono ?_
  rw [hR]
  exact fun e w' h => PR.of (Ext.trans hx1 hx2) h
theorem perm_lit0 (w : World) (ts : List Int) (ds : Array Value) (m : Nat) (R : Option (List UInt8))
    (hds : ds.toList = cN .i64 ts) (hm : ts.length = m) (hm' : m ≤ 1000) (hw : (ts.all fun t => (Lit.int .i64 t).wf) = true) (hR : permR [] ts = R) :
    Calls Try.prog 15 #[.slice none 0 0, .slice (some ⟨w.heap.size, 0, none⟩) m m] (w.alloc (.cells ds 3)) (PR w R) := by
  have h2 := lit_tab w ts ds m hds hm hm' hw
  refine (perm_any _ _ _ _ _ _ _ _ _ (Rd.nil _ _ _) h2.1 (by omega) h2.2.1 h2.2.2.2).mono ?_
  rw [hR]
  exact fun e w' h => PR.of (Ext.alloc w _) h
theorem perm_nil (w : World) : Calls Try.prog 15 #[.slice none 0 0, .slice none 0 0] w (PR w (some [])) := by
  refine (perm_any _ _ _ _ _ _ [] [] _ (Rd.nil _ _ _) (RdN.nil _ _ _) (by omega) (by omega) (fun j hj => absurd hj (by omega))).mono ?_
  exact fun e w' h => PR.of (Ext.refl w) h
theorem bit_lit (w : World) (bs : List UInt8) (cs : Array Value) (n : Nat) (i : Int) (b : Nat) (hcs : cs.toList = cellsOf bs) (hn : bs.length = n) (hn' : n ≤ 1000) (h0 : -9223372036854775808 ≤ i) (h1 : i ≤ 9223372036854775807) (hb : bitN bs i = b) :
    Calls Try.prog 12 #[.slice (some ⟨w.heap.size, 0, none⟩) n n, .int .i64 i] (w.alloc (.cells cs 5)) fun e w' => e = .returned (.int .i64 (b : Int)) ∧ w.alloc (.cells cs 5) = w' := by
  subst hb
  exact bit_any _ _ _ _ _ _ (lit_rd w bs cs n hcs hn hn') h0 h1
set_option maxRecDepth 100000 in
set_option maxHeartbeats 4000000 in
theorem knownlaw_walk (a0 : Int) (_w0 : (Lit.int .i64 a0).wf = true) (w : World) :
    Calls Try.prog 10 #[.int .i64 a0] w fun e w' => e = .returned (.bool true) ∧ Below w.heap.size w w' := by
  go_enter Try.func10, Try.ntmps10
  go_wp2_with fail
  refine (known_any _).mono ?_
  rintro e w1 ⟨rfl, hb1⟩
  have HX1 := hid (show Ext w w1 from hb1)
  clear hb1
  go_wp2_with fail
  refine (perm_lit _ [240, 15] _ 2 [13, 14, 15, 16, 1, 2, 3, 4] _ 8 (some [255]) rfl rfl (by omega) rfl rfl (by omega) (by decide +kernel) (by decide +kernel)).mono ?_
  rintro e w2 ⟨A2, c2, rfl, hr2, hx2⟩
  have HX2 := hid (Ext.trans HX1.out hx2)
  have hr2h := hid hr2
  clear hr2 hx2
  go_wp2_with fail
  refine (perm_lit _ [160] _ 1 [1, 2, 3] _ 3 (some [160]) rfl rfl (by omega) rfl rfl (by omega) (by decide +kernel) (by decide +kernel)).mono ?_
  rintro e w3 ⟨A3, c3, rfl, hr3, hx3⟩
  have HX3 := hid (Ext.trans HX2.out hx3)
  have hr23 := hid (hr2h.out.later hx3)
  have hr3h := hid hr3
  clear hr3 hx3
  go_wp2_with fail
  refine (perm_lit _ [1] _ 1 [9] _ 1 none rfl rfl (by omega) rfl rfl (by omega) (by decide +kernel) (by decide +kernel)).mono ?_
  rintro e w4 ⟨rfl, hx4⟩
  have HX4 := hid (Ext.trans HX3.out hx4)
  have hr24 := hid (hr23.out.later hx4)
  have hr34 := hid (hr3h.out.later hx4)
  clear hx4
  go_wp2_with fail
  refine (perm_lit0 _ [1] _ 1 none rfl rfl (by omega) (by decide +kernel) (by decide +kernel)).mono ?_
  rintro e w5 ⟨rfl, hx5⟩
  have HX5 := hid (Ext.trans HX4.out hx5)
  have hr25 := hid (hr24.out.later hx5)
  have hr35 := hid (hr34.out.later hx5)
  clear hx5
  go_wp2_with fail
  refine (perm_nil _).mono ?_
  rintro e w6 ⟨A6, c6, rfl, hr6, hx6⟩
  have HX6 := hid (Ext.trans HX5.out hx6)
  have hr26 := hid (hr25.out.later hx6)
  have hr36 := hid (hr35.out.later hx6)
  clear hr6 hx6
  go_wp2_with fail
  have t7 := lit_tab w6 [2, 3, 1] #[.int .i64 2, .int .i64 3, .int .i64 1] 3 rfl rfl (by omega) (by decide +kernel)
  refine (inv_any _ _ _ _ _ t7.1 (by omega) t7.2.2.2).mono ?_
  rw [show invG [2, 3, 1] 3 3 = some [3, 1, 2] by decide +kernel]
  rintro e w7 ⟨v7, rfl, ho7, hb7⟩
  obtain ⟨A7, c7, rfl, hr7, _⟩ := ho7.rdn (n := 3) rfl
  have hx7 := Ext.trans (Ext.alloc w6 (.cells #[.int .i64 2, .int .i64 3, .int .i64 1] 3)) hb7
  have HX7 := hid (Ext.trans HX6.out hx7)
  obtain ⟨b2, o2, rfl, hb2', _⟩ := (hr26.out.later hx7).at_ (by decide)
  obtain ⟨b3, o3, rfl, hb3', _⟩ := (hr36.out.later hx7).at_ (by decide)
  obtain ⟨b7, o7, rfl, hb7', hc7⟩ := hr7.at_ (by decide)
  have hrA := hid (hr26.out.later hx7)
  have hrB := hid (hr36.out.later hx7)
  have k70 := hc7 0 (by decide)
  have k71 := hc7 1 (by decide)
  have k72 := hc7 2 (by decide)
  rw [show [3, 1, 2].getD 0 (0 : Int) = 3 from rfl, Nat.add_zero] at k70
  rw [show [3, 1, 2].getD 1 (0 : Int) = 1 from rfl] at k71
  rw [show [3, 1, 2].getD 2 (0 : Int) = 2 from rfl] at k72
  have k70 := hid k70
  have k71 := hid k71
  have k72 := hid k72
  clear t7 ho7 hb7 hr7 hx7 hc7 hr2h hr23 hr24 hr25 hr26 hr3h hr34 hr35 hr36
  go_wp2_with fail
  refine region_inv mixed rfl (by kernel_rfl) (kV (knownKs A6 c6 b7 o7 c7)) (kV_keep _) (forall_ops ⟨?_, ?_, ?_, ?_, ?_, ?_, ?_, ?_, ?_, ?_, ?_, ?_, ?_, ?_, ?_, ?_, ?_, ?_, ?_, ?_, ?_, ?_, ?_, ?_, ?_, ?_, ?_, ?_, ?_, ?_, ?_, ?_, ?_, ?_, ?_, ?_, ?_, ?_, ?_, ?_, ?_, ?_, ?_, ?_, ?_, ?_, ?_, ?_, ?_, ?_, ?_, ?_, ?_, ?_, ?_, ?_, ?_, ?_, ?_, ?_, ?_, ?_, ?_, ?_, ?_, ?_, trivial⟩) ?_
  · intro a w hk
    have s3 : a.tmps.getD 3 undef = .slice (some ⟨b2, o2, none⟩) 1 c2 := hk.was 3 (by kernel_rfl) rfl
    have r3 := (hrA.out).later hk.ext
    exact step_move rfl rfl s3 ⟨_, _, rfl, r3⟩
  · intro a w hk
    obtain ⟨A50, c50, s50, r50⟩ := hk.byt_ 0 50 (by kernel_rfl) rfl
    refine step_val (v := .int .i64 1) (w' := w) rfl ?_ (Ext.refl w) rfl
    go_simp
  · intro a w hk
    have s51 := hk.eq_ 1 51 (by kernel_rfl) rfl
    refine step_val (v := .bool true) (w' := w) rfl ?_ (Ext.refl w) rfl
    go_simp
  · intro a w hk
    have s52 := hk.eq_ 2 52 (by kernel_rfl) rfl
    exact step_move rfl rfl s52 rfl
  · intro a w hk
    refine hk.run 3 53 true true rfl (by kernel_rfl) rfl fun hw => ?_
    have s3 : a.tmps.getD 3 undef = .slice (some ⟨b2, o2, none⟩) 1 c2 := hk.was 3 (by kernel_rfl) rfl
    have r3 := (hrA.out).later hk.ext
    exact step_move hw rfl s3 ⟨_, _, rfl, r3⟩
  · intro a w hk
    refine hk.run 3 53 true true rfl (by kernel_rfl) rfl fun hw => ?_
    obtain ⟨A54, c54, s54, r54⟩ := hk.byt_ 4 54 (by kernel_rfl) rfl
    obtain ⟨b, o, rfl, hb, hc⟩ := r54.at_ (by omega)
    have hc1 := hc 0 (by omega)
    rw [Nat.add_zero] at hc1
    refine step_val (v := .pointer (some ⟨b, o, none⟩)) (w' := w) hw ?_ (Ext.refl w) ⟨_, rfl, hb, hc1⟩
    go_simp
  · intro a w hk
    refine hk.run 3 53 true true rfl (by kernel_rfl) rfl fun hw => ?_
    obtain ⟨p55, s55, h55, g55⟩ := hk.val 5 55 (by kernel_rfl) rfl
    refine step_val (v := .int .u8 (byteAt ([255]) 0)) (w' := w) hw ?_ (Ext.refl w) rfl
    go_simp
  · intro a w hk
    refine hk.run 3 53 true true rfl (by kernel_rfl) rfl fun hw => ?_
    have s56 := hk.eq_ 6 56 (by kernel_rfl) rfl
    refine step_val (v := .bool true) (w' := w) hw ?_ (Ext.refl w) rfl
    have hby : byteAt [255] 0 = 255 := rfl
    go_simp
  · intro a w hk
    have s53 := hk.eq_ 3 53 (by kernel_rfl) rfl
    have s57 := hk.eq_ 7 57 (by kernel_rfl) rfl
    exact step_pick (b := true) rfl rfl s53 s57 rfl
  · intro a w hk
    have s5 : a.tmps.getD 5 undef = .slice (some ⟨b3, o3, none⟩) 1 c3 := hk.was 5 (by kernel_rfl) rfl
    have r5 := (hrB.out).later hk.ext
    exact step_move rfl rfl s5 ⟨_, _, rfl, r5⟩
  · intro a w hk
    obtain ⟨A59, c59, s59, r59⟩ := hk.byt_ 9 59 (by kernel_rfl) rfl
    refine step_val (v := .int .i64 1) (w' := w) rfl ?_ (Ext.refl w) rfl
    go_simp
  · intro a w hk
    have s60 := hk.eq_ 10 60 (by kernel_rfl) rfl
    refine step_val (v := .bool true) (w' := w) rfl ?_ (Ext.refl w) rfl
    go_simp
  · intro a w hk
    have s61 := hk.eq_ 11 61 (by kernel_rfl) rfl
    exact step_move rfl rfl s61 rfl
  · intro a w hk
    refine hk.run 12 62 true true rfl (by kernel_rfl) rfl fun hw => ?_
    have s5 : a.tmps.getD 5 undef = .slice (some ⟨b3, o3, none⟩) 1 c3 := hk.was 5 (by kernel_rfl) rfl
    have r5 := (hrB.out).later hk.ext
    exact step_move hw rfl s5 ⟨_, _, rfl, r5⟩
  · intro a w hk
    refine hk.run 12 62 true true rfl (by kernel_rfl) rfl fun hw => ?_
    obtain ⟨A63, c63, s63, r63⟩ := hk.byt_ 13 63 (by kernel_rfl) rfl
    obtain ⟨b, o, rfl, hb, hc⟩ := r63.at_ (by omega)
    have hc1 := hc 0 (by omega)
    rw [Nat.add_zero] at hc1
    refine step_val (v := .pointer (some ⟨b, o, none⟩)) (w' := w) hw ?_ (Ext.refl w) ⟨_, rfl, hb, hc1⟩
    go_simp
  · intro a w hk
    refine hk.run 12 62 true true rfl (by kernel_rfl) rfl fun hw => ?_
    obtain ⟨p64, s64, h64, g64⟩ := hk.val 14 64 (by kernel_rfl) rfl
    refine step_val (v := .int .u8 (byteAt ([160]) 0)) (w' := w) hw ?_ (Ext.refl w) rfl
    go_simp
  · intro a w hk
    refine hk.run 12 62 true true rfl (by kernel_rfl) rfl fun hw => ?_
    have s65 := hk.eq_ 15 65 (by kernel_rfl) rfl
    refine step_val (v := .bool true) (w' := w) hw ?_ (Ext.refl w) rfl
    have hby : byteAt [160] 0 = 160 := rfl
    go_simp
  · intro a w hk
    have s62 := hk.eq_ 12 62 (by kernel_rfl) rfl
    have s66 := hk.eq_ 16 66 (by kernel_rfl) rfl
    exact step_pick (b := true) rfl rfl s62 s66 rfl
  · intro a w hk
    have s8 : a.tmps.getD 8 undef = .bool false := hk.was 8 (by kernel_rfl) rfl
    exact step_move rfl rfl s8 rfl
  · intro a w hk
    have s68 := hk.eq_ 18 68 (by kernel_rfl) rfl
    refine step_val (v := .bool true) (w' := w) rfl ?_ (Ext.refl w) rfl
    go_simp
  · intro a w hk
    have s69 := hk.eq_ 19 69 (by kernel_rfl) rfl
    exact step_move rfl rfl s69 rfl
  · intro a w hk
    refine hk.run 20 70 true true rfl (by kernel_rfl) rfl fun hw => ?_
    have s10 : a.tmps.getD 10 undef = .bool false := hk.was 10 (by kernel_rfl) rfl
    exact step_move hw rfl s10 rfl
  · intro a w hk
    refine hk.run 20 70 true true rfl (by kernel_rfl) rfl fun hw => ?_
    have s71 := hk.eq_ 21 71 (by kernel_rfl) rfl
    refine step_val (v := .bool true) (w' := w) hw ?_ (Ext.refl w) rfl
    go_simp
  · intro a w hk
    have s70 := hk.eq_ 20 70 (by kernel_rfl) rfl
    have s72 := hk.eq_ 22 72 (by kernel_rfl) rfl
    exact step_pick (b := true) rfl rfl s70 s72 rfl
  · intro a w hk
    have s12 : a.tmps.getD 12 undef = .bool true := hk.was 12 (by kernel_rfl) rfl
    exact step_move rfl rfl s12 rfl
  · intro a w hk
    have s74 := hk.eq_ 24 74 (by kernel_rfl) rfl
    exact step_move rfl rfl s74 rfl
  · intro a w hk
    refine hk.run 25 75 true true rfl (by kernel_rfl) rfl fun hw => ?_
    have s11 : a.tmps.getD 11 undef = .slice A6 0 c6 := hk.was 11 (by kernel_rfl) rfl
    exact step_move hw rfl s11 rfl
  · intro a w hk
    refine hk.run 25 75 true true rfl (by kernel_rfl) rfl fun hw => ?_
    have s76 := hk.eq_ 26 76 (by kernel_rfl) rfl
    refine step_val (v := .int .i64 0) (w' := w) hw ?_ (Ext.refl w) rfl
    go_simp
  · intro a w hk
    refine hk.run 25 75 true true rfl (by kernel_rfl) rfl fun hw => ?_
    have s77 := hk.eq_ 27 77 (by kernel_rfl) rfl
    refine step_val (v := .bool true) (w' := w) hw ?_ (Ext.refl w) rfl
    go_simp
  · intro a w hk
    have s75 := hk.eq_ 25 75 (by kernel_rfl) rfl
    have s78 := hk.eq_ 28 78 (by kernel_rfl) rfl
    exact step_pick (b := true) rfl rfl s75 s78 rfl
  · intro a w hk
    have s13 : a.tmps.getD 13 undef = .slice (some ⟨b7, o7, none⟩) 3 c7 := hk.was 13 (by kernel_rfl) rfl
    exact step_move rfl rfl s13 rfl
  · intro a w hk
    have s80 := hk.eq_ 30 80 (by kernel_rfl) rfl
    refine step_val (v := .int .i64 3) (w' := w) rfl ?_ (Ext.refl w) rfl
    go_simp
  · intro a w hk
    have s81 := hk.eq_ 31 81 (by kernel_rfl) rfl
    refine step_val (v := .bool true) (w' := w) rfl ?_ (Ext.refl w) rfl
    go_simp
  · intro a w hk
    have s82 := hk.eq_ 32 82 (by kernel_rfl) rfl
    exact step_move rfl rfl s82 rfl
  · intro a w hk
    refine hk.run 33 83 true true rfl (by kernel_rfl) rfl fun hw => ?_
    have s13 : a.tmps.getD 13 undef = .slice (some ⟨b7, o7, none⟩) 3 c7 := hk.was 13 (by kernel_rfl) rfl
    exact step_move hw rfl s13 rfl
  · intro a w hk
    refine hk.run 33 83 true true rfl (by kernel_rfl) rfl fun hw => ?_
    have s84 := hk.eq_ 34 84 (by kernel_rfl) rfl
    refine step_val (v := .pointer (some ⟨b7, o7, none⟩)) (w' := w) hw ?_ (Ext.refl w) ⟨_, rfl, Nat.lt_of_lt_of_le hb7' (Below.size hk.ext), (Below.cell hk.ext (p := ⟨b7, o7, none⟩) hb7').trans k70.out⟩
    go_simp
  · intro a w hk
    refine hk.run 33 83 true true rfl (by kernel_rfl) rfl fun hw => ?_
    obtain ⟨p85, s85, h85, g85⟩ := hk.val 35 85 (by kernel_rfl) rfl
    refine step_val (v := .int .i64 3) (w' := w) hw ?_ (Ext.refl w) rfl
    go_simp
  · intro a w hk
    refine hk.run 33 83 true true rfl (by kernel_rfl) rfl fun hw => ?_
    have s86 := hk.eq_ 36 86 (by kernel_rfl) rfl
    refine step_val (v := .bool true) (w' := w) hw ?_ (Ext.refl w) rfl
    go_simp
  · intro a w hk
    have s83 := hk.eq_ 33 83 (by kernel_rfl) rfl
    have s87 := hk.eq_ 37 87 (by kernel_rfl) rfl
    exact step_pick (b := true) rfl rfl s83 s87 rfl
  · intro a w hk
    have s88 := hk.eq_ 38 88 (by kernel_rfl) rfl
    exact step_move rfl rfl s88 rfl
  · intro a w hk
    refine hk.run 39 89 true true rfl (by kernel_rfl) rfl fun hw => ?_
    have s13 : a.tmps.getD 13 undef = .slice (some ⟨b7, o7, none⟩) 3 c7 := hk.was 13 (by kernel_rfl) rfl
    exact step_move hw rfl s13 rfl
  · intro a w hk
    refine hk.run 39 89 true true rfl (by kernel_rfl) rfl fun hw => ?_
    have s90 := hk.eq_ 40 90 (by kernel_rfl) rfl
    refine step_val (v := .pointer (some ⟨b7, o7 + 1, none⟩)) (w' := w) hw ?_ (Ext.refl w) ⟨_, rfl, Nat.lt_of_lt_of_le hb7' (Below.size hk.ext), (Below.cell hk.ext (p := ⟨b7, o7 + 1, none⟩) hb7').trans k71.out⟩
    go_simp
  · intro a w hk
    refine hk.run 39 89 true true rfl (by kernel_rfl) rfl fun hw => ?_
    obtain ⟨p91, s91, h91, g91⟩ := hk.val 41 91 (by kernel_rfl) rfl
    refine step_val (v := .int .i64 1) (w' := w) hw ?_ (Ext.refl w) rfl
    go_simp
  · intro a w hk
    refine hk.run 39 89 true true rfl (by kernel_rfl) rfl fun hw => ?_
    have s92 := hk.eq_ 42 92 (by kernel_rfl) rfl
    refine step_val (v := .bool true) (w' := w) hw ?_ (Ext.refl w) rfl
    go_simp
  · intro a w hk
    have s89 := hk.eq_ 39 89 (by kernel_rfl) rfl
    have s93 := hk.eq_ 43 93 (by kernel_rfl) rfl
    exact step_pick (b := true) rfl rfl s89 s93 rfl
  · intro a w hk
    have s94 := hk.eq_ 44 94 (by kernel_rfl) rfl
    exact step_move rfl rfl s94 rfl
  · intro a w hk
    refine hk.run 45 95 true true rfl (by kernel_rfl) rfl fun hw => ?_
    have s13 : a.tmps.getD 13 undef = .slice (some ⟨b7, o7, none⟩) 3 c7 := hk.was 13 (by kernel_rfl) rfl
    exact step_move hw rfl s13 rfl
  · intro a w hk
    refine hk.run 45 95 true true rfl (by kernel_rfl) rfl fun hw => ?_
    have s96 := hk.eq_ 46 96 (by kernel_rfl) rfl
    refine step_val (v := .pointer (some ⟨b7, o7 + 2, none⟩)) (w' := w) hw ?_ (Ext.refl w) ⟨_, rfl, Nat.lt_of_lt_of_le hb7' (Below.size hk.ext), (Below.cell hk.ext (p := ⟨b7, o7 + 2, none⟩) hb7').trans k72.out⟩
    go_simp
  · intro a w hk
    refine hk.run 45 95 true true rfl (by kernel_rfl) rfl fun hw => ?_
    obtain ⟨p97, s97, h97, g97⟩ := hk.val 47 97 (by kernel_rfl) rfl
    refine step_val (v := .int .i64 2) (w' := w) hw ?_ (Ext.refl w) rfl
    go_simp
  · intro a w hk
    refine hk.run 45 95 true true rfl (by kernel_rfl) rfl fun hw => ?_
    have s98 := hk.eq_ 48 98 (by kernel_rfl) rfl
    refine step_val (v := .bool true) (w' := w) hw ?_ (Ext.refl w) rfl
    go_simp
  · intro a w hk
    have s95 := hk.eq_ 45 95 (by kernel_rfl) rfl
    have s99 := hk.eq_ 49 99 (by kernel_rfl) rfl
    exact step_pick (b := true) rfl rfl s95 s99 rfl
  · intro a w hk
    refine step_build (n := 1) (cs := #[Value.int .u8 1]) rfl rfl (by simp only [List.map_toArray, List.map_cons, List.map_nil, Act.eval] <;> rfl) ?_ rfl rfl (by unfold maxLen; omega) (fun _ _ h => h)
    go_simp
  · intro a w hk
    obtain ⟨A101, c101, s101, r101⟩ := hk.byt_ 51 101 (by kernel_rfl) rfl
    exact step_call rfl rfl (by simp only [List.map_toArray, List.map_cons, List.map_nil, Act.eval, s101] <;> rfl) cf12 (bit_any _ _ _ 8 _ w r101 (by omega) (by omega)) (fun e w' h => retE e w' ⟨h.1.trans (by rw [kb1]; rfl), h.2⟩)
  · intro a w hk
    have s102 := hk.eq_ 52 102 (by kernel_rfl) rfl
    refine step_val (v := .bool true) (w' := w) rfl ?_ (Ext.refl w) rfl
    go_simp
  · intro a w hk
    have s103 := hk.eq_ 53 103 (by kernel_rfl) rfl
    exact step_move rfl rfl s103 rfl
  · intro a w hk
    refine hk.run 54 104 true true rfl (by kernel_rfl) rfl fun hw => ?_
    refine step_build (n := 1) (cs := #[Value.int .u8 1]) hw rfl (by simp only [List.map_toArray, List.map_cons, List.map_nil, Act.eval] <;> rfl) ?_ rfl rfl (by unfold maxLen; omega) (fun _ _ h => h)
    go_simp
  · intro a w hk
    refine hk.run 54 104 true true rfl (by kernel_rfl) rfl fun hw => ?_
    obtain ⟨A105, c105, s105, r105⟩ := hk.byt_ 55 105 (by kernel_rfl) rfl
    exact step_call hw rfl (by simp only [List.map_toArray, List.map_cons, List.map_nil, Act.eval, s105] <;> rfl) cf12 (bit_any _ _ _ 7 _ w r105 (by omega) (by omega)) (fun e w' h => retE e w' ⟨h.1.trans (by rw [kb2]; rfl), h.2⟩)
  · intro a w hk
    refine hk.run 54 104 true true rfl (by kernel_rfl) rfl fun hw => ?_
    have s106 := hk.eq_ 56 106 (by kernel_rfl) rfl
    refine step_val (v := .bool true) (w' := w) hw ?_ (Ext.refl w) rfl
    go_simp
  · intro a w hk
    have s104 := hk.eq_ 54 104 (by kernel_rfl) rfl
    have s107 := hk.eq_ 57 107 (by kernel_rfl) rfl
    exact step_pick (b := true) rfl rfl s104 s107 rfl
  · intro a w hk
    have s108 := hk.eq_ 58 108 (by kernel_rfl) rfl
    exact step_move rfl rfl s108 rfl
  · intro a w hk
    refine hk.run 59 109 true true rfl (by kernel_rfl) rfl fun hw => ?_
    refine step_build (n := 2) (cs := #[Value.int .u8 0, Value.int .u8 128]) hw rfl (by simp only [List.map_toArray, List.map_cons, List.map_nil, Act.eval] <;> rfl) ?_ rfl rfl (by unfold maxLen; omega) (fun _ _ h => h)
    go_simp
  · intro a w hk
    refine hk.run 59 109 true true rfl (by kernel_rfl) rfl fun hw => ?_
    obtain ⟨A110, c110, s110, r110⟩ := hk.byt_ 60 110 (by kernel_rfl) rfl
    exact step_call hw rfl (by simp only [List.map_toArray, List.map_cons, List.map_nil, Act.eval, s110] <;> rfl) cf12 (bit_any _ _ _ 9 _ w r110 (by omega) (by omega)) (fun e w' h => retE e w' ⟨h.1.trans (by rw [kb3]; rfl), h.2⟩)
  · intro a w hk
    refine hk.run 59 109 true true rfl (by kernel_rfl) rfl fun hw => ?_
    have s111 := hk.eq_ 61 111 (by kernel_rfl) rfl
    refine step_val (v := .bool true) (w' := w) hw ?_ (Ext.refl w) rfl
    go_simp
  · intro a w hk
    have s109 := hk.eq_ 59 109 (by kernel_rfl) rfl
    have s112 := hk.eq_ 62 112 (by kernel_rfl) rfl
    exact step_pick (b := true) rfl rfl s109 s112 rfl
  · intro a w hk
    have s58 := hk.eq_ 8 58 (by kernel_rfl) rfl
    have s67 := hk.eq_ 17 67 (by kernel_rfl) rfl
    have s73 := hk.eq_ 23 73 (by kernel_rfl) rfl
    have s79 := hk.eq_ 29 79 (by kernel_rfl) rfl
    have s100 := hk.eq_ 50 100 (by kernel_rfl) rfl
    have s113 := hk.eq_ 63 113 (by kernel_rfl) rfl
    refine step_val (v := .slice (some ⟨w.heap.size, 0, none⟩) 6 6) (w' := w.alloc (.cells #[.bool true, .bool true, .bool true, .bool true, .bool true, .bool true] 4)) rfl ?_ (Ext.alloc _ _) ⟨_, rfl, by simp, fun k hk => ?_⟩
    · simp only [execOp, List.map_toArray, List.map_cons, List.map_nil, Act.eval, s58, s67, s73, s79, s100, s113]
      go_simp
    · match k, hk with
      | 0, _ | 1, _ | 2, _ | 3, _ | 4, _ | 5, _ => simp
  · intro a w hk
    obtain ⟨b114, s114, h114, g114⟩ := hk.val 64 114 (by kernel_rfl) rfl
    exact step_assign rfl rfl s114 ⟨_, rfl, h114, g114⟩
  · intro a w1 hf
    obtain ⟨A50, c50, s50, r50⟩ := hf.val 0 50 (by kernel_rfl) rfl
    have s51 := hf.eq_ 1 51 (by kernel_rfl) rfl
    have s52 := hf.eq_ 2 52 (by kernel_rfl) rfl
    have s53 := hf.eq_ 3 53 (by kernel_rfl) rfl
    obtain ⟨A54, c54, s54, r54⟩ := hf.val 4 54 (by kernel_rfl) rfl
    have s56 := hf.eq_ 6 56 (by kernel_rfl) rfl
    have s57 := hf.eq_ 7 57 (by kernel_rfl) rfl
    have s58 := hf.eq_ 8 58 (by kernel_rfl) rfl
    obtain ⟨A59, c59, s59, r59⟩ := hf.val 9 59 (by kernel_rfl) rfl
    have s60 := hf.eq_ 10 60 (by kernel_rfl) rfl
    have s61 := hf.eq_ 11 61 (by kernel_rfl) rfl
    have s62 := hf.eq_ 12 62 (by kernel_rfl) rfl
    obtain ⟨A63, c63, s63, r63⟩ := hf.val 13 63 (by kernel_rfl) rfl
    have s65 := hf.eq_ 15 65 (by kernel_rfl) rfl
    have s66 := hf.eq_ 16 66 (by kernel_rfl) rfl
    have s67 := hf.eq_ 17 67 (by kernel_rfl) rfl
    have s68 := hf.eq_ 18 68 (by kernel_rfl) rfl
    have s69 := hf.eq_ 19 69 (by kernel_rfl) rfl
    have s70 := hf.eq_ 20 70 (by kernel_rfl) rfl
    have s71 := hf.eq_ 21 71 (by kernel_rfl) rfl
    have s72 := hf.eq_ 22 72 (by kernel_rfl) rfl
    have s73 := hf.eq_ 23 73 (by kernel_rfl) rfl
    have s74 := hf.eq_ 24 74 (by kernel_rfl) rfl
    have s75 := hf.eq_ 25 75 (by kernel_rfl) rfl
    have s76 := hf.eq_ 26 76 (by kernel_rfl) rfl
    have s77 := hf.eq_ 27 77 (by kernel_rfl) rfl
    have s78 := hf.eq_ 28 78 (by kernel_rfl) rfl
    have s79 := hf.eq_ 29 79 (by kernel_rfl) rfl
    have s80 := hf.eq_ 30 80 (by kernel_rfl) rfl
    have s81 := hf.eq_ 31 81 (by kernel_rfl) rfl
    have s82 := hf.eq_ 32 82 (by kernel_rfl) rfl
    have s83 := hf.eq_ 33 83 (by kernel_rfl) rfl
    have s84 := hf.eq_ 34 84 (by kernel_rfl) rfl
    have s86 := hf.eq_ 36 86 (by kernel_rfl) rfl
    have s87 := hf.eq_ 37 87 (by kernel_rfl) rfl
    have s88 := hf.eq_ 38 88 (by kernel_rfl) rfl
    have s89 := hf.eq_ 39 89 (by kernel_rfl) rfl
    have s90 := hf.eq_ 40 90 (by kernel_rfl) rfl
    have s92 := hf.eq_ 42 92 (by kernel_rfl) rfl
    have s93 := hf.eq_ 43 93 (by kernel_rfl) rfl
    have s94 := hf.eq_ 44 94 (by kernel_rfl) rfl
    have s95 := hf.eq_ 45 95 (by kernel_rfl) rfl
    have s96 := hf.eq_ 46 96 (by kernel_rfl) rfl
    have s98 := hf.eq_ 48 98 (by kernel_rfl) rfl
    have s99 := hf.eq_ 49 99 (by kernel_rfl) rfl
    have s100 := hf.eq_ 50 100 (by kernel_rfl) rfl
    obtain ⟨A101, c101, s101, r101⟩ := hf.val 51 101 (by kernel_rfl) rfl
    have s102 := hf.eq_ 52 102 (by kernel_rfl) rfl
    have s103 := hf.eq_ 53 103 (by kernel_rfl) rfl
    have s104 := hf.eq_ 54 104 (by kernel_rfl) rfl
    obtain ⟨A105, c105, s105, r105⟩ := hf.val 55 105 (by kernel_rfl) rfl
    have s106 := hf.eq_ 56 106 (by kernel_rfl) rfl
    have s107 := hf.eq_ 57 107 (by kernel_rfl) rfl
    have s108 := hf.eq_ 58 108 (by kernel_rfl) rfl
    have s109 := hf.eq_ 59 109 (by kernel_rfl) rfl
    obtain ⟨A110, c110, s110, r110⟩ := hf.val 60 110 (by kernel_rfl) rfl
    have s111 := hf.eq_ 61 111 (by kernel_rfl) rfl
    have s112 := hf.eq_ 62 112 (by kernel_rfl) rfl
    have s113 := hf.eq_ 63 113 (by kernel_rfl) rfl
    obtain ⟨b114, s114, h114, g114⟩ := hf.val 64 114 (by kernel_rfl) rfl
    obtain ⟨b15, s15, h15, g15⟩ := hf.val 65 15 (by kernel_rfl) rfl
    have hx := hf.ext
    have e := hf.frame
    clear hf
    simp only [List.append_eq, List.cons_append, List.nil_append, regFrame, Act.put, List.setIfInBounds_toArray, List.set_cons_zero, List.set_cons_succ, s50, s51, s52, s53, s54, s56, s57, s58, s59, s60, s61, s62, s63, s65, s66, s67, s68, s69, s70, s71, s72, s73, s74, s75, s76, s77, s78, s79, s80, s81, s82, s83, s84, s86, s87, s88, s89, s90, s92, s93, s94, s95, s96, s98, s99, s100, s101, s102, s103, s104, s105, s106, s107, s108, s109, s110, s111, s112, s113, s114, s15] at e
    generalize a.tmps.getD 55 undef = u55 at e
    generalize a.tmps.getD 64 undef = u64 at e
    generalize a.tmps.getD 85 undef = u85 at e
    generalize a.tmps.getD 91 undef = u91 at e
    generalize a.tmps.getD 97 undef = u97 at e
    clear s50 s51 s52 s53 s54 s56 s57 s58 s59 s60 s61 s62 s63 s65 s66 s67 s68 s69 s70 s71 s72 s73 s74 s75 s76 s77 s78 s79 s80 s81 s82 s83 s84 s86 s87 s88 s89 s90 s92 s93 s94 s95 s96 s98 s99 s100 s101 s102 s103 s104 s105 s106 s107 s108 s109 s110 s111 s112 s113 s114 s15
    subst e
    have HB2 := hid (Ext.trans HX7.out hx)
    clear hx
    rename_i hK
    apply hK
    go_wp2_with fail
    refine (within_any _ _ _ (by omega) (by omega)).mono ?_
    rintro e w3 ⟨rfl, rfl⟩
    obtain ⟨j, hj⟩ : ∃ j : Nat, a0 % 6 = j := ⟨(a0 % 6).toNat, by omega⟩
    have hj6 : j < 6 := by omega
    rw [hj]
    clear hj
    have hc : w1.cell? ⟨b15, j, none⟩ = some (.bool true) := by rw [g15 j hj6]; exact six_true j hj6
    clear g15
    go_wp2_with fail
    go_ret
    exact ⟨rfl, HB2.out⟩
end Go.Proofs.Ytakfndhknoleaaa
