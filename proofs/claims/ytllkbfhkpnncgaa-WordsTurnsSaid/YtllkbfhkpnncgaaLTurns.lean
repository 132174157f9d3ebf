/- The law on turning words, bytes and rows, walked; own text of the verifier. -/
import Derived.Test.YtllkbfhkpnncgaaCf
import Derived.Test.YtllkbfhkpnncgaaBit
namespace Go.Proofs.Ytllkbfhkpnncgaa
open Go.RowKit
theorem lit_ints (w : World) (L : List Int) (cs : Array Value) (hcs : cs.toList = L.map (Value.int .i64)) (k : Nat) (hk : k < L.length) : (w.alloc (.cells cs 3)).cell? ⟨w.heap.size, k, none⟩ = some (.int .i64 (L.getD k 0)) := by
  have h : (w.alloc (.cells cs 3)).heap[w.heap.size]? = some (.cells cs 3 (0, 0)) := heap_alloc_new w _
  rw [cell_of_row _ w.heap.size k cs 3 (0, 0) h, ← Array.getElem?_toList, hcs]
  simp [List.getD, hk]
def turnsKs (a0 a1 : Int) (g i n : Nat) (bs : List UInt8) (L : List Int) : List K := [.eq (.int .u32 a0), .eq (.slice (some ⟨g, 0, none⟩) 10 10), .eq (.int .i64 i), .ptr (.int .i64 (L.getD i 0)), .eq (.int .i64 (L.getD i 0)), .eq (.int .u32 (rol32 a0 (L.getD i 0 % 32).toNat)), .eq (.int .u32 a0), .eq (.slice (some ⟨g, 0, none⟩) 10 10), .eq (.int .i64 i), .ptr (.int .i64 (L.getD i 0)), .eq (.int .i64 (L.getD i 0)), .eq (.int .u32 (rol32 a0 (L.getD i 0 % 32).toNat)), .eq (.bool false), .eq (.bool false), .eq (.int .u8 a1), .eq (.slice (some ⟨g, 0, none⟩) 10 10), .eq (.int .i64 i), .ptr (.int .i64 (L.getD i 0)), .eq (.int .i64 (L.getD i 0)), .eq (.int .u8 (rol8 a1 (L.getD i 0 % 8).toNat)), .eq (.int .u8 a1), .eq (.slice (some ⟨g, 0, none⟩) 10 10), .eq (.int .i64 i), .ptr (.int .i64 (L.getD i 0)), .eq (.int .i64 (L.getD i 0)), .eq (.int .u8 (rol8 a1 (L.getD i 0 % 8).toNat)), .eq (.bool false), .eq (.bool false), .eq (.bool false), .byt n (bs), .eq (.slice (some ⟨g, 0, none⟩) 10 10), .eq (.int .i64 i), .ptr (.int .i64 (L.getD i 0)), .eq (.int .i64 (L.getD i 0)), .byt n (turnL bs n (tf (L.getD i 0) n) (ts (L.getD i 0))), .eq (.string (str (turnL bs n (tf (L.getD i 0) n) (ts (L.getD i 0))))), .byt n (bs), .eq (.slice (some ⟨g, 0, none⟩) 10 10), .eq (.int .i64 i), .ptr (.int .i64 (L.getD i 0)), .eq (.int .i64 (L.getD i 0)), .byt n (turnL bs n (tf (L.getD i 0) n) (ts (L.getD i 0))), .eq (.string (str (turnL bs n (tf (L.getD i 0) n) (ts (L.getD i 0))))), .eq (.bool false), .eq (.bool false)]
set_option maxRecDepth 100000 in
set_option maxHeartbeats 4000000 in
theorem turns_walk (a0 : Int) (a1 : Int) (a2 : Option Addr) (n c2 : Nat) (z2 : List Int) (a3 : Int) (a4 : Int) (w : World) (w0 : (Lit.int .u32 a0).wf = true) (w1 : (Lit.int .u8 a1).wf = true) (w2 : IsRow .u8 w a2 n c2 z2) (_w3 : (Lit.int .i64 a3).wf = true) (_w4 : (Lit.int .i64 a4).wf = true) :
    Calls Try.prog 5 #[.int .u32 a0, .int .u8 a1, .slice a2 n c2, .int .i64 a3, .int .i64 a4] w fun e w' => e = .returned (.bool true) ∧ Below w.heap.size w w' := by
  obtain ⟨bs, hrd, hmax, hcap⟩ := w2.rdc
  obtain ⟨p0, p1⟩ := wf_u32 w0
  obtain ⟨q0, q1⟩ := wf_u8' w1
  unfold maxLen at hmax
  clear w0 w1 w2
  go_enter Try.func5, Try.ntmps5
  go_wp2_with fail
  refine (known_any _).mono ?_
  rintro e w1 ⟨rfl, hb1⟩
  have hrd1 := hrd.later hb1
  clear hrd
  by_cases h60 : 100 < n
  · go_wp2_with fail
    go_ret
    exact ⟨rfl, hb1⟩
  · have HL := hid hrd1.len
    have HA1 := hid hrd1
    have HB1 := hid hb1
    clear hrd1 hb1
    go_wp2_with fail
    refine (within_any _ _ _ (by omega) (by omega)).mono ?_
    rintro e w3 ⟨rfl, rfl⟩
    have m1 : 0 ≤ a3 % 300 := by omega
    have m2 : a3 % 300 < 300 := by omega
    go_wp2_with fail
    obtain ⟨L, hL⟩ : ∃ L : List Int, L = [a3, a3 % 300 - 150, a4.tmod 64, 0, 1, 8, 25, 31, 32, -1] := ⟨_, rfl⟩
    obtain ⟨W, hW, hE, hC, hgW⟩ : ∃ W, W = w1.alloc (.cells #[.int .i64 a3, .int .i64 (a3 % 300 - 150), .int .i64 (a4.tmod 64), .int .i64 0, .int .i64 1, .int .i64 8, .int .i64 25, .int .i64 31, .int .i64 32, .int .i64 (-1)] 3) ∧ Ext w1 W ∧ (∀ k, k < 10 → W.cell? ⟨w1.heap.size, k, none⟩ = some (.int .i64 (L.getD k 0))) ∧ w1.heap.size < W.heap.size := by
      refine ⟨_, rfl, Ext.alloc _ _, fun k hk => ?_, by simp⟩
      rw [hL]
      exact lit_ints w1 [a3, a3 % 300 - 150, a4.tmod 64, 0, 1, 8, 25, 31, 32, -1] _ rfl k hk
    rw [← hW]
    have HA2 := hid (HA1.out.later hE)
    have HB2 := hid (Ext.trans HB1.out hE)
    have HC1 := hid hC
    obtain ⟨g, hgd⟩ : ∃ g, w1.heap.size = g := ⟨_, rfl⟩
    rw [hgd] at HC1 hgW ⊢
    clear hW hE hC hL HA1 HB1 m1 m2 hgd
    go_loopw [12] (fun v wr => ∃ i : Nat, i ≤ 10 ∧ v = .int .i64 i ∧ Ext W wr) (fun v _ => 10 - (intOf v).toNat)
    case atStart => exact ⟨0, Nat.zero_le _, rfl, Ext.refl _⟩
    case round =>
      obtain ⟨i, hi, rfl, hxr⟩ := hrel
      have HA := hid (HA2.out.later hxr)
      have HE := hid (Ext.trans HB2.out hxr)
      have HXr := hid hxr
      by_cases hlt : i < 10
      · have hg : g < wr.heap.size := Nat.lt_of_lt_of_le hgW (Below.size hxr)
        have HC : Hid (∀ k, k < 10 → wr.cell? ⟨g, k, none⟩ = some (.int .i64 (L.getD k 0))) := fun k hk => (Below.cell hxr (p := ⟨g, k, none⟩) hgW).trans (HC1.out k hk)
        clear hxr
        go_wp2_with fail
        refine region_inv mixed rfl (by kernel_rfl) (kV (turnsKs a0 a1 g i n bs L)) (kV_keep _) (forall_ops ⟨?_, ?_, ?_, ?_, ?_, ?_, ?_, ?_, ?_, ?_, ?_, ?_, ?_, ?_, ?_, ?_, ?_, ?_, ?_, ?_, ?_, ?_, ?_, ?_, ?_, ?_, ?_, ?_, ?_, ?_, ?_, ?_, ?_, ?_, ?_, ?_, ?_, ?_, ?_, ?_, ?_, ?_, ?_, ?_, ?_, trivial⟩) ?_
        · intro a w hk
          have s0 : a.tmps.getD 0 undef = .int .u32 a0 := hk.was 0 (by kernel_rfl) rfl
          exact step_move rfl rfl s0 rfl
        · intro a w hk
          have s11 : a.tmps.getD 11 undef = .slice (some ⟨g, 0, none⟩) 10 10 := hk.was 11 (by kernel_rfl) rfl
          exact step_move rfl rfl s11 rfl
        · intro a w hk
          have s12 : a.tmps.getD 12 undef = .int .i64 i := hk.was 12 (by kernel_rfl) rfl
          exact step_move rfl rfl s12 rfl
        · intro a w hk
          have s32 := hk.eq_ 1 32 (by kernel_rfl) rfl
          have s33 := hk.eq_ 2 33 (by kernel_rfl) rfl
          have q1 : (0 : Int) ≤ (i : Int) := by omega
          have q2 : (i : Int) < 10 := by omega
          have hg2 : g < w.heap.size := Nat.lt_of_lt_of_le hg (Below.size hk.ext)
          have hc1 : w.cell? ⟨g, i, none⟩ = some (.int .i64 (L.getD i 0)) := (Below.cell hk.ext (p := ⟨g, i, none⟩) hg).trans (HC.out i hlt)
          refine step_val (v := .pointer (some ⟨g, i, none⟩)) (w' := w) rfl ?_ (Ext.refl w) ⟨_, rfl, hg2, hc1⟩
          go_simp
        · intro a w hk
          obtain ⟨p34, s34, h34, g34⟩ := hk.val 3 34 (by kernel_rfl) rfl
          refine step_val (v := .int .i64 (L.getD i 0)) (w' := w) rfl ?_ (Ext.refl w) rfl
          go_simp
        · intro a w hk
          have s31 := hk.eq_ 0 31 (by kernel_rfl) rfl
          have s35 := hk.eq_ 4 35 (by kernel_rfl) rfl
          exact step_call rfl rfl (by simp only [List.map_toArray, List.map_cons, List.map_nil, Act.eval, s31, s35] <;> rfl) cf28 (rl32 a0 _ w) (retE)
        · intro a w hk
          have s0 : a.tmps.getD 0 undef = .int .u32 a0 := hk.was 0 (by kernel_rfl) rfl
          exact step_move rfl rfl s0 rfl
        · intro a w hk
          have s11 : a.tmps.getD 11 undef = .slice (some ⟨g, 0, none⟩) 10 10 := hk.was 11 (by kernel_rfl) rfl
          exact step_move rfl rfl s11 rfl
        · intro a w hk
          have s12 : a.tmps.getD 12 undef = .int .i64 i := hk.was 12 (by kernel_rfl) rfl
          exact step_move rfl rfl s12 rfl
        · intro a w hk
          have s38 := hk.eq_ 7 38 (by kernel_rfl) rfl
          have s39 := hk.eq_ 8 39 (by kernel_rfl) rfl
          have q1 : (0 : Int) ≤ (i : Int) := by omega
          have q2 : (i : Int) < 10 := by omega
          have hg2 : g < w.heap.size := Nat.lt_of_lt_of_le hg (Below.size hk.ext)
          have hc1 : w.cell? ⟨g, i, none⟩ = some (.int .i64 (L.getD i 0)) := (Below.cell hk.ext (p := ⟨g, i, none⟩) hg).trans (HC.out i hlt)
          refine step_val (v := .pointer (some ⟨g, i, none⟩)) (w' := w) rfl ?_ (Ext.refl w) ⟨_, rfl, hg2, hc1⟩
          go_simp
        · intro a w hk
          obtain ⟨p40, s40, h40, g40⟩ := hk.val 9 40 (by kernel_rfl) rfl
          refine step_val (v := .int .i64 (L.getD i 0)) (w' := w) rfl ?_ (Ext.refl w) rfl
          go_simp
        · intro a w hk
          have s37 := hk.eq_ 6 37 (by kernel_rfl) rfl
          have s41 := hk.eq_ 10 41 (by kernel_rfl) rfl
          exact step_call rfl rfl (by simp only [List.map_toArray, List.map_cons, List.map_nil, Act.eval, s37, s41] <;> rfl) cf29 (rrl32 a0 _ w) (retE)
        · intro a w hk
          have s36 := hk.eq_ 5 36 (by kernel_rfl) rfl
          have s42 := hk.eq_ 11 42 (by kernel_rfl) rfl
          refine step_val (v := .bool false) (w' := w) rfl ?_ (Ext.refl w) rfl
          go_simp
        · intro a w hk
          have s43 := hk.eq_ 12 43 (by kernel_rfl) rfl
          exact step_move rfl rfl s43 rfl
        · intro a w hk
          refine hk.run 13 44 false false rfl (by kernel_rfl) rfl fun hw => ?_
          have s1 : a.tmps.getD 1 undef = .int .u8 a1 := hk.was 1 (by kernel_rfl) rfl
          exact step_move hw rfl s1 rfl
        · intro a w hk
          refine hk.run 13 44 false false rfl (by kernel_rfl) rfl fun hw => ?_
          have s11 : a.tmps.getD 11 undef = .slice (some ⟨g, 0, none⟩) 10 10 := hk.was 11 (by kernel_rfl) rfl
          exact step_move hw rfl s11 rfl
        · intro a w hk
          refine hk.run 13 44 false false rfl (by kernel_rfl) rfl fun hw => ?_
          have s12 : a.tmps.getD 12 undef = .int .i64 i := hk.was 12 (by kernel_rfl) rfl
          exact step_move hw rfl s12 rfl
        · intro a w hk
          refine hk.run 13 44 false false rfl (by kernel_rfl) rfl fun hw => ?_
          have s46 := hk.eq_ 15 46 (by kernel_rfl) rfl
          have s47 := hk.eq_ 16 47 (by kernel_rfl) rfl
          have q1 : (0 : Int) ≤ (i : Int) := by omega
          have q2 : (i : Int) < 10 := by omega
          have hg2 : g < w.heap.size := Nat.lt_of_lt_of_le hg (Below.size hk.ext)
          have hc1 : w.cell? ⟨g, i, none⟩ = some (.int .i64 (L.getD i 0)) := (Below.cell hk.ext (p := ⟨g, i, none⟩) hg).trans (HC.out i hlt)
          refine step_val (v := .pointer (some ⟨g, i, none⟩)) (w' := w) hw ?_ (Ext.refl w) ⟨_, rfl, hg2, hc1⟩
          go_simp
        · intro a w hk
          refine hk.run 13 44 false false rfl (by kernel_rfl) rfl fun hw => ?_
          obtain ⟨p48, s48, h48, g48⟩ := hk.val 17 48 (by kernel_rfl) rfl
          refine step_val (v := .int .i64 (L.getD i 0)) (w' := w) hw ?_ (Ext.refl w) rfl
          go_simp
        · intro a w hk
          refine hk.run 13 44 false false rfl (by kernel_rfl) rfl fun hw => ?_
          have s45 := hk.eq_ 14 45 (by kernel_rfl) rfl
          have s49 := hk.eq_ 18 49 (by kernel_rfl) rfl
          exact step_call hw rfl (by simp only [List.map_toArray, List.map_cons, List.map_nil, Act.eval, s45, s49] <;> rfl) cf30 (rl8 a1 _ w) (retE)
        · intro a w hk
          refine hk.run 13 44 false false rfl (by kernel_rfl) rfl fun hw => ?_
          have s1 : a.tmps.getD 1 undef = .int .u8 a1 := hk.was 1 (by kernel_rfl) rfl
          exact step_move hw rfl s1 rfl
        · intro a w hk
          refine hk.run 13 44 false false rfl (by kernel_rfl) rfl fun hw => ?_
          have s11 : a.tmps.getD 11 undef = .slice (some ⟨g, 0, none⟩) 10 10 := hk.was 11 (by kernel_rfl) rfl
          exact step_move hw rfl s11 rfl
        · intro a w hk
          refine hk.run 13 44 false false rfl (by kernel_rfl) rfl fun hw => ?_
          have s12 : a.tmps.getD 12 undef = .int .i64 i := hk.was 12 (by kernel_rfl) rfl
          exact step_move hw rfl s12 rfl
        · intro a w hk
          refine hk.run 13 44 false false rfl (by kernel_rfl) rfl fun hw => ?_
          have s52 := hk.eq_ 21 52 (by kernel_rfl) rfl
          have s53 := hk.eq_ 22 53 (by kernel_rfl) rfl
          have q1 : (0 : Int) ≤ (i : Int) := by omega
          have q2 : (i : Int) < 10 := by omega
          have hg2 : g < w.heap.size := Nat.lt_of_lt_of_le hg (Below.size hk.ext)
          have hc1 : w.cell? ⟨g, i, none⟩ = some (.int .i64 (L.getD i 0)) := (Below.cell hk.ext (p := ⟨g, i, none⟩) hg).trans (HC.out i hlt)
          refine step_val (v := .pointer (some ⟨g, i, none⟩)) (w' := w) hw ?_ (Ext.refl w) ⟨_, rfl, hg2, hc1⟩
          go_simp
        · intro a w hk
          refine hk.run 13 44 false false rfl (by kernel_rfl) rfl fun hw => ?_
          obtain ⟨p54, s54, h54, g54⟩ := hk.val 23 54 (by kernel_rfl) rfl
          refine step_val (v := .int .i64 (L.getD i 0)) (w' := w) hw ?_ (Ext.refl w) rfl
          go_simp
        · intro a w hk
          refine hk.run 13 44 false false rfl (by kernel_rfl) rfl fun hw => ?_
          have s51 := hk.eq_ 20 51 (by kernel_rfl) rfl
          have s55 := hk.eq_ 24 55 (by kernel_rfl) rfl
          exact step_call hw rfl (by simp only [List.map_toArray, List.map_cons, List.map_nil, Act.eval, s51, s55] <;> rfl) cf31 (rrl8 a1 _ w) (retE)
        · intro a w hk
          refine hk.run 13 44 false false rfl (by kernel_rfl) rfl fun hw => ?_
          have s50 := hk.eq_ 19 50 (by kernel_rfl) rfl
          have s56 := hk.eq_ 25 56 (by kernel_rfl) rfl
          refine step_val (v := .bool false) (w' := w) hw ?_ (Ext.refl w) rfl
          go_simp
        · intro a w hk
          have s44 := hk.eq_ 13 44 (by kernel_rfl) rfl
          have s57 := hk.eq_ 26 57 (by kernel_rfl) rfl
          exact step_pick (b := false) rfl rfl s44 s57 rfl
        · intro a w hk
          have s58 := hk.eq_ 27 58 (by kernel_rfl) rfl
          exact step_move rfl rfl s58 rfl
        · intro a w hk
          refine hk.run 28 59 false false rfl (by kernel_rfl) rfl fun hw => ?_
          have s2 : a.tmps.getD 2 undef = .slice a2 n c2 := hk.was 2 (by kernel_rfl) rfl
          have r2 := (HA.out).later hk.ext
          exact step_move hw rfl s2 ⟨_, _, rfl, r2⟩
        · intro a w hk
          refine hk.run 28 59 false false rfl (by kernel_rfl) rfl fun hw => ?_
          have s11 : a.tmps.getD 11 undef = .slice (some ⟨g, 0, none⟩) 10 10 := hk.was 11 (by kernel_rfl) rfl
          exact step_move hw rfl s11 rfl
        · intro a w hk
          refine hk.run 28 59 false false rfl (by kernel_rfl) rfl fun hw => ?_
          have s12 : a.tmps.getD 12 undef = .int .i64 i := hk.was 12 (by kernel_rfl) rfl
          exact step_move hw rfl s12 rfl
        · intro a w hk
          refine hk.run 28 59 false false rfl (by kernel_rfl) rfl fun hw => ?_
          have s61 := hk.eq_ 30 61 (by kernel_rfl) rfl
          have s62 := hk.eq_ 31 62 (by kernel_rfl) rfl
          have q1 : (0 : Int) ≤ (i : Int) := by omega
          have q2 : (i : Int) < 10 := by omega
          have hg2 : g < w.heap.size := Nat.lt_of_lt_of_le hg (Below.size hk.ext)
          have hc1 : w.cell? ⟨g, i, none⟩ = some (.int .i64 (L.getD i 0)) := (Below.cell hk.ext (p := ⟨g, i, none⟩) hg).trans (HC.out i hlt)
          refine step_val (v := .pointer (some ⟨g, i, none⟩)) (w' := w) hw ?_ (Ext.refl w) ⟨_, rfl, hg2, hc1⟩
          go_simp
        · intro a w hk
          refine hk.run 28 59 false false rfl (by kernel_rfl) rfl fun hw => ?_
          obtain ⟨p63, s63, h63, g63⟩ := hk.val 32 63 (by kernel_rfl) rfl
          refine step_val (v := .int .i64 (L.getD i 0)) (w' := w) hw ?_ (Ext.refl w) rfl
          go_simp
        · intro a w hk
          refine hk.run 28 59 false false rfl (by kernel_rfl) rfl fun hw => ?_
          obtain ⟨A60, c60, s60, r60⟩ := hk.byt_ 29 60 (by kernel_rfl) rfl
          have s64 := hk.eq_ 33 64 (by kernel_rfl) rfl
          exact step_call hw rfl (by simp only [List.map_toArray, List.map_cons, List.map_nil, Act.eval, s60, s64] <;> rfl) cf32 (turn_all _ _ _ _ _ w r60 (by omega)) (RetB.k (turnL_length _ _ _ _))
        · intro a w hk
          refine hk.run 28 59 false false rfl (by kernel_rfl) rfl fun hw => ?_
          obtain ⟨A65, c65, s65, r65⟩ := hk.byt_ 34 65 (by kernel_rfl) rfl
          exact step_conv hw rfl s65 (strq r65) rfl
        · intro a w hk
          refine hk.run 28 59 false false rfl (by kernel_rfl) rfl fun hw => ?_
          have s2 : a.tmps.getD 2 undef = .slice a2 n c2 := hk.was 2 (by kernel_rfl) rfl
          have r2 := (HA.out).later hk.ext
          exact step_move hw rfl s2 ⟨_, _, rfl, r2⟩
        · intro a w hk
          refine hk.run 28 59 false false rfl (by kernel_rfl) rfl fun hw => ?_
          have s11 : a.tmps.getD 11 undef = .slice (some ⟨g, 0, none⟩) 10 10 := hk.was 11 (by kernel_rfl) rfl
          exact step_move hw rfl s11 rfl
        · intro a w hk
          refine hk.run 28 59 false false rfl (by kernel_rfl) rfl fun hw => ?_
          have s12 : a.tmps.getD 12 undef = .int .i64 i := hk.was 12 (by kernel_rfl) rfl
          exact step_move hw rfl s12 rfl
        · intro a w hk
          refine hk.run 28 59 false false rfl (by kernel_rfl) rfl fun hw => ?_
          have s68 := hk.eq_ 37 68 (by kernel_rfl) rfl
          have s69 := hk.eq_ 38 69 (by kernel_rfl) rfl
          have q1 : (0 : Int) ≤ (i : Int) := by omega
          have q2 : (i : Int) < 10 := by omega
          have hg2 : g < w.heap.size := Nat.lt_of_lt_of_le hg (Below.size hk.ext)
          have hc1 : w.cell? ⟨g, i, none⟩ = some (.int .i64 (L.getD i 0)) := (Below.cell hk.ext (p := ⟨g, i, none⟩) hg).trans (HC.out i hlt)
          refine step_val (v := .pointer (some ⟨g, i, none⟩)) (w' := w) hw ?_ (Ext.refl w) ⟨_, rfl, hg2, hc1⟩
          go_simp
        · intro a w hk
          refine hk.run 28 59 false false rfl (by kernel_rfl) rfl fun hw => ?_
          obtain ⟨p70, s70, h70, g70⟩ := hk.val 39 70 (by kernel_rfl) rfl
          refine step_val (v := .int .i64 (L.getD i 0)) (w' := w) hw ?_ (Ext.refl w) rfl
          go_simp
        · intro a w hk
          refine hk.run 28 59 false false rfl (by kernel_rfl) rfl fun hw => ?_
          obtain ⟨A67, c67, s67, r67⟩ := hk.byt_ 36 67 (by kernel_rfl) rfl
          have s71 := hk.eq_ 40 71 (by kernel_rfl) rfl
          exact step_call hw rfl (by simp only [List.map_toArray, List.map_cons, List.map_nil, Act.eval, s67, s71] <;> rfl) cf33 (rturn_all _ _ _ _ _ w r67 (by omega)) (RetB.k (turnL_length _ _ _ _))
        · intro a w hk
          refine hk.run 28 59 false false rfl (by kernel_rfl) rfl fun hw => ?_
          obtain ⟨A72, c72, s72, r72⟩ := hk.byt_ 41 72 (by kernel_rfl) rfl
          exact step_conv hw rfl s72 (strq r72) rfl
        · intro a w hk
          refine hk.run 28 59 false false rfl (by kernel_rfl) rfl fun hw => ?_
          have s66 := hk.eq_ 35 66 (by kernel_rfl) rfl
          have s73 := hk.eq_ 42 73 (by kernel_rfl) rfl
          refine step_val (v := .bool false) (w' := w) hw ?_ (Ext.refl w) rfl
          go_simp
        · intro a w hk
          have s59 := hk.eq_ 28 59 (by kernel_rfl) rfl
          have s74 := hk.eq_ 43 74 (by kernel_rfl) rfl
          exact step_pick (b := false) rfl rfl s59 s74 rfl
        · intro a w5 hf
          have s31 := hf.eq_ 0 31 (by kernel_rfl) rfl
          have s32 := hf.eq_ 1 32 (by kernel_rfl) rfl
          have s33 := hf.eq_ 2 33 (by kernel_rfl) rfl
          have s35 := hf.eq_ 4 35 (by kernel_rfl) rfl
          have s36 := hf.eq_ 5 36 (by kernel_rfl) rfl
          have s37 := hf.eq_ 6 37 (by kernel_rfl) rfl
          have s38 := hf.eq_ 7 38 (by kernel_rfl) rfl
          have s39 := hf.eq_ 8 39 (by kernel_rfl) rfl
          have s41 := hf.eq_ 10 41 (by kernel_rfl) rfl
          have s42 := hf.eq_ 11 42 (by kernel_rfl) rfl
          have s43 := hf.eq_ 12 43 (by kernel_rfl) rfl
          have s44 := hf.eq_ 13 44 (by kernel_rfl) rfl
          have s45 := hf.eq_ 14 45 (by kernel_rfl) rfl
          have s46 := hf.eq_ 15 46 (by kernel_rfl) rfl
          have s47 := hf.eq_ 16 47 (by kernel_rfl) rfl
          have s49 := hf.eq_ 18 49 (by kernel_rfl) rfl
          have s50 := hf.eq_ 19 50 (by kernel_rfl) rfl
          have s51 := hf.eq_ 20 51 (by kernel_rfl) rfl
          have s52 := hf.eq_ 21 52 (by kernel_rfl) rfl
          have s53 := hf.eq_ 22 53 (by kernel_rfl) rfl
          have s55 := hf.eq_ 24 55 (by kernel_rfl) rfl
          have s56 := hf.eq_ 25 56 (by kernel_rfl) rfl
          have s57 := hf.eq_ 26 57 (by kernel_rfl) rfl
          have s58 := hf.eq_ 27 58 (by kernel_rfl) rfl
          have s59 := hf.eq_ 28 59 (by kernel_rfl) rfl
          obtain ⟨A60, c60, s60, r60⟩ := hf.val 29 60 (by kernel_rfl) rfl
          have s61 := hf.eq_ 30 61 (by kernel_rfl) rfl
          have s62 := hf.eq_ 31 62 (by kernel_rfl) rfl
          have s64 := hf.eq_ 33 64 (by kernel_rfl) rfl
          obtain ⟨A65, c65, s65, r65⟩ := hf.val 34 65 (by kernel_rfl) rfl
          have s66 := hf.eq_ 35 66 (by kernel_rfl) rfl
          obtain ⟨A67, c67, s67, r67⟩ := hf.val 36 67 (by kernel_rfl) rfl
          have s68 := hf.eq_ 37 68 (by kernel_rfl) rfl
          have s69 := hf.eq_ 38 69 (by kernel_rfl) rfl
          have s71 := hf.eq_ 40 71 (by kernel_rfl) rfl
          obtain ⟨A72, c72, s72, r72⟩ := hf.val 41 72 (by kernel_rfl) rfl
          have s73 := hf.eq_ 42 73 (by kernel_rfl) rfl
          have s74 := hf.eq_ 43 74 (by kernel_rfl) rfl
          have s75 := hf.eq_ 44 75 (by kernel_rfl) rfl
          have hx := hf.ext
          have e := hf.frame
          clear hf
          simp only [regFrame, Act.put, List.setIfInBounds_toArray, List.set_cons_zero, List.set_cons_succ, s31, s32, s33, s35, s36, s37, s38, s39, s41, s42, s43, s44, s45, s46, s47, s49, s50, s51, s52, s53, s55, s56, s57, s58, s59, s60, s61, s62, s64, s65, s66, s67, s68, s69, s71, s72, s73, s74, s75] at e
          generalize a.tmps.getD 34 undef = u34 at e
          generalize a.tmps.getD 40 undef = u40 at e
          generalize a.tmps.getD 48 undef = u48 at e
          generalize a.tmps.getD 54 undef = u54 at e
          generalize a.tmps.getD 63 undef = u63 at e
          generalize a.tmps.getD 70 undef = u70 at e
          clear s31 s32 s33 s35 s36 s37 s38 s39 s41 s42 s43 s44 s45 s46 s47 s49 s50 s51 s52 s53 s55 s56 s57 s58 s59 s60 s61 s62 s64 s65 s66 s67 s68 s69 s71 s72 s73 s74 s75
          subst e
          have HXr2 := hid (Ext.trans HXr.out hx)
          clear hx r60 r65 r67 r72
          rename_i hK
          apply hK
          go_wp2_with fail
          go_roundw
          case rel => exact ⟨i + 1, by omega, by go_num, HXr2.out⟩
          case measure => simp [intOf]; omega
      · clear hxr
        go_wp2_with fail
        go_ret
        exact ⟨rfl, HE.out⟩
end Go.Proofs.Ytllkbfhkpnncgaa
