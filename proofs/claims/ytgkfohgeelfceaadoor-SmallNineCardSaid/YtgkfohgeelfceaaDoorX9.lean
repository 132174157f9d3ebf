/- Walks over slices.Reverse and the keys of Magma, of the program; own lemmas of the verifier, no statement is proved here. -/
import Derived.Test.YtgkfohgeelfceaaDoorX8
import Derived.RegionTactic
import Derived.ArgAppend
namespace Go.Proofs.YtgkfohgeelfceaaDoor
open Go.RowKit
/-- A block of words. -/
def BW (w : World) (g : Nat) (ks : List UInt32) : Prop := w.heap[g]? = some (.cells (cN .u32 (nW ks)).toArray 43 (0, 0))
section
variable {w w' : World} {g : Nat} {ks : List UInt32}
theorem BW.lt (h : BW w g ks) : g < w.heap.size := (Array.getElem?_eq_some_iff.1 h).1
theorem BW.later (h : BW w g ks) (hx : Ext w w') : BW w' g ks := (hx.block g h.lt).trans h
theorem BW.cell (h : BW w g ks) (j : Nat) (hj : j < ks.length) : w.cell? ⟨g, j, none⟩ = some (.int .u32 ((ks.getD j 0).toNat : Nat)) := by
  rw [cell_of_heap h]
  have := cN_get .u32 (nW ks) j (by rw [nW_length]; exact hj)
  rw [nW_get ks j hj] at this
  simpa using this
theorem BW.kw (h : BW w g ks) : KW w g 0 ks := fun j hj => by rw [Nat.zero_add]; exact h.cell j hj
theorem BW.frozen (h : BW w g ks) (k : Nat) : w.frozen? ⟨g, k, none⟩ = false := frozen_of_row w g k _ 43 h
theorem BW.set_ (h : BW w g ks) (k : Nat) (x : UInt32) : BW (w.setCell ⟨g, k, none⟩ (.int .u32 (x.toNat : Nat))) g (ks.set k x) := by
  have := heap_setCell_same w g k _ 43 (.int .u32 (x.toNat : Nat)) h
  unfold BW
  rw [this, ← nW_set]
  simp [cN, List.map_set]
theorem BW.setne (h : BW w g ks) (p : Addr) (v : Value) (hne : g ≠ p.block) : BW (w.setCell p v) g ks := (heap_setCell_other w p g v hne).trans h
theorem bw_of_own {base n : Nat} (h : OwnW w base (.slice (some ⟨g, 0, none⟩) n n) ks) : BW w g ks := ownN_heap h
theorem BW.grown {k : Nat} (h : BW w g ks) (hg : w.grownBy w' (some k)) (hne : g ≠ k) : BW w' g ks := (hg.block g h.lt (by simp [hne])).trans h
theorem BW.rd (h : BW w g ks) : RdN .u32 w w.heap.size (some ⟨g, 0, none⟩) ks.length (nW ks) :=
  ⟨nW_length ks, fun _ => ⟨g, 0, rfl, h.lt, fun j hj => by rw [Nat.zero_add, h.cell j hj, nW_get ks j hj]⟩⟩
end
theorem grown_set (w : World) (g j : Nat) (x : Value) : w.grownBy (w.setCell ⟨g, j, none⟩ x) (some g) :=
  ⟨rfl, rfl, rfl, by simp, fun k _ hk => heap_setCell_other w ⟨g, j, none⟩ k x (fun e => hk (by rw [e]))⟩
theorem grown_trans {a b c : World} {g : Nat} (h : a.grownBy b (some g)) (k : b.grownBy c (some g)) : a.grownBy c (some g) :=
  ⟨k.os.trans h.os, k.tape.trans h.tape, k.output.trans h.output, Nat.le_trans h.size k.size, fun i hi hne => (k.block i (Nat.lt_of_lt_of_le hi h.size) hne).trans (h.block i hi hne)⟩
theorem grown_drew {a b : World} {g : Option Nat} (h : a.grownBy b g) : a.grownBy b.drew g := ⟨h.os, h.tape, h.output, h.size, h.block⟩
theorem grown_drewN {a b : World} {g : Option Nat} (h : a.grownBy b g) (n : Nat) : a.grownBy (b.drewN n) g := ⟨h.os, h.tape, h.output, h.size, h.block⟩
theorem OwnN.grownNe {kd : IntKind} {e : TypeId} {w w' : World} {base g : Nat} {v : Value} {xs : List Int} (h : OwnN kd e w base v xs) (hg : w.grownBy w' (some g)) (hb : g < base) : OwnN kd e w' base v xs := by
  refine ⟨h.1, ?_⟩
  rcases h.2 with hn | ⟨b, cap, cur, rfl, hbg, hh, r⟩
  · exact .inl hn
  · exact .inr ⟨b, cap, cur, rfl, hbg, by rw [hg.block b (Array.getElem?_eq_some_iff.1 hh).1 (by simp; omega)]; exact hh, r⟩
theorem below_grown {a b c : World} {B g : Nat} (h : Below B a b) (hg : b.grownBy c (some g)) (hB : B ≤ g) (hz : B ≤ b.heap.size) : Below B a c := Below.grown h hg hz (fun k e => by cases e; exact hB)
/-- Turned about, so far. -/
def revG (ks : List UInt32) : Nat → List UInt32
  | 0 => ks
  | i + 1 => ((revG ks i).set i ((revG ks i).getD (7 - i) 0)).set (7 - i) ((revG ks i).getD i 0)
theorem revG_length (ks : List UInt32) : ∀ i, (revG ks i).length = ks.length
  | 0 => rfl
  | i + 1 => by simp [revG, revG_length ks i]
theorem revG_four (ks : List UInt32) (h : ks.length = 8) : revG ks 4 = ks.reverse := by
  match ks, h with
  | [a, b, c, d, e, f, g, i], _ => rfl
set_option maxRecDepth 100000 in
set_option maxHeartbeats 2000000 in
theorem reverse_any (g c : Nat) (ks : List UInt32) (w : World) (hb : BW w g ks) (hl : ks.length = 8) :
    Calls Tryd.prog 47 #[.slice (some ⟨g, 0, none⟩) 8 c] w fun e w' => e = .returned (.tuple #[]) ∧ BW w' g ks.reverse ∧ w.grownBy w' (some g) := by
  have HB := hid hb
  clear hb
  go_enter Tryd.func47, Tryd.ntmps47
  go_wp2_with fail
  go_loopw [2, 3] (fun i j wr => ∃ k : Nat, k ≤ 4 ∧ i = .int .i64 k ∧ j = .int .i64 (7 - k : Nat) ∧ BW wr g (revG ks k) ∧ w.grownBy wr (some g)) (fun i _ _ => 4 - (intOf i).toNat)
  case atStart => exact ⟨0, by omega, rfl, rfl, HB.out, ⟨rfl, rfl, rfl, Nat.le_refl _, fun _ _ _ => rfl⟩⟩
  case round =>
    obtain ⟨k, hk, rfl, rfl, hb, hg⟩ := hrel
    by_cases hlt : k < 4
    · have hlen := revG_length ks k
      rw [hl] at hlen
      have hc1 := hb.cell k (by omega)
      have hc2 := hb.cell (7 - k) (by omega)
      have hf1 := hb.frozen k
      have hf2 := hb.frozen (7 - k)
      obtain ⟨x, hx⟩ : ∃ x, (revG ks k).getD k 0 = x := ⟨_, rfl⟩
      obtain ⟨y, hy⟩ : ∃ y, (revG ks k).getD (7 - k) 0 = y := ⟨_, rfl⟩
      have hst : revG ks (k + 1) = ((revG ks k).set k y).set (7 - k) x := by rw [revG, hx, hy]
      have hbn := (hb.set_ k y).set_ (7 - k) x
      rw [← hst] at hbn
      rw [hx] at hc1
      rw [hy] at hc2
      have HBN := hid hbn
      have HG := hid hg
      obtain ⟨m, hm⟩ : ∃ m, 7 - k = m := ⟨_, rfl⟩
      rw [hm] at hc2 hf2 HBN ⊢
      have HM := hid hm
      have hkm : (k : Int) < (m : Int) := by omega
      have hne : ¬ k = m := by omega
      have hne2 : ¬ m = k := by omega
      have hk8 : k < 8 := by omega
      have hm8 : m < 8 := by omega
      clear hb hg hx hy hst hbn hlen hm
      go_wp2_with fail
      go_region
      go_wp2_with fail
      go_roundw
      case rel => exact ⟨k + 1, by omega, by go_num, by have := HM.out; go_num, HBN.out, (grown_drew (grown_trans (grown_trans HG.out (grown_set _ _ _ _)) (grown_set _ _ _ _)))⟩
      case measure => simp [intOf]; omega
    · obtain rfl : k = 4 := by omega
      rw [revG_four ks hl] at hb
      have HH := hid (And.intro hb hg)
      clear hb hg
      go_wp2_with fail
      exact bodyPost_end (results_none rfl _ _ _) rfl ⟨rfl, HH.out.1, HH.out.2⟩
theorem magma_keys (l : List UInt32) (h : l.length = 8) : (List.range 32).map (keyM fun i => l.getD i 0) = l ++ l ++ l ++ l.reverse := by
  match l, h with
  | [a, b, c, d, e, f, g, i], _ => rfl
/-- What a function that makes words of words, and may turn these, hands back. -/
def WRetG (g n : Nat) (w : World) (ks : List UInt32) (e : Ending) (w' : World) : Prop := ∃ g2 c, e = .returned (.slice (some ⟨g2, 0, none⟩) n c) ∧ n ≤ c ∧ OwnW w' w.heap.size (.slice (some ⟨g2, 0, none⟩) n c) ks ∧ Below g w w'
set_option maxRecDepth 100000 in
set_option maxHeartbeats 2000000 in
theorem mkeys_any (g : Nat) (l : List UInt32) (w : World) (hb : BW w g l) (hl : l.length = 8) :
    Calls Tryd.prog 29 #[.slice (some ⟨g, 0, none⟩) 8 8] w (WRetG g 32 w (l ++ l ++ l ++ l.reverse)) := by
  have hlt := hb.lt
  have HB := hid hb
  have HL := hid hl
  have hrd := hb.rd
  rw [hl] at hrd
  obtain ⟨i0, hi0, hz0, hz1, hz2⟩ := info_parts Tryd.info43
  have hcl : (cN .u32 (nW l)).length = 8 := by rw [cN_length, nW_length, hl]
  have hcells : ∀ j u, (cN .u32 (nW l))[j]? = some u → w.cell? (Addr.add ⟨g, 0, none⟩ j) = some u := by
    intro j u hu
    have hj : j < 8 := by
      rcases Nat.lt_or_ge j 8 with hj | hj
      · exact hj
      · rw [List.getElem?_eq_none (by omega)] at hu; cases hu
    rw [add_at, hb.cell j (by omega)]
    rw [cN_get _ _ j (by rw [nW_length]; omega), nW_get l j (by omega)] at hu
    exact hu
  have HI := hid (And.intro hi0 (And.intro hz0 (And.intro hz1 hz2)))
  have HC := hid hcells
  have HCL := hid hcl
  have HRD := hid hrd
  clear hb hl hi0 hz0 hz1 hz2 hcells hcl hrd
  have e8 : (nW l ++ nW l).length = 16 := by simp [nW_length, HL.out]
  have e16 : (nW l ++ nW l ++ nW l).length = 24 := by simp [nW_length, HL.out]
  go_enter Tryd.func29, Tryd.ntmps29
  go_wp2_with (first
    | (at_builtin; refine wpList_append_grows _ rfl (.tmp 9) (.tmp 10) 59 rfl 43 i0 (.int .u32 0) 1 4 Tryd.underlying59 HI.out.1 HI.out.2.1 HI.out.2.2.1 HI.out.2.2.2 rfl (by omega) (some ⟨g, 0, none⟩) 8 8 (cN .u32 (nW l)) rfl (fun h => by cases h) HCL.out (fun b hb => by cases hb; exact HC.out) ⟨g, 0, none⟩ 8 8 (cN .u32 (nW l)) rfl HCL.out HC.out (cN_one _ _) (by omega) (by unfold maxLen; omega) (by omega) ?_; intro v1 w1 hown1 hg1; have hown1 : OwnN .u32 43 w1 w.heap.size v1 (nW l ++ nW l) := (by unfold OwnN; rw [e8, cN_append]; exact hown1); have hx1 := (show Ext w w1 from (Ext.refl w).grown hg1 (Nat.le_refl _) (by simp)); have hr1 := RdN.later HRD.out hx1; have hz1 := Below.size hx1; have HX1 := hid hx1; clear hg1 hx1)
    | (at_builtin; refine wpL_appendN _ rfl (.tmp 12) (.tmp 13) 59 rfl Tryd.underlying59 4 Tryd.info43 w.heap.size _ (nW l ++ nW l) rfl hown1 _ _ 8 8 (nW l) rfl hr1 (by rw [e8]; omega) (by rw [e8]; unfold maxLen; omega) (by omega) ?_; intro v2 w2 hown2 hb2; have hx2 := (show Ext w w2 from Below.trans HX1.out hb2); have HX2 := hid hx2; have HO2 := hid hown2; clear hown1 hr1 hown2 hb2 hx2 HX1))
  refine (reverse_any g 8 l _ (HB.out.later HX2.out) HL.out).mono ?_
  rintro e w3 ⟨rfl, hb3, hg3⟩
  have hown3 := OwnN.grownNe HO2.out hg3 hlt
  have hx3 : Below g w w3 := below_grown (Below.mono HX2.out (Nat.le_of_lt hlt)) hg3 (Nat.le_refl _) (by have := Below.size HX2.out; omega)
  have hr3 := hb3.rd
  rw [show l.reverse.length = 8 by rw [List.length_reverse, HL.out]] at hr3
  have hz3 : w.heap.size ≤ w3.heap.size := Nat.le_trans (Below.size HX2.out) hg3.size
  have HX3 := hid hx3
  clear hx3 hb3 hg3 HX2 HO2
  go_wp2_with (at_builtin; refine wpL_appendN _ rfl (.tmp 17) (.tmp 18) 59 rfl Tryd.underlying59 4 Tryd.info43 w.heap.size _ (nW l ++ nW l ++ nW l) rfl hown3 _ _ 8 8 (nW l.reverse) rfl hr3 (by rw [e16]; omega) (by rw [e16]; unfold maxLen; omega) hz3 ?_; intro v4 w4 hown4 hb4; rw [← nW_append, ← nW_append, ← nW_append] at hown4; have HX4 := hid (Below.trans HX3.out (Below.mono hb4 (Nat.le_of_lt hlt))); have HO4 := hid hown4; clear hown4 hb4 hown3 hr3)
  obtain ⟨g9, c9, rfl, hc9, _, _⟩ := OwnN.head (n := 32) HO4.out (by simp [nW_length, HL.out]) (by omega)
  go_ret
  exact ⟨g9, c9, rfl, hc9, by unfold OwnW; simpa using HO4.out, HX4.out⟩
end Go.Proofs.YtgkfohgeelfceaaDoor
