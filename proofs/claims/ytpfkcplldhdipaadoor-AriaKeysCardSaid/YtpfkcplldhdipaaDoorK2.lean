/- Walks over Is of the program and of the reference; own lemmas of the verifier, no statement is proved here. -/
import Derived.Test.YtpfkcplldhdipaaDoorK1
import Derived.ChangeKeysEq
namespace Go.Proofs.YtpfkcplldhdipaaDoor
open Go.RowKit
theorem zc98 : Tryd.zeroCells98 = Array.replicate 256 (.bool false) := by kernel_rfl
theorem size48 : (Tryd.prog.info? 98).map (·.size) = some 256 := by kernel_rfl
/-- Cells of truths. -/
def cB (l : List Bool) : List Value := l.map Value.bool
theorem cB_length (l : List Bool) : (cB l).length = l.length := by simp [cB]
theorem cB_get (l : List Bool) (j : Nat) (h : j < l.length) : (cB l)[j]? = some (.bool (l.getD j false)) := by simp [cB, h]
theorem cB_set (l : List Bool) (k : Nat) (b : Bool) : (cB l).toArray.setIfInBounds k (.bool b) = (cB (l.set k b)).toArray := by simp [cB, List.map_set]
theorem cB_all (l : List Bool) : (cB l).toArray.all (·.oneCell') = true := by
  rw [Array.all_eq_true_iff_forall_mem]
  intro v hv
  simp only [cB, List.mem_toArray, List.mem_map] at hv
  obtain ⟨b, _, rfl⟩ := hv
  rfl
theorem cB_zero : (cB (List.replicate 256 false)).toArray = Array.replicate 256 (.bool false) := by
  apply Array.toList_inj.1
  rw [cB, List.map_replicate, Array.toList_replicate]
/-- A block that holds a set. -/
def Set8 (w : World) (G : Nat) (l : List Bool) : Prop := w.heap[G]? = some (.cells (cB l).toArray 98 (0, 0))
theorem Set8.lt {w : World} {G : Nat} {l : List Bool} (h : Set8 w G l) : G < w.heap.size := (Array.getElem?_eq_some_iff.1 h).1
theorem Set8.later {w w' : World} {G : Nat} {l : List Bool} (h : Set8 w G l) (hx : Ext w w') : Set8 w' G l := (hx.block G h.lt).trans h
theorem Set8.cell {w : World} {G : Nat} {l : List Bool} (h : Set8 w G l) (k : Nat) (hk : k < l.length) : w.cell? ⟨G, k, none⟩ = some (.bool (l.getD k false)) := by
  rw [cell_of_row w G k _ _ _ h]
  simpa using cB_get l k hk
theorem size48' {l : List Bool} (h : l.length = 256) : (Tryd.prog.info? 98).map (·.size) = some (cB l).toArray.size := by rw [size48]; simp [cB, h]
theorem Set8.new (w : World) : Set8 (w.alloc (.cells (Array.replicate 256 (.bool false)) 98)) w.heap.size (List.replicate 256 false) := by
  unfold Set8; rw [cB_zero]; exact heap_alloc_new w _
set_option maxRecDepth 100000 in
set_option maxHeartbeats 1000000 in
theorem setOf_any (A : Option Addr) (n c : Nat) (bs : List UInt8) (w : World) (h : Rd w w.heap.size A n bs) (hn : n ≤ 140737488355328) :
    Calls Tryd.prog 60 #[.slice A n c] w fun e w' => e = .returned (.agg (cB (setG (nb bs) n)).toArray) ∧ Ext w w' := by
  have hl := h.len
  go_enter Tryd.func60, Tryd.ntmps60
  go_wp2_with fail
  rw [zc98]
  have h1 := Set8.new w
  have x1 := Ext.alloc w (.cells (Array.replicate 256 (.bool false)) 98)
  obtain ⟨W1, hW1⟩ : ∃ W1, w.alloc (.cells (Array.replicate 256 (.bool false)) 98) = W1 := ⟨_, rfl⟩
  rw [hW1] at h1 x1 ⊢
  have hz1 : W1.heap.size = w.heap.size + 1 := by rw [← hW1]; simp
  clear hW1
  have h2 := Set8.new W1
  have x2 := Ext.alloc W1 (.cells (Array.replicate 256 (.bool false)) 98)
  obtain ⟨W2, hW2⟩ : ∃ W2, W1.alloc (.cells (Array.replicate 256 (.bool false)) 98) = W2 := ⟨_, rfl⟩
  rw [hW2] at h2 x2 ⊢
  rw [hz1] at h2
  obtain ⟨G, hG⟩ : ∃ G, w.heap.size = G := ⟨_, rfl⟩
  rw [hG] at h1 h2 ⊢
  have HH := hid (show Set8 W2 G (setG (nb bs) 0) ∧ Set8 W2 (G + 1) (setG (nb bs) 0) ∧ Ext w W2 from ⟨h1.later x2, h2, x1.trans x2⟩)
  have HG := hid hG
  clear hW2 h1 h2 x1 x2 hG hz1
  go_wp2_with fail
  go_loopw [8] (fun i wr => ∃ k : Nat, k ≤ n ∧ i = .int .i64 k ∧ Set8 wr G (setG (nb bs) 0) ∧ Set8 wr (G + 1) (setG (nb bs) k) ∧ Ext w wr) (fun i _ => n - (intOf i).toNat)
  case atStart => exact ⟨0, by omega, rfl, HH.out⟩
  case round =>
    obtain ⟨k, hk, rfl, ha1, ha2, hx⟩ := hrel
    clear HH
    by_cases hlt : k < n
    · obtain ⟨b1, o1, rfl, hb1', hc1⟩ := (h.below hx (Nat.le_refl _)).at_ (by omega)
      have hck := hc1 k hlt
      rw [byteAt_nb] at hck
      have hbl := nb_lt bs k
      have hS : setG (nb bs) (k + 1) = (setG (nb bs) k).set (nb bs k) true := rfl
      obtain ⟨p, hp⟩ : ∃ p, nb bs k = p := ⟨_, rfl⟩
      rw [hp] at hck hbl hS
      have hfr := frozen_of_row wr (G + 1) p _ 98 ha2
      have hold := ha2.cell p (by rw [setG_length]; exact hbl)
      have hset := heap_setCell_same wr (G + 1) p _ 98 (.bool true) ha2
      rw [cB_set, ← hS] at hset
      have HS := hid (show Set8 (wr.setCell ⟨G + 1, p, none⟩ (.bool true)) (G + 1) (setG (nb bs) (k + 1)) from hset)
      have hset1 := heap_setCell_other wr ⟨G + 1, p, none⟩ G (.bool true) (by simp)
      have HS1 := hid (show Set8 (wr.setCell ⟨G + 1, p, none⟩ (.bool true)) G (setG (nb bs) 0) from hset1.trans ha1)
      have HX := hid (Below.setCell hx (p := ⟨G + 1, p, none⟩) (by have := HG.out; simp; omega) (.bool true))
      clear hc1 ha1 ha2 hx hset hset1 hp hS
      go_wp2_with fail
      go_roundw
      case rel => exact ⟨k + 1, by omega, by go_num, HS1.out, HS.out, HX.out⟩
      case measure => simp [intOf]; omega
    · obtain rfl : k = n := by omega
      have HA1 := hid ha1
      have HA2 := hid ha2
      have hsz : (Tryd.prog.info? 98).map (·.size) = some (cB (setG (nb bs) k)).toArray.size := size48' (setG_length _ k)
      have hss : (cB (setG (nb bs) 0)).toArray.size = (cB (setG (nb bs) k)).toArray.size := by simp [cB, setG_length]
      have HSR := hid (setRow_heap wr G _ (cB (setG (nb bs) k)).toArray 98 (0, 0) ha1)
      have HXR := hid (below_setRow hx (g := G) (by have := HG.out; omega) (cB (setG (nb bs) k)).toArray)
      have HSZ := hid (And.intro hsz hss)
      clear ha1 ha2 hx hsz hss
      go_wp2_with (first
        | (refine wpList_load_row rfl 98 (.tmp 3) rfl (G + 1) rfl 98 (cB (setG (nb bs) k)).toArray (0,0) _ HA2.out Tryd.underlying98 rfl HSZ.out.1 ?_)
        | (refine wpList_store_row rfl 98 (.tmp 2) (.tmp 15) rfl G (cB (setG (nb bs) k)).toArray rfl rfl 98 _ HA1.out HSZ.out.1 HSZ.out.2 (cB_all _) ?_))
      refine ret_cell rfl rfl G 98 _ (0, 0) rfl HSR.out Tryd.underlying98 HSZ.out.1 ⟨rfl, HXR.out⟩
set_option maxRecDepth 100000 in
set_option maxHeartbeats 1000000 in
theorem firstOnes_any (n : Nat) (w : World) (hn : n ≤ 256) :
    Calls Tryd.prog 61 #[.int .i64 n] w fun e w' => e = .returned (.agg (cB (setG (fun i => i) n)).toArray) ∧ Ext w w' := by
  go_enter Tryd.func61, Tryd.ntmps61
  go_wp2_with fail
  rw [zc98]
  have h1 := Set8.new w
  have x1 := Ext.alloc w (.cells (Array.replicate 256 (.bool false)) 98)
  obtain ⟨W1, hW1⟩ : ∃ W1, w.alloc (.cells (Array.replicate 256 (.bool false)) 98) = W1 := ⟨_, rfl⟩
  rw [hW1] at h1 x1 ⊢
  have hz1 : W1.heap.size = w.heap.size + 1 := by rw [← hW1]; simp
  clear hW1
  have h2 := Set8.new W1
  have x2 := Ext.alloc W1 (.cells (Array.replicate 256 (.bool false)) 98)
  obtain ⟨W2, hW2⟩ : ∃ W2, W1.alloc (.cells (Array.replicate 256 (.bool false)) 98) = W2 := ⟨_, rfl⟩
  rw [hW2] at h2 x2 ⊢
  rw [hz1] at h2
  obtain ⟨G, hG⟩ : ∃ G, w.heap.size = G := ⟨_, rfl⟩
  rw [hG] at h1 h2 ⊢
  have HH := hid (show Set8 W2 G (setG (fun i => i) 0) ∧ Set8 W2 (G + 1) (setG (fun i => i) 0) ∧ Ext w W2 from ⟨h1.later x2, h2, x1.trans x2⟩)
  have HG := hid hG
  clear hW2 h1 h2 x1 x2 hG hz1
  go_wp2_with fail
  go_loopw [6] (fun i wr => ∃ k : Nat, k ≤ n ∧ i = .int .i64 k ∧ Set8 wr G (setG (fun i => i) 0) ∧ Set8 wr (G + 1) (setG (fun i => i) k) ∧ Ext w wr) (fun i _ => n - (intOf i).toNat)
  case atStart => exact ⟨0, by omega, rfl, HH.out⟩
  case round =>
    obtain ⟨k, hk, rfl, ha1, ha2, hx⟩ := hrel
    clear HH
    by_cases hlt : k < n
    · have hbl : k < 256 := by omega
      have hS : setG (fun i => i) (k + 1) = (setG (fun i => i) k).set k true := rfl
      have hfr := frozen_of_row wr (G + 1) k _ 98 ha2
      have hold := ha2.cell k (by rw [setG_length]; exact hbl)
      have hset := heap_setCell_same wr (G + 1) k _ 98 (.bool true) ha2
      rw [cB_set, ← hS] at hset
      have HS := hid (show Set8 (wr.setCell ⟨G + 1, k, none⟩ (.bool true)) (G + 1) (setG (fun i => i) (k + 1)) from hset)
      have hset1 := heap_setCell_other wr ⟨G + 1, k, none⟩ G (.bool true) (by simp)
      have HS1 := hid (show Set8 (wr.setCell ⟨G + 1, k, none⟩ (.bool true)) G (setG (fun i => i) 0) from hset1.trans ha1)
      have HX := hid (Below.setCell hx (p := ⟨G + 1, k, none⟩) (by have := HG.out; simp; omega) (.bool true))
      clear ha1 ha2 hx hset hset1 hS
      go_wp2_with fail
      go_roundw
      case rel => exact ⟨k + 1, by omega, by go_num, HS1.out, HS.out, HX.out⟩
      case measure => simp [intOf]; omega
    · obtain rfl : k = n := by omega
      have HA1 := hid ha1
      have HA2 := hid ha2
      have hsz : (Tryd.prog.info? 98).map (·.size) = some (cB (setG (fun i => i) k)).toArray.size := size48' (setG_length _ k)
      have hss : (cB (setG (fun i => i) 0)).toArray.size = (cB (setG (fun i => i) k)).toArray.size := by simp [cB, setG_length]
      have HSR := hid (setRow_heap wr G _ (cB (setG (fun i => i) k)).toArray 98 (0, 0) ha1)
      have HXR := hid (below_setRow hx (g := G) (by have := HG.out; omega) (cB (setG (fun i => i) k)).toArray)
      have HSZ := hid (And.intro hsz hss)
      clear ha1 ha2 hx hsz hss
      go_wp2_with (first
        | (refine wpList_load_row rfl 98 (.tmp 3) rfl (G + 1) rfl 98 (cB (setG (fun i => i) k)).toArray (0,0) _ HA2.out Tryd.underlying98 rfl HSZ.out.1 ?_)
        | (refine wpList_store_row rfl 98 (.tmp 2) (.tmp 12) rfl G (cB (setG (fun i => i) k)).toArray rfl rfl 98 _ HA1.out HSZ.out.1 HSZ.out.2 (cB_all _) ?_))
      refine ret_cell rfl rfl G 98 _ (0, 0) rfl HSR.out Tryd.underlying98 HSZ.out.1 ⟨rfl, HXR.out⟩
theorem part4 (w : World) (l : List Bool) (i : Nat) (h : i < l.length) : (part 4 (cB l).toArray (i * 1)).run Tryd.prog w = .ok (.bool (l.getD i false)) w := by
  have hc := cB_get l i h
  simp [part, Nat.mul_one, hc]
theorem items_bools (w : World) (d : Nat) (xs ys : List Bool) (n : Nat) (hx : xs.length = n) (hy : ys.length = n) : ∀ is : List Nat, (∀ i ∈ is, i < n) →
    (Op.eqItems (d + 1) 4 1 (cB xs).toArray (cB ys).toArray is).run Tryd.prog w = .ok (is.all fun i => xs.getD i false == ys.getD i false) w
  | [], _ => by simp [Op.eqItems]
  | i :: is, h => by
    have hi := h i (by simp)
    have ih := items_bools w d xs ys n hx hy is (fun j hj => h j (by simp [hj]))
    simp only [Op.eqItems, Sem.run_bind, part4 w xs i (by omega), part4 w ys i (by omega), Result.andThen_ok, run_equalIn_bool' w d 4 _ _ Tryd.underlying4, List.all_cons]
    cases hb : (xs.getD i false == ys.getD i false)
    · simp
    · simpa using ih
theorem all_eq_list {xs ys : List Bool} {n : Nat} (hx : xs.length = n) (hy : ys.length = n) : ((List.range n).all fun i => xs.getD i false == ys.getD i false) = (xs == ys) := by
  rw [Bool.eq_iff_iff, List.all_eq_true, beq_iff_eq]
  constructor
  · intro h
    apply List.ext_getElem (by omega)
    intro i h1 h2
    have := h i (List.mem_range.2 (by omega))
    rw [beq_iff_eq, getD_eq _ _ _ h1, getD_eq _ _ _ h2] at this
    exact this
  · rintro rfl i _
    simp
theorem run_eql48 (w : World) (xs ys : List Bool) (hx : xs.length = 256) (hy : ys.length = 256) :
    (Op.equalIn 10000 98 (.agg (cB xs).toArray) (.agg (cB ys).toArray)).run Tryd.prog w = .ok (xs == ys) w := by
  obtain ⟨i, hi⟩ := info_of_underlying Tryd.underlying4
  have hc : Tryd.prog.cellsOf 4 = 1 := by kernel_rfl
  rw [run_equalIn_array w 9999 _ _ Tryd.underlying98 hi, hc, items_bools w 9998 xs ys 256 hx hy _ (fun i hi => List.mem_range.1 hi), all_eq_list hx hy]
set_option maxRecDepth 100000 in
set_option maxHeartbeats 1000000 in
theorem is_any (A : Option Addr) (n c : Nat) (bs : List UInt8) (w : World) (h : Rd w w.heap.size A n bs) (hn : n ≤ 140737488355328) :
    Calls Tryd.prog 49 #[.slice A n c] w fun e w' => e = .returned (.bool (isB bs)) ∧ Ext w w' := by
  have hl := h.len
  by_cases h256 : n ≤ 256
  · have HE := hid (setG_eq hl h256)
    go_enter Tryd.func49, Tryd.ntmps49
    go_wp2_with fail
    refine (setOf_any A n c bs _ h (by omega)).mono ?_
    rintro e w1 ⟨rfl, hx1⟩
    go_wp2_with fail
    refine (firstOnes_any n _ h256).mono ?_
    rintro e w2 ⟨rfl, hx2⟩
    have HX := hid (Ext.trans hx1 hx2)
    clear hx1 hx2
    go_wp2_with fail
    rw [run_eql48 _ _ _ (setG_length _ _) (setG_length _ _), HE.out]
    simp only [Result.andThen]
    rw [Oper.upon_value]
    go_wp2_with fail
    go_ret
    exact ⟨rfl, HX.out⟩
  · have hF : isB bs = false := isB_false fun hT => h256 (by rw [← hl]; exact hT.small)
    have HF := hid hF
    clear hF
    go_enter Tryd.func49, Tryd.ntmps49
    go_wp2_with fail
    go_ret
    rw [HF.out]
    exact ⟨rfl, Ext.refl _⟩
/-- A slice of truths of the call's own. -/
def Seen (w : World) (G : Nat) (l : List Bool) : Prop := w.heap[G]? = some (.cells (cB l).toArray 4 (0, 0))
theorem Seen.cell {w : World} {G : Nat} {l : List Bool} (h : Seen w G l) (k : Nat) (hk : k < l.length) : w.cell? ⟨G, k, none⟩ = some (.bool (l.getD k false)) := by
  rw [cell_of_row w G k _ _ _ h]
  simpa using cB_get l k hk
theorem Tryd.info4 : (Tryd.prog.info? 4).map (fun i => (i.zero, i.size, i.bytes)) = some (some (.bool false), 1, 1) := by kernel_rfl
/-- make([]bool, 256). -/
theorem wpL_make42 {w : World} {ops : Array Oper} {rest : List Oper} {o : Oper} {a : Act} {Q : Exit → Act → World → Prop}
    (hg : o.guard = none) (l c : Operand) (hop : o.op = Op.makeSlice 104 l c) (hl : a.eval l = .int .i64 256) (hc : a.eval c = .int .i64 256)
    (hK : ∀ w', Seen w' w.heap.size (List.replicate 256 false) → Ext w w' → wpList Tryd.prog ops Q rest (a.put o.dst (.slice (some ⟨w.heap.size, 0, none⟩) 256 256)) w') :
    wpList Tryd.prog ops Q (o :: rest) a w := by
  obtain ⟨i0, hi0, hz0, hz1, hz2⟩ := info_parts Tryd.info4
  refine wpList_make_full w hg l c 104 hop w.heap.size 4 i0 (.bool false) 1 Tryd.underlying104 hi0 hz0 hz1 .i64 .i64 256 256 256 hl hc rfl rfl (by rw [hz2]; omega) (by unfold maxLen; omega) (Nat.le_refl _) ?_
  intro w' hown hgr
  refine hK w' ?_ ((Below.refl _ _).grown hgr (Nat.le_refl _) (by simp))
  rcases hown.2 with ⟨h1, _⟩ | ⟨g, cap, cur, h1, _, hh, _, _, hs, ht⟩
  · cases h1
  · simp only [Value.slice.injEq, Option.some.injEq, Addr.mk.injEq, and_true, true_and] at h1
    obtain ⟨rfl, rfl⟩ := h1
    unfold Seen
    rw [hh]
    have e1 : cur.toList = (madeCells (Value.cells (.bool false)) (256 * 1)).toList := by
      rw [← ht, List.take_of_length_le (by simp; omega)]
    have e2 : (madeCells (Value.cells (.bool false)) (256 * 1)).toList = cB (List.replicate 256 false) := by
      rw [Nat.mul_one]
      have : Value.cells (.bool false) = #[Value.bool false] := rfl
      rw [this, toList_madeCells_one, cB, List.map_replicate]
    rw [e2] at e1
    rw [← e1]
theorem isT_part {bs : List UInt8} {n k : Nat} (hlt : ∀ x, x < k → nb bs x < n) (hk : nb bs k < n) : ∀ x, x < k + 1 → nb bs x < n := fun x hx => by
  rcases Nat.lt_or_ge x k with h1 | h1
  · exact hlt x h1
  · rw [show x = k by omega]; exact hk
set_option maxRecDepth 100000 in
set_option maxHeartbeats 1000000 in
theorem ris_any (A : Option Addr) (n c : Nat) (bs : List UInt8) (w : World) (h : Rd w w.heap.size A n bs) (hn : n ≤ 140737488355328) :
    Calls Tryd.prog 55 #[.slice A n c] w fun e w' => e = .returned (.bool (isB bs)) ∧ Ext w w' := by
  have hl := h.len
  go_enter Tryd.func55, Tryd.ntmps55
  go_wp2_with (at_make; refine wpL_make42 rfl _ _ rfl rfl rfl ?_; intro w1 hs1 hx1)
  obtain ⟨G, hG⟩ : ∃ G, w.heap.size = G := ⟨_, rfl⟩
  rw [hG] at hs1 ⊢
  have HH := hid (show Seen w1 G (setG (nb bs) 0) ∧ Ext w w1 from ⟨hs1, hx1⟩)
  have HG := hid hG
  have HL := hid hl
  clear hs1 hx1 hG hl
  go_loopw [4] (fun i wr => ∃ k : Nat, k ≤ n ∧ i = .int .i64 k ∧ (∀ x, x < k → nb bs x < n) ∧ (∀ x y, x < k → y < k → nb bs x = nb bs y → x = y) ∧ Seen wr G (setG (nb bs) k) ∧ Ext w wr) (fun i _ => n - (intOf i).toNat)
  case atStart => exact ⟨0, by omega, rfl, fun x hx => absurd hx (by omega), fun x y hx => absurd hx (by omega), HH.out⟩
  case round =>
    obtain ⟨k, hk, rfl, hlt, hinj, ha2, hx⟩ := hrel
    clear HH
    by_cases hkn : k < n
    · obtain ⟨b1, o1, rfl, hb1', hc1⟩ := (h.below hx (Nat.le_refl _)).at_ (by omega)
      have hck := hc1 k hkn
      rw [byteAt_nb] at hck
      have hbl := nb_lt bs k
      by_cases hpn : n ≤ nb bs k
      · have hF : isB bs = false := isB_false fun hT => by
          rw [HL.out] at hT
          have := hT.lt k hkn
          omega
        have HF := hid hF
        have HX := hid hx
        obtain ⟨p, hp⟩ : ∃ p, nb bs k = p := ⟨_, rfl⟩
        rw [hp] at hck hbl hpn
        clear hc1 ha2 hx hp hF hlt hinj
        go_wp2_with fail
        go_ret
        rw [HF.out]
        exact ⟨rfl, HX.out⟩
      · have hold := ha2.cell (nb bs k) (by rw [setG_length]; exact hbl)
        have hat := setG_at (nb bs) k (nb bs k) hbl
        cases hb : (setG (nb bs) k).getD (nb bs k) false with
        | true =>
          rw [hb] at hold hat
          obtain ⟨x, hxk, hxe⟩ := hat.1 rfl
          have hF : isB bs = false := isB_false fun hT => by
            rw [HL.out] at hT
            have := hT.inj x k (by omega) hkn hxe
            omega
          have HF := hid hF
          have HX := hid hx
          obtain ⟨p, hp⟩ : ∃ p, nb bs k = p := ⟨_, rfl⟩
          rw [hp] at hck hbl hpn hold
          clear hc1 ha2 hx hp hF hlt hinj hat hb hxk hxe
          go_wp2_with fail
          go_ret
          rw [HF.out]
          exact ⟨rfl, HX.out⟩
        | false =>
          rw [hb] at hold hat
          have hne : ∀ x, x < k → nb bs x ≠ nb bs k := fun x hxk he => by
            have := hat.2 ⟨x, hxk, he⟩
            cases this
          have HLT := hid (isT_part (n := n) hlt (by omega))
          have HINJ := hid (show ∀ x y, x < k + 1 → y < k + 1 → nb bs x = nb bs y → x = y from fun x y hx1 hy1 he => by
            rcases Nat.lt_or_ge x k with h1 | h1
            · rcases Nat.lt_or_ge y k with h2 | h2
              · exact hinj x y h1 h2 he
              · rw [show y = k by omega] at he; exact absurd he (hne x h1)
            · rcases Nat.lt_or_ge y k with h2 | h2
              · rw [show x = k by omega] at he; exact absurd he.symm (hne y h2)
              · omega)
          have hS : setG (nb bs) (k + 1) = (setG (nb bs) k).set (nb bs k) true := rfl
          obtain ⟨p, hp⟩ : ∃ p, nb bs k = p := ⟨_, rfl⟩
          rw [hp] at hck hbl hpn hold hS
          have hfr := frozen_of_row wr G p _ 4 ha2
          have hset := heap_setCell_same wr G p _ 4 (.bool true) ha2
          rw [cB_set, ← hS] at hset
          have HS := hid (show Seen (wr.setCell ⟨G, p, none⟩ (.bool true)) G (setG (nb bs) (k + 1)) from hset)
          have HX := hid (Below.setCell hx (p := ⟨G, p, none⟩) (by have := HG.out; simp; omega) (.bool true))
          clear hc1 ha2 hx hset hp hS hlt hinj hat hb hne
          go_wp2_with fail
          go_roundw
          case rel => exact ⟨k + 1, by omega, by go_num, HLT.out, HINJ.out, HS.out, HX.out⟩
          case measure => simp [intOf]; omega
    · obtain rfl : k = n := by omega
      have hF : isB bs = true := isB_of (n := k) ⟨HL.out, hlt, hinj⟩
      have HF := hid hF
      have HX := hid hx
      clear hF hlt hinj ha2 hx
      go_wp2_with fail
      go_ret
      rw [HF.out]
      exact ⟨rfl, HX.out⟩
end Go.Proofs.YtpfkcplldhdipaaDoor
