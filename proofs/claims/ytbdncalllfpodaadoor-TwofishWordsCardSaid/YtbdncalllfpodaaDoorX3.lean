/- Walks over mix, shrunk, H of the program; own lemmas of the verifier, no statement is proved here. -/
import Derived.Test.YtbdncalllfpodaaDoorX2
namespace Go.Proofs.YtbdncalllfpodaaDoor
open Go.RowKit
def mixC : List Value := (List.range 16).map fun j => .int .u8 (mixR (j / 4) (j % 4) : Nat)
def shrC : List Value := (List.range 32).map fun j => .int .u8 (shrR (j / 8) (j % 8) : Nat)
/-- A load of a whole table. -/
theorem load_tab {ty : TypeId} {g n : Nat} {cs : List Value} {w : World} (hs : ∀ w, (sizeOf ty).run Tryd.prog w = .ok n w) (ha : ∀ w, (isAgg ty).run Tryd.prog w = .ok true w) (hn : cs.length = n)
    (h : ∀ j v, cs[j]? = some v → w.cell? ⟨g, j, none⟩ = some v) : (loadVar ty ⟨g, 0, none⟩).run Tryd.prog w = .ok (.agg cs.toArray) w := by
  have hl : (loadCells ⟨g, 0, none⟩ cs.length).run Tryd.prog w = .ok cs.toArray w :=
    run_loadCells_list (P := Tryd.prog) w ⟨g, 0, none⟩ cs (fun j v hv => by rw [add_off, Nat.zero_add]; exact h j v hv)
  rw [hn] at hl
  unfold loadVar
  simp only [Sem.run_bind, ha, hs, Result.andThen_ok, if_true, hl, Sem.run_pure]
theorem wpList_tab {ops : Array Oper} {rest : List Oper} {o : Oper} {a : Act} {w : World} {Q : Exit → Act → World → Prop} {ty : TypeId} {g : Nat} {cs : List Value} (hgd : o.guard = none) (ho : o.op = .load ty (.global g))
    (h : (loadVar ty ⟨g, 0, none⟩).run Tryd.prog w = .ok (.agg cs.toArray) w)
    (hk : wpList Tryd.prog ops Q rest (a.put o.dst (.agg cs.toArray)) w) : wpList Tryd.prog ops Q (o :: rest) a w := by
  refine wpList_plain hgd fun K hK' => ?_
  have he : (execOp a.eval o).run Tryd.prog w = .ok (.value (.agg cs.toArray)) w := by
    unfold execOp
    simp only [ho, Act.eval, Instr.loadAt, Instr.sureAddr, Sem.run_bind, Sem.run_pure, Result.andThen_ok, h]
  unfold Oper.wp
  rw [he]
  exact hK' _ _ hk
theorem sz72 : ∀ w, (sizeOf 72).run Tryd.prog w = .ok 16 w := by intro w; kernel_rfl
theorem ag72 : ∀ w, (isAgg 72).run Tryd.prog w = .ok true w := by intro w; kernel_rfl
theorem sz83 : ∀ w, (sizeOf 83).run Tryd.prog w = .ok 32 w := by intro w; kernel_rfl
theorem ag83 : ∀ w, (isAgg 83).run Tryd.prog w = .ok true w := by intro w; kernel_rfl
theorem GT.mixT {w : World} (h : GT w) : (loadVar 72 ⟨3, 0, none⟩).run Tryd.prog w = .ok (.agg mixC.toArray) w :=
  load_tab sz72 ag72 rfl fun j v hv => by
    have hj : j < 16 := by
      rcases Nat.lt_or_ge j 16 with hj | hj
      · exact hj
      · rw [List.getElem?_eq_none (by simpa [mixC] using hj)] at hv; cases hv
    have e : mixC[j]? = some (.int .u8 (mixR (j / 4) (j % 4) : Nat)) := by simp [mixC, hj]
    rw [e] at hv; rw [h.mixs j hj]; exact hv
theorem GT.shrT {w : World} (h : GT w) : (loadVar 83 ⟨1, 0, none⟩).run Tryd.prog w = .ok (.agg shrC.toArray) w :=
  load_tab sz83 ag83 rfl fun j v hv => by
    have hj : j < 32 := by
      rcases Nat.lt_or_ge j 32 with hj | hj
      · exact hj
      · rw [List.getElem?_eq_none (by simpa [shrC] using hj)] at hv; cases hv
    have e : shrC[j]? = some (.int .u8 (shrR (j / 8) (j % 8) : Nat)) := by simp [shrC, hj]
    rw [e] at hv; rw [h.shrs j hj]; exact hv
/-- The tables' rows as bytes. -/
def mixL (k : Nat) : List UInt8 := (mixsN.getD k []).map UInt8.ofNat
def shrL (k : Nat) : List UInt8 := (shrsN.getD k []).map UInt8.ofNat
theorem mixL_at : ∀ k, k < 4 → ∀ j, j < 4 → bl (mixL k) j = mixR k j := by decide
theorem shrL_at : ∀ k, k < 4 → ∀ j, j < 8 → bl (shrL k) j = shrR k j := by decide
theorem mixL_len : ∀ k, k < 4 → (mixL k).length = 4 := by decide
theorem shrL_len : ∀ k, k < 4 → (shrL k).length = 8 := by decide
theorem mixC_row (k : Nat) (hk : k < 4) : mixC.toArray.extract (k * 4) (k * 4 + 4) = (cellsOf (mixL k)).toArray := by
  rcases (show k = 0 ∨ k = 1 ∨ k = 2 ∨ k = 3 by omega) with rfl | rfl | rfl | rfl <;> rfl
theorem shrC_row (k : Nat) (hk : k < 4) : shrC.toArray.extract (k * 8) (k * 8 + 8) = (cellsOf (shrL k)).toArray := by
  rcases (show k = 0 ∨ k = 1 ∨ k = 2 ∨ k = 3 by omega) with rfl | rfl | rfl | rfl <;> rfl
theorem sumG_rows {m : Nat} {r s b : Nat → Nat} : ∀ n, (∀ j, j < n → r j = s j) → sumG m r b n = sumG m s b n
  | 0, _ => rfl
  | n + 1, h => by rw [sumG, sumG, sumG_rows n fun j hj => h j (by omega), h n (by omega)]
theorem u8_bl (v : Int) : ((u8 v).toNat : Int) = v % 256 := u8_toNat v
theorem putL_bl (x : UInt32) : ∀ j, j < 4 → bl (outB x) j = bw x j := by
  intro j hj
  have hx := wlt x
  rcases (show j = 0 ∨ j = 1 ∨ j = 2 ∨ j = 3 by omega) with rfl | rfl | rfl | rfl
  · have := u8_bl (x.toNat : Int); show (u8 (x.toNat : Int)).toNat = x.toNat / 1 % 256; omega
  · have := u8_bl ((x.toNat : Int) / 256); show (u8 ((x.toNat : Int) / 256)).toNat = x.toNat / 256 % 256; omega
  · have := u8_bl ((x.toNat : Int) / 65536); show (u8 ((x.toNat : Int) / 65536)).toNat = x.toNat / 65536 % 256; omega
  · have := u8_bl ((x.toNat : Int) / 16777216); show (u8 ((x.toNat : Int) / 16777216)).toNat = x.toNat / 16777216 % 256; omega
theorem mixB_is (x : UInt32) (k : Nat) (hk : k < 4) : sumG 361 (bl (mixL k)) (bl (outB x)) 4 = mixB x k := by
  rw [sumG_rows 4 (mixL_at k hk), sumG_congr 4 (putL_bl x)]; rfl
theorem shrB_is (m : List UInt8) (k : Nat) (hk : k < 4) : sumG 333 (bl (shrL k)) (bl m) 8 = shrB m k := by
  rw [sumG_rows 8 (shrL_at k hk)]; rfl
theorem cells_all (bs : List UInt8) : (cellsOf bs).toArray.all (·.oneCell') = true := by
  rw [Array.all_eq_true_iff_forall_mem]
  intro v hv
  exact cellsOf_one bs v (by simpa using hv)
/-- A block's bytes are to be read. -/
theorem rd_heap {w : World} {g n : Nat} {bs : List UInt8} {e : TypeId} (h : w.heap[g]? = some (.cells (cellsOf bs).toArray e (0, 0))) (hn : bs.length = n) : Rd w w.heap.size (some ⟨g, 0, none⟩) n bs :=
  ⟨hn, fun _ => ⟨g, 0, rfl, (Array.getElem?_eq_some_iff.1 h).1, fun k hk => by
    rw [Nat.zero_add, cell_of_row w g k _ _ _ h]
    simpa using cellsOf_get bs k (by omega)⟩⟩
theorem new_row (w : World) (zs cs : Array Value) (e : TypeId) : ((w.alloc (.cells zs e)).setRow w.heap.size cs).heap[w.heap.size]? = some (.cells cs e (0, 0)) ∧ Ext w ((w.alloc (.cells zs e)).setRow w.heap.size cs) :=
  ⟨setRow_heap _ _ _ _ e (0, 0) (heap_alloc_new w _), Below.setRow_ (Ext.alloc w _) (Nat.le_refl _) cs⟩
set_option maxRecDepth 100000 in
set_option maxHeartbeats 2000000 in
theorem mix_any (x : UInt32) (w : World) (hG : GT w) :
    Calls Tryd.prog 34 #[.int .u32 (x.toNat : Nat)] w fun e w' => e = .returned (.int .u32 ((mixW x).toNat : Nat)) ∧ Ext w w' := by
  have HG := hid hG
  clear hG
  have HP := hid (fun w => putLe32_any (x.toNat : Nat) w (by omega) (by have := wlt x; omega))
  go_enter Tryd.func34, Tryd.ntmps34
  go_wp2_with (first
    | (go_at_call 41; refine (HP.out _).mono ?_; rintro e w1 ⟨y, rfl, hy, hb⟩; obtain ⟨A, c, rfl, hrd, _⟩ := hy.rdn (show (putL32 (x.toNat : Nat)).length = 4 from rfl); have HRD := hid hrd; have HX1 := hid (show Ext w w1 from hb); have HG1 := hid (HG.out.later hb); clear hy hb hrd)
    | (refine wpList_tab rfl rfl HG1.out.mixT ?_))
  go_loopw [4, 10] (fun v i wr => ∃ k : Nat, k ≤ 4 ∧ i = .int .i64 k ∧ v = .int .u32 (wdN (mixB x) k : Nat) ∧ Ext w1 wr) (fun _ i _ => 4 - (intOf i).toNat)
  case atStart => exact ⟨0, by omega, rfl, rfl, Ext.refl _⟩
  case round =>
    obtain ⟨k, hk, rfl, rfl, hx⟩ := hrel
    by_cases hlt : k < 4
    · have hI : ∀ w, (Instr.index 72 (.agg mixC.toArray) (.int .i64 k)).run Tryd.prog w = .ok (.agg (cellsOf (mixL k)).toArray) w := fun w => by
        rw [run_index_row w Tryd.underlying72 sz68 ag68 hlt, mixC_row k hlt]
      have HX := hid (Ext.trans HX1.out hx)
      have HR2 := hid (HRD.out.later hx)
      have HXX := hid hx
      have hor := w_or (mixB x) (mixB_lt x) k hlt
      have hm := mixB_is x k hlt
      have hml := mixB_lt x k
      have hl := hid (mixL_len k hlt)
      have hwl := wdN_lt (mixB_lt x) k
      have hpw : (256 : Nat) ^ k ≤ 256 ^ 4 := Nat.pow_le_pow_right (by omega) (by omega)
      obtain ⟨S, hS⟩ : ∃ S, wdN (mixB x) k = S := ⟨_, rfl⟩
      have hSl : S < 4294967296 := by omega
      obtain ⟨S1, hS1⟩ : ∃ S1, wdN (mixB x) (k + 1) = S1 := ⟨_, rfl⟩
      have HS1 := hid hS1
      obtain ⟨R, hR⟩ : ∃ R, mixB x k = R := ⟨_, rfl⟩
      rw [hS, hS1, hR] at hor
      rw [hR] at hm hml
      rw [hS]
      have HO := hid hor
      have HM := hid hm
      obtain ⟨L, hL⟩ : ∃ L, mixL k = L := ⟨_, rfl⟩
      rw [hL] at hI hl HM
      have HM2 := hid (show sumG 361 (bl L) (bl (putL32 (x.toNat : Nat))) 4 = R from HM.out)
      clear hor hm hR hS hS1 hwl hpw hL hx
      have h4 : (cellsOf L).toArray.size = 4 := by simp [cellsOf, hl.out]
      go_wp2_with (first
        | (rw [hI]; simp only [Result.andThen]; rw [Oper.upon_value])
        | (refine wpList_store_row rfl 68 (.tmp 6) (.tmp 13) rfl wr.heap.size (cellsOf L).toArray rfl rfl 68 _ (heap_alloc_new _ _) (by rw [h4]; kernel_rfl) (by rw [h4]; rfl) (cells_all L) ?_)
        | (go_at_call 44; refine (sum_any 361 _ _ 4 _ _ _ _ L (putL32 (x.toNat : Nat)) _ r361 (rd_heap (new_row wr _ (cellsOf L).toArray 68).1 hl.out) (HR2.out.later (new_row wr _ (cellsOf L).toArray 68).2) (by omega)).mono ?_; rintro e w' ⟨rfl, rfl⟩; rw [HM2.out]))
      exact ⟨⟨k + 1, by omega, by go_num, by rw [HO.out, HS1.out], Ext.trans HXX.out (new_row wr _ (cellsOf L).toArray 68).2⟩, by simp [intOf]; omega⟩
    · obtain rfl : k = 4 := by omega
      have HX := hid (Ext.trans HX1.out hx)
      clear hx
      have e1 := wd4_toNat (mixB_lt x)
      rw [← e1]
      go_wp2
      go_ret
      exact ⟨rfl, HX.out⟩
set_option maxRecDepth 100000 in
set_option maxHeartbeats 2000000 in
theorem shr_any (m : List UInt8) (A : Option Addr) (c : Nat) (w : World) (hG : GT w) (hm : Rd w w.heap.size A 8 m) :
    Calls Tryd.prog 26 #[.slice A 8 c] w fun e w' => e = .returned (.int .u32 ((shrW m).toNat : Nat)) ∧ Ext w w' := by
  have HG := hid hG
  have HRD := hid hm
  clear hG hm
  go_enter Tryd.func26, Tryd.ntmps26
  go_wp2_with (refine wpList_tab rfl rfl HG.out.shrT ?_)
  go_loopw [3, 7] (fun v i wr => ∃ k : Nat, k ≤ 4 ∧ i = .int .i64 k ∧ v = .int .u32 (wdN (shrB m) k : Nat) ∧ Ext w wr) (fun _ i _ => 4 - (intOf i).toNat)
  case atStart => exact ⟨0, by omega, rfl, rfl, Ext.refl _⟩
  case round =>
    obtain ⟨k, hk, rfl, rfl, hx⟩ := hrel
    by_cases hlt : k < 4
    · have hI : ∀ w, (Instr.index 83 (.agg shrC.toArray) (.int .i64 k)).run Tryd.prog w = .ok (.agg (cellsOf (shrL k)).toArray) w := fun w => by
        rw [run_index_row w Tryd.underlying83 sz82 ag82 hlt, shrC_row k hlt]
      have HR2 := hid (HRD.out.later hx)
      have HXX := hid hx
      have hor := w_or (shrB m) (shrB_lt m) k hlt
      have hm := shrB_is m k hlt
      have hml := shrB_lt m k
      have hl := hid (shrL_len k hlt)
      have hwl := wdN_lt (shrB_lt m) k
      have hpw : (256 : Nat) ^ k ≤ 256 ^ 4 := Nat.pow_le_pow_right (by omega) (by omega)
      obtain ⟨S, hS⟩ : ∃ S, wdN (shrB m) k = S := ⟨_, rfl⟩
      have hSl : S < 4294967296 := by omega
      obtain ⟨S1, hS1⟩ : ∃ S1, wdN (shrB m) (k + 1) = S1 := ⟨_, rfl⟩
      have HS1 := hid hS1
      obtain ⟨R, hR⟩ : ∃ R, shrB m k = R := ⟨_, rfl⟩
      rw [hS, hS1, hR] at hor
      rw [hR] at hm hml
      rw [hS]
      have HO := hid hor
      have HM := hid hm
      obtain ⟨L, hL⟩ : ∃ L, shrL k = L := ⟨_, rfl⟩
      rw [hL] at hI hl HM
      clear hor hm hR hS hS1 hwl hpw hL hx
      have h4 : (cellsOf L).toArray.size = 8 := by simp [cellsOf, hl.out]
      go_wp2_with (first
        | (rw [hI]; simp only [Result.andThen]; rw [Oper.upon_value])
        | (refine wpList_store_row rfl 82 (.tmp 5) (.tmp 10) rfl wr.heap.size (cellsOf L).toArray rfl rfl 82 _ (heap_alloc_new _ _) (by rw [h4]; kernel_rfl) (by rw [h4]; rfl) (cells_all L) ?_)
        | (go_at_call 44; refine (sum_any 333 _ _ 8 _ _ _ _ L m _ r333 (rd_heap (new_row wr _ (cellsOf L).toArray 82).1 hl.out) (HR2.out.later (new_row wr _ (cellsOf L).toArray 82).2) (by omega)).mono ?_; rintro e w' ⟨rfl, rfl⟩; rw [HM.out]))
      exact ⟨⟨k + 1, by omega, by go_num, by rw [HO.out, HS1.out], Ext.trans HXX.out (new_row wr _ (cellsOf L).toArray 82).2⟩, by simp [intOf]; omega⟩
    · obtain rfl : k = 4 := by omega
      have HX := hid hx
      clear hx
      have e1 := wd4_toNat (shrB_lt m)
      rw [← e1]
      go_wp2
      go_ret
      exact ⟨rfl, HX.out⟩
end Go.Proofs.YtbdncalllfpodaaDoor
