/- Walk over H of the reference; own lemmas of the verifier, no statement is proved here. -/
import Derived.Test.YtbdncalllfpodaaDoorX7
import Derived.Deep.QuietTactic
namespace Go.Proofs.YtbdncalllfpodaaDoor
open Go.RowKit
theorem cf35 (vs : Array Value) (w : World) : (callFunc 35 vs).run Tryd.prog w = .ok (.enter 35 vs) w := by go_simp
theorem cf36 (vs : Array Value) (w : World) : (callFunc 36 vs).run Tryd.prog w = .ok (.enter 36 vs) w := by go_simp
theorem byB_len (x : UInt32) : (byB x).length = 4 := by simp [byB]
theorem laid_zero (x : UInt32) (w : World) : Calls Tryd.prog 35 #[.agg #[.int .u8 0, .int .u8 0, .int .u8 0, .int .u8 0], .int .u32 (x.toNat : Nat)] w (Ret4 w x) := by
  have h := laid_any 0 x w
  rw [UInt32.zero_xor] at h
  exact h
theorem exec_ld68 {t g : Nat} {o : Oper} {a : Act} {w : World} {L : List UInt8} (ho : o.op = .load 68 (.tmp t)) (hp : a.tmps.getD t undef = .pointer (some ⟨g, 0, none⟩)) (h : BB w g 68 L) (hl : L.length = 4) :
    (execOp a.eval o).run Tryd.prog w = .ok (.value (.agg (cellsOf L).toArray)) w := by
  have h1 := load_tab (ty := 68) (g := g) (n := 4) (cs := cellsOf L) (w := w) sz68 ag68 (by rw [cellsOf_length]; exact hl) (fun j v hv => by
    rw [cell_of_row w g j _ _ _ h]; simpa using hv)
  unfold execOp
  simp only [ho, Act.eval, hp, Instr.loadAt, Instr.sureAddr, Sem.run_bind, Sem.run_pure, Result.andThen_ok, h1]
theorem RdN.cellW {w : World} {b o n B : Nat} {l : List UInt32} (h : RdN .u32 w B (some ⟨b, o, none⟩) n (nW l)) (i : Nat) (hi : i < n) (h0 : 0 < n) : w.cell? ⟨b, o + i, none⟩ = some (.int .u32 ((l.getD i 0).toNat : Nat)) := by
  obtain ⟨b', o', e, _, hc⟩ := h.at_ h0
  cases e
  have hn := h.len
  rw [nW_length] at hn
  rw [hc i hi, nW_get l i (by omega)]
theorem RdN.keepRow {kd : IntKind} {w : World} {b o n G K : Nat} {xs : List Int} (h : RdN kd w w.heap.size (some ⟨b, o, none⟩) n xs) (hG : b ≠ G ∧ K ≤ G) (cs : Array Value) : RdN kd (w.setRow G cs) (w.setRow G cs).heap.size (some ⟨b, o, none⟩) n xs := by
  refine ⟨h.len, fun hn => ?_⟩
  obtain ⟨b', o', e, hb, hc⟩ := h.at_ hn
  cases e
  refine ⟨_, _, rfl, by rw [setRow_size]; exact hb, fun j hj => ?_⟩
  rw [← hc j hj]
  exact World.cell?_of_block (w := w) (setRow_other w G _ cs hG.1)
/-- H's sum, behind so many rows and so many products. -/
def zP (x : UInt32) (i k : Nat) : Nat := wdN (mixB x) i + sumG 361 (mixR i) (bw x) k * 256 ^ i
theorem zP_zero (x : UInt32) (i : Nat) : zP x i 0 = wdN (mixB x) i := by simp [zP, sumG]
theorem zP_four (x : UInt32) (i : Nat) : zP x i 4 = wdN (mixB x) (i + 1) := rfl
theorem zP_lt (x : UInt32) (i k : Nat) : zP x i k < 256 ^ (i + 1) := by
  have h1 := wdN_lt (mixB_lt x) i
  have h2 := sumG_lt r361 (row := mixR i) (bw_lt x) k
  have h3 : sumG 361 (mixR i) (bw x) k * 256 ^ i ≤ 255 * 256 ^ i := Nat.mul_le_mul_right _ (by omega)
  unfold zP
  rw [Nat.pow_succ]; omega
theorem shift_xor (L a b t : Nat) (h : L < 2 ^ t) : (L + a * 2 ^ t) ^^^ (b * 2 ^ t) = L + (a ^^^ b) * 2 ^ t := by
  have e : ∀ c, L + c * 2 ^ t = c * 2 ^ t ||| L := fun c => by
    rw [Nat.mul_comm, Nat.add_comm]; exact Nat.two_pow_add_eq_or_of_lt h c
  rw [e, e]
  apply Nat.eq_of_testBit_eq
  intro k
  simp only [Nat.testBit_xor, Nat.testBit_or, Nat.testBit_mul_two_pow]
  by_cases hk : t ≤ k
  · rw [Nat.testBit_lt_two_pow (Nat.lt_of_lt_of_le h (Nat.pow_le_pow_right (by omega) hk))]; simp [hk]
  · simp [hk]
theorem zP_step (x : UInt32) (i k : Nat) (hi : i < 4) (hk : k < 4) : bits .xor .u32 ((zP x i k : Nat) : Int) ((gm 361 (mixR i k) (bw x k) : Int) * 2 ^ (8 * i) % 4294967296) = ((zP x i (k + 1) : Nat) : Int) := by
  have hg := gm_lt r361 (mixR_lt i hi k hk) (bw x k)
  have hz := zP_lt x i k
  have hL := wdN_lt (mixB_lt x) i
  have h3 : (256 : Nat) ^ (i + 1) ≤ 256 ^ 4 := Nat.pow_le_pow_right (by omega) (by omega)
  have h4 : gm 361 (mixR i k) (bw x k) * 256 ^ i < 256 ^ (i + 1) := by rw [Nat.pow_succ, Nat.mul_comm]; exact Nat.mul_lt_mul_of_pos_left hg (Nat.pow_pos (by omega))
  have e : (gm 361 (mixR i k) (bw x k) : Int) * 2 ^ (8 * i) % 4294967296 = ((gm 361 (mixR i k) (bw x k) * 256 ^ i : Nat) : Int) := by
    have : (gm 361 (mixR i k) (bw x k) : Int) * 2 ^ (8 * i) = ((gm 361 (mixR i k) (bw x k) * 256 ^ i : Nat) : Int) := by
      rw [Int.natCast_mul, Int.natCast_pow, Int.pow_mul]; rfl
    rw [this]; omega
  rw [e, u32_xor_nat _ _ (by omega) (by omega)]
  congr 1
  unfold zP
  rw [pow8] at hL ⊢
  rw [shift_xor _ _ _ _ hL, sumG, gm_comm r361 (mixR_lt i hi k hk) (bw_lt x k)]
def hK2_2 (X y : UInt32) (b o c : Nat) : List K := [.eq (.agg (cellsOf (byB X)).toArray), .eq (.agg #[.int .i64 0, .int .i64 1, .int .i64 0, .int .i64 1]), .eq (.agg (cellsOf (byB (replW X 2))).toArray), .eq (.slice (some ⟨b, o, none⟩) 2 c), .eq (.pointer (some ⟨b, o + 1, none⟩)), .eq (.int .u32 (y.toNat : Nat)), .eq (.agg (cellsOf (byB (replW X 2 ^^^ y))).toArray), .any]
def hK1_2 (X y : UInt32) (b o c : Nat) : List K := [.eq (.agg (cellsOf (byB X)).toArray), .eq (.agg #[.int .i64 0, .int .i64 0, .int .i64 1, .int .i64 1]), .eq (.agg (cellsOf (byB (replW X 1))).toArray), .eq (.slice (some ⟨b, o, none⟩) 2 c), .eq (.pointer (some ⟨b, o, none⟩)), .eq (.int .u32 (y.toNat : Nat)), .eq (.agg (cellsOf (byB (replW X 1 ^^^ y))).toArray), .any]
def hK3_3 (X y : UInt32) (b o c : Nat) : List K := [.eq (.agg (cellsOf (byB X)).toArray), .eq (.agg #[.int .i64 1, .int .i64 1, .int .i64 0, .int .i64 0]), .eq (.agg (cellsOf (byB (replW X 3))).toArray), .eq (.slice (some ⟨b, o, none⟩) 3 c), .eq (.pointer (some ⟨b, o + 2, none⟩)), .eq (.int .u32 (y.toNat : Nat)), .eq (.agg (cellsOf (byB (replW X 3 ^^^ y))).toArray), .any]
def hK2_3 (X y : UInt32) (b o c : Nat) : List K := [.eq (.agg (cellsOf (byB X)).toArray), .eq (.agg #[.int .i64 0, .int .i64 1, .int .i64 0, .int .i64 1]), .eq (.agg (cellsOf (byB (replW X 2))).toArray), .eq (.slice (some ⟨b, o, none⟩) 3 c), .eq (.pointer (some ⟨b, o + 1, none⟩)), .eq (.int .u32 (y.toNat : Nat)), .eq (.agg (cellsOf (byB (replW X 2 ^^^ y))).toArray), .any]
def hK1_3 (X y : UInt32) (b o c : Nat) : List K := [.eq (.agg (cellsOf (byB X)).toArray), .eq (.agg #[.int .i64 0, .int .i64 0, .int .i64 1, .int .i64 1]), .eq (.agg (cellsOf (byB (replW X 1))).toArray), .eq (.slice (some ⟨b, o, none⟩) 3 c), .eq (.pointer (some ⟨b, o, none⟩)), .eq (.int .u32 (y.toNat : Nat)), .eq (.agg (cellsOf (byB (replW X 1 ^^^ y))).toArray), .any]
def hK4_4 (X y : UInt32) (b o c : Nat) : List K := [.eq (.agg (cellsOf (byB X)).toArray), .eq (.agg #[.int .i64 1, .int .i64 0, .int .i64 0, .int .i64 1]), .eq (.agg (cellsOf (byB (replW X 4))).toArray), .eq (.slice (some ⟨b, o, none⟩) 4 c), .eq (.pointer (some ⟨b, o + 3, none⟩)), .eq (.int .u32 (y.toNat : Nat)), .eq (.agg (cellsOf (byB (replW X 4 ^^^ y))).toArray), .any]
def hK3_4 (X y : UInt32) (b o c : Nat) : List K := [.eq (.agg (cellsOf (byB X)).toArray), .eq (.agg #[.int .i64 1, .int .i64 1, .int .i64 0, .int .i64 0]), .eq (.agg (cellsOf (byB (replW X 3))).toArray), .eq (.slice (some ⟨b, o, none⟩) 4 c), .eq (.pointer (some ⟨b, o + 2, none⟩)), .eq (.int .u32 (y.toNat : Nat)), .eq (.agg (cellsOf (byB (replW X 3 ^^^ y))).toArray), .any]
def hK2_4 (X y : UInt32) (b o c : Nat) : List K := [.eq (.agg (cellsOf (byB X)).toArray), .eq (.agg #[.int .i64 0, .int .i64 1, .int .i64 0, .int .i64 1]), .eq (.agg (cellsOf (byB (replW X 2))).toArray), .eq (.slice (some ⟨b, o, none⟩) 4 c), .eq (.pointer (some ⟨b, o + 1, none⟩)), .eq (.int .u32 (y.toNat : Nat)), .eq (.agg (cellsOf (byB (replW X 2 ^^^ y))).toArray), .any]
def hK1_4 (X y : UInt32) (b o c : Nat) : List K := [.eq (.agg (cellsOf (byB X)).toArray), .eq (.agg #[.int .i64 0, .int .i64 0, .int .i64 1, .int .i64 1]), .eq (.agg (cellsOf (byB (replW X 1))).toArray), .eq (.slice (some ⟨b, o, none⟩) 4 c), .eq (.pointer (some ⟨b, o, none⟩)), .eq (.int .u32 (y.toNat : Nat)), .eq (.agg (cellsOf (byB (replW X 1 ^^^ y))).toArray), .any]
set_option maxRecDepth 100000 in
set_option maxHeartbeats 4000000 in
theorem rh2_any (x : UInt32) (l : List UInt32) (b o c : Nat) (w : World) (hl : RdN .u32 w w.heap.size (some ⟨b, o, none⟩) 2 (nW l)) :
    Calls Tryd.prog 17 #[.int .u32 (x.toNat : Nat), .slice (some ⟨b, o, none⟩) 2 c] w fun e w' => e = .returned (.int .u32 ((HW x l).toNat : Nat)) ∧ Ext w w' := by
  have HL0 := hid hl
  have hn := hl.len
  rw [nW_length] at hn
  have HST := hid (show hW l 2 x = HW x l by unfold HW; rw [hn])
  clear hl
  have HL1 := hid hn
  clear hn
  go_enter Tryd.func17, Tryd.ntmps17
  go_wp2_with (first
    | (go_at_call 35; refine (laid_zero x _).mono ?_; rintro e w1 ⟨rfl, hx1⟩; have HX1 := hid hx1; clear hx1)
    | (refine wpList_store_row rfl 68 (.tmp 5) (.tmp 12) rfl w1.heap.size (cellsOf (byB x)).toArray rfl rfl 68 _ (heap_alloc_new _ _) (in68 _ (byB_len _)) (by simp [cellsOf, byB_len]) (cells_all _) ?_))
  have hn := new_row w1 #[.int .u8 0, .int .u8 0, .int .u8 0, .int .u8 0] (cellsOf (byB x)).toArray 68
  obtain ⟨W, hWW⟩ : ∃ W, (World.setRow (w1.alloc (.cells #[.int .u8 0, .int .u8 0, .int .u8 0, .int .u8 0] 68)) w1.heap.size (cellsOf (byB x)).toArray) = W := ⟨_, rfl⟩
  rw [hWW] at hn ⊢
  obtain ⟨G, hG⟩ : ∃ G, w1.heap.size = G := ⟨_, rfl⟩
  rw [hG] at hn ⊢
  have HB := hid (show BB W G 68 (byB x) from hn.1)
  have HX := hid (HX1.out.trans hn.2)
  have HL := hid (HL0.out.later HX.out)
  have HG := hid (show b ≠ G ∧ w.heap.size ≤ G by
    have h1 := Below.size HX1.out
    obtain ⟨b', o', e, hb, _⟩ := HL0.out.at_ (by omega)
    cases e
    omega)
  obtain ⟨X, hX⟩ : ∃ X, x = X := ⟨_, rfl⟩
  have HB2 := hid (show BB W G 68 (byB X) by rw [← hX]; exact HB.out)
  have HST2 := hid (show hW l 2 X = HW x l by rw [← hX]; exact HST.out)
  clear hn hWW hG HX1 HL0 hX HB HST
  have HB := HB2
  have HST := HST2
  clear HB2 HST2
  have hcy := HL.out.cellW 1 (by omega) (by omega)
  obtain ⟨y, hy⟩ : ∃ y, l.getD 1 0 = y := ⟨_, rfl⟩
  rw [hy] at hcy
  have HCY := hid (show W.cell? ⟨b, o + 1, none⟩ = some (.int .u32 (y.toNat : Nat)) from hcy)
  have HY := hid hy
  clear hcy hy
  refine region_upto 7 mixed rfl (by kernel_rfl) (by kernel_rfl) (by kernel_rfl) (kV (hK2_2 X y b o c)) (kV_keep _) (forall_ops ⟨?_, ?_, ?_, ?_, ?_, ?_, ?_, trivial⟩) ?_
  · intro a w hk
    have s5 : a.tmps.getD 5 undef = .pointer (some ⟨G, 0, none⟩) := hk.was 5 (by kernel_rfl) rfl
    refine step_val (v := .agg (cellsOf (byB X)).toArray) (w' := w) rfl ?_ (Ext.refl w) rfl
    exact exec_ld68 rfl s5 (HB.out.later hk.ext) (byB_len X)
  · intro a w hk
    refine step_val (v := .agg #[.int .i64 0, .int .i64 1, .int .i64 0, .int .i64 1]) (w' := w) rfl ?_ (Ext.refl w) rfl
    go_simp
  · intro a w hk
    have s36 := hk.eq_ 0 36 (by kernel_rfl) rfl
    have s37 := hk.eq_ 1 37 (by kernel_rfl) rfl
    exact step_call rfl rfl (by simp only [List.map_toArray, List.map_cons, List.map_nil, Act.eval, s36, s37] <;> rfl) cf36 (stage_any X 2 0 1 0 1 w (by omega) rfl rfl rfl rfl) (fun e w1 h => by obtain ⟨rfl, hx⟩ := h; exact ⟨_, rfl, hx, rfl⟩)
  · intro a w hk
    have s1 : a.tmps.getD 1 undef = .slice (some ⟨b, o, none⟩) 2 c := hk.was 1 (by kernel_rfl) rfl
    exact step_move rfl rfl s1 rfl
  · intro a w hk
    have s39 := hk.eq_ 3 39 (by kernel_rfl) rfl
    refine step_val (v := .pointer (some ⟨b, o + 1, none⟩)) (w' := w) rfl ?_ (Ext.refl w) rfl
    go_simp
  · intro a w hk
    have s40 := hk.eq_ 4 40 (by kernel_rfl) rfl
    refine step_val (v := .int .u32 (y.toNat : Nat)) (w' := w) rfl ?_ (Ext.refl w) rfl
    have hc := cell_at hk.ext HCY.out
    go_simp
  · intro a w hk
    have s38 := hk.eq_ 2 38 (by kernel_rfl) rfl
    have s41 := hk.eq_ 5 41 (by kernel_rfl) rfl
    exact step_call rfl rfl (by simp only [List.map_toArray, List.map_cons, List.map_nil, Act.eval, s38, s41] <;> rfl) cf35 (laid_any (replW X 2) y w) (fun e w1 h => by obtain ⟨rfl, hx⟩ := h; exact ⟨_, rfl, hx, rfl⟩)
  · intro a w1 hf
    have s36 := hf.eq_ 0 36 (by kernel_rfl) rfl
    have s37 := hf.eq_ 1 37 (by kernel_rfl) rfl
    have s38 := hf.eq_ 2 38 (by kernel_rfl) rfl
    have s39 := hf.eq_ 3 39 (by kernel_rfl) rfl
    have s40 := hf.eq_ 4 40 (by kernel_rfl) rfl
    have s41 := hf.eq_ 5 41 (by kernel_rfl) rfl
    have s42 := hf.eq_ 6 42 (by kernel_rfl) rfl
    have hx := hf.ext
    have e := hf.frame
    clear hf
    simp only [List.take_succ_cons, List.take_zero, regFrame, Act.put, List.setIfInBounds_toArray, List.set_cons_zero, List.set_cons_succ, s36, s37, s38, s39, s40, s41, s42] at e
    clear s36 s37 s38 s39 s40 s41 s42
    subst e
    simp only [List.drop_succ_cons, List.drop_zero]
    have HBX := hid (HB.out.later hx)
    have HL2 := hid (HL.out.later hx)
    have HX2 := hid (Ext.trans HX.out hx)
    have HS := hid (show replW X 2 ^^^ y = hStep l 1 X by rw [← HY.out]; rfl)
    rw [HS.out]
    clear hx
    go_wp2_with (refine wpList_store_row rfl 68 (.tmp 5) (.tmp 42) rfl G (cellsOf (byB (hStep l 1 X))).toArray rfl rfl 68 _ HBX.out (in68 _ (byB_len _)) (by simp [cellsOf, byB_len]) (cells_all _) ?_)
    have HB3 := hid (HBX.out.put (byB (hStep l 1 X)))
    have HL3 := hid (HL2.out.keepRow HG.out (cellsOf (byB (hStep l 1 X))).toArray)
    have HX3 := hid (Below.setRow_ HX2.out HG.out.2 (cellsOf (byB (hStep l 1 X))).toArray)
    obtain ⟨W, hW2⟩ : ∃ W2, w1.setRow G (cellsOf (byB (hStep l 1 X))).toArray = W2 := ⟨_, rfl⟩
    rw [hW2] at HB3 HL3 HX3 ⊢
    have HST2 := hid (show hW l 1 (hStep l 1 X) = HW x l from (hW_succ l 1 X).symm.trans HST.out)
    obtain ⟨X, hX2⟩ : ∃ X2, hStep l 1 X = X2 := ⟨_, rfl⟩
    rw [hX2] at HB3 HST2 ⊢
    clear hW2 hX2 HB HL HX HST HBX HL2 HX2 HS HCY HY
    have HB := HB3
    have HL := HL3
    have HX := HX3
    have HST := HST2
    clear HB3 HL3 HX3 HST2
    have hcy := HL.out.cellW 0 (by omega) (by omega)
    obtain ⟨y, hy⟩ : ∃ y, l.getD 0 0 = y := ⟨_, rfl⟩
    rw [hy] at hcy
    have HCY := hid (show W.cell? ⟨b, o, none⟩ = some (.int .u32 (y.toNat : Nat)) from hcy)
    have HY := hid hy
    clear hcy hy
    refine region_upto 7 mixed rfl (by kernel_rfl) (by kernel_rfl) (by kernel_rfl) (kV (hK1_2 X y b o c)) (kV_keep _) (forall_ops ⟨?_, ?_, ?_, ?_, ?_, ?_, ?_, trivial⟩) ?_
    · intro a w hk
      have s5 : a.tmps.getD 5 undef = .pointer (some ⟨G, 0, none⟩) := hk.was 5 (by kernel_rfl) rfl
      refine step_val (v := .agg (cellsOf (byB X)).toArray) (w' := w) rfl ?_ (Ext.refl w) rfl
      exact exec_ld68 rfl s5 (HB.out.later hk.ext) (byB_len X)
    · intro a w hk
      refine step_val (v := .agg #[.int .i64 0, .int .i64 0, .int .i64 1, .int .i64 1]) (w' := w) rfl ?_ (Ext.refl w) rfl
      go_simp
    · intro a w hk
      have s43 := hk.eq_ 0 43 (by kernel_rfl) rfl
      have s44 := hk.eq_ 1 44 (by kernel_rfl) rfl
      exact step_call rfl rfl (by simp only [List.map_toArray, List.map_cons, List.map_nil, Act.eval, s43, s44] <;> rfl) cf36 (stage_any X 1 0 0 1 1 w (by omega) rfl rfl rfl rfl) (fun e w1 h => by obtain ⟨rfl, hx⟩ := h; exact ⟨_, rfl, hx, rfl⟩)
    · intro a w hk
      have s1 : a.tmps.getD 1 undef = .slice (some ⟨b, o, none⟩) 2 c := hk.was 1 (by kernel_rfl) rfl
      exact step_move rfl rfl s1 rfl
    · intro a w hk
      have s46 := hk.eq_ 3 46 (by kernel_rfl) rfl
      refine step_val (v := .pointer (some ⟨b, o, none⟩)) (w' := w) rfl ?_ (Ext.refl w) rfl
      go_simp
    · intro a w hk
      have s47 := hk.eq_ 4 47 (by kernel_rfl) rfl
      refine step_val (v := .int .u32 (y.toNat : Nat)) (w' := w) rfl ?_ (Ext.refl w) rfl
      have hc := cell_at hk.ext HCY.out
      go_simp
    · intro a w hk
      have s45 := hk.eq_ 2 45 (by kernel_rfl) rfl
      have s48 := hk.eq_ 5 48 (by kernel_rfl) rfl
      exact step_call rfl rfl (by simp only [List.map_toArray, List.map_cons, List.map_nil, Act.eval, s45, s48] <;> rfl) cf35 (laid_any (replW X 1) y w) (fun e w1 h => by obtain ⟨rfl, hx⟩ := h; exact ⟨_, rfl, hx, rfl⟩)
    · intro a w1 hf
      have s43 := hf.eq_ 0 43 (by kernel_rfl) rfl
      have s44 := hf.eq_ 1 44 (by kernel_rfl) rfl
      have s45 := hf.eq_ 2 45 (by kernel_rfl) rfl
      have s46 := hf.eq_ 3 46 (by kernel_rfl) rfl
      have s47 := hf.eq_ 4 47 (by kernel_rfl) rfl
      have s48 := hf.eq_ 5 48 (by kernel_rfl) rfl
      have s49 := hf.eq_ 6 49 (by kernel_rfl) rfl
      have hx := hf.ext
      have e := hf.frame
      clear hf
      simp only [List.take_succ_cons, List.take_zero, regFrame, Act.put, List.setIfInBounds_toArray, List.set_cons_zero, List.set_cons_succ, s43, s44, s45, s46, s47, s48, s49] at e
      clear s43 s44 s45 s46 s47 s48 s49
      subst e
      simp only [List.drop_succ_cons, List.drop_zero]
      have HBX := hid (HB.out.later hx)
      have HL2 := hid (HL.out.later hx)
      have HX2 := hid (Ext.trans HX.out hx)
      have HS := hid (show replW X 1 ^^^ y = hStep l 0 X by rw [← HY.out]; rfl)
      rw [HS.out]
      clear hx
      have HB3 := hid (HBX.out.put (byB (hStep l 0 X)))
      have HX3 := hid (Below.setRow_ HX2.out HG.out.2 (cellsOf (byB (hStep l 0 X))).toArray)
      have HST2 := hid (show hEnd (hStep l 0 X) = HW x l from ((hW_zero l _).symm.trans (hW_succ l 0 X).symm).trans HST.out)
      obtain ⟨Z, hZ⟩ : ∃ Z, hStep l 0 X = Z := ⟨_, rfl⟩
      rw [hZ] at HB3 HX3 HST2 ⊢
      clear hZ HB HL HX HST HL2 HX2 HS HCY HY
      go_wp2_with (first
        | (refine wpList_store_row rfl 68 (.tmp 5) (.tmp 49) rfl G (cellsOf (byB Z)).toArray rfl rfl 68 _ HBX.out (in68 _ (byB_len _)) (by simp [cellsOf, byB_len]) (cells_all _) ?_)
        | (refine wpList_load_row rfl 68 (.tmp 5) rfl G rfl 68 _ (0, 0) _ HB3.out Tryd.underlying68 rfl (in68 _ (byB_len Z)) ?_)
        | (go_at_call 36; refine (stage_any Z 0 1 0 1 0 _ (by omega) rfl rfl rfl rfl).mono ?_; rintro e w2 ⟨rfl, hx2⟩; have HB4 := hid (HB3.out.later hx2); have HX4 := hid (Ext.trans HX3.out hx2); clear hx2)
        | (refine wpList_store_row rfl 68 (.tmp 5) (.tmp 52) rfl G (cellsOf (byB (replW Z 0))).toArray rfl rfl 68 _ HB4.out (in68 _ (byB_len _)) (by simp [cellsOf, byB_len]) (cells_all _) ?_))
      have hm := heap_alloc_new (w2.setRow G (cellsOf (byB (replW Z 0))).toArray) (Obj.cells #[.int .u8 1, .int .u8 239, .int .u8 91, .int .u8 91, .int .u8 91, .int .u8 239, .int .u8 239, .int .u8 1, .int .u8 239, .int .u8 91, .int .u8 1, .int .u8 239, .int .u8 239, .int .u8 1, .int .u8 239, .int .u8 91] 72)
      have hmx := Ext.alloc (w2.setRow G (cellsOf (byB (replW Z 0))).toArray) (Obj.cells #[.int .u8 1, .int .u8 239, .int .u8 91, .int .u8 91, .int .u8 91, .int .u8 239, .int .u8 239, .int .u8 1, .int .u8 239, .int .u8 91, .int .u8 1, .int .u8 239, .int .u8 239, .int .u8 1, .int .u8 239, .int .u8 91] 72)
      have hby := (HB4.out.put (byB (replW Z 0))).later hmx
      have hxx := Ext.trans (Below.setRow_ HX4.out HG.out.2 (cellsOf (byB (replW Z 0))).toArray) hmx
      rw [setRow_size] at hm
      obtain ⟨W5, h5⟩ : ∃ W5, (w2.setRow G (cellsOf (byB (replW Z 0))).toArray).alloc (Obj.cells #[.int .u8 1, .int .u8 239, .int .u8 91, .int .u8 91, .int .u8 91, .int .u8 239, .int .u8 239, .int .u8 1, .int .u8 239, .int .u8 91, .int .u8 1, .int .u8 239, .int .u8 239, .int .u8 1, .int .u8 239, .int .u8 91] 72) = W5 := ⟨_, rfl⟩
      rw [h5] at hm hby hxx ⊢
      obtain ⟨M, hM⟩ : ∃ M, w2.heap.size = M := ⟨_, rfl⟩
      rw [hM] at hm ⊢
      obtain ⟨Y, hY⟩ : ∃ Y, replW Z 0 = Y := ⟨_, rfl⟩
      rw [hY] at hby
      have HST := hid (show mixW Y = HW x l by rw [← HST2.out, ← hY]; rfl)
      have HMT := hid (show ∀ i, i < 4 → ∀ k, k < 4 → W5.cell? ⟨M, i * 4 + k, none⟩ = some (.int .u8 (mixR i k : Nat)) from fun i hi k hk => by
        rw [cell_of_row W5 M _ _ _ _ hm]
        rcases (show i = 0 ∨ i = 1 ∨ i = 2 ∨ i = 3 by omega) with rfl | rfl | rfl | rfl <;> rcases (show k = 0 ∨ k = 1 ∨ k = 2 ∨ k = 3 by omega) with rfl | rfl | rfl | rfl <;> rfl)
      have HBY := hid (show ∀ k, k < 4 → W5.cell? ⟨G, k, none⟩ = some (.int .u8 (bw Y k : Nat)) from fun k hk => by
        rw [hby.cell k (by rw [byB_len]; exact hk), byB_bl Y k hk])
      have HX := hid hxx
      clear hm hmx hby hxx h5 hM hY HBX HX3 HB3 HB4 HX4 HST2
      go_loopw [7, 8] (fun z i wr => ∃ I : Nat, I ≤ 4 ∧ i = .int .i64 I ∧ z = .int .u32 (wdN (mixB Y) I : Nat) ∧ ∃ nd, wr = W5.drewN nd) (fun _ i _ => 4 - (intOf i).toNat)
      case atStart => exact ⟨0, by omega, rfl, rfl, 0, rfl⟩
      case round =>
        obtain ⟨I, hI, rfl, rfl, nd, hnd⟩ := hrel
        by_cases hIl : I < 4
        · have hIl2 : (I : Int) < 4 := by omega
          go_wp2_with fail
          have HND := hid hnd
          have HIL := hid hIl
          clear hnd hIl hI
          go_loopw [7, 9] (fun z k wr => ∃ K : Nat, K ≤ 4 ∧ k = .int .i64 K ∧ z = .int .u32 (zP Y I K : Nat) ∧ ∃ nd, wr = W5.drewN nd) (fun _ k _ => 4 - (intOf k).toNat)
          case atStart => exact ⟨0, by omega, rfl, by rw [zP_zero], nd, by first | rfl | exact HND.out⟩
          case round =>
            obtain ⟨K, hK, rfl, rfl, nd2, hnd2⟩ := hrel
            by_cases hKl : K < 4
            · have hmc : wr.cell? ⟨M, I * 4 + K, none⟩ = some (.int .u8 (mixR I K : Nat)) := by rw [hnd2]; exact HMT.out I HIL.out K hKl
              have hbc : wr.cell? ⟨G, K, none⟩ = some (.int .u8 (bw Y K : Nat)) := by rw [hnd2]; exact HBY.out K hKl
              have l1 := mixR_lt I HIL.out K hKl
              have l2 := bw_lt Y K
              have hz := zP_step Y I K HIL.out hKl
              have hg := gm_lt r361 l1 (bw Y K)
              have hzl := zP_lt Y I K
              have h3 : (256 : Nat) ^ (I + 1) ≤ 256 ^ 4 := Nat.pow_le_pow_right (by omega) (by have := HIL.out; omega)
              have HC := hid (fun w => rmul_any (mixR I K) (bw Y K) 361 w r361 l1 l2)
              obtain ⟨m1, hm1⟩ : ∃ m1, mixR I K = m1 := ⟨_, rfl⟩
              obtain ⟨b2, hb2⟩ : ∃ b2, bw Y K = b2 := ⟨_, rfl⟩
              rw [hm1, hb2] at hz hg HC
              rw [hm1] at hmc l1
              rw [hb2] at hbc l2
              obtain ⟨g, hge⟩ : ∃ g, gm 361 m1 b2 = g := ⟨_, rfl⟩
              rw [hge] at hz hg HC
              obtain ⟨z, hze⟩ : ∃ z, zP Y I K = z := ⟨_, rfl⟩
              have hz32 : z < 4294967296 := by omega
              rw [hze] at hz ⊢
              have HZ := hid hz
              have HN2 := hid hnd2
              have hIl3 : I < 4 := HIL.out
              clear hm1 hb2 hge hze hzl h3 hz hnd2
              go_wp2_with fail
              go_quiet ((go_at_call 37; exact quietSame (HC.out _)))
              go_wp2_with fail
              rw [HZ.out]
              exact ⟨⟨K + 1, by omega, by go_num, rfl, nd2 + nq, by rw [HN2.out]; exact drewN_add W5 nd2 nq⟩, by simp [intOf]; omega⟩
            · obtain rfl : K = 4 := by omega
              have HN2 := hid hnd2
              rw [zP_four]
              clear hnd2
              go_wp2_with fail
              exact ⟨⟨I + 1, by have := HIL.out; omega, by go_num, rfl, nd2, by first | rfl | exact HN2.out⟩, by have := HIL.out; simp [intOf]; omega⟩
        · obtain rfl : I = 4 := by omega
          have e1 := wd4_toNat (mixB_lt Y)
          have HX3 := hid (show Ext w wr by rw [hnd]; exact HX.out.drewN nd)
          rw [← e1]
          clear e1 hnd
          go_wp2_with fail
          go_ret
          exact ⟨ret_int (by rw [← HST.out]; rfl), HX3.out⟩
set_option maxRecDepth 100000 in
set_option maxHeartbeats 4000000 in
theorem rh3_any (x : UInt32) (l : List UInt32) (b o c : Nat) (w : World) (hl : RdN .u32 w w.heap.size (some ⟨b, o, none⟩) 3 (nW l)) :
    Calls Tryd.prog 17 #[.int .u32 (x.toNat : Nat), .slice (some ⟨b, o, none⟩) 3 c] w fun e w' => e = .returned (.int .u32 ((HW x l).toNat : Nat)) ∧ Ext w w' := by
  have HL0 := hid hl
  have hn := hl.len
  rw [nW_length] at hn
  have HST := hid (show hW l 3 x = HW x l by unfold HW; rw [hn])
  clear hl
  have HL1 := hid hn
  clear hn
  go_enter Tryd.func17, Tryd.ntmps17
  go_wp2_with (first
    | (go_at_call 35; refine (laid_zero x _).mono ?_; rintro e w1 ⟨rfl, hx1⟩; have HX1 := hid hx1; clear hx1)
    | (refine wpList_store_row rfl 68 (.tmp 5) (.tmp 12) rfl w1.heap.size (cellsOf (byB x)).toArray rfl rfl 68 _ (heap_alloc_new _ _) (in68 _ (byB_len _)) (by simp [cellsOf, byB_len]) (cells_all _) ?_))
  have hn := new_row w1 #[.int .u8 0, .int .u8 0, .int .u8 0, .int .u8 0] (cellsOf (byB x)).toArray 68
  obtain ⟨W, hWW⟩ : ∃ W, (World.setRow (w1.alloc (.cells #[.int .u8 0, .int .u8 0, .int .u8 0, .int .u8 0] 68)) w1.heap.size (cellsOf (byB x)).toArray) = W := ⟨_, rfl⟩
  rw [hWW] at hn ⊢
  obtain ⟨G, hG⟩ : ∃ G, w1.heap.size = G := ⟨_, rfl⟩
  rw [hG] at hn ⊢
  have HB := hid (show BB W G 68 (byB x) from hn.1)
  have HX := hid (HX1.out.trans hn.2)
  have HL := hid (HL0.out.later HX.out)
  have HG := hid (show b ≠ G ∧ w.heap.size ≤ G by
    have h1 := Below.size HX1.out
    obtain ⟨b', o', e, hb, _⟩ := HL0.out.at_ (by omega)
    cases e
    omega)
  obtain ⟨X, hX⟩ : ∃ X, x = X := ⟨_, rfl⟩
  have HB2 := hid (show BB W G 68 (byB X) by rw [← hX]; exact HB.out)
  have HST2 := hid (show hW l 3 X = HW x l by rw [← hX]; exact HST.out)
  clear hn hWW hG HX1 HL0 hX HB HST
  have HB := HB2
  have HST := HST2
  clear HB2 HST2
  have hcy := HL.out.cellW 2 (by omega) (by omega)
  obtain ⟨y, hy⟩ : ∃ y, l.getD 2 0 = y := ⟨_, rfl⟩
  rw [hy] at hcy
  have HCY := hid (show W.cell? ⟨b, o + 2, none⟩ = some (.int .u32 (y.toNat : Nat)) from hcy)
  have HY := hid hy
  clear hcy hy
  refine region_upto 7 mixed rfl (by kernel_rfl) (by kernel_rfl) (by kernel_rfl) (kV (hK3_3 X y b o c)) (kV_keep _) (forall_ops ⟨?_, ?_, ?_, ?_, ?_, ?_, ?_, trivial⟩) ?_
  · intro a w hk
    have s5 : a.tmps.getD 5 undef = .pointer (some ⟨G, 0, none⟩) := hk.was 5 (by kernel_rfl) rfl
    refine step_val (v := .agg (cellsOf (byB X)).toArray) (w' := w) rfl ?_ (Ext.refl w) rfl
    exact exec_ld68 rfl s5 (HB.out.later hk.ext) (byB_len X)
  · intro a w hk
    refine step_val (v := .agg #[.int .i64 1, .int .i64 1, .int .i64 0, .int .i64 0]) (w' := w) rfl ?_ (Ext.refl w) rfl
    go_simp
  · intro a w hk
    have s26 := hk.eq_ 0 26 (by kernel_rfl) rfl
    have s27 := hk.eq_ 1 27 (by kernel_rfl) rfl
    exact step_call rfl rfl (by simp only [List.map_toArray, List.map_cons, List.map_nil, Act.eval, s26, s27] <;> rfl) cf36 (stage_any X 3 1 1 0 0 w (by omega) rfl rfl rfl rfl) (fun e w1 h => by obtain ⟨rfl, hx⟩ := h; exact ⟨_, rfl, hx, rfl⟩)
  · intro a w hk
    have s1 : a.tmps.getD 1 undef = .slice (some ⟨b, o, none⟩) 3 c := hk.was 1 (by kernel_rfl) rfl
    exact step_move rfl rfl s1 rfl
  · intro a w hk
    have s29 := hk.eq_ 3 29 (by kernel_rfl) rfl
    refine step_val (v := .pointer (some ⟨b, o + 2, none⟩)) (w' := w) rfl ?_ (Ext.refl w) rfl
    go_simp
  · intro a w hk
    have s30 := hk.eq_ 4 30 (by kernel_rfl) rfl
    refine step_val (v := .int .u32 (y.toNat : Nat)) (w' := w) rfl ?_ (Ext.refl w) rfl
    have hc := cell_at hk.ext HCY.out
    go_simp
  · intro a w hk
    have s28 := hk.eq_ 2 28 (by kernel_rfl) rfl
    have s31 := hk.eq_ 5 31 (by kernel_rfl) rfl
    exact step_call rfl rfl (by simp only [List.map_toArray, List.map_cons, List.map_nil, Act.eval, s28, s31] <;> rfl) cf35 (laid_any (replW X 3) y w) (fun e w1 h => by obtain ⟨rfl, hx⟩ := h; exact ⟨_, rfl, hx, rfl⟩)
  · intro a w1 hf
    have s26 := hf.eq_ 0 26 (by kernel_rfl) rfl
    have s27 := hf.eq_ 1 27 (by kernel_rfl) rfl
    have s28 := hf.eq_ 2 28 (by kernel_rfl) rfl
    have s29 := hf.eq_ 3 29 (by kernel_rfl) rfl
    have s30 := hf.eq_ 4 30 (by kernel_rfl) rfl
    have s31 := hf.eq_ 5 31 (by kernel_rfl) rfl
    have s32 := hf.eq_ 6 32 (by kernel_rfl) rfl
    have hx := hf.ext
    have e := hf.frame
    clear hf
    simp only [List.take_succ_cons, List.take_zero, regFrame, Act.put, List.setIfInBounds_toArray, List.set_cons_zero, List.set_cons_succ, s26, s27, s28, s29, s30, s31, s32] at e
    clear s26 s27 s28 s29 s30 s31 s32
    subst e
    simp only [List.drop_succ_cons, List.drop_zero]
    have HBX := hid (HB.out.later hx)
    have HL2 := hid (HL.out.later hx)
    have HX2 := hid (Ext.trans HX.out hx)
    have HS := hid (show replW X 3 ^^^ y = hStep l 2 X by rw [← HY.out]; rfl)
    rw [HS.out]
    clear hx
    go_wp2_with (refine wpList_store_row rfl 68 (.tmp 5) (.tmp 32) rfl G (cellsOf (byB (hStep l 2 X))).toArray rfl rfl 68 _ HBX.out (in68 _ (byB_len _)) (by simp [cellsOf, byB_len]) (cells_all _) ?_)
    have HB3 := hid (HBX.out.put (byB (hStep l 2 X)))
    have HL3 := hid (HL2.out.keepRow HG.out (cellsOf (byB (hStep l 2 X))).toArray)
    have HX3 := hid (Below.setRow_ HX2.out HG.out.2 (cellsOf (byB (hStep l 2 X))).toArray)
    obtain ⟨W, hW2⟩ : ∃ W2, w1.setRow G (cellsOf (byB (hStep l 2 X))).toArray = W2 := ⟨_, rfl⟩
    rw [hW2] at HB3 HL3 HX3 ⊢
    have HST2 := hid (show hW l 2 (hStep l 2 X) = HW x l from (hW_succ l 2 X).symm.trans HST.out)
    obtain ⟨X, hX2⟩ : ∃ X2, hStep l 2 X = X2 := ⟨_, rfl⟩
    rw [hX2] at HB3 HST2 ⊢
    clear hW2 hX2 HB HL HX HST HBX HL2 HX2 HS HCY HY
    have HB := HB3
    have HL := HL3
    have HX := HX3
    have HST := HST2
    clear HB3 HL3 HX3 HST2
    have hcy := HL.out.cellW 1 (by omega) (by omega)
    obtain ⟨y, hy⟩ : ∃ y, l.getD 1 0 = y := ⟨_, rfl⟩
    rw [hy] at hcy
    have HCY := hid (show W.cell? ⟨b, o + 1, none⟩ = some (.int .u32 (y.toNat : Nat)) from hcy)
    have HY := hid hy
    clear hcy hy
    refine region_upto 7 mixed rfl (by kernel_rfl) (by kernel_rfl) (by kernel_rfl) (kV (hK2_3 X y b o c)) (kV_keep _) (forall_ops ⟨?_, ?_, ?_, ?_, ?_, ?_, ?_, trivial⟩) ?_
    · intro a w hk
      have s5 : a.tmps.getD 5 undef = .pointer (some ⟨G, 0, none⟩) := hk.was 5 (by kernel_rfl) rfl
      refine step_val (v := .agg (cellsOf (byB X)).toArray) (w' := w) rfl ?_ (Ext.refl w) rfl
      exact exec_ld68 rfl s5 (HB.out.later hk.ext) (byB_len X)
    · intro a w hk
      refine step_val (v := .agg #[.int .i64 0, .int .i64 1, .int .i64 0, .int .i64 1]) (w' := w) rfl ?_ (Ext.refl w) rfl
      go_simp
    · intro a w hk
      have s36 := hk.eq_ 0 36 (by kernel_rfl) rfl
      have s37 := hk.eq_ 1 37 (by kernel_rfl) rfl
      exact step_call rfl rfl (by simp only [List.map_toArray, List.map_cons, List.map_nil, Act.eval, s36, s37] <;> rfl) cf36 (stage_any X 2 0 1 0 1 w (by omega) rfl rfl rfl rfl) (fun e w1 h => by obtain ⟨rfl, hx⟩ := h; exact ⟨_, rfl, hx, rfl⟩)
    · intro a w hk
      have s1 : a.tmps.getD 1 undef = .slice (some ⟨b, o, none⟩) 3 c := hk.was 1 (by kernel_rfl) rfl
      exact step_move rfl rfl s1 rfl
    · intro a w hk
      have s39 := hk.eq_ 3 39 (by kernel_rfl) rfl
      refine step_val (v := .pointer (some ⟨b, o + 1, none⟩)) (w' := w) rfl ?_ (Ext.refl w) rfl
      go_simp
    · intro a w hk
      have s40 := hk.eq_ 4 40 (by kernel_rfl) rfl
      refine step_val (v := .int .u32 (y.toNat : Nat)) (w' := w) rfl ?_ (Ext.refl w) rfl
      have hc := cell_at hk.ext HCY.out
      go_simp
    · intro a w hk
      have s38 := hk.eq_ 2 38 (by kernel_rfl) rfl
      have s41 := hk.eq_ 5 41 (by kernel_rfl) rfl
      exact step_call rfl rfl (by simp only [List.map_toArray, List.map_cons, List.map_nil, Act.eval, s38, s41] <;> rfl) cf35 (laid_any (replW X 2) y w) (fun e w1 h => by obtain ⟨rfl, hx⟩ := h; exact ⟨_, rfl, hx, rfl⟩)
    · intro a w1 hf
      have s36 := hf.eq_ 0 36 (by kernel_rfl) rfl
      have s37 := hf.eq_ 1 37 (by kernel_rfl) rfl
      have s38 := hf.eq_ 2 38 (by kernel_rfl) rfl
      have s39 := hf.eq_ 3 39 (by kernel_rfl) rfl
      have s40 := hf.eq_ 4 40 (by kernel_rfl) rfl
      have s41 := hf.eq_ 5 41 (by kernel_rfl) rfl
      have s42 := hf.eq_ 6 42 (by kernel_rfl) rfl
      have hx := hf.ext
      have e := hf.frame
      clear hf
      simp only [List.take_succ_cons, List.take_zero, regFrame, Act.put, List.setIfInBounds_toArray, List.set_cons_zero, List.set_cons_succ, s36, s37, s38, s39, s40, s41, s42] at e
      clear s36 s37 s38 s39 s40 s41 s42
      subst e
      simp only [List.drop_succ_cons, List.drop_zero]
      have HBX := hid (HB.out.later hx)
      have HL2 := hid (HL.out.later hx)
      have HX2 := hid (Ext.trans HX.out hx)
      have HS := hid (show replW X 2 ^^^ y = hStep l 1 X by rw [← HY.out]; rfl)
      rw [HS.out]
      clear hx
      go_wp2_with (refine wpList_store_row rfl 68 (.tmp 5) (.tmp 42) rfl G (cellsOf (byB (hStep l 1 X))).toArray rfl rfl 68 _ HBX.out (in68 _ (byB_len _)) (by simp [cellsOf, byB_len]) (cells_all _) ?_)
      have HB3 := hid (HBX.out.put (byB (hStep l 1 X)))
      have HL3 := hid (HL2.out.keepRow HG.out (cellsOf (byB (hStep l 1 X))).toArray)
      have HX3 := hid (Below.setRow_ HX2.out HG.out.2 (cellsOf (byB (hStep l 1 X))).toArray)
      obtain ⟨W, hW2⟩ : ∃ W2, w1.setRow G (cellsOf (byB (hStep l 1 X))).toArray = W2 := ⟨_, rfl⟩
      rw [hW2] at HB3 HL3 HX3 ⊢
      have HST2 := hid (show hW l 1 (hStep l 1 X) = HW x l from (hW_succ l 1 X).symm.trans HST.out)
      obtain ⟨X, hX2⟩ : ∃ X2, hStep l 1 X = X2 := ⟨_, rfl⟩
      rw [hX2] at HB3 HST2 ⊢
      clear hW2 hX2 HB HL HX HST HBX HL2 HX2 HS HCY HY
      have HB := HB3
      have HL := HL3
      have HX := HX3
      have HST := HST2
      clear HB3 HL3 HX3 HST2
      have hcy := HL.out.cellW 0 (by omega) (by omega)
      obtain ⟨y, hy⟩ : ∃ y, l.getD 0 0 = y := ⟨_, rfl⟩
      rw [hy] at hcy
      have HCY := hid (show W.cell? ⟨b, o, none⟩ = some (.int .u32 (y.toNat : Nat)) from hcy)
      have HY := hid hy
      clear hcy hy
      refine region_upto 7 mixed rfl (by kernel_rfl) (by kernel_rfl) (by kernel_rfl) (kV (hK1_3 X y b o c)) (kV_keep _) (forall_ops ⟨?_, ?_, ?_, ?_, ?_, ?_, ?_, trivial⟩) ?_
      · intro a w hk
        have s5 : a.tmps.getD 5 undef = .pointer (some ⟨G, 0, none⟩) := hk.was 5 (by kernel_rfl) rfl
        refine step_val (v := .agg (cellsOf (byB X)).toArray) (w' := w) rfl ?_ (Ext.refl w) rfl
        exact exec_ld68 rfl s5 (HB.out.later hk.ext) (byB_len X)
      · intro a w hk
        refine step_val (v := .agg #[.int .i64 0, .int .i64 0, .int .i64 1, .int .i64 1]) (w' := w) rfl ?_ (Ext.refl w) rfl
        go_simp
      · intro a w hk
        have s43 := hk.eq_ 0 43 (by kernel_rfl) rfl
        have s44 := hk.eq_ 1 44 (by kernel_rfl) rfl
        exact step_call rfl rfl (by simp only [List.map_toArray, List.map_cons, List.map_nil, Act.eval, s43, s44] <;> rfl) cf36 (stage_any X 1 0 0 1 1 w (by omega) rfl rfl rfl rfl) (fun e w1 h => by obtain ⟨rfl, hx⟩ := h; exact ⟨_, rfl, hx, rfl⟩)
      · intro a w hk
        have s1 : a.tmps.getD 1 undef = .slice (some ⟨b, o, none⟩) 3 c := hk.was 1 (by kernel_rfl) rfl
        exact step_move rfl rfl s1 rfl
      · intro a w hk
        have s46 := hk.eq_ 3 46 (by kernel_rfl) rfl
        refine step_val (v := .pointer (some ⟨b, o, none⟩)) (w' := w) rfl ?_ (Ext.refl w) rfl
        go_simp
      · intro a w hk
        have s47 := hk.eq_ 4 47 (by kernel_rfl) rfl
        refine step_val (v := .int .u32 (y.toNat : Nat)) (w' := w) rfl ?_ (Ext.refl w) rfl
        have hc := cell_at hk.ext HCY.out
        go_simp
      · intro a w hk
        have s45 := hk.eq_ 2 45 (by kernel_rfl) rfl
        have s48 := hk.eq_ 5 48 (by kernel_rfl) rfl
        exact step_call rfl rfl (by simp only [List.map_toArray, List.map_cons, List.map_nil, Act.eval, s45, s48] <;> rfl) cf35 (laid_any (replW X 1) y w) (fun e w1 h => by obtain ⟨rfl, hx⟩ := h; exact ⟨_, rfl, hx, rfl⟩)
      · intro a w1 hf
        have s43 := hf.eq_ 0 43 (by kernel_rfl) rfl
        have s44 := hf.eq_ 1 44 (by kernel_rfl) rfl
        have s45 := hf.eq_ 2 45 (by kernel_rfl) rfl
        have s46 := hf.eq_ 3 46 (by kernel_rfl) rfl
        have s47 := hf.eq_ 4 47 (by kernel_rfl) rfl
        have s48 := hf.eq_ 5 48 (by kernel_rfl) rfl
        have s49 := hf.eq_ 6 49 (by kernel_rfl) rfl
        have hx := hf.ext
        have e := hf.frame
        clear hf
        simp only [List.take_succ_cons, List.take_zero, regFrame, Act.put, List.setIfInBounds_toArray, List.set_cons_zero, List.set_cons_succ, s43, s44, s45, s46, s47, s48, s49] at e
        clear s43 s44 s45 s46 s47 s48 s49
        subst e
        simp only [List.drop_succ_cons, List.drop_zero]
        have HBX := hid (HB.out.later hx)
        have HL2 := hid (HL.out.later hx)
        have HX2 := hid (Ext.trans HX.out hx)
        have HS := hid (show replW X 1 ^^^ y = hStep l 0 X by rw [← HY.out]; rfl)
        rw [HS.out]
        clear hx
        have HB3 := hid (HBX.out.put (byB (hStep l 0 X)))
        have HX3 := hid (Below.setRow_ HX2.out HG.out.2 (cellsOf (byB (hStep l 0 X))).toArray)
        have HST2 := hid (show hEnd (hStep l 0 X) = HW x l from ((hW_zero l _).symm.trans (hW_succ l 0 X).symm).trans HST.out)
        obtain ⟨Z, hZ⟩ : ∃ Z, hStep l 0 X = Z := ⟨_, rfl⟩
        rw [hZ] at HB3 HX3 HST2 ⊢
        clear hZ HB HL HX HST HL2 HX2 HS HCY HY
        go_wp2_with (first
          | (refine wpList_store_row rfl 68 (.tmp 5) (.tmp 49) rfl G (cellsOf (byB Z)).toArray rfl rfl 68 _ HBX.out (in68 _ (byB_len _)) (by simp [cellsOf, byB_len]) (cells_all _) ?_)
          | (refine wpList_load_row rfl 68 (.tmp 5) rfl G rfl 68 _ (0, 0) _ HB3.out Tryd.underlying68 rfl (in68 _ (byB_len Z)) ?_)
          | (go_at_call 36; refine (stage_any Z 0 1 0 1 0 _ (by omega) rfl rfl rfl rfl).mono ?_; rintro e w2 ⟨rfl, hx2⟩; have HB4 := hid (HB3.out.later hx2); have HX4 := hid (Ext.trans HX3.out hx2); clear hx2)
          | (refine wpList_store_row rfl 68 (.tmp 5) (.tmp 52) rfl G (cellsOf (byB (replW Z 0))).toArray rfl rfl 68 _ HB4.out (in68 _ (byB_len _)) (by simp [cellsOf, byB_len]) (cells_all _) ?_))
        have hm := heap_alloc_new (w2.setRow G (cellsOf (byB (replW Z 0))).toArray) (Obj.cells #[.int .u8 1, .int .u8 239, .int .u8 91, .int .u8 91, .int .u8 91, .int .u8 239, .int .u8 239, .int .u8 1, .int .u8 239, .int .u8 91, .int .u8 1, .int .u8 239, .int .u8 239, .int .u8 1, .int .u8 239, .int .u8 91] 72)
        have hmx := Ext.alloc (w2.setRow G (cellsOf (byB (replW Z 0))).toArray) (Obj.cells #[.int .u8 1, .int .u8 239, .int .u8 91, .int .u8 91, .int .u8 91, .int .u8 239, .int .u8 239, .int .u8 1, .int .u8 239, .int .u8 91, .int .u8 1, .int .u8 239, .int .u8 239, .int .u8 1, .int .u8 239, .int .u8 91] 72)
        have hby := (HB4.out.put (byB (replW Z 0))).later hmx
        have hxx := Ext.trans (Below.setRow_ HX4.out HG.out.2 (cellsOf (byB (replW Z 0))).toArray) hmx
        rw [setRow_size] at hm
        obtain ⟨W5, h5⟩ : ∃ W5, (w2.setRow G (cellsOf (byB (replW Z 0))).toArray).alloc (Obj.cells #[.int .u8 1, .int .u8 239, .int .u8 91, .int .u8 91, .int .u8 91, .int .u8 239, .int .u8 239, .int .u8 1, .int .u8 239, .int .u8 91, .int .u8 1, .int .u8 239, .int .u8 239, .int .u8 1, .int .u8 239, .int .u8 91] 72) = W5 := ⟨_, rfl⟩
        rw [h5] at hm hby hxx ⊢
        obtain ⟨M, hM⟩ : ∃ M, w2.heap.size = M := ⟨_, rfl⟩
        rw [hM] at hm ⊢
        obtain ⟨Y, hY⟩ : ∃ Y, replW Z 0 = Y := ⟨_, rfl⟩
        rw [hY] at hby
        have HST := hid (show mixW Y = HW x l by rw [← HST2.out, ← hY]; rfl)
        have HMT := hid (show ∀ i, i < 4 → ∀ k, k < 4 → W5.cell? ⟨M, i * 4 + k, none⟩ = some (.int .u8 (mixR i k : Nat)) from fun i hi k hk => by
          rw [cell_of_row W5 M _ _ _ _ hm]
          rcases (show i = 0 ∨ i = 1 ∨ i = 2 ∨ i = 3 by omega) with rfl | rfl | rfl | rfl <;> rcases (show k = 0 ∨ k = 1 ∨ k = 2 ∨ k = 3 by omega) with rfl | rfl | rfl | rfl <;> rfl)
        have HBY := hid (show ∀ k, k < 4 → W5.cell? ⟨G, k, none⟩ = some (.int .u8 (bw Y k : Nat)) from fun k hk => by
          rw [hby.cell k (by rw [byB_len]; exact hk), byB_bl Y k hk])
        have HX := hid hxx
        clear hm hmx hby hxx h5 hM hY HBX HX3 HB3 HB4 HX4 HST2
        go_loopw [7, 8] (fun z i wr => ∃ I : Nat, I ≤ 4 ∧ i = .int .i64 I ∧ z = .int .u32 (wdN (mixB Y) I : Nat) ∧ ∃ nd, wr = W5.drewN nd) (fun _ i _ => 4 - (intOf i).toNat)
        case atStart => exact ⟨0, by omega, rfl, rfl, 0, rfl⟩
        case round =>
          obtain ⟨I, hI, rfl, rfl, nd, hnd⟩ := hrel
          by_cases hIl : I < 4
          · have hIl2 : (I : Int) < 4 := by omega
            go_wp2_with fail
            have HND := hid hnd
            have HIL := hid hIl
            clear hnd hIl hI
            go_loopw [7, 9] (fun z k wr => ∃ K : Nat, K ≤ 4 ∧ k = .int .i64 K ∧ z = .int .u32 (zP Y I K : Nat) ∧ ∃ nd, wr = W5.drewN nd) (fun _ k _ => 4 - (intOf k).toNat)
            case atStart => exact ⟨0, by omega, rfl, by rw [zP_zero], nd, by first | rfl | exact HND.out⟩
            case round =>
              obtain ⟨K, hK, rfl, rfl, nd2, hnd2⟩ := hrel
              by_cases hKl : K < 4
              · have hmc : wr.cell? ⟨M, I * 4 + K, none⟩ = some (.int .u8 (mixR I K : Nat)) := by rw [hnd2]; exact HMT.out I HIL.out K hKl
                have hbc : wr.cell? ⟨G, K, none⟩ = some (.int .u8 (bw Y K : Nat)) := by rw [hnd2]; exact HBY.out K hKl
                have l1 := mixR_lt I HIL.out K hKl
                have l2 := bw_lt Y K
                have hz := zP_step Y I K HIL.out hKl
                have hg := gm_lt r361 l1 (bw Y K)
                have hzl := zP_lt Y I K
                have h3 : (256 : Nat) ^ (I + 1) ≤ 256 ^ 4 := Nat.pow_le_pow_right (by omega) (by have := HIL.out; omega)
                have HC := hid (fun w => rmul_any (mixR I K) (bw Y K) 361 w r361 l1 l2)
                obtain ⟨m1, hm1⟩ : ∃ m1, mixR I K = m1 := ⟨_, rfl⟩
                obtain ⟨b2, hb2⟩ : ∃ b2, bw Y K = b2 := ⟨_, rfl⟩
                rw [hm1, hb2] at hz hg HC
                rw [hm1] at hmc l1
                rw [hb2] at hbc l2
                obtain ⟨g, hge⟩ : ∃ g, gm 361 m1 b2 = g := ⟨_, rfl⟩
                rw [hge] at hz hg HC
                obtain ⟨z, hze⟩ : ∃ z, zP Y I K = z := ⟨_, rfl⟩
                have hz32 : z < 4294967296 := by omega
                rw [hze] at hz ⊢
                have HZ := hid hz
                have HN2 := hid hnd2
                have hIl3 : I < 4 := HIL.out
                clear hm1 hb2 hge hze hzl h3 hz hnd2
                go_wp2_with fail
                go_quiet ((go_at_call 37; exact quietSame (HC.out _)))
                go_wp2_with fail
                rw [HZ.out]
                exact ⟨⟨K + 1, by omega, by go_num, rfl, nd2 + nq, by rw [HN2.out]; exact drewN_add W5 nd2 nq⟩, by simp [intOf]; omega⟩
              · obtain rfl : K = 4 := by omega
                have HN2 := hid hnd2
                rw [zP_four]
                clear hnd2
                go_wp2_with fail
                exact ⟨⟨I + 1, by have := HIL.out; omega, by go_num, rfl, nd2, by first | rfl | exact HN2.out⟩, by have := HIL.out; simp [intOf]; omega⟩
          · obtain rfl : I = 4 := by omega
            have e1 := wd4_toNat (mixB_lt Y)
            have HX3 := hid (show Ext w wr by rw [hnd]; exact HX.out.drewN nd)
            rw [← e1]
            clear e1 hnd
            go_wp2_with fail
            go_ret
            exact ⟨ret_int (by rw [← HST.out]; rfl), HX3.out⟩
set_option maxRecDepth 100000 in
set_option maxHeartbeats 4000000 in
theorem rh4_any (x : UInt32) (l : List UInt32) (b o c : Nat) (w : World) (hl : RdN .u32 w w.heap.size (some ⟨b, o, none⟩) 4 (nW l)) :
    Calls Tryd.prog 17 #[.int .u32 (x.toNat : Nat), .slice (some ⟨b, o, none⟩) 4 c] w fun e w' => e = .returned (.int .u32 ((HW x l).toNat : Nat)) ∧ Ext w w' := by
  have HL0 := hid hl
  have hn := hl.len
  rw [nW_length] at hn
  have HST := hid (show hW l 4 x = HW x l by unfold HW; rw [hn])
  clear hl
  have HL1 := hid hn
  clear hn
  go_enter Tryd.func17, Tryd.ntmps17
  go_wp2_with (first
    | (go_at_call 35; refine (laid_zero x _).mono ?_; rintro e w1 ⟨rfl, hx1⟩; have HX1 := hid hx1; clear hx1)
    | (refine wpList_store_row rfl 68 (.tmp 5) (.tmp 12) rfl w1.heap.size (cellsOf (byB x)).toArray rfl rfl 68 _ (heap_alloc_new _ _) (in68 _ (byB_len _)) (by simp [cellsOf, byB_len]) (cells_all _) ?_))
  have hn := new_row w1 #[.int .u8 0, .int .u8 0, .int .u8 0, .int .u8 0] (cellsOf (byB x)).toArray 68
  obtain ⟨W, hWW⟩ : ∃ W, (World.setRow (w1.alloc (.cells #[.int .u8 0, .int .u8 0, .int .u8 0, .int .u8 0] 68)) w1.heap.size (cellsOf (byB x)).toArray) = W := ⟨_, rfl⟩
  rw [hWW] at hn ⊢
  obtain ⟨G, hG⟩ : ∃ G, w1.heap.size = G := ⟨_, rfl⟩
  rw [hG] at hn ⊢
  have HB := hid (show BB W G 68 (byB x) from hn.1)
  have HX := hid (HX1.out.trans hn.2)
  have HL := hid (HL0.out.later HX.out)
  have HG := hid (show b ≠ G ∧ w.heap.size ≤ G by
    have h1 := Below.size HX1.out
    obtain ⟨b', o', e, hb, _⟩ := HL0.out.at_ (by omega)
    cases e
    omega)
  obtain ⟨X, hX⟩ : ∃ X, x = X := ⟨_, rfl⟩
  have HB2 := hid (show BB W G 68 (byB X) by rw [← hX]; exact HB.out)
  have HST2 := hid (show hW l 4 X = HW x l by rw [← hX]; exact HST.out)
  clear hn hWW hG HX1 HL0 hX HB HST
  have HB := HB2
  have HST := HST2
  clear HB2 HST2
  have hcy := HL.out.cellW 3 (by omega) (by omega)
  obtain ⟨y, hy⟩ : ∃ y, l.getD 3 0 = y := ⟨_, rfl⟩
  rw [hy] at hcy
  have HCY := hid (show W.cell? ⟨b, o + 3, none⟩ = some (.int .u32 (y.toNat : Nat)) from hcy)
  have HY := hid hy
  clear hcy hy
  refine region_upto 7 mixed rfl (by kernel_rfl) (by kernel_rfl) (by kernel_rfl) (kV (hK4_4 X y b o c)) (kV_keep _) (forall_ops ⟨?_, ?_, ?_, ?_, ?_, ?_, ?_, trivial⟩) ?_
  · intro a w hk
    have s5 : a.tmps.getD 5 undef = .pointer (some ⟨G, 0, none⟩) := hk.was 5 (by kernel_rfl) rfl
    refine step_val (v := .agg (cellsOf (byB X)).toArray) (w' := w) rfl ?_ (Ext.refl w) rfl
    exact exec_ld68 rfl s5 (HB.out.later hk.ext) (byB_len X)
  · intro a w hk
    refine step_val (v := .agg #[.int .i64 1, .int .i64 0, .int .i64 0, .int .i64 1]) (w' := w) rfl ?_ (Ext.refl w) rfl
    go_simp
  · intro a w hk
    have s16 := hk.eq_ 0 16 (by kernel_rfl) rfl
    have s17 := hk.eq_ 1 17 (by kernel_rfl) rfl
    exact step_call rfl rfl (by simp only [List.map_toArray, List.map_cons, List.map_nil, Act.eval, s16, s17] <;> rfl) cf36 (stage_any X 4 1 0 0 1 w (by omega) rfl rfl rfl rfl) (fun e w1 h => by obtain ⟨rfl, hx⟩ := h; exact ⟨_, rfl, hx, rfl⟩)
  · intro a w hk
    have s1 : a.tmps.getD 1 undef = .slice (some ⟨b, o, none⟩) 4 c := hk.was 1 (by kernel_rfl) rfl
    exact step_move rfl rfl s1 rfl
  · intro a w hk
    have s19 := hk.eq_ 3 19 (by kernel_rfl) rfl
    refine step_val (v := .pointer (some ⟨b, o + 3, none⟩)) (w' := w) rfl ?_ (Ext.refl w) rfl
    go_simp
  · intro a w hk
    have s20 := hk.eq_ 4 20 (by kernel_rfl) rfl
    refine step_val (v := .int .u32 (y.toNat : Nat)) (w' := w) rfl ?_ (Ext.refl w) rfl
    have hc := cell_at hk.ext HCY.out
    go_simp
  · intro a w hk
    have s18 := hk.eq_ 2 18 (by kernel_rfl) rfl
    have s21 := hk.eq_ 5 21 (by kernel_rfl) rfl
    exact step_call rfl rfl (by simp only [List.map_toArray, List.map_cons, List.map_nil, Act.eval, s18, s21] <;> rfl) cf35 (laid_any (replW X 4) y w) (fun e w1 h => by obtain ⟨rfl, hx⟩ := h; exact ⟨_, rfl, hx, rfl⟩)
  · intro a w1 hf
    have s16 := hf.eq_ 0 16 (by kernel_rfl) rfl
    have s17 := hf.eq_ 1 17 (by kernel_rfl) rfl
    have s18 := hf.eq_ 2 18 (by kernel_rfl) rfl
    have s19 := hf.eq_ 3 19 (by kernel_rfl) rfl
    have s20 := hf.eq_ 4 20 (by kernel_rfl) rfl
    have s21 := hf.eq_ 5 21 (by kernel_rfl) rfl
    have s22 := hf.eq_ 6 22 (by kernel_rfl) rfl
    have hx := hf.ext
    have e := hf.frame
    clear hf
    simp only [List.take_succ_cons, List.take_zero, regFrame, Act.put, List.setIfInBounds_toArray, List.set_cons_zero, List.set_cons_succ, s16, s17, s18, s19, s20, s21, s22] at e
    clear s16 s17 s18 s19 s20 s21 s22
    subst e
    simp only [List.drop_succ_cons, List.drop_zero]
    have HBX := hid (HB.out.later hx)
    have HL2 := hid (HL.out.later hx)
    have HX2 := hid (Ext.trans HX.out hx)
    have HS := hid (show replW X 4 ^^^ y = hStep l 3 X by rw [← HY.out]; rfl)
    rw [HS.out]
    clear hx
    go_wp2_with (refine wpList_store_row rfl 68 (.tmp 5) (.tmp 22) rfl G (cellsOf (byB (hStep l 3 X))).toArray rfl rfl 68 _ HBX.out (in68 _ (byB_len _)) (by simp [cellsOf, byB_len]) (cells_all _) ?_)
    have HB3 := hid (HBX.out.put (byB (hStep l 3 X)))
    have HL3 := hid (HL2.out.keepRow HG.out (cellsOf (byB (hStep l 3 X))).toArray)
    have HX3 := hid (Below.setRow_ HX2.out HG.out.2 (cellsOf (byB (hStep l 3 X))).toArray)
    obtain ⟨W, hW2⟩ : ∃ W2, w1.setRow G (cellsOf (byB (hStep l 3 X))).toArray = W2 := ⟨_, rfl⟩
    rw [hW2] at HB3 HL3 HX3 ⊢
    have HST2 := hid (show hW l 3 (hStep l 3 X) = HW x l from (hW_succ l 3 X).symm.trans HST.out)
    obtain ⟨X, hX2⟩ : ∃ X2, hStep l 3 X = X2 := ⟨_, rfl⟩
    rw [hX2] at HB3 HST2 ⊢
    clear hW2 hX2 HB HL HX HST HBX HL2 HX2 HS HCY HY
    have HB := HB3
    have HL := HL3
    have HX := HX3
    have HST := HST2
    clear HB3 HL3 HX3 HST2
    have hcy := HL.out.cellW 2 (by omega) (by omega)
    obtain ⟨y, hy⟩ : ∃ y, l.getD 2 0 = y := ⟨_, rfl⟩
    rw [hy] at hcy
    have HCY := hid (show W.cell? ⟨b, o + 2, none⟩ = some (.int .u32 (y.toNat : Nat)) from hcy)
    have HY := hid hy
    clear hcy hy
    refine region_upto 7 mixed rfl (by kernel_rfl) (by kernel_rfl) (by kernel_rfl) (kV (hK3_4 X y b o c)) (kV_keep _) (forall_ops ⟨?_, ?_, ?_, ?_, ?_, ?_, ?_, trivial⟩) ?_
    · intro a w hk
      have s5 : a.tmps.getD 5 undef = .pointer (some ⟨G, 0, none⟩) := hk.was 5 (by kernel_rfl) rfl
      refine step_val (v := .agg (cellsOf (byB X)).toArray) (w' := w) rfl ?_ (Ext.refl w) rfl
      exact exec_ld68 rfl s5 (HB.out.later hk.ext) (byB_len X)
    · intro a w hk
      refine step_val (v := .agg #[.int .i64 1, .int .i64 1, .int .i64 0, .int .i64 0]) (w' := w) rfl ?_ (Ext.refl w) rfl
      go_simp
    · intro a w hk
      have s26 := hk.eq_ 0 26 (by kernel_rfl) rfl
      have s27 := hk.eq_ 1 27 (by kernel_rfl) rfl
      exact step_call rfl rfl (by simp only [List.map_toArray, List.map_cons, List.map_nil, Act.eval, s26, s27] <;> rfl) cf36 (stage_any X 3 1 1 0 0 w (by omega) rfl rfl rfl rfl) (fun e w1 h => by obtain ⟨rfl, hx⟩ := h; exact ⟨_, rfl, hx, rfl⟩)
    · intro a w hk
      have s1 : a.tmps.getD 1 undef = .slice (some ⟨b, o, none⟩) 4 c := hk.was 1 (by kernel_rfl) rfl
      exact step_move rfl rfl s1 rfl
    · intro a w hk
      have s29 := hk.eq_ 3 29 (by kernel_rfl) rfl
      refine step_val (v := .pointer (some ⟨b, o + 2, none⟩)) (w' := w) rfl ?_ (Ext.refl w) rfl
      go_simp
    · intro a w hk
      have s30 := hk.eq_ 4 30 (by kernel_rfl) rfl
      refine step_val (v := .int .u32 (y.toNat : Nat)) (w' := w) rfl ?_ (Ext.refl w) rfl
      have hc := cell_at hk.ext HCY.out
      go_simp
    · intro a w hk
      have s28 := hk.eq_ 2 28 (by kernel_rfl) rfl
      have s31 := hk.eq_ 5 31 (by kernel_rfl) rfl
      exact step_call rfl rfl (by simp only [List.map_toArray, List.map_cons, List.map_nil, Act.eval, s28, s31] <;> rfl) cf35 (laid_any (replW X 3) y w) (fun e w1 h => by obtain ⟨rfl, hx⟩ := h; exact ⟨_, rfl, hx, rfl⟩)
    · intro a w1 hf
      have s26 := hf.eq_ 0 26 (by kernel_rfl) rfl
      have s27 := hf.eq_ 1 27 (by kernel_rfl) rfl
      have s28 := hf.eq_ 2 28 (by kernel_rfl) rfl
      have s29 := hf.eq_ 3 29 (by kernel_rfl) rfl
      have s30 := hf.eq_ 4 30 (by kernel_rfl) rfl
      have s31 := hf.eq_ 5 31 (by kernel_rfl) rfl
      have s32 := hf.eq_ 6 32 (by kernel_rfl) rfl
      have hx := hf.ext
      have e := hf.frame
      clear hf
      simp only [List.take_succ_cons, List.take_zero, regFrame, Act.put, List.setIfInBounds_toArray, List.set_cons_zero, List.set_cons_succ, s26, s27, s28, s29, s30, s31, s32] at e
      clear s26 s27 s28 s29 s30 s31 s32
      subst e
      simp only [List.drop_succ_cons, List.drop_zero]
      have HBX := hid (HB.out.later hx)
      have HL2 := hid (HL.out.later hx)
      have HX2 := hid (Ext.trans HX.out hx)
      have HS := hid (show replW X 3 ^^^ y = hStep l 2 X by rw [← HY.out]; rfl)
      rw [HS.out]
      clear hx
      go_wp2_with (refine wpList_store_row rfl 68 (.tmp 5) (.tmp 32) rfl G (cellsOf (byB (hStep l 2 X))).toArray rfl rfl 68 _ HBX.out (in68 _ (byB_len _)) (by simp [cellsOf, byB_len]) (cells_all _) ?_)
      have HB3 := hid (HBX.out.put (byB (hStep l 2 X)))
      have HL3 := hid (HL2.out.keepRow HG.out (cellsOf (byB (hStep l 2 X))).toArray)
      have HX3 := hid (Below.setRow_ HX2.out HG.out.2 (cellsOf (byB (hStep l 2 X))).toArray)
      obtain ⟨W, hW2⟩ : ∃ W2, w1.setRow G (cellsOf (byB (hStep l 2 X))).toArray = W2 := ⟨_, rfl⟩
      rw [hW2] at HB3 HL3 HX3 ⊢
      have HST2 := hid (show hW l 2 (hStep l 2 X) = HW x l from (hW_succ l 2 X).symm.trans HST.out)
      obtain ⟨X, hX2⟩ : ∃ X2, hStep l 2 X = X2 := ⟨_, rfl⟩
      rw [hX2] at HB3 HST2 ⊢
      clear hW2 hX2 HB HL HX HST HBX HL2 HX2 HS HCY HY
      have HB := HB3
      have HL := HL3
      have HX := HX3
      have HST := HST2
      clear HB3 HL3 HX3 HST2
      have hcy := HL.out.cellW 1 (by omega) (by omega)
      obtain ⟨y, hy⟩ : ∃ y, l.getD 1 0 = y := ⟨_, rfl⟩
      rw [hy] at hcy
      have HCY := hid (show W.cell? ⟨b, o + 1, none⟩ = some (.int .u32 (y.toNat : Nat)) from hcy)
      have HY := hid hy
      clear hcy hy
      refine region_upto 7 mixed rfl (by kernel_rfl) (by kernel_rfl) (by kernel_rfl) (kV (hK2_4 X y b o c)) (kV_keep _) (forall_ops ⟨?_, ?_, ?_, ?_, ?_, ?_, ?_, trivial⟩) ?_
      · intro a w hk
        have s5 : a.tmps.getD 5 undef = .pointer (some ⟨G, 0, none⟩) := hk.was 5 (by kernel_rfl) rfl
        refine step_val (v := .agg (cellsOf (byB X)).toArray) (w' := w) rfl ?_ (Ext.refl w) rfl
        exact exec_ld68 rfl s5 (HB.out.later hk.ext) (byB_len X)
      · intro a w hk
        refine step_val (v := .agg #[.int .i64 0, .int .i64 1, .int .i64 0, .int .i64 1]) (w' := w) rfl ?_ (Ext.refl w) rfl
        go_simp
      · intro a w hk
        have s36 := hk.eq_ 0 36 (by kernel_rfl) rfl
        have s37 := hk.eq_ 1 37 (by kernel_rfl) rfl
        exact step_call rfl rfl (by simp only [List.map_toArray, List.map_cons, List.map_nil, Act.eval, s36, s37] <;> rfl) cf36 (stage_any X 2 0 1 0 1 w (by omega) rfl rfl rfl rfl) (fun e w1 h => by obtain ⟨rfl, hx⟩ := h; exact ⟨_, rfl, hx, rfl⟩)
      · intro a w hk
        have s1 : a.tmps.getD 1 undef = .slice (some ⟨b, o, none⟩) 4 c := hk.was 1 (by kernel_rfl) rfl
        exact step_move rfl rfl s1 rfl
      · intro a w hk
        have s39 := hk.eq_ 3 39 (by kernel_rfl) rfl
        refine step_val (v := .pointer (some ⟨b, o + 1, none⟩)) (w' := w) rfl ?_ (Ext.refl w) rfl
        go_simp
      · intro a w hk
        have s40 := hk.eq_ 4 40 (by kernel_rfl) rfl
        refine step_val (v := .int .u32 (y.toNat : Nat)) (w' := w) rfl ?_ (Ext.refl w) rfl
        have hc := cell_at hk.ext HCY.out
        go_simp
      · intro a w hk
        have s38 := hk.eq_ 2 38 (by kernel_rfl) rfl
        have s41 := hk.eq_ 5 41 (by kernel_rfl) rfl
        exact step_call rfl rfl (by simp only [List.map_toArray, List.map_cons, List.map_nil, Act.eval, s38, s41] <;> rfl) cf35 (laid_any (replW X 2) y w) (fun e w1 h => by obtain ⟨rfl, hx⟩ := h; exact ⟨_, rfl, hx, rfl⟩)
      · intro a w1 hf
        have s36 := hf.eq_ 0 36 (by kernel_rfl) rfl
        have s37 := hf.eq_ 1 37 (by kernel_rfl) rfl
        have s38 := hf.eq_ 2 38 (by kernel_rfl) rfl
        have s39 := hf.eq_ 3 39 (by kernel_rfl) rfl
        have s40 := hf.eq_ 4 40 (by kernel_rfl) rfl
        have s41 := hf.eq_ 5 41 (by kernel_rfl) rfl
        have s42 := hf.eq_ 6 42 (by kernel_rfl) rfl
        have hx := hf.ext
        have e := hf.frame
        clear hf
        simp only [List.take_succ_cons, List.take_zero, regFrame, Act.put, List.setIfInBounds_toArray, List.set_cons_zero, List.set_cons_succ, s36, s37, s38, s39, s40, s41, s42] at e
        clear s36 s37 s38 s39 s40 s41 s42
        subst e
        simp only [List.drop_succ_cons, List.drop_zero]
        have HBX := hid (HB.out.later hx)
        have HL2 := hid (HL.out.later hx)
        have HX2 := hid (Ext.trans HX.out hx)
        have HS := hid (show replW X 2 ^^^ y = hStep l 1 X by rw [← HY.out]; rfl)
        rw [HS.out]
        clear hx
        go_wp2_with (refine wpList_store_row rfl 68 (.tmp 5) (.tmp 42) rfl G (cellsOf (byB (hStep l 1 X))).toArray rfl rfl 68 _ HBX.out (in68 _ (byB_len _)) (by simp [cellsOf, byB_len]) (cells_all _) ?_)
        have HB3 := hid (HBX.out.put (byB (hStep l 1 X)))
        have HL3 := hid (HL2.out.keepRow HG.out (cellsOf (byB (hStep l 1 X))).toArray)
        have HX3 := hid (Below.setRow_ HX2.out HG.out.2 (cellsOf (byB (hStep l 1 X))).toArray)
        obtain ⟨W, hW2⟩ : ∃ W2, w1.setRow G (cellsOf (byB (hStep l 1 X))).toArray = W2 := ⟨_, rfl⟩
        rw [hW2] at HB3 HL3 HX3 ⊢
        have HST2 := hid (show hW l 1 (hStep l 1 X) = HW x l from (hW_succ l 1 X).symm.trans HST.out)
        obtain ⟨X, hX2⟩ : ∃ X2, hStep l 1 X = X2 := ⟨_, rfl⟩
        rw [hX2] at HB3 HST2 ⊢
        clear hW2 hX2 HB HL HX HST HBX HL2 HX2 HS HCY HY
        have HB := HB3
        have HL := HL3
        have HX := HX3
        have HST := HST2
        clear HB3 HL3 HX3 HST2
        have hcy := HL.out.cellW 0 (by omega) (by omega)
        obtain ⟨y, hy⟩ : ∃ y, l.getD 0 0 = y := ⟨_, rfl⟩
        rw [hy] at hcy
        have HCY := hid (show W.cell? ⟨b, o, none⟩ = some (.int .u32 (y.toNat : Nat)) from hcy)
        have HY := hid hy
        clear hcy hy
        refine region_upto 7 mixed rfl (by kernel_rfl) (by kernel_rfl) (by kernel_rfl) (kV (hK1_4 X y b o c)) (kV_keep _) (forall_ops ⟨?_, ?_, ?_, ?_, ?_, ?_, ?_, trivial⟩) ?_
        · intro a w hk
          have s5 : a.tmps.getD 5 undef = .pointer (some ⟨G, 0, none⟩) := hk.was 5 (by kernel_rfl) rfl
          refine step_val (v := .agg (cellsOf (byB X)).toArray) (w' := w) rfl ?_ (Ext.refl w) rfl
          exact exec_ld68 rfl s5 (HB.out.later hk.ext) (byB_len X)
        · intro a w hk
          refine step_val (v := .agg #[.int .i64 0, .int .i64 0, .int .i64 1, .int .i64 1]) (w' := w) rfl ?_ (Ext.refl w) rfl
          go_simp
        · intro a w hk
          have s43 := hk.eq_ 0 43 (by kernel_rfl) rfl
          have s44 := hk.eq_ 1 44 (by kernel_rfl) rfl
          exact step_call rfl rfl (by simp only [List.map_toArray, List.map_cons, List.map_nil, Act.eval, s43, s44] <;> rfl) cf36 (stage_any X 1 0 0 1 1 w (by omega) rfl rfl rfl rfl) (fun e w1 h => by obtain ⟨rfl, hx⟩ := h; exact ⟨_, rfl, hx, rfl⟩)
        · intro a w hk
          have s1 : a.tmps.getD 1 undef = .slice (some ⟨b, o, none⟩) 4 c := hk.was 1 (by kernel_rfl) rfl
          exact step_move rfl rfl s1 rfl
        · intro a w hk
          have s46 := hk.eq_ 3 46 (by kernel_rfl) rfl
          refine step_val (v := .pointer (some ⟨b, o, none⟩)) (w' := w) rfl ?_ (Ext.refl w) rfl
          go_simp
        · intro a w hk
          have s47 := hk.eq_ 4 47 (by kernel_rfl) rfl
          refine step_val (v := .int .u32 (y.toNat : Nat)) (w' := w) rfl ?_ (Ext.refl w) rfl
          have hc := cell_at hk.ext HCY.out
          go_simp
        · intro a w hk
          have s45 := hk.eq_ 2 45 (by kernel_rfl) rfl
          have s48 := hk.eq_ 5 48 (by kernel_rfl) rfl
          exact step_call rfl rfl (by simp only [List.map_toArray, List.map_cons, List.map_nil, Act.eval, s45, s48] <;> rfl) cf35 (laid_any (replW X 1) y w) (fun e w1 h => by obtain ⟨rfl, hx⟩ := h; exact ⟨_, rfl, hx, rfl⟩)
        · intro a w1 hf
          have s43 := hf.eq_ 0 43 (by kernel_rfl) rfl
          have s44 := hf.eq_ 1 44 (by kernel_rfl) rfl
          have s45 := hf.eq_ 2 45 (by kernel_rfl) rfl
          have s46 := hf.eq_ 3 46 (by kernel_rfl) rfl
          have s47 := hf.eq_ 4 47 (by kernel_rfl) rfl
          have s48 := hf.eq_ 5 48 (by kernel_rfl) rfl
          have s49 := hf.eq_ 6 49 (by kernel_rfl) rfl
          have hx := hf.ext
          have e := hf.frame
          clear hf
          simp only [List.take_succ_cons, List.take_zero, regFrame, Act.put, List.setIfInBounds_toArray, List.set_cons_zero, List.set_cons_succ, s43, s44, s45, s46, s47, s48, s49] at e
          clear s43 s44 s45 s46 s47 s48 s49
          subst e
          simp only [List.drop_succ_cons, List.drop_zero]
          have HBX := hid (HB.out.later hx)
          have HL2 := hid (HL.out.later hx)
          have HX2 := hid (Ext.trans HX.out hx)
          have HS := hid (show replW X 1 ^^^ y = hStep l 0 X by rw [← HY.out]; rfl)
          rw [HS.out]
          clear hx
          have HB3 := hid (HBX.out.put (byB (hStep l 0 X)))
          have HX3 := hid (Below.setRow_ HX2.out HG.out.2 (cellsOf (byB (hStep l 0 X))).toArray)
          have HST2 := hid (show hEnd (hStep l 0 X) = HW x l from ((hW_zero l _).symm.trans (hW_succ l 0 X).symm).trans HST.out)
          obtain ⟨Z, hZ⟩ : ∃ Z, hStep l 0 X = Z := ⟨_, rfl⟩
          rw [hZ] at HB3 HX3 HST2 ⊢
          clear hZ HB HL HX HST HL2 HX2 HS HCY HY
          go_wp2_with (first
            | (refine wpList_store_row rfl 68 (.tmp 5) (.tmp 49) rfl G (cellsOf (byB Z)).toArray rfl rfl 68 _ HBX.out (in68 _ (byB_len _)) (by simp [cellsOf, byB_len]) (cells_all _) ?_)
            | (refine wpList_load_row rfl 68 (.tmp 5) rfl G rfl 68 _ (0, 0) _ HB3.out Tryd.underlying68 rfl (in68 _ (byB_len Z)) ?_)
            | (go_at_call 36; refine (stage_any Z 0 1 0 1 0 _ (by omega) rfl rfl rfl rfl).mono ?_; rintro e w2 ⟨rfl, hx2⟩; have HB4 := hid (HB3.out.later hx2); have HX4 := hid (Ext.trans HX3.out hx2); clear hx2)
            | (refine wpList_store_row rfl 68 (.tmp 5) (.tmp 52) rfl G (cellsOf (byB (replW Z 0))).toArray rfl rfl 68 _ HB4.out (in68 _ (byB_len _)) (by simp [cellsOf, byB_len]) (cells_all _) ?_))
          have hm := heap_alloc_new (w2.setRow G (cellsOf (byB (replW Z 0))).toArray) (Obj.cells #[.int .u8 1, .int .u8 239, .int .u8 91, .int .u8 91, .int .u8 91, .int .u8 239, .int .u8 239, .int .u8 1, .int .u8 239, .int .u8 91, .int .u8 1, .int .u8 239, .int .u8 239, .int .u8 1, .int .u8 239, .int .u8 91] 72)
          have hmx := Ext.alloc (w2.setRow G (cellsOf (byB (replW Z 0))).toArray) (Obj.cells #[.int .u8 1, .int .u8 239, .int .u8 91, .int .u8 91, .int .u8 91, .int .u8 239, .int .u8 239, .int .u8 1, .int .u8 239, .int .u8 91, .int .u8 1, .int .u8 239, .int .u8 239, .int .u8 1, .int .u8 239, .int .u8 91] 72)
          have hby := (HB4.out.put (byB (replW Z 0))).later hmx
          have hxx := Ext.trans (Below.setRow_ HX4.out HG.out.2 (cellsOf (byB (replW Z 0))).toArray) hmx
          rw [setRow_size] at hm
          obtain ⟨W5, h5⟩ : ∃ W5, (w2.setRow G (cellsOf (byB (replW Z 0))).toArray).alloc (Obj.cells #[.int .u8 1, .int .u8 239, .int .u8 91, .int .u8 91, .int .u8 91, .int .u8 239, .int .u8 239, .int .u8 1, .int .u8 239, .int .u8 91, .int .u8 1, .int .u8 239, .int .u8 239, .int .u8 1, .int .u8 239, .int .u8 91] 72) = W5 := ⟨_, rfl⟩
          rw [h5] at hm hby hxx ⊢
          obtain ⟨M, hM⟩ : ∃ M, w2.heap.size = M := ⟨_, rfl⟩
          rw [hM] at hm ⊢
          obtain ⟨Y, hY⟩ : ∃ Y, replW Z 0 = Y := ⟨_, rfl⟩
          rw [hY] at hby
          have HST := hid (show mixW Y = HW x l by rw [← HST2.out, ← hY]; rfl)
          have HMT := hid (show ∀ i, i < 4 → ∀ k, k < 4 → W5.cell? ⟨M, i * 4 + k, none⟩ = some (.int .u8 (mixR i k : Nat)) from fun i hi k hk => by
            rw [cell_of_row W5 M _ _ _ _ hm]
            rcases (show i = 0 ∨ i = 1 ∨ i = 2 ∨ i = 3 by omega) with rfl | rfl | rfl | rfl <;> rcases (show k = 0 ∨ k = 1 ∨ k = 2 ∨ k = 3 by omega) with rfl | rfl | rfl | rfl <;> rfl)
          have HBY := hid (show ∀ k, k < 4 → W5.cell? ⟨G, k, none⟩ = some (.int .u8 (bw Y k : Nat)) from fun k hk => by
            rw [hby.cell k (by rw [byB_len]; exact hk), byB_bl Y k hk])
          have HX := hid hxx
          clear hm hmx hby hxx h5 hM hY HBX HX3 HB3 HB4 HX4 HST2
          go_loopw [7, 8] (fun z i wr => ∃ I : Nat, I ≤ 4 ∧ i = .int .i64 I ∧ z = .int .u32 (wdN (mixB Y) I : Nat) ∧ ∃ nd, wr = W5.drewN nd) (fun _ i _ => 4 - (intOf i).toNat)
          case atStart => exact ⟨0, by omega, rfl, rfl, 0, rfl⟩
          case round =>
            obtain ⟨I, hI, rfl, rfl, nd, hnd⟩ := hrel
            by_cases hIl : I < 4
            · have hIl2 : (I : Int) < 4 := by omega
              go_wp2_with fail
              have HND := hid hnd
              have HIL := hid hIl
              clear hnd hIl hI
              go_loopw [7, 9] (fun z k wr => ∃ K : Nat, K ≤ 4 ∧ k = .int .i64 K ∧ z = .int .u32 (zP Y I K : Nat) ∧ ∃ nd, wr = W5.drewN nd) (fun _ k _ => 4 - (intOf k).toNat)
              case atStart => exact ⟨0, by omega, rfl, by rw [zP_zero], nd, by first | rfl | exact HND.out⟩
              case round =>
                obtain ⟨K, hK, rfl, rfl, nd2, hnd2⟩ := hrel
                by_cases hKl : K < 4
                · have hmc : wr.cell? ⟨M, I * 4 + K, none⟩ = some (.int .u8 (mixR I K : Nat)) := by rw [hnd2]; exact HMT.out I HIL.out K hKl
                  have hbc : wr.cell? ⟨G, K, none⟩ = some (.int .u8 (bw Y K : Nat)) := by rw [hnd2]; exact HBY.out K hKl
                  have l1 := mixR_lt I HIL.out K hKl
                  have l2 := bw_lt Y K
                  have hz := zP_step Y I K HIL.out hKl
                  have hg := gm_lt r361 l1 (bw Y K)
                  have hzl := zP_lt Y I K
                  have h3 : (256 : Nat) ^ (I + 1) ≤ 256 ^ 4 := Nat.pow_le_pow_right (by omega) (by have := HIL.out; omega)
                  have HC := hid (fun w => rmul_any (mixR I K) (bw Y K) 361 w r361 l1 l2)
                  obtain ⟨m1, hm1⟩ : ∃ m1, mixR I K = m1 := ⟨_, rfl⟩
                  obtain ⟨b2, hb2⟩ : ∃ b2, bw Y K = b2 := ⟨_, rfl⟩
                  rw [hm1, hb2] at hz hg HC
                  rw [hm1] at hmc l1
                  rw [hb2] at hbc l2
                  obtain ⟨g, hge⟩ : ∃ g, gm 361 m1 b2 = g := ⟨_, rfl⟩
                  rw [hge] at hz hg HC
                  obtain ⟨z, hze⟩ : ∃ z, zP Y I K = z := ⟨_, rfl⟩
                  have hz32 : z < 4294967296 := by omega
                  rw [hze] at hz ⊢
                  have HZ := hid hz
                  have HN2 := hid hnd2
                  have hIl3 : I < 4 := HIL.out
                  clear hm1 hb2 hge hze hzl h3 hz hnd2
                  go_wp2_with fail
                  go_quiet ((go_at_call 37; exact quietSame (HC.out _)))
                  go_wp2_with fail
                  rw [HZ.out]
                  exact ⟨⟨K + 1, by omega, by go_num, rfl, nd2 + nq, by rw [HN2.out]; exact drewN_add W5 nd2 nq⟩, by simp [intOf]; omega⟩
                · obtain rfl : K = 4 := by omega
                  have HN2 := hid hnd2
                  rw [zP_four]
                  clear hnd2
                  go_wp2_with fail
                  exact ⟨⟨I + 1, by have := HIL.out; omega, by go_num, rfl, nd2, by first | rfl | exact HN2.out⟩, by have := HIL.out; simp [intOf]; omega⟩
            · obtain rfl : I = 4 := by omega
              have e1 := wd4_toNat (mixB_lt Y)
              have HX3 := hid (show Ext w wr by rw [hnd]; exact HX.out.drewN nd)
              rw [← e1]
              clear e1 hnd
              go_wp2_with fail
              go_ret
              exact ⟨ret_int (by rw [← HST.out]; rfl), HX3.out⟩
theorem rh_any (x : UInt32) (l : List UInt32) (A : Option Addr) (n c : Nat) (w : World) (hl : RdN .u32 w w.heap.size A n (nW l)) (h2 : 2 ≤ n) (h4 : n ≤ 4) :
    Calls Tryd.prog 17 #[.int .u32 (x.toNat : Nat), .slice A n c] w fun e w' => e = .returned (.int .u32 ((HW x l).toNat : Nat)) ∧ Ext w w' := by
  obtain ⟨b, o, rfl, _, _⟩ := hl.at_ (by omega)
  rcases (show n = 2 ∨ n = 3 ∨ n = 4 by omega) with rfl | rfl | rfl
  · exact rh2_any x l b o c w hl
  · exact rh3_any x l b o c w hl
  · exact rh4_any x l b o c w hl
end Go.Proofs.YtbdncalllfpodaaDoor
