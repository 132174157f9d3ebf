/- Walk over keys of the program; own lemmas of the verifier, no statement is proved here. -/
import Derived.Test.YtpfkcplldhdipaaDoorX8
namespace Go.Proofs.YtpfkcplldhdipaaDoor
open Go.RowKit
theorem cf37 (vs : Array Value) (w : World) : (callFunc 37 vs).run Tryd.prog w = .ok (.enter 37 vs) w := by go_simp
theorem sz16 : Tryd.prog.info? 55 = some ((Tryd.prog.info? 55).getD default) := by kernel_rfl
theorem inf55 : (Tryd.prog.info? 55).map (fun i => (i.zero, i.size, i.bytes)) = some (some (.agg (cellsOf z16).toArray), 16, 16) := by kernel_rfl
theorem made_z16 (n : Nat) : (madeCells (Value.agg (cellsOf z16).toArray).cells (n * 16)).toList = cellsOf (FL (fun _ => z16) n) := by
  rw [FL_zero]
  apply List.ext_getElem
  · simp [madeCells, cellsOf]
  · intro i h1 h2
    have r : (cellsOf (List.replicate (n * 16) 0))[i] = Value.int .u8 0 := by simp [cellsOf]
    rw [r]
    have e : ∀ k < 16, (Value.agg (cellsOf z16).toArray).cells[k]! = .int .u8 0 := by
      intro k hk
      match k, hk with | 0, _ => exact rfl | 1, _ => exact rfl | 2, _ => exact rfl | 3, _ => exact rfl | 4, _ => exact rfl | 5, _ => exact rfl | 6, _ => exact rfl | 7, _ => exact rfl | 8, _ => exact rfl | 9, _ => exact rfl | 10, _ => exact rfl | 11, _ => exact rfl | 12, _ => exact rfl | 13, _ => exact rfl | 14, _ => exact rfl | 15, _ => exact rfl | k + 16, h => exact absurd h (by omega)
    have hs : (Value.agg (cellsOf z16).toArray).cells.size = 16 := rfl
    simp only [madeCells, Array.toList_map, Array.toList_range, List.getElem_map, List.getElem_range]
    rw [hs]
    exact e _ (Nat.mod_lt _ (by omega))
/-- Blocks of noughts in a row of the call's own. -/
theorem wpL_makeBlk {w : World} {ops : Array Oper} {rest : List Oper} {o : Oper} {a : Act} {Q : Exit → Act → World → Prop}
    (hg : o.guard = none) (l c : Operand) (hop : o.op = Op.makeSlice 52 l c) (n : Nat) (hl : a.eval l = .int .i64 n) (hc : a.eval c = .int .i64 n) (hn : n ≤ 1000)
    (hK : ∀ w', RW w' w.heap.size 0 (FL (fun _ => z16) n) → Ext w w' → wpList Tryd.prog ops Q rest (a.put o.dst (.slice (some ⟨w.heap.size, 0, none⟩) n n)) w') :
    wpList Tryd.prog ops Q (o :: rest) a w := by
  obtain ⟨i0, hi0, hz0, hz1, hz2⟩ := info_parts inf55
  refine wpList_make_full w hg l c 52 hop w.heap.size 55 i0 _ 16 Tryd.underlying52 hi0 hz0 hz1 .i64 .i64 n n n hl hc rfl rfl (by rw [hz2]; omega) (by unfold maxLen; omega) (Nat.le_refl _) ?_
  intro w' hown hgr
  refine hK w' ?_ ((Below.refl _ _).grown hgr (Nat.le_refl _) (by simp))
  rw [made_z16] at hown
  rcases hown.2 with ⟨h, _⟩ | ⟨g, cap, cur, h, _, hh, _, _, hsz, htk⟩
  · cases h
  · simp only [Value.slice.injEq, Option.some.injEq, Addr.mk.injEq, and_true] at h
    obtain ⟨rfl, _, rfl⟩ := h
    rw [List.take_of_length_le (by simp; omega)] at htk
    refine RW.of_block (t := 55) ?_
    rw [hh, ← htk]
/-- The keys, under way. -/
def kS (key : List UInt8) (N i : Nat) : List UInt8 := FL (fun j => if j < i then keyF key j else z16) N
theorem kS_length (key : List UInt8) (N i : Nat) : (kS key N i).length = N * 16 := FL_length _ _
theorem kS_zero (key : List UInt8) (N : Nat) : FL (fun _ => z16) N = kS key N 0 := FL_congr fun j _ => by simp
theorem kS_full (key : List UInt8) (N : Nat) : kS key N N = FL (keyF key) N := FL_congr fun j hj => by simp [hj]
theorem kS_next (key : List UInt8) (i N : Nat) : FL (fun k => if k = i then keyF key i else (if k < i then keyF key k else z16)) N = kS key N (i + 1) := FL_congr fun j _ => by
  by_cases h : j = i
  · subst h; simp
  · by_cases h2 : j < i
    · simp only [h, if_false, h2, if_true, show j < i + 1 by omega]
    · simp only [h, if_false, h2, show ¬ j < i + 1 by omega]
/-- The turns' cells. -/
def Tu (w : World) : Prop := ∀ q, q < 5 → w.cell? ⟨2, q, none⟩ = some (.int .i64 (turnT q))
theorem Tu.later {w w' : World} (h : Tu w) (hx : Ext w w') : Tu w' := fun q hq => (Below.cell hx (p := ⟨2, q, none⟩) (World.block_lt_of_cell? w _ (h q hq))).trans (h q hq)
def keyKs (S K i N q4 d4 : Nat) (SA SB KF : List UInt8) : List Go.Proofs.YtpfkcplldhdipaaDoor.K := [.eq (.slice (some ⟨K, 0, none⟩) N N), .eq (.int .i64 i), .eq (.int .i64 i), .eq (.int .i64 q4), .eq (.pointer (some ⟨S, q4 * 16, none⟩)), .eq (bv SA), .byt 16 (SB), .eq (.int .i64 i), .eq (.int .i64 d4), .eq (.pointer (some ⟨2, d4, none⟩)), .eq (.int .i64 (turnT d4)), .byt 16 (turnB SB d4), .gen (AtP (turnB SB d4)) (AtP.keep _), .eq (bv (turnB SB d4)), .eq (bv KF), .eq (.pointer (some ⟨K, i * 16, none⟩)), .any]

set_option maxRecDepth 100000 in
set_option maxHeartbeats 4000000 in
theorem keys_any (g n c : Nat) (A : Option Addr) (key : List UInt8) (w : World) (h : Rd w w.heap.size A n key) (hn : n = 16 ∨ n = 24 ∨ n = 32) (hc : n ≤ c) (ht : TB w g) (hs : Sev w) (hco : Con w) (htu : Tu w) :
    Calls Tryd.prog 24 #[.pointer (some ⟨g, 0, none⟩), .slice A n c] w fun e w' => ∃ K, e = .returned (.slice (some ⟨K, 0, none⟩) (keyN key) (keyN key)) ∧ w.heap.size ≤ K ∧ RW w' K 0 (FL (keyF key) (keyN key)) ∧ Ext w w' := by
  have hl := h.len
  have HC := hid (seeds_any g n c A key w h hn hc ht hs hco)
  have HTU0 := hid htu
  obtain ⟨N, hN⟩ : ∃ N, keyN key = N := ⟨_, rfl⟩
  have hNn : 9 + n / 4 = N := by rw [← hN, keyN, hl]
  have HN0 := hid hN
  rw [hN]
  obtain ⟨D, hD⟩ : ∃ D, n / 4 = D := ⟨_, rfl⟩
  have htd : (n : Int).tdiv 4 = (D : Int) := by rw [Int.tdiv_eq_ediv_of_nonneg (by omega)]; omega
  have h9 : 9 + (D : Int) = (N : Int) := by omega
  have hD8 : (D : Int) ≤ 8 := by omega
  have hN1 : 13 ≤ N ∧ N ≤ 17 := by omega
  clear h ht hs hco htu hN hl hNn hD
  go_enter Tryd.func24, Tryd.ntmps24
  go_wp2_with fail
  refine HC.out.mono ?_
  rintro e w1 ⟨rfl, hx1⟩
  have h5 := RW.new w1 73 z64
  have x5 := Ext.alloc w1 (.cells (cellsOf z64).toArray 73)
  obtain ⟨W2, hW2⟩ : ∃ W2, w1.alloc (.cells (cellsOf z64).toArray 73) = W2 := ⟨_, rfl⟩
  rw [hW2] at h5 x5
  obtain ⟨S, hS⟩ : ∃ S, w1.heap.size = S := ⟨_, rfl⟩
  rw [hS] at h5
  have h6 := h5.store0 (FL (seedL key) 4) (by rw [FL_length, z64_length])
  have hx5 := hx1.trans x5
  have hx6 := below_setCells (B := w.heap.size) (b := S) (a := w) (by have := hx1.size; omega) (cellsOf (FL (seedL key) 4)) 0 W2 hx5
  have HTH := hid (show W2.there S 0 (FL (seedL key) 4).length by rw [FL_length]; have := h5.wr; rw [z64_length] at this; exact this)
  have HSZ := hid (size73' (FL_length (seedL key) 4))
  obtain ⟨W3, hW3⟩ : ∃ W3, W2.setCells S 0 (cellsOf (FL (seedL key) 4)) = W3 := ⟨_, rfl⟩
  rw [hW3] at h6 hx6
  have hSW : S < W3.heap.size := h6.lt (by rw [FL_length]; omega)
  have HW := hid (And.intro hW2 (And.intro hS hW3))
  have H6 := hid h6
  have HX6 := hid hx6
  have HSW := hid hSW
  clear HC hx1 h5 x5 hW2 hS h6 hx5 hx6 hW3 hSW
  go_wp2_with (first
    | (rw [← cells_z64, HW.out.1, HW.out.2.1]; refine wpList_st rfl 73 (.tmp 5) (.tmp 11) rfl S 0 (FL (seedL key) 4) rfl rfl HTH.out HSZ.out ?_; rw [HW.out.2.2]; clear HW HTH)
    | (at_make; refine wpL_makeBlk rfl (.tmp 15) (.tmp 15) rfl N rfl rfl (by omega) ?_; intro w4 hB hx4))
  have hsz4 := hx4.size
  obtain ⟨K, hK⟩ : ∃ K, W3.heap.size = K := ⟨_, rfl⟩
  have HKB := hid (show w.heap.size ≤ K by rw [← hK]; exact HX6.out.size)
  have HSK := hid (show S ≠ K by have := HSW.out; omega)
  rw [hK] at hB ⊢
  rw [kS_zero key] at hB
  have HQ4 := hid (And.intro hB (And.intro (H6.out.later (by rw [FL_length]; omega) hx4) (Ext.trans HX6.out hx4)))
  clear hsz4 hK hB hx4 htd h9 hD8 H6 HX6 HSW
  go_loopw [19] (fun v wr => ∃ i : Nat, i ≤ N ∧ v = .int .i64 i ∧ RW wr K 0 (kS key N i) ∧ RW wr S 0 (FL (seedL key) 4) ∧ Ext w wr) (fun v _ => N - (intOf v).toNat)
  case atStart => exact ⟨0, by omega, rfl, HQ4.out⟩
  case round =>
    clear HQ4
    obtain ⟨i, hi, rfl, hO, hS, hx⟩ := hrel
    by_cases hlt : i < N
    · have HI3 := hid hlt
      have HTU := hid (HTU0.out.later hx)
      obtain ⟨p4, hp4⟩ : ∃ p, (i + 1) % 4 = p := ⟨_, rfl⟩
      obtain ⟨q4, hq4⟩ : ∃ q, i % 4 = q := ⟨_, rfl⟩
      obtain ⟨d4, hd4⟩ : ∃ d, i / 4 = d := ⟨_, rfl⟩
      have hpt : ((i : Int) + 1).tmod 4 = (p4 : Int) := by rw [Int.tmod_eq_emod_of_nonneg (by omega)]; omega
      have hp44 : (p4 : Int) < 4 := by omega
      have HQ := hid (show (i : Int).tmod 4 = (q4 : Int) ∧ q4 < 4 ∧ (i : Int).tdiv 4 = (d4 : Int) ∧ d4 < 5 from ⟨by rw [Int.tmod_eq_emod_of_nonneg (by omega)]; omega, by omega, by rw [Int.tdiv_eq_ediv_of_nonneg (by omega)]; omega, by omega⟩)
      have hbp := hS.blk p4 (by omega) (seedL_length key p4)
      have hbq := hS.blk q4 (by omega) (seedL_length key q4)
      have hKF : keyF key i = xorL (seedL key q4) (turnB (seedL key p4) d4) 16 := by rw [keyF, hp4, hq4, hd4]
      obtain ⟨SA, hSA⟩ : ∃ SA, seedL key q4 = SA := ⟨_, rfl⟩
      obtain ⟨SB, hSB⟩ : ∃ SB, seedL key p4 = SB := ⟨_, rfl⟩
      obtain ⟨KF, hKF2⟩ : ∃ KF, keyF key i = KF := ⟨_, rfl⟩
      have HLS := hid (show SA.length = 16 ∧ SB.length = 16 by rw [← hSA, ← hSB]; exact ⟨seedL_length key _, seedL_length key _⟩)
      rw [hSA] at hbq
      rw [hSB] at hbp
      have HKF := hid (show xorL SA (turnB SB d4) 16 = KF by rw [← hKF2, hKF, hSA, hSB])
      have HLF := hid (show KF.length = 16 by rw [← hKF2]; exact keyF_length key i)
      have HN := hid (And.intro hSA hKF2)
      have HBP := hid hbp.rd
      have h5 := RW.new wr 55 z16
      have x5 := Ext.alloc wr (.cells (cellsOf z16).toArray 55)
      obtain ⟨W5, hW5⟩ : ∃ W5, wr.alloc (.cells (cellsOf z16).toArray 55) = W5 := ⟨_, rfl⟩
      rw [hW5] at h5 x5
      have gK := hO.lt (by rw [kS_length]; omega)
      have gS := hS.lt (by rw [FL_length]; omega)
      obtain ⟨V, hV⟩ : ∃ V, wr.heap.size = V := ⟨_, rfl⟩
      rw [hV] at h5 gK gS
      have h6 := h5.store0 SB (by rw [HLS.out.2, z16_length])
      have hO6 := (hO.later (by rw [kS_length]; omega) x5).apart V 0 (cellsOf SB) (by omega)
      have hS6 := (hS.later (by rw [FL_length]; omega) x5).apart V 0 (cellsOf SB) (by omega)
      have hbq6 := (hbq.later (by rw [HLS.out.1]; omega) x5).apart V 0 (cellsOf SB) (by omega)
      have hx6 := below_setCells (B := w.heap.size) (b := V) (a := w) (by have := HKB.out; omega) (cellsOf SB) 0 W5 (Ext.trans hx x5)
      have hx6r := below_setCells (B := wr.heap.size) (b := V) (a := wr) (by omega) (cellsOf SB) 0 W5 x5
      have HTH := hid (show W5.there V 0 SB.length by rw [HLS.out.2]; have := h5.wr; rw [z16_length] at this; exact this)
      obtain ⟨W6, hW6⟩ : ∃ W6, W5.setCells V 0 (cellsOf SB) = W6 := ⟨_, rfl⟩
      rw [hW6] at h6 hO6 hS6 hbq6 hx6 hx6r
      have HA := hid (And.intro hO6 (And.intro hS6 hx6))
      have HSA := hid hbq6.rd
      have HSB := hid h6
      have HTU := hid (HTU.out.later hx6r)
      have HW := hid (And.intro hW5 (And.intro hV hW6))
      have HSZ := hid (size55' HLS.out.2)
      clear hO hS hx hbp hbq hKF hSA hSB hKF2 h5 x5 hW5 hW6 hV gK gS h6 hO6 hS6 hbq6 hx6 hx6r hp4 hq4 hd4
      go_wp2_with (first
        | (refine wpList_ld rfl 55 (.tmp 25) rfl S (p4 * 16) rfl SB HBP.out Tryd.underlying55 HSZ.out ?_)
        | (rw [← cells_z16, HW.out.1, HW.out.2.1]; refine wpList_st rfl 55 (.tmp 8) (.tmp 26) rfl V 0 SB rfl rfl HTH.out HSZ.out ?_; rw [HW.out.2.2]; clear HW HTH HBP))
      refine region_tail 16 _ mixed rfl (by kernel_rfl) (by kernel_rfl) rfl rfl rfl (kV (keyKs S K i N q4 d4 SA SB KF)) (kV_keep _) (forall_ops ⟨?_, ?_, ?_, ?_, ?_, ?_, ?_, ?_, ?_, ?_, ?_, ?_, ?_, ?_, ?_, ?_, fun h => absurd rfl h, trivial⟩) ?_
      · intro _ a w hk
        have s6 : a.tmps.getD 6 undef = .slice (some ⟨K, 0, none⟩) N N := hk.was 6 (by kernel_rfl) rfl
        exact step_move rfl rfl s6 rfl
      · intro _ a w hk
        have s7 : a.tmps.getD 7 undef = .int .i64 i := hk.was 7 (by kernel_rfl) rfl
        exact step_move rfl rfl s7 rfl
      · intro _ a w hk
        have s7 : a.tmps.getD 7 undef = .int .i64 i := hk.was 7 (by kernel_rfl) rfl
        exact step_move rfl rfl s7 rfl
      · intro _ a w hk
        have s29 := hk.eq_ 2 29 (by kernel_rfl) rfl
        refine step_val (v := .int .i64 q4) (w' := w) rfl ?_ (Ext.refl w) rfl
        have e := HQ.out.1
        go_simp
      · intro _ a w hk
        have s5 : a.tmps.getD 5 undef = .pointer (some ⟨S, 0, none⟩) := hk.was 5 (by kernel_rfl) rfl
        have s30 := hk.eq_ 3 30 (by kernel_rfl) rfl
        refine step_val (v := .pointer (some ⟨S, q4 * 16, none⟩)) (w' := w) rfl ?_ (Ext.refl w) rfl
        have hi3 : (q4 : Int) < 4 := by have := HQ.out.2.1; omega
        go_simp
      · intro _ a w hk
        have s31 := hk.eq_ 4 31 (by kernel_rfl) rfl
        exact step_val (v := bv SA) (w' := w) rfl (exec_load_mid rfl s31 (rangeAt_later HSA.out hk.ext) Tryd.underlying55 (size55' HLS.out.1)) (Ext.refl w) rfl
      · intro _ a w hk
        have s8 : a.tmps.getD 8 undef = .pointer (some ⟨V, 0, none⟩) := hk.was 8 (by kernel_rfl) rfl
        refine step_val (v := .slice (some ⟨V, 0, none⟩) 16 16) (w' := w) rfl ?_ (Ext.refl w) ⟨_, _, rfl, ((HSB.out.later (by rw [HLS.out.2]; omega) hk.ext).slice HLS.out.2 ((HSB.out.later (by rw [HLS.out.2]; omega) hk.ext).lt (by rw [HLS.out.2]; omega)))⟩
        go_simp
      · intro _ a w hk
        have s7 : a.tmps.getD 7 undef = .int .i64 i := hk.was 7 (by kernel_rfl) rfl
        exact step_move rfl rfl s7 rfl
      · intro _ a w hk
        have s34 := hk.eq_ 7 34 (by kernel_rfl) rfl
        refine step_val (v := .int .i64 d4) (w' := w) rfl ?_ (Ext.refl w) rfl
        have e := HQ.out.2.2.1
        go_simp
        exact IntWalk.i64_in _ (by have := HQ.out.2.2.2; omega)
      · intro _ a w hk
        have s35 := hk.eq_ 8 35 (by kernel_rfl) rfl
        refine step_val (v := .pointer (some ⟨2, d4, none⟩)) (w' := w) rfl ?_ (Ext.refl w) rfl
        have hi3 : (d4 : Int) < 5 := by have := HQ.out.2.2.2; omega
        go_simp
      · intro _ a w hk
        have s36 := hk.eq_ 9 36 (by kernel_rfl) rfl
        refine step_val (v := .int .i64 (turnT d4)) (w' := w) rfl ?_ (Ext.refl w) rfl
        have hc := (HTU.out.later hk.ext) d4 HQ.out.2.2.2
        go_simp
      · intro _ a w hk
        obtain ⟨A33, c33, s33, r33⟩ := hk.byt_ 6 33 (by kernel_rfl) rfl
        have s37 := hk.eq_ 10 37 (by kernel_rfl) rfl
        exact step_call rfl rfl (by simp only [List.map_toArray, List.map_cons, List.map_nil, Act.eval, s33, s37] <;> rfl) cf37 (turn_all A33 16 c33 (turnT d4) SB w r33 (by omega)) (fun e w1 h => RetB.k (turnB_length SB d4) e w1 h)
      · intro _ a w hk
        obtain ⟨A38, c38, s38, r38⟩ := hk.byt_ 11 38 (by kernel_rfl) rfl
        obtain ⟨b, o, rfl, _, _⟩ := r38.at_ (by omega)
        exact step_val (v := .pointer (some ⟨b, o, none⟩)) (w' := w) rfl (exec_atp rfl s38 Tryd.underlying55 (Nat.le_refl _)) (Ext.refl w) ⟨b, o, rfl, rangeAt_of_rd r38⟩
      · intro _ a w hk
        obtain ⟨b39, o39, s39, g39⟩ := hk.val 12 39 (by kernel_rfl) rfl
        exact step_val (v := bv (turnB SB d4)) (w' := w) rfl (exec_load_mid rfl s39 g39 Tryd.underlying55 (size55' (turnB_length SB d4))) (Ext.refl w) rfl
      · intro _ a w hk
        have s32 := hk.eq_ 5 32 (by kernel_rfl) rfl
        have s40 := hk.eq_ 13 40 (by kernel_rfl) rfl
        exact step_call rfl rfl (by simp only [List.map_toArray, List.map_cons, List.map_nil, Act.eval, s32, s40] <;> rfl) cf36 (xored_any SA (turnB SB d4) w HLS.out.1 (turnB_length _ _)) (fun e w1 h => retX e w1 (by rw [HKF.out] at h; exact h))
      · intro _ a w hk
        have s27 := hk.eq_ 0 27 (by kernel_rfl) rfl
        have s28 := hk.eq_ 1 28 (by kernel_rfl) rfl
        refine step_val (v := .pointer (some ⟨K, i * 16, none⟩)) (w' := w) rfl ?_ (Ext.refl w) rfl
        have hi3 : (i : Int) < N := by have := HI3.out; omega
        go_simp
      · intro a w1 hf
        have s27 := hf.eq_ 0 27 (by kernel_rfl) rfl
        have s28 := hf.eq_ 1 28 (by kernel_rfl) rfl
        have s29 := hf.eq_ 2 29 (by kernel_rfl) rfl
        have s30 := hf.eq_ 3 30 (by kernel_rfl) rfl
        have s31 := hf.eq_ 4 31 (by kernel_rfl) rfl
        have s32 := hf.eq_ 5 32 (by kernel_rfl) rfl
        obtain ⟨A33, c33, s33, r33⟩ := hf.val 6 33 (by kernel_rfl) rfl
        have s34 := hf.eq_ 7 34 (by kernel_rfl) rfl
        have s35 := hf.eq_ 8 35 (by kernel_rfl) rfl
        have s36 := hf.eq_ 9 36 (by kernel_rfl) rfl
        have s37 := hf.eq_ 10 37 (by kernel_rfl) rfl
        obtain ⟨A38, c38, s38, r38⟩ := hf.val 11 38 (by kernel_rfl) rfl
        obtain ⟨b39, o39, s39, g39⟩ := hf.val 12 39 (by kernel_rfl) rfl
        have s40 := hf.eq_ 13 40 (by kernel_rfl) rfl
        have s41 := hf.eq_ 14 41 (by kernel_rfl) rfl
        have s42 := hf.eq_ 15 42 (by kernel_rfl) rfl
        have hx := hf.ext
        have e := hf.frame
        clear hf
        simp only [regFrame, Act.put, List.setIfInBounds_toArray, List.set_cons_zero, List.set_cons_succ, s27, s28, s29, s30, s31, s32, s33, s34, s35, s36, s37, s38, s39, s40, s41, s42] at e
        clear s27 s28 s29 s30 s31 s32 s33 s34 s35 s36 s37 s38 s39 s40 s41 s42
        subst e
        have ha := HA.out
        have ho := (ha.1.later (by rw [kS_length]; have := HI3.out; omega) hx).setBlk i KF HI3.out HLF.out
        rw [← HN.out.2, kS_next, HN.out.2] at ho
        have hs := (ha.2.1.later (by rw [FL_length]; omega) hx).apart K (i * 16) (cellsOf KF) HSK.out
        have hxx := below_setCells (B := w.heap.size) (b := K) (a := w) HKB.out (cellsOf KF) (i * 16) w1 (Ext.trans ha.2.2 hx)
        refine wp_store_arr 55 (.tmp 42) (.tmp 41) rfl rfl K (i * 16) KF rfl rfl (fun j hj => by
          have h2 := (ha.1.later (by rw [kS_length]; have := HI3.out; omega) hx).wr (i * 16 + j) (by rw [kS_length]; rw [HLF.out] at hj; have := HI3.out; omega)
          rwa [Nat.zero_add] at h2) (size55' HLF.out) ?_
        obtain ⟨W7, hW7⟩ : ∃ W7, w1.setCells K (i * 16) (cellsOf KF) = W7 := ⟨_, rfl⟩
        rw [hW7] at ho hs hxx ⊢
        have HQ8 := hid (And.intro ho (And.intro hs hxx))
        clear hx hW7 ha ho hs hxx HA HSA HSB HTU HKF r33 r38 g39
        go_wp2_with fail
        go_roundw
        case rel => exact ⟨i + 1, by omega, by go_num, HQ8.out⟩
        case measure => simp [intOf]; omega
    · obtain rfl : i = N := by omega
      rw [kS_full] at hO
      have HQ := hid (And.intro hO hx)
      clear hO hS hx
      go_wp2_with fail
      go_ret
      exact ⟨K, rfl, HKB.out, HQ.out⟩
end Go.Proofs.YtpfkcplldhdipaaDoor
