/- Walk over seeds of the program; own lemmas of the verifier, no statement is proved here. -/
import Derived.Test.YtpfkcplldhdipaaDoorX7
namespace Go.Proofs.YtpfkcplldhdipaaDoor
open Go.RowKit
theorem cf50 (vs : Array Value) (w : World) : (callFunc 50 vs).run Tryd.prog w = .ok (.enter 50 vs) w := by go_simp
theorem cf46 (vs : Array Value) (w : World) : (callFunc 46 vs).run Tryd.prog w = .ok (.enter 46 vs) w := by go_simp
theorem cf27 (vs : Array Value) (w : World) : (callFunc 27 vs).run Tryd.prog w = .ok (.enter 27 vs) w := by go_simp
theorem cf36 (vs : Array Value) (w : World) : (callFunc 36 vs).run Tryd.prog w = .ok (.enter 36 vs) w := by go_simp
theorem elem22 : Tryd.prog.underlying 22 = some (.slice (Tryd.prog.elem 22)) := by kernel_rfl
theorem size22 (w : World) : (sizeOf (Tryd.prog.elem 22)).run Tryd.prog w = .ok 1 w := by kernel_rfl
theorem sz5 : (Tryd.prog.info? 5).map (·.size) = some 1 := by kernel_rfl
/-- A copy of bytes that are read as a slice: as many as there is room. -/
theorem wpList_cpr {ops : Array Oper} {rest : List Oper} {o : Oper} {a : Act} {w : World} {Q : Exit → Act → World → Prop} (hgd : o.guard = none) (d s : Operand)
    (ho : o.op = .call { callee := .builtin .copy, args := #[d, s], argTypes := #[22, 22] })
    (g k dLen dCap B m c : Nat) (A : Option Addr) (bs : List UInt8) (hd : a.eval d = .slice (some ⟨g, k, none⟩) dLen dCap) (hx : a.eval s = .slice A m c)
    (hr : Rd w B A m bs) (q : Nat) (hq : Nat.min m dLen = q) (ht : w.there g k q)
    (h : wpList Tryd.prog ops Q rest (a.put o.dst (.int .i64 q)) (w.setCells g k (cellsOf (bs.take dLen)))) : wpList Tryd.prog ops Q (o :: rest) a w := by
  subst hq
  have hl := hr.len
  by_cases hm : 0 < m
  · obtain ⟨b, p, rfl, _, _⟩ := hr.at_ hm
    have hc := rangeAt_cut (rangeAt_of_rd hr) 0 (Nat.min m dLen) (by rw [hl, Nat.zero_add]; exact Nat.min_le_left _ _)
    have e : (bs.drop 0).take (Nat.min m dLen) = bs.take dLen := by
      rw [List.drop_zero]
      rcases Nat.le_total m dLen with h1 | h1
      · rw [show Nat.min m dLen = m from Nat.min_eq_left h1, List.take_of_length_le (by omega), List.take_of_length_le (by omega)]
      · rw [show Nat.min m dLen = dLen from Nat.min_eq_right h1]
    rw [e, Nat.add_zero] at hc
    have hlen : (bs.take dLen).length = Nat.min m dLen := by rw [← e, List.drop_zero, List.length_take, hl]; exact Nat.min_eq_left (Nat.min_le_left _ _)
    exact wpList_cp hgd d s 22 22 5 1 ho Tryd.underlying22 sz5 g k dLen dCap m c b p (bs.take dLen) hd hx (by rw [hlen, Nat.mul_one]) hc (by rw [hlen]; exact ht) h
  · obtain rfl : m = 0 := by omega
    obtain rfl : bs = [] := List.eq_nil_of_length_eq_zero hl
    have hn : Nat.min 0 dLen = 0 := Nat.zero_min _
    rw [hn] at h
    exact wpList_plain hgd fun K hK => by
      have hk : K (a.put o.dst (goInt 0)) w := by have := hK _ _ h; simpa [cellsOf, World.setCells, goInt] using this
      clear hK h
      have hrun := run_copy_none (P := Tryd.prog) w 22 22 o.type 5 (some ⟨g, k, none⟩) A dLen dCap 0 c Tryd.underlying22 sz5 hn
      unfold Oper.wp
      simp [execOp, ho, resolve, invoke, builtin, hd, hx, hrun, Result.andThen]
      exact hk
def z64 : List UInt8 := FL (fun _ => z16) 4
theorem z64_length : z64.length = 64 := FL_length _ _
theorem cells_z64 : (cellsOf z64).toArray = #[.int .u8 0, .int .u8 0, .int .u8 0, .int .u8 0, .int .u8 0, .int .u8 0, .int .u8 0, .int .u8 0, .int .u8 0, .int .u8 0, .int .u8 0, .int .u8 0, .int .u8 0, .int .u8 0, .int .u8 0, .int .u8 0, .int .u8 0, .int .u8 0, .int .u8 0, .int .u8 0, .int .u8 0, .int .u8 0, .int .u8 0, .int .u8 0, .int .u8 0, .int .u8 0, .int .u8 0, .int .u8 0, .int .u8 0, .int .u8 0, .int .u8 0, .int .u8 0, .int .u8 0, .int .u8 0, .int .u8 0, .int .u8 0, .int .u8 0, .int .u8 0, .int .u8 0, .int .u8 0, .int .u8 0, .int .u8 0, .int .u8 0, .int .u8 0, .int .u8 0, .int .u8 0, .int .u8 0, .int .u8 0, .int .u8 0, .int .u8 0, .int .u8 0, .int .u8 0, .int .u8 0, .int .u8 0, .int .u8 0, .int .u8 0, .int .u8 0, .int .u8 0, .int .u8 0, .int .u8 0, .int .u8 0, .int .u8 0, .int .u8 0, .int .u8 0] := by kernel_rfl
/-- The words of a key, under way. -/
def wS (key : List UInt8) (i : Nat) : List UInt8 := FL (fun j => if j ≤ i then seedL key j else z16) 4
theorem wS_length (key : List UInt8) (i : Nat) : (wS key i).length = 64 := FL_length _ _
theorem wS_full (key : List UInt8) : wS key 3 = FL (seedL key) 4 := FL_congr fun j hj => by rw [if_pos (by omega)]
theorem front0 {key : List UInt8} (h : 16 ≤ key.length) : key.take 16 = frontL key 0 := by
  apply List.ext_getElem
  · simp [frontL]; omega
  · intro i h1 h2
    have hi : i < 16 := by simpa [frontL] using h2
    simp [frontL, List.getElem?_eq_getElem (show i < key.length by omega)]
theorem front16 {key : List UInt8} (h : key.length ≤ 32) : lay z16 0 ((key.drop 16).take 16) = frontL key 16 := by
  unfold lay frontL
  rw [z16_length]
  refine List.map_congr_left fun i hi => ?_
  have hi := List.mem_range.1 hi
  by_cases h1 : 16 + i < key.length
  · rw [if_pos ⟨Nat.zero_le _, by simp; omega⟩]
    simp [List.getElem?_drop, hi, Nat.sub_zero]
  · rw [if_neg (by simp; omega)]
    rw [List.getD_eq_getElem?_getD, List.getD_eq_getElem?_getD, List.getElem?_eq_none (show key.length ≤ 16 + i by omega), z16, List.getElem?_replicate]
    split <;> rfl
theorem wS_zero {key : List UInt8} : FL (fun k => if k = 0 then frontL key 0 else z16) 4 = wS key 0 := FL_congr fun j _ => by
  by_cases h : j = 0
  · subst h; rfl
  · simp only [h, if_false, show ¬ j ≤ 0 by omega]
theorem wS_next (key : List UInt8) (i : Nat) : FL (fun k => if k = i + 1 then seedL key (i + 1) else (if k ≤ i then seedL key k else z16)) 4 = wS key (i + 1) := FL_congr fun j _ => by
  by_cases h : j = i + 1
  · subst h; simp
  · by_cases h2 : j ≤ i
    · simp only [h, if_false, h2, if_true, show j ≤ i + 1 by omega]
    · simp only [h, if_false, h2, show ¬ j ≤ i + 1 by omega]
def seedKs4 (G n : Nat) (key : List UInt8) : List K := [.eq (.slice (some ⟨G + 1 + 1, 0, none⟩) 16 16), .byc n (key), .byt (n - 16) (key.drop 16), .any]
def seedKs9 (g G F i : Nat) (SI HI SJ : List UInt8) : List K := [.eq (.int .i64 i), .eq (.int .i64 (i + 1 : Nat)), .eq (.pointer (some ⟨g, 0, none⟩)), .eq (.int .i64 i), .eq (.int .i64 i), .eq (.pointer (some ⟨G + 1, i * 16, none⟩)), .eq (bv SI), .eq (.int .i64 F), .eq (.int .i64 i), .eq (.int .i64 (F + i : Nat)), .eq (bv (constL (F + i))), .eq (bv (stepL i SI (constL (F + i)))), .eq (bv (mixL (stepL i SI (constL (F + i))))), .eq (bv HI), .eq (bv SJ), .eq (.pointer (some ⟨G + 1, (i + 1) * 16, none⟩)), .any]
set_option maxRecDepth 100000 in
set_option maxHeartbeats 4000000 in
theorem seeds_any (g n c : Nat) (A : Option Addr) (key : List UInt8) (w : World) (h : Rd w w.heap.size A n key) (hn : n = 16 ∨ n = 24 ∨ n = 32) (hc : n ≤ c) (ht : TB w g) (hs : Sev w) (hco : Con w) :
    Calls Tryd.prog 35 #[.pointer (some ⟨g, 0, none⟩), .slice A n c] w fun e w' => e = .returned (.agg (cellsOf (FL (seedL key) 4)).toArray) ∧ Ext w w' := by
  have hl := h.len
  have h1 := RW.new w 73 z64
  have x1 := Ext.alloc w (.cells (cellsOf z64).toArray 73)
  obtain ⟨W1, hW1⟩ : ∃ W1, w.alloc (.cells (cellsOf z64).toArray 73) = W1 := ⟨_, rfl⟩
  have z1 : W1.heap.size = w.heap.size + 1 := by rw [← hW1]; simp
  have h2 := RW.new W1 73 z64
  have x2 := Ext.alloc W1 (.cells (cellsOf z64).toArray 73)
  obtain ⟨W2, hW2⟩ : ∃ W2, W1.alloc (.cells (cellsOf z64).toArray 73) = W2 := ⟨_, rfl⟩
  have z2 : W2.heap.size = w.heap.size + 1 + 1 := by rw [← hW2, ← z1]; simp
  have h3 := RW.new W2 55 z16
  have x3 := Ext.alloc W2 (.cells (cellsOf z16).toArray 55)
  obtain ⟨W3, hW3⟩ : ∃ W3, W2.alloc (.cells (cellsOf z16).toArray 55) = W3 := ⟨_, rfl⟩
  rw [hW1] at h1 x1
  rw [hW2] at h2 x2
  rw [hW3] at h3 x3
  have h1 := (h1.later (by rw [z64_length]; omega) x2).later (by rw [z64_length]; omega) x3
  have h2 := h2.later (by rw [z64_length]; omega) x3
  obtain ⟨G, hG⟩ : ∃ G, w.heap.size = G := ⟨_, rfl⟩
  rw [z1] at h2
  rw [z2] at h3
  have hx3 := (x1.trans x2).trans x3
  have hK3 := h.later hx3
  rw [hG] at h1 h2 h3
  have h2' := h2.setBlk 0 (key.take 16) (by omega) (by rw [List.length_take, hl]; omega)
  rw [front0 (by omega), wS_zero, Nat.zero_mul] at h2'
  have h1' := h1.apart (G + 1) 0 (cellsOf (key.take 16)) (by omega)
  have h3' := h3.apart (G + 1) 0 (cellsOf (key.take 16)) (by omega)
  have hx4 := below_setCells (B := w.heap.size) (b := G + 1) (a := w) (by omega) (cellsOf (key.take 16)) 0 W3 hx3
  rw [front0 (by omega)] at h1' h3' hx4
  have HKR := hid ((h.below hx4 (Nat.le_refl _)).more hx4.size)
  have HK3 := hid hK3
  have HTH1 := hid (show W3.there (G + 1) 0 16 from fun j hj => h2.wr j (by rw [z64_length]; omega))
  have HQ16 := hid (show Nat.min n 16 = 16 from Nat.min_eq_right (by omega))
  obtain ⟨W4, hW4⟩ : ∃ W4, W3.setCells (G + 1) 0 (cellsOf (frontL key 0)) = W4 := ⟨_, rfl⟩
  rw [hW4] at h1' h2' h3' hx4 HKR
  have HQ4 := hid (And.intro h1' (And.intro h2' h3'))
  have HX4 := hid hx4
  have HW := hid (And.intro hW1 (And.intro hW2 (And.intro hW3 (And.intro hG (And.intro (front0 (key := key) (by omega)) hW4)))))
  have HG := hid hG
  have HN16 := hid (show 16 ≤ n by omega)
  have HNC := hid hc
  have HLN := hid hl
  have HTB0 := hid ht
  have HSV0 := hid hs
  have HCO0 := hid hco
  clear hW1 hW2 hW3 hW4 z1 z2 x1 x2 x3 h1 h2 h3 h1' h2' h3' hx3 hx4 hK3 hG ht hs hco h hl hc
  go_enter Tryd.func35, Tryd.ntmps35
  go_wp2_with (first
    | (rw [← cells_z16, ← cells_z64, HW.out.1, HW.out.2.1, HW.out.2.2.1, HW.out.2.2.2.1]; refine wpList_cpr rfl (.tmp 10) (.tmp 11) rfl (G + 1) 0 16 16 _ n c A key rfl rfl HK3.out 16 HQ16.out HTH1.out ?_; rw [HW.out.2.2.2.2.1, HW.out.2.2.2.2.2]; clear HW HK3 HTH1))
  go_wp2_with fail
  refine region_upto 3 mixed rfl (by kernel_rfl) (by kernel_rfl) (by kernel_rfl) (kV (seedKs4 G n key)) (kV_keep _) (forall_ops ⟨?_, ?_, ?_, trivial⟩) ?_
  · intro a w hk
    have s6 : a.tmps.getD 6 undef = .pointer (some ⟨G + 1 + 1, 0, none⟩) := hk.was 6 (by kernel_rfl) rfl
    refine step_val (v := .slice (some ⟨G + 1 + 1, 0, none⟩) 16 16) (w' := w) rfl ?_ (Ext.refl w) rfl
    go_simp
  · intro a w hk
    have s1 : a.tmps.getD 1 undef = .slice A n c := hk.was 1 (by kernel_rfl) rfl
    have k1 := HNC.out
    have r1 := (HKR.out).later hk.ext
    exact step_move rfl rfl s1 ⟨_, _, rfl, k1, r1⟩
  · intro a w hk
    obtain ⟨A14, c14, s14, k14, r14⟩ := hk.val 1 14 (by kernel_rfl) rfl
    exact step_slice_lo (l := 16) rfl rfl s14 rfl elem22 size22 HN16.out k14 r14 (fun _ h => h)
  · intro a w1 hf
    have s13 := hf.eq_ 0 13 (by kernel_rfl) rfl
    obtain ⟨A14, c14, s14, k14, r14⟩ := hf.val 1 14 (by kernel_rfl) rfl
    obtain ⟨A15, c15, s15, r15⟩ := hf.val 2 15 (by kernel_rfl) rfl
    have hx := hf.ext
    have e := hf.frame
    clear hf
    simp only [List.take_succ_cons, List.take_zero, regFrame, Act.put, List.setIfInBounds_toArray, List.set_cons_zero, List.set_cons_succ, s13, s14, s15] at e
    clear s13 s14 s15
    subst e
    simp only [List.drop_succ_cons, List.drop_zero]
    have hq := HQ4.out
    have k1 := (hq.1.later (by rw [z64_length]; omega) hx).apart (G + 1 + 1) 0 (cellsOf ((key.drop 16).take 16)) (by omega)
    have k2 := (hq.2.1.later (by rw [wS_length]; omega) hx).apart (G + 1 + 1) 0 (cellsOf ((key.drop 16).take 16)) (by omega)
    have k3 := hq.2.2.later (by rw [z16_length]; omega) hx
    have hl15 : ((key.drop 16).take 16).length = n - 16 := by rw [List.length_take, List.length_drop, HLN.out]; omega
    have k3' := k3.store 0 ((key.drop 16).take 16) (by rw [hl15, z16_length]; omega)
    rw [front16 (by rw [HLN.out]; omega)] at k3'
    have HTH2 := hid (show w1.there (G + 1 + 1) 0 (n - 16) from fun j hj => k3.wr j (by rw [z16_length]; omega))
    have HM := hid (show Nat.min (n - 16) 16 = n - 16 from Nat.min_eq_left (by omega))
    have hx5 := below_setCells (B := w.heap.size) (b := G + 1 + 1) (a := w) (by have := HG.out; omega) (cellsOf ((key.drop 16).take 16)) 0 w1 (Ext.trans HX4.out hx)
    obtain ⟨m16, h16⟩ : ∃ m, n - 16 = m := ⟨_, rfl⟩
    rw [h16] at r15 HTH2 HM ⊢
    have HR15 := hid r15
    obtain ⟨W5, hW5⟩ : ∃ W5, w1.setCells (G + 1 + 1) 0 (cellsOf ((key.drop 16).take 16)) = W5 := ⟨_, rfl⟩
    rw [hW5] at k1 k2 k3' hx5
    have HQ5 := hid (show RW W5 G 0 z64 ∧ RW W5 (G + 1) 0 (wS key 0) ∧ RW W5 (G + 1 + 1) 0 (headL key 0) ∧ Ext w W5 from ⟨k1, k2, k3', hx5⟩)
    have HW5 := hid hW5
    obtain ⟨F, hF⟩ : ∃ F, n / 8 - 2 = F := ⟨_, rfl⟩
    have hF1 : (n : Int).tdiv 8 = (F : Int) + 2 := by rw [Int.tdiv_eq_ediv_of_nonneg (by omega)]; omega
    have HF2 := hid (show F ≤ 2 by omega)
    have hF3 : (F : Int) ≤ 2 := by omega
    have HFK := hid (show key.length / 8 - 2 = F by rw [HLN.out, hF])
    clear hq k1 k2 k3 k3' hl15 hx5 hx r14 r15 hW5 hF h16 HQ4 HX4
    go_wp2_with (refine wpList_cpr rfl (.tmp 13) (.tmp 15) rfl (G + 1 + 1) 0 16 16 _ m16 c15 A15 (key.drop 16) rfl rfl HR15.out m16 HM.out HTH2.out ?_; rw [HW5.out]; clear HW5 HR15 HM HTH2)
    clear hF1 hF3
    go_loopw [21] (fun v wr => ∃ i : Nat, i ≤ 3 ∧ v = .int .i64 i ∧ RW wr G 0 z64 ∧ RW wr (G + 1) 0 (wS key i) ∧ RW wr (G + 1 + 1) 0 (headL key i) ∧ Ext w wr) (fun v _ => 3 - (intOf v).toNat)
    case atStart => exact ⟨0, by omega, rfl, HQ5.out⟩
    case round =>
      clear HQ5
      obtain ⟨i, hi, rfl, hZ, hS, hH, hx⟩ := hrel
      by_cases hlt : i < 3
      · have HI3 := hid hlt
        have HI1000 := hid (show i ≤ 1000 by omega)
        have HFI := hid (show F + i ≤ 1000 by have := HF2.out; omega)
        have HTB := hid (HTB0.out.later hx)
        have HSV := hid (HSV0.out.later hx)
        have HCO := hid (HCO0.out.later hx)
        have hblk := hS.blk i (by omega) (by rw [if_pos (Nat.le_refl i)]; exact seedL_length key i)
        rw [if_pos (Nat.le_refl i)] at hblk
        obtain ⟨SI, hSI⟩ : ∃ SI, seedL key i = SI := ⟨_, rfl⟩
        obtain ⟨HI, hHI⟩ : ∃ HI, headL key i = HI := ⟨_, rfl⟩
        obtain ⟨SJ, hSJ⟩ : ∃ SJ, seedL key (i + 1) = SJ := ⟨_, rfl⟩
        have HSJ := hid (show xorL (mixL (stepL i SI (constL (F + i)))) HI 16 = SJ by rw [← hSJ, seedL_succ, hSI, hHI, HFK.out])
        have HLS := hid (show SI.length = 16 ∧ HI.length = 16 by rw [← hSI, ← hHI]; exact ⟨seedL_length key i, headL_length key i⟩)
        have HLJ := hid (show SJ.length = 16 by rw [← hSJ]; exact seedL_length key _)
        rw [hHI] at hH
        rw [hSI] at hblk
        have HS := hid (And.intro hblk.rd hH.rd)
        have HA := hid (And.intro hZ (And.intro hS (And.intro hH hx)))
        have HTH := hid (show ∀ w1, Ext wr w1 → w1.there (G + 1) ((i + 1) * 16) SJ.length from fun w1 hx1 => by
          have h2 := hS.later (by rw [wS_length]; omega) hx1
          exact fun j hj => by
            have := h2.wr ((i + 1) * 16 + j) (by rw [wS_length]; rw [HLJ.out] at hj; omega)
            rwa [Nat.zero_add] at this)
        have HN := hid (And.intro hSI (And.intro hHI hSJ))
        clear hS hH hZ hx hblk hSI hHI hSJ
        go_wp2_with fail
        refine region_tail 16 _ mixed rfl (by kernel_rfl) (by kernel_rfl) rfl rfl rfl (kV (seedKs9 g G F i SI HI SJ)) (kV_keep _) (forall_ops ⟨?_, ?_, ?_, ?_, ?_, ?_, ?_, ?_, ?_, ?_, ?_, ?_, ?_, ?_, ?_, ?_, fun h => absurd rfl h, trivial⟩) ?_
        · intro _ a w hk
          have s8 : a.tmps.getD 8 undef = .int .i64 i := hk.was 8 (by kernel_rfl) rfl
          exact step_move rfl rfl s8 rfl
        · intro _ a w hk
          have s24 := hk.eq_ 0 24 (by kernel_rfl) rfl
          refine step_val (v := .int .i64 (i + 1 : Nat)) (w' := w) rfl ?_ (Ext.refl w) rfl
          have hi3 : (i : Int) < 3 := by have := HI3.out; omega
          go_simp
          exact IntWalk.i64_in _ (by omega)
        · intro _ a w hk
          have s0 : a.tmps.getD 0 undef = .pointer (some ⟨g, 0, none⟩) := hk.was 0 (by kernel_rfl) rfl
          exact step_move rfl rfl s0 rfl
        · intro _ a w hk
          have s8 : a.tmps.getD 8 undef = .int .i64 i := hk.was 8 (by kernel_rfl) rfl
          exact step_move rfl rfl s8 rfl
        · intro _ a w hk
          have s8 : a.tmps.getD 8 undef = .int .i64 i := hk.was 8 (by kernel_rfl) rfl
          exact step_move rfl rfl s8 rfl
        · intro _ a w hk
          have s5 : a.tmps.getD 5 undef = .pointer (some ⟨G + 1, 0, none⟩) := hk.was 5 (by kernel_rfl) rfl
          have s28 := hk.eq_ 4 28 (by kernel_rfl) rfl
          refine step_val (v := .pointer (some ⟨G + 1, i * 16, none⟩)) (w' := w) rfl ?_ (Ext.refl w) rfl
          have hi3 : (i : Int) < 4 := by have := HI3.out; omega
          go_simp
        · intro _ a w hk
          have s29 := hk.eq_ 5 29 (by kernel_rfl) rfl
          exact step_val (v := bv SI) (w' := w) rfl (exec_load_mid rfl s29 (rangeAt_later HS.out.1 hk.ext) Tryd.underlying55 (size55' HLS.out.1)) (Ext.refl w) rfl
        · intro _ a w hk
          have s7 : a.tmps.getD 7 undef = .int .i64 F := hk.was 7 (by kernel_rfl) rfl
          exact step_move rfl rfl s7 rfl
        · intro _ a w hk
          have s8 : a.tmps.getD 8 undef = .int .i64 i := hk.was 8 (by kernel_rfl) rfl
          exact step_move rfl rfl s8 rfl
        · intro _ a w hk
          have s31 := hk.eq_ 7 31 (by kernel_rfl) rfl
          have s32 := hk.eq_ 8 32 (by kernel_rfl) rfl
          refine step_val (v := .int .i64 (F + i : Nat)) (w' := w) rfl ?_ (Ext.refl w) rfl
          have hi3 : (i : Int) < 3 := by have := HI3.out; omega
          have hf : (F : Int) ≤ 2 := by have := HFI.out; have := HF2.out; omega
          go_simp
          exact IntWalk.i64_in _ (by omega)
        · intro _ a w hk
          have s33 := hk.eq_ 9 33 (by kernel_rfl) rfl
          exact step_call rfl rfl (by simp only [List.map_toArray, List.map_cons, List.map_nil, Act.eval, s33] <;> rfl) cf50 (const_any (F + i) w HFI.out (HCO.out.later hk.ext)) (fun e w1 h => retX e w1 h)
        · intro _ a w hk
          have s26 := hk.eq_ 2 26 (by kernel_rfl) rfl
          have s27 := hk.eq_ 3 27 (by kernel_rfl) rfl
          have s30 := hk.eq_ 6 30 (by kernel_rfl) rfl
          have s34 := hk.eq_ 10 34 (by kernel_rfl) rfl
          exact step_call rfl rfl (by simp only [List.map_toArray, List.map_cons, List.map_nil, Act.eval, s26, s27, s30, s34] <;> rfl) cf46 (step_any g i SI (constL (F + i)) w HLS.out.1 (constL_length _) HI1000.out (HTB.out.later hk.ext)) (fun e w1 h => retX e w1 h)
        · intro _ a w hk
          have s35 := hk.eq_ 11 35 (by kernel_rfl) rfl
          exact step_call rfl rfl (by simp only [List.map_toArray, List.map_cons, List.map_nil, Act.eval, s35] <;> rfl) cf27 (mixed_any (stepL i SI (constL (F + i))) w (stepL_length _ _ _) (HSV.out.later hk.ext)) (fun e w1 h => retX e w1 h)
        · intro _ a w hk
          have s6 : a.tmps.getD 6 undef = .pointer (some ⟨G + 1 + 1, 0, none⟩) := hk.was 6 (by kernel_rfl) rfl
          exact step_val (v := bv HI) (w' := w) rfl (exec_load_mid rfl s6 (rangeAt_later HS.out.2 hk.ext) Tryd.underlying55 (size55' HLS.out.2)) (Ext.refl w) rfl
        · intro _ a w hk
          have s36 := hk.eq_ 12 36 (by kernel_rfl) rfl
          have s37 := hk.eq_ 13 37 (by kernel_rfl) rfl
          exact step_call rfl rfl (by simp only [List.map_toArray, List.map_cons, List.map_nil, Act.eval, s36, s37] <;> rfl) cf36 (xored_any (mixL (stepL i SI (constL (F + i)))) HI w (mixL_length _) HLS.out.2) (fun e w1 h => retX e w1 (by rw [HSJ.out] at h; exact h))
        · intro _ a w hk
          have s5 : a.tmps.getD 5 undef = .pointer (some ⟨G + 1, 0, none⟩) := hk.was 5 (by kernel_rfl) rfl
          have s25 := hk.eq_ 1 25 (by kernel_rfl) rfl
          refine step_val (v := .pointer (some ⟨G + 1, (i + 1) * 16, none⟩)) (w' := w) rfl ?_ (Ext.refl w) rfl
          have hi3 : i < 3 := HI3.out
          obtain ⟨j, hj⟩ : ∃ j, i + 1 = j := ⟨_, rfl⟩
          rw [hj] at s25 ⊢
          have hj4 : (j : Int) < 4 := by omega
          go_simp
        · intro a w1 hf
          have s24 := hf.eq_ 0 24 (by kernel_rfl) rfl
          have s25 := hf.eq_ 1 25 (by kernel_rfl) rfl
          have s26 := hf.eq_ 2 26 (by kernel_rfl) rfl
          have s27 := hf.eq_ 3 27 (by kernel_rfl) rfl
          have s28 := hf.eq_ 4 28 (by kernel_rfl) rfl
          have s29 := hf.eq_ 5 29 (by kernel_rfl) rfl
          have s30 := hf.eq_ 6 30 (by kernel_rfl) rfl
          have s31 := hf.eq_ 7 31 (by kernel_rfl) rfl
          have s32 := hf.eq_ 8 32 (by kernel_rfl) rfl
          have s33 := hf.eq_ 9 33 (by kernel_rfl) rfl
          have s34 := hf.eq_ 10 34 (by kernel_rfl) rfl
          have s35 := hf.eq_ 11 35 (by kernel_rfl) rfl
          have s36 := hf.eq_ 12 36 (by kernel_rfl) rfl
          have s37 := hf.eq_ 13 37 (by kernel_rfl) rfl
          have s38 := hf.eq_ 14 38 (by kernel_rfl) rfl
          have s39 := hf.eq_ 15 39 (by kernel_rfl) rfl
          have hx := hf.ext
          have e := hf.frame
          clear hf
          simp only [regFrame, Act.put, List.setIfInBounds_toArray, List.set_cons_zero, List.set_cons_succ, s24, s25, s26, s27, s28, s29, s30, s31, s32, s33, s34, s35, s36, s37, s38, s39] at e
          clear s24 s25 s26 s27 s28 s29 s30 s31 s32 s33 s34 s35 s36 s37 s38 s39
          subst e
          have ha := HA.out
          have hz := (ha.1.later (by rw [z64_length]; omega) hx).apart (G + 1) ((i + 1) * 16) (cellsOf SJ) (by omega)
          have hs := (ha.2.1.later (by rw [wS_length]; omega) hx).setBlk (i + 1) SJ (by omega) HLJ.out
          rw [← HN.out.2.2, wS_next, HN.out.2.2] at hs
          have hh := (ha.2.2.1.later (by rw [HLS.out.2]; omega) hx).apart (G + 1) ((i + 1) * 16) (cellsOf SJ) (by omega)
          have hxx := below_setCells (B := w.heap.size) (b := G + 1) (a := w) (by have := HG.out; omega) (cellsOf SJ) ((i + 1) * 16) w1 (Ext.trans ha.2.2.2 hx)
          refine wp_store_arr 55 (.tmp 39) (.tmp 38) rfl rfl (G + 1) ((i + 1) * 16) SJ rfl rfl (HTH.out w1 hx) (size55' HLJ.out) ?_
          obtain ⟨W7, hW7⟩ : ∃ W7, w1.setCells (G + 1) ((i + 1) * 16) (cellsOf SJ) = W7 := ⟨_, rfl⟩
          rw [hW7] at hz hs hh hxx ⊢
          have hb := hs.blk i (by omega) (by rw [if_pos (by omega)]; exact seedL_length key i)
          rw [if_pos (by omega), HN.out.1] at hb
          have hz8 := hz.apart (G + 1 + 1) 0 (cellsOf SI) (by omega)
          have hs8 := hs.apart (G + 1 + 1) 0 (cellsOf SI) (by omega)
          have hh8 := hh.store0 SI (by rw [HLS.out.1, HLS.out.2])
          have hx8 := below_setCells (B := w.heap.size) (b := G + 1 + 1) (a := w) (by have := HG.out; omega) (cellsOf SI) 0 W7 hxx
          have HB := hid hb.rd
          have HTH8 := hid (show W7.there (G + 1 + 1) 0 SI.length by rw [HLS.out.1, ← HLS.out.2]; exact hh.wr)
          obtain ⟨W8, hW8⟩ : ∃ W8, W7.setCells (G + 1 + 1) 0 (cellsOf SI) = W8 := ⟨_, rfl⟩
          rw [hW8] at hz8 hs8 hh8 hx8
          have HQ8 := hid (And.intro hz8 (And.intro hs8 (And.intro (show RW W8 (G + 1 + 1) 0 (headL key (i + 1)) by rw [headL_succ, HN.out.1]; exact hh8) hx8)))
          have HW8 := hid hW8
          have HSI := hid (size55' HLS.out.1)
          have hi4 : (i : Int) < 4 := by omega
          clear hx hW7 hW8 ha hz hs hh hxx hb hz8 hs8 hh8 hx8 HA HS HTB HSV HCO HSJ HTH
          go_wp2_with (first
            | (refine wpList_ld rfl 55 (.tmp 41) rfl (G + 1) (i * 16) rfl SI HB.out Tryd.underlying55 HSI.out ?_)
            | (refine wpList_st rfl 55 (.tmp 6) (.tmp 42) rfl (G + 1 + 1) 0 SI rfl rfl HTH8.out HSI.out ?_; rw [HW8.out]; clear HW8 HTH8 HB))
          go_roundw
          case rel => exact ⟨i + 1, by omega, by go_num, HQ8.out⟩
          case measure => simp [intOf]; omega
      · obtain rfl : i = 3 := by omega
        rw [wS_full] at hS
        have hs := hZ.store0 (FL (seedL key) 4) (by rw [FL_length, z64_length])
        have hx2 := below_setCells (B := w.heap.size) (b := G) (a := w) (by have := HG.out; omega) (cellsOf (FL (seedL key) 4)) 0 wr hx
        have HO := hid hS.rd
        have HS := hid hs.rd
        have HX2 := hid hx2
        have HSZ := hid (size73' (FL_length (seedL key) 4))
        have HTH := hid (show wr.there G 0 (FL (seedL key) 4).length by rw [FL_length]; have := hZ.wr; rw [z64_length] at this; exact this)
        clear hZ hS hH hx hs hx2
        go_wp2_with (first
          | (refine wpList_ld rfl 73 (.tmp 5) rfl (G + 1) 0 rfl (FL (seedL key) 4) HO.out Tryd.underlying73 HSZ.out ?_)
          | (refine wpList_st rfl 73 (.tmp 4) (.tmp 44) rfl G 0 (FL (seedL key) 4) rfl rfl HTH.out HSZ.out ?_))
        refine ret_mid rfl rfl G (FL (seedL key) 4) rfl HS.out Tryd.underlying73 HSZ.out ⟨rfl, HX2.out⟩
end Go.Proofs.YtpfkcplldhdipaaDoor
