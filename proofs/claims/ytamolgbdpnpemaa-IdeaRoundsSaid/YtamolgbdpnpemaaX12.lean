/- Walks over the laws' own helpers and their known answer; own lemmas of the verifier, no statement is proved here. -/
import Derived.Test.YtamolgbdpnpemaaX11
import Derived.Deep.OwnRows
namespace Go.Proofs.Ytamolgbdpnpemaa
open Go.RowKit
/-- True is handed back, and nothing that was there has turned. -/
def RetTrue (w : World) (e : Ending) (w' : World) : Prop := e = .returned (.bool true) ∧ Ext w w'
/-- Bytes are handed back. -/
def RdRet (w : World) (n : Nat) (bs : List UInt8) (e : Ending) (w' : World) : Prop := ∃ A c, e = .returned (.slice A n c) ∧ n ≤ c ∧ Rd w' w'.heap.size A n bs ∧ Ext w w'
theorem rd_ret {w w' : World} {v : Value} {bs : List UInt8} {n : Nat} (h : Own w' w.heap.size v bs) (hx : Ext w w') (hl : bs.length = n) : RdRet w n bs (.returned v) w' := by
  obtain ⟨A, c, rfl, hc, hr, _⟩ := h.rdc hl
  exact ⟨A, c, rfl, hc, hr, hx⟩
theorem strq {w : World} {B n c : Nat} {A : Option Addr} {bs : List UInt8} (h : Rd w B A n bs) : (convert 22 9 (.slice A n c)).run Try.prog w = .ok (.string (str bs)) w :=
  run_str (P := Try.prog) w 22 9 (by kernel_rfl) (by kernel_rfl) (by kernel_rfl) _ _ _ c _ h
/-- Byte number i of what Bytes makes. -/
def fillF (bs : List UInt8) (i : Nat) : UInt8 := if i < bs.length then bs.getD i 0 else UInt8.ofNat (i * 37 % 256)
def byL (n : Nat) (bs : List UInt8) : List UInt8 := (List.range n).map (fillF bs)
theorem byL_len (n : Nat) (bs : List UInt8) : (byL n bs).length = n := by simp [byL]
theorem by_start (bs : List UInt8) (n L : Nat) (hL : bs.length = L) : splice (List.replicate n (Value.int .u8 0)) 0 (cellsOf (bs.take n)) = cellsOf (fillTo (fillF bs) n L) := by
  apply List.ext_getElem?
  intro i
  unfold splice
  rw [List.take_zero, List.nil_append, Nat.zero_add, cellsOf_length]
  rcases Nat.lt_or_ge i n with hi | hi
  · rw [cellsOf_get _ _ (by rw [fillTo_length]; exact hi)]
    have e : byteAt (fillTo (fillF bs) n L) i = ((if i < L then fillF bs i else 0).toNat : Int) := by simp [byteAt, fillTo, List.getD, hi]
    rw [e]
    rcases Nat.lt_or_ge i L with h | h
    · rw [List.getElem?_append_left (by rw [cellsOf_length, List.length_take]; omega), cellsOf_get _ _ (by rw [List.length_take]; omega), if_pos h]
      unfold fillF
      rw [if_pos (by omega)]
      simp [byteAt, List.getD, hi]
    · rw [List.getElem?_append_right (by rw [cellsOf_length, List.length_take]; omega), List.getElem?_drop, List.getElem?_replicate, cellsOf_length, List.length_take, if_pos (by omega), if_neg (by omega)]
      rfl
  · rw [List.getElem?_eq_none (by simp [cellsOf]; omega), List.getElem?_eq_none (by simp [cellsOf, fillTo]; omega)]
theorem own_of_heap {w : World} {base G n : Nat} {bs : List UInt8} {e : TypeId} (he : e = 5) (h : w.heap[G]? = some (.cells (cellsOf bs).toArray e (0, 0))) (hn : bs.length = n) (hb : base ≤ G) (hm : n ≤ maxLen) : Own w base (.slice (some ⟨G, 0, none⟩) n n) bs := by
  subst he
  refine ⟨by rw [cellsOf_length, Nat.mul_one], .inr ⟨G, n, _, by rw [hn], hb, h, by omega, hm, by simp [cellsOf, hn], ?_⟩⟩
  rw [List.toList_toArray, List.take_of_length_le (by rw [cellsOf_length]; omega)]
theorem copy_facts {w w1 : World} {A : Option Addr} {n L : Nat} {bs : List UInt8} (h : Rd w w.heap.size A L bs) (hown1 : Own w1 w.heap.size (.slice (some ⟨w.heap.size, 0, none⟩) n n) (List.replicate n 0)) (hb1 : Below w.heap.size w w1) :
    w1.heap[w.heap.size]? = some (.cells (List.replicate n (Value.int .u8 0)).toArray 5 (0, 0)) ∧ (cellsOf (bs.take n)).length = Nat.min L n ∧
    (0 < (cellsOf (bs.take n)).length → ∃ ad, A = some ad ∧ ∀ j v, (cellsOf (bs.take n))[j]? = some v → w1.cell? (ad.add j) = some v) ∧ 0 + (cellsOf (bs.take n)).length ≤ (List.replicate n (Value.int .u8 0)).length := by
  have hl := h.len
  have hr1 := h.later (show Ext w w1 from hb1)
  have hcl : (cellsOf (bs.take n)).length = Nat.min L n := by rw [cellsOf_length, List.length_take, hl]; exact Nat.min_comm _ _
  refine ⟨?_, hcl, ?_, by rw [hcl, List.length_replicate, Nat.zero_add]; exact Nat.min_le_right _ _⟩
  · rcases hown1.2 with ⟨h1, _⟩ | ⟨g, cap, cur, e1, _, hh, _, _, hcs, htake⟩
    · cases h1
    · simp only [Value.slice.injEq, Option.some.injEq, Addr.mk.injEq, and_true] at e1
      obtain ⟨e0, e2, e3⟩ := e1
      rw [e0, hh]
      have : cur = (List.replicate n (Value.int .u8 0)).toArray := by
        apply Array.ext'
        rw [List.toList_toArray]
        have e5 : cur.toList.take n = cur.toList := List.take_of_length_le (by simp; omega)
        have e4 : cellsOf (List.replicate n 0) = List.replicate n (Value.int .u8 0) := by simp [cellsOf]
        rw [← e5, ← e4, ← htake]
        simp
      rw [this]
  · intro h0
    have h0' : 0 < L := by
      rw [cellsOf_length, List.length_take] at h0; omega
    obtain ⟨b, off, rfl, _, hc⟩ := hr1.at_ h0'
    refine ⟨_, rfl, fun j v hv => ?_⟩
    have hj : j < (bs.take n).length := by
      rcases Nat.lt_or_ge j (bs.take n).length with hj | hj
      · exact hj
      · rw [List.getElem?_eq_none (by rw [cellsOf_length]; omega)] at hv; cases hv
    rw [cellsOf_get _ j hj] at hv
    cases hv
    have hj2 : j < n ∧ j < L := by rw [List.length_take] at hj; omega
    rw [add_off, hc j hj2.2]
    simp [byteAt, List.getD, hj2.1]
set_option maxHeartbeats 4000000 in
theorem bytes_any (A : Option Addr) (n L c : Nat) (bs : List UInt8) (w : World) (h : Rd w w.heap.size A L bs) (hn : n ≤ 1000) (_hL : L ≤ 9223372036854775807) :
    Calls Try.prog 11 #[.int .i64 n, .slice A L c] w (RetB w (byL n bs)) := by
  have hl := h.len
  have HSP := hid (by_start bs n L hl)
  have HR := hid h
  clear h
  go_enter Try.func11, Try.ntmps11
  go_wp2_with (first
    | (at_make; refine wpL_make rfl (.tmp 7) (.tmp 7) 22 rfl Try.underlying22 Try.info5 .i64 n n rfl rfl rfl (by omega) w.heap.size (Nat.le_refl _) ?_; intro w1 hown1 hb1 _; have HF := hid (copy_facts HR.out hown1 hb1); have HB1 := hid hb1; clear hown1 hb1)
    | (with_reducible refine wpList_copy_splice rfl (.tmp 9) (.tmp 10) 22 22 rfl 5 Try.underlying22 (by kernel_rfl) (some ⟨w.heap.size, 0, none⟩) A n n L c rfl rfl w.heap.size 0 (List.replicate n (.int .u8 0)) 5 HF.out.1 (cellsOf (bs.take n)) HF.out.2.1 (fun h0 => ⟨rfl, HF.out.2.2.1 h0⟩) HF.out.2.2.2 (cellsOf_one _) w.heap.size w HB1.out (Nat.le_refl _) ?_; intro w2 hz2 hb2))
  rw [HSP.out] at hz2
  have HO2 := hid (own_of_heap rfl hz2.out (fillTo_length _ _ _) (Nat.le_refl w.heap.size) (by unfold maxLen; omega))
  have HB2 := hid hb2
  obtain ⟨G, hG⟩ : ∃ G, w.heap.size = G := ⟨_, rfl⟩
  have HO2 := hid (show Own w2 w.heap.size (.slice (some ⟨G, 0, none⟩) n n) (fillTo (fillF bs) n L) by rw [← hG]; exact HO2.out)
  rw [hG]
  have HG := hid hG
  clear hz2 hb2 HF HB1 HSP hG
  go_loopw [6] (fun i wr => ∃ k : Nat, L ≤ k ∧ (k ≤ n ∨ k = L) ∧ i = .int .i64 k ∧ Own wr w.heap.size (.slice (some ⟨G, 0, none⟩) n n) (fillTo (fillF bs) n k) ∧ Below w.heap.size w wr) (fun i _ => n - (intOf i).toNat)
  case atStart => exact ⟨L, Nat.le_refl _, .inr rfl, rfl, HO2.out, HB2.out⟩
  case round =>
    clear HO2 HB2
    obtain ⟨k, hk1, hk2, rfl, hown, hb⟩ := hrel
    by_cases hlt : k < n
    · have hset := hown
      obtain ⟨cur, hcur⟩ : ∃ cur, fillTo (fillF bs) n k = cur := ⟨_, rfl⟩
      have hcl : cur.length = n := by rw [← hcur]; exact fillTo_length _ _ _
      rw [hcur] at hown
      have hown0 : Own wr w.heap.size (.slice (some ⟨G, 0, none⟩) cur.length n) cur := by rw [hcl]; exact hown
      have hcell := hown0.cell k (by omega)
      have hfree := hown0.free k
      have hset := hown0.set_ k (fillF bs k)
      rw [← hcur, fillTo_set _ _ _ _ rfl, fillTo_length] at hset
      have hv : ((fillF bs k).toNat : Int) = (k : Int) * 37 % 256 := by
        unfold fillF
        rw [if_neg (by omega), UInt8.toNat_ofNat']
        omega
      rw [hv] at hset
      have HH := hid hset
      have HB := hid hb
      clear hset hv hown0 hown hb hcl hcur
      go_wp2_with fail
      go_roundw
      case rel => exact ⟨k + 1, by omega, .inl (by omega), by go_num, HH.out, HB.out.setCell (by have := HG.out; simp; omega) _⟩
      case measure => simp [intOf]; omega
    · have e : fillTo (fillF bs) n k = byL n bs := by
        unfold byL
        rw [← fillTo_full]
        apply List.ext_getElem
        · simp [fillTo]
        · intro i h1 h2
          have : i < n := by simpa [fillTo] using h1
          simp only [fillTo, List.getElem_map, List.getElem_range]
          rw [if_pos (by omega), if_pos this]
      rw [e] at hown
      have HH := hid (And.intro hown hb)
      clear hown hb e
      go_wp2_with fail
      go_ret
      exact ⟨_, rfl, HH.out.1, HH.out.2⟩
theorem bytes_rd (A : Option Addr) (n L c : Nat) (bs : List UInt8) (w : World) (h : Rd w w.heap.size A L bs) (hn : n ≤ 1000) (hL : L ≤ 9223372036854775807) :
    Calls Try.prog 11 #[.int .i64 n, .slice A L c] w (RdRet w n (byL n bs)) := by
  refine (bytes_any A n L c bs w h hn hL).mono ?_
  rintro e w' ⟨v, rfl, ho, hb⟩
  exact rd_ret ho hb (byL_len _ _)
theorem made_run (w : World) : (Instr.makeSlice 22 (.int .i64 (8 : Int)) (.int .i64 (8 : Int))).run Try.prog w = .ok (.slice (some ⟨w.heap.size, 0, none⟩) 8 8) (w.alloc (.cells (madeCells #[Value.int .u8 0] 8) 5)) := by
  obtain ⟨i0, hi0, hz0, hz1, hz2⟩ := info_parts Try.info5
  exact run_make_row 22 5 i0 (.int .u8 0) Try.underlying22 hi0 hz0 hz1 rfl .i64 .i64 8 (by rw [hz2]; omega) (by omega) w
theorem made_byt (w : World) : K.holds (.byt 8 z8) (w.alloc (.cells (madeCells #[Value.int .u8 0] 8) 5)) (.slice (some ⟨w.heap.size, 0, none⟩) 8 8) := by
  have e : (madeCells #[Value.int .u8 0] 8).toList = cellsOf z8 := cells_zero 8
  obtain ⟨A, c, h1, h2, _⟩ := (Own.lit w z8 (madeCells #[Value.int .u8 0] 8) 8 w.heap.size e rfl (by unfold maxLen; omega) (Nat.le_refl _)).rdn (n := 8) rfl
  exact ⟨A, c, h1, h2⟩
theorem str_toList (bs : List UInt8) : (str bs).toList = bs := by
  unfold str
  apply List.ext_getElem
  · simp
  · intro i h1 h2; simp
theorem str_ne {xs ys : List UInt8} (h : xs ≠ ys) : ¬ (str xs).toList = (str ys).toList := by
  rw [str_toList, str_toList]; exact h
def knownKs (BZ : List UInt8) : List K := [.eq (.int .i64 0), .eq (.bool true), .eq (.bool true), .eq (.int .i64 0), .eq (.bool true), .eq (.bool true), .eq (.bool true), .byt 8 (BZ), .eq (.int .i64 8), .eq (.bool true), .eq (.bool true), .eq (.bool true), .byt 8 (BZ), .eq (.string (str (BZ))), .byt 8 (z8), .eq (.string (str (z8))), .eq (.bool true), .eq (.bool true), .eq (.bool true), .byt 8 (z8), .eq (.string (str (z8))), .byt 8 (z8), .eq (.string (str (z8))), .eq (.bool true), .eq (.bool true), .eq (.bool true)]
set_option maxRecDepth 100000 in
set_option maxHeartbeats 4000000 in
theorem known_any (w : World) : Calls Try.prog 8 #[] w (RetTrue w) := by
  have HZK := hid (show keyF z16 = fun _ => 0 from funext zkey)
  have HZU := hid (show undF (fun _ => 0) = fun _ => 0 from funext zund)
  have HNE := hid (str_ne zne)
  have HBK := hid zback
  obtain ⟨BZ, hBZ⟩ : ∃ BZ, blockL (fun _ => 0) false z8 = BZ := ⟨_, rfl⟩
  have HBZ := hid hBZ
  rw [hBZ] at HNE HBK
  have HBK2 := hid (show blockL (fun _ => 0) true BZ = z8 by
    have h : blockL (fun _ => 0) true BZ = blockL (fun _ => 0) false BZ := by unfold blockL dirK; rw [if_pos rfl, HZU.out]; rfl
    rw [h]; exact HBK.out)
  clear hBZ HBK HZU
  go_enter Try.func8, Try.ntmps8
  go_wp2_with fail
  refine (new_bad none 0 0 _ (by omega)).mono ?_
  rintro e w1 ⟨rfl, hx1⟩
  have HX1 := hid hx1
  clear hx1
  go_wp2_with (at_make; refine wpL_make rfl (.const (.int .i64 16)) (.const (.int .i64 16)) 22 rfl Try.underlying22 Try.info5 .i64 _ 16 rfl rfl rfl (by omega) w1.heap.size (Nat.le_refl _) ?_; intro w2 hown2 hb2 _)
  obtain ⟨A2, c2, e2, hc2, hr2, _⟩ := hown2.rdc (n := 16) rfl
  have HX2 := hid (Ext.trans HX1.out (show Ext w1 w2 from hb2))
  have HR2 := hid (show Rd w2 w2.heap.size A2 16 z16 from hr2)
  rw [e2]
  clear hown2 hb2 hr2 HX1 e2
  refine (new_any A2 c2 z16 _ HR2.out).mono ?_
  rintro e w3 ⟨p, rfl, hd3, hx3⟩
  rw [HZK.out] at hd3
  have HX3 := hid (Ext.trans HX2.out hx3)
  have HD3 := hid hd3
  clear hd3 hx3 HX2 HR2
  go_wp2_with (at_make; refine wpL_make rfl (.const (.int .i64 8)) (.const (.int .i64 8)) 22 rfl Try.underlying22 Try.info5 .i64 _ 8 rfl rfl rfl (by omega) w3.heap.size (Nat.le_refl _) ?_; intro w4 hown4 hb4 _)
  obtain ⟨A4, c4, e4, hc4, hr4, _⟩ := hown4.rdc (n := 8) rfl
  have HX4 := hid (Ext.trans HX3.out (show Ext w3 w4 from hb4))
  have HD4 := hid (HD3.out.later (show Ext w3 w4 from hb4))
  have HR4 := hid (show Rd w4 w4.heap.size A4 8 z8 from hr4)
  rw [e4]
  clear hown4 hb4 hr4 HX3 e4 HD3
  refine (block_any A4 p c4 z8 (fun _ => 0) false _ HD4.out (fun _ => by omega) HR4.out).mono ?_
  rw [HBZ.out]
  rintro e w5 ⟨A5, c5, rfl, hc5, hr5, hx5⟩
  have HX5 := hid (Ext.trans HX4.out hx5)
  have HD5 := hid (HD4.out.later hx5)
  have HR5 := hid hr5
  clear hr5 hx5 HX4 HR4 HD4
  go_wp2_with fail
  refine (block_any A5 p c5 BZ (fun _ => 0) true _ HD5.out (fun _ => by omega) HR5.out).mono ?_
  rw [HBK2.out]
  rintro e w6 ⟨A7, c7, rfl, hc7, hr7, hx6⟩
  have HX6 := hid (Ext.trans HX5.out hx6)
  have HR5 := hid (HR5.out.later hx6)
  have HR7 := hid hr7
  clear hr7 hx6 HX5 HD5 HZK HBZ HBK2
  go_wp2_with fail
  refine region_inv mixed rfl (by kernel_rfl) (kV (knownKs BZ)) (kV_keep _) (forall_ops ⟨?_, ?_, ?_, ?_, ?_, ?_, ?_, ?_, ?_, ?_, ?_, ?_, ?_, ?_, ?_, ?_, ?_, ?_, ?_, ?_, ?_, ?_, ?_, ?_, ?_, ?_, trivial⟩) ?_
  · intro a w hk
    have s6 : a.tmps.getD 6 undef = .int .i64 0 := hk.was 6 (by kernel_rfl) rfl
    exact step_move rfl rfl s6 rfl
  · intro a w hk
    have s40 := hk.eq_ 0 40 (by kernel_rfl) rfl
    refine step_val (v := .bool true) (w' := w) rfl ?_ (Ext.refl w) rfl
    go_simp
  · intro a w hk
    have s41 := hk.eq_ 1 41 (by kernel_rfl) rfl
    exact step_move rfl rfl s41 rfl
  · intro a w hk
    refine hk.run 2 42 true true rfl (by kernel_rfl) rfl fun hw => ?_
    have s8 : a.tmps.getD 8 undef = .int .i64 0 := hk.was 8 (by kernel_rfl) rfl
    exact step_move hw rfl s8 rfl
  · intro a w hk
    refine hk.run 2 42 true true rfl (by kernel_rfl) rfl fun hw => ?_
    have s43 := hk.eq_ 3 43 (by kernel_rfl) rfl
    refine step_val (v := .bool true) (w' := w) hw ?_ (Ext.refl w) rfl
    go_simp
  · intro a w hk
    have s42 := hk.eq_ 2 42 (by kernel_rfl) rfl
    have s44 := hk.eq_ 4 44 (by kernel_rfl) rfl
    exact step_pick (b := true) rfl rfl s42 s44 rfl
  · intro a w hk
    have s45 := hk.eq_ 5 45 (by kernel_rfl) rfl
    exact step_move rfl rfl s45 rfl
  · intro a w hk
    refine hk.run 6 46 true true rfl (by kernel_rfl) rfl fun hw => ?_
    have s5 : a.tmps.getD 5 undef = .slice A5 8 c5 := hk.was 5 (by kernel_rfl) rfl
    have r5 := (HR5.out).later hk.ext
    exact step_move hw rfl s5 ⟨_, _, rfl, r5⟩
  · intro a w hk
    refine hk.run 6 46 true true rfl (by kernel_rfl) rfl fun hw => ?_
    obtain ⟨A47, c47, s47, r47⟩ := hk.byt_ 7 47 (by kernel_rfl) rfl
    refine step_val (v := .int .i64 8) (w' := w) hw ?_ (Ext.refl w) rfl
    go_simp
  · intro a w hk
    refine hk.run 6 46 true true rfl (by kernel_rfl) rfl fun hw => ?_
    have s48 := hk.eq_ 8 48 (by kernel_rfl) rfl
    refine step_val (v := .bool true) (w' := w) hw ?_ (Ext.refl w) rfl
    go_simp
  · intro a w hk
    have s46 := hk.eq_ 6 46 (by kernel_rfl) rfl
    have s49 := hk.eq_ 9 49 (by kernel_rfl) rfl
    exact step_pick (b := true) rfl rfl s46 s49 rfl
  · intro a w hk
    have s50 := hk.eq_ 10 50 (by kernel_rfl) rfl
    exact step_move rfl rfl s50 rfl
  · intro a w hk
    refine hk.run 11 51 true true rfl (by kernel_rfl) rfl fun hw => ?_
    have s5 : a.tmps.getD 5 undef = .slice A5 8 c5 := hk.was 5 (by kernel_rfl) rfl
    have r5 := (HR5.out).later hk.ext
    exact step_move hw rfl s5 ⟨_, _, rfl, r5⟩
  · intro a w hk
    refine hk.run 11 51 true true rfl (by kernel_rfl) rfl fun hw => ?_
    obtain ⟨A52, c52, s52, r52⟩ := hk.byt_ 12 52 (by kernel_rfl) rfl
    exact step_conv hw rfl s52 (strq r52) rfl
  · intro a w hk
    refine hk.run 11 51 true true rfl (by kernel_rfl) rfl fun hw => ?_
    have s7 : a.tmps.getD 7 undef = .slice A7 8 c7 := hk.was 7 (by kernel_rfl) rfl
    have r7 := (HR7.out).later hk.ext
    exact step_move hw rfl s7 ⟨_, _, rfl, r7⟩
  · intro a w hk
    refine hk.run 11 51 true true rfl (by kernel_rfl) rfl fun hw => ?_
    obtain ⟨A54, c54, s54, r54⟩ := hk.byt_ 14 54 (by kernel_rfl) rfl
    exact step_conv hw rfl s54 (strq r54) rfl
  · intro a w hk
    refine hk.run 11 51 true true rfl (by kernel_rfl) rfl fun hw => ?_
    have s53 := hk.eq_ 13 53 (by kernel_rfl) rfl
    have s55 := hk.eq_ 15 55 (by kernel_rfl) rfl
    refine step_val (v := .bool true) (w' := w) hw ?_ (Ext.refl w) rfl
    have hne := HNE.out
    go_simp
  · intro a w hk
    have s51 := hk.eq_ 11 51 (by kernel_rfl) rfl
    have s56 := hk.eq_ 16 56 (by kernel_rfl) rfl
    exact step_pick (b := true) rfl rfl s51 s56 rfl
  · intro a w hk
    have s57 := hk.eq_ 17 57 (by kernel_rfl) rfl
    exact step_move rfl rfl s57 rfl
  · intro a w hk
    refine hk.run 18 58 true true rfl (by kernel_rfl) rfl fun hw => ?_
    have s7 : a.tmps.getD 7 undef = .slice A7 8 c7 := hk.was 7 (by kernel_rfl) rfl
    have r7 := (HR7.out).later hk.ext
    exact step_move hw rfl s7 ⟨_, _, rfl, r7⟩
  · intro a w hk
    refine hk.run 18 58 true true rfl (by kernel_rfl) rfl fun hw => ?_
    obtain ⟨A59, c59, s59, r59⟩ := hk.byt_ 19 59 (by kernel_rfl) rfl
    exact step_conv hw rfl s59 (strq r59) rfl
  · intro a w hk
    refine hk.run 18 58 true true rfl (by kernel_rfl) rfl fun hw => ?_
    refine step_val (v := .slice (some ⟨w.heap.size, 0, none⟩) 8 8) (w' := w.alloc (.cells (madeCells #[Value.int .u8 0] 8) 5)) hw ?_ (Ext.alloc _ _) (made_byt w)
    simp only [execOp, Act.eval]
    rw [Sem.run_bind, made_run w]
    rfl
  · intro a w hk
    refine hk.run 18 58 true true rfl (by kernel_rfl) rfl fun hw => ?_
    obtain ⟨A61, c61, s61, r61⟩ := hk.byt_ 21 61 (by kernel_rfl) rfl
    exact step_conv hw rfl s61 (strq r61) rfl
  · intro a w hk
    refine hk.run 18 58 true true rfl (by kernel_rfl) rfl fun hw => ?_
    have s60 := hk.eq_ 20 60 (by kernel_rfl) rfl
    have s62 := hk.eq_ 22 62 (by kernel_rfl) rfl
    refine step_val (v := .bool true) (w' := w) hw ?_ (Ext.refl w) rfl
    go_simp
  · intro a w hk
    have s58 := hk.eq_ 18 58 (by kernel_rfl) rfl
    have s63 := hk.eq_ 23 63 (by kernel_rfl) rfl
    exact step_pick (b := true) rfl rfl s58 s63 rfl
  · intro a w hk
    have s64 := hk.eq_ 24 64 (by kernel_rfl) rfl
    exact step_assign rfl rfl s64 rfl
  · intro a w1 hf
    have s40 := hf.eq_ 0 40 (by kernel_rfl) rfl
    have s41 := hf.eq_ 1 41 (by kernel_rfl) rfl
    have s42 := hf.eq_ 2 42 (by kernel_rfl) rfl
    have s43 := hf.eq_ 3 43 (by kernel_rfl) rfl
    have s44 := hf.eq_ 4 44 (by kernel_rfl) rfl
    have s45 := hf.eq_ 5 45 (by kernel_rfl) rfl
    have s46 := hf.eq_ 6 46 (by kernel_rfl) rfl
    obtain ⟨A47, c47, s47, r47⟩ := hf.val 7 47 (by kernel_rfl) rfl
    have s48 := hf.eq_ 8 48 (by kernel_rfl) rfl
    have s49 := hf.eq_ 9 49 (by kernel_rfl) rfl
    have s50 := hf.eq_ 10 50 (by kernel_rfl) rfl
    have s51 := hf.eq_ 11 51 (by kernel_rfl) rfl
    obtain ⟨A52, c52, s52, r52⟩ := hf.val 12 52 (by kernel_rfl) rfl
    have s53 := hf.eq_ 13 53 (by kernel_rfl) rfl
    obtain ⟨A54, c54, s54, r54⟩ := hf.val 14 54 (by kernel_rfl) rfl
    have s55 := hf.eq_ 15 55 (by kernel_rfl) rfl
    have s56 := hf.eq_ 16 56 (by kernel_rfl) rfl
    have s57 := hf.eq_ 17 57 (by kernel_rfl) rfl
    have s58 := hf.eq_ 18 58 (by kernel_rfl) rfl
    obtain ⟨A59, c59, s59, r59⟩ := hf.val 19 59 (by kernel_rfl) rfl
    have s60 := hf.eq_ 20 60 (by kernel_rfl) rfl
    obtain ⟨A61, c61, s61, r61⟩ := hf.val 21 61 (by kernel_rfl) rfl
    have s62 := hf.eq_ 22 62 (by kernel_rfl) rfl
    have s63 := hf.eq_ 23 63 (by kernel_rfl) rfl
    have s64 := hf.eq_ 24 64 (by kernel_rfl) rfl
    have s0 := hf.eq_ 25 0 (by kernel_rfl) rfl
    have hx := hf.ext
    have e := hf.frame
    clear hf
    simp only [regFrame, Act.put, List.setIfInBounds_toArray, List.set_cons_zero, List.set_cons_succ, s40, s41, s42, s43, s44, s45, s46, s47, s48, s49, s50, s51, s52, s53, s54, s55, s56, s57, s58, s59, s60, s61, s62, s63, s64, s0] at e
    clear s40 s41 s42 s43 s44 s45 s46 s47 s48 s49 s50 s51 s52 s53 s54 s55 s56 s57 s58 s59 s60 s61 s62 s63 s64 s0
    subst e
    go_wp2_with fail
    go_ret
    exact ⟨rfl, Ext.trans HX6.out hx⟩
end Go.Proofs.Ytamolgbdpnpemaa
