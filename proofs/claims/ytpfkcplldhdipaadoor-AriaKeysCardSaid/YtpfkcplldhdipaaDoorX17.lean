/- Walks over Block of the program and the law's own helpers; own lemmas of the verifier, no statement is proved here. -/
import Derived.Test.YtpfkcplldhdipaaDoorX16
import Derived.Deep.OwnRows
namespace Go.Proofs.YtpfkcplldhdipaaDoor
open Go.RowKit
/-- Bytes that are told, and no refusal. -/
def BRet (w : World) (bs : List UInt8) (e : Ending) (w' : World) : Prop := ∃ A c, e = .returned (.tuple #[.slice A 16 c, .int .i64 0]) ∧ 16 ≤ c ∧ Rd w' w'.heap.size A 16 bs ∧ Ext w w'
theorem undoF_length {f : Nat → List UInt8} (hf : ∀ j, (f j).length = 16) (r i : Nat) : (undoF f r i).length = 16 := by
  unfold undoF
  split
  · exact mixL_length _
  · exact hf _
set_option maxRecDepth 100000 in
set_option maxHeartbeats 4000000 in
theorem block_false (d : Nat) (A : Option Addr) (c : Nat) (key bs : List UInt8) (w : World) (hd : IsAria w d key) (h : Rd w w.heap.size A 16 bs) (hk : okLen key.length) (hs : Sev w) :
    Calls Tryd.prog 21 #[.pointer (some ⟨d, 0, none⟩), .slice A 16 c, .bool false] w (BRet w (passL (keyF key) (keyN key - 1) bs)) := by
  have hks := hd.there
  obtain ⟨ff, hff⟩ : ∃ ff, keyF key = ff := ⟨_, rfl⟩
  have hfl : ∀ j, (ff j).length = 16 := fun j => by rw [← hff]; exact keyF_length key j
  rw [hff] at hks ⊢
  obtain ⟨r, hr⟩ : ∃ r, keyN key - 1 = r := ⟨_, rfl⟩
  have hr1 : keyN key = r + 1 ∧ 0 < r ∧ r ≤ 16 := by unfold keyN at hr ⊢; unfold okLen at hk; omega
  have hrd := hd.rounds
  rw [hr] at hrd
  rw [hr1.1] at hks
  obtain ⟨b, o, rfl, _, _⟩ := h.at_ (by omega)
  have HC := hid (pass_any d 1025 r bs ff w h.len hd.tb hrd hks (fun j _ => hfl j) hr1.2.1 hr1.2.2 hs)
  rw [hr]
  have HR := hid (rangeAt_of_rd h)
  have HSZ := hid (size55' h.len)
  have HZM := hid (size55' (passL_length ff r bs))
  obtain ⟨X, hX⟩ : ∃ X, passL ff r bs = X := ⟨_, rfl⟩
  have hXl : X.length = 16 := by rw [← hX]; exact passL_length _ _ _
  rw [hX] at HC HZM ⊢
  have HXL := hid hXl
  clear hd h hk hs hr hr1 hrd hks hX hXl hff hfl
  go_enter Tryd.func21, Tryd.ntmps21
  go_wp2_with (first
    | (refine wpList_atp rfl 55 5 16 (.tmp 21) rfl (some ⟨b, o, none⟩) 16 c rfl Tryd.underlying55 (Nat.le_refl _) ?_)
    | (refine wpList_ld rfl 55 (.tmp 22) rfl b o rfl bs HR.out Tryd.underlying55 HSZ.out ?_))
  refine HC.out.mono ?_
  rintro e w1 ⟨rfl, hx1⟩
  have h2 := RW.new w1 55 z16
  have x2 := Ext.alloc w1 (.cells (cellsOf z16).toArray 55)
  obtain ⟨W2, hW2⟩ : ∃ W2, w1.alloc (.cells (cellsOf z16).toArray 55) = W2 := ⟨_, rfl⟩
  rw [hW2] at h2 x2
  obtain ⟨T, hT⟩ : ∃ T, w1.heap.size = T := ⟨_, rfl⟩
  rw [hT] at h2
  have h3 := h2.store0 X (by rw [HXL.out, z16_length])
  have hx3 := below_setCells (B := w.heap.size) (b := T) (a := w) (by have := hx1.size; omega) (cellsOf X) 0 W2 (hx1.trans x2)
  have HTH := hid (show W2.there T 0 X.length by rw [HXL.out]; have := h2.wr; rw [z16_length] at this; exact this)
  obtain ⟨W3, hW3⟩ : ∃ W3, W2.setCells T 0 (cellsOf X) = W3 := ⟨_, rfl⟩
  rw [hW3] at h3 hx3
  have HF := hid (And.intro (h3.slice HXL.out (h3.lt (by rw [HXL.out]; omega))) hx3)
  have HW := hid (And.intro hW2 (And.intro hT hW3))
  clear hx1 h2 x2 hW2 hT h3 hx3 hW3 HC
  go_wp2_with (first
    | (rw [← cells_z16, HW.out.1, HW.out.2.1]; refine wpList_st rfl 55 (.tmp 9) (.tmp 25) rfl T 0 X rfl rfl HTH.out HZM.out ?_; rw [HW.out.2.2]; clear HW HTH))
  go_ret2
  exact ⟨_, _, rfl, Nat.le_refl _, HF.out⟩
set_option maxRecDepth 100000 in
set_option maxHeartbeats 4000000 in
theorem block_true (d : Nat) (A : Option Addr) (c : Nat) (key bs : List UInt8) (w : World) (hd : IsAria w d key) (h : Rd w w.heap.size A 16 bs) (hk : okLen key.length) (hs : Sev w) :
    Calls Tryd.prog 21 #[.pointer (some ⟨d, 0, none⟩), .slice A 16 c, .bool true] w (BRet w (passL (undoF (keyF key) (keyN key - 1)) (keyN key - 1) bs)) := by
  have hks := hd.back
  obtain ⟨ff, hff⟩ : ∃ ff, undoF (keyF key) (keyN key - 1) = ff := ⟨_, rfl⟩
  have hfl : ∀ j, (ff j).length = 16 := fun j => by rw [← hff]; exact undoF_length (keyF_length key) _ _
  rw [hff] at hks ⊢
  obtain ⟨r, hr⟩ : ∃ r, keyN key - 1 = r := ⟨_, rfl⟩
  have hr1 : keyN key = r + 1 ∧ 0 < r ∧ r ≤ 16 := by unfold keyN at hr ⊢; unfold okLen at hk; omega
  have hrd := hd.rounds
  rw [hr] at hrd
  rw [hr1.1] at hks
  obtain ⟨b, o, rfl, _, _⟩ := h.at_ (by omega)
  have HC := hid (pass_any d 1297 r bs ff w h.len hd.tb hrd hks (fun j _ => hfl j) hr1.2.1 hr1.2.2 hs)
  rw [hr]
  have HR := hid (rangeAt_of_rd h)
  have HSZ := hid (size55' h.len)
  have HZM := hid (size55' (passL_length ff r bs))
  obtain ⟨X, hX⟩ : ∃ X, passL ff r bs = X := ⟨_, rfl⟩
  have hXl : X.length = 16 := by rw [← hX]; exact passL_length _ _ _
  rw [hX] at HC HZM ⊢
  have HXL := hid hXl
  clear hd h hk hs hr hr1 hrd hks hX hXl hff hfl
  go_enter Tryd.func21, Tryd.ntmps21
  go_wp2_with (first
    | (refine wpList_atp rfl 55 5 16 (.tmp 21) rfl (some ⟨b, o, none⟩) 16 c rfl Tryd.underlying55 (Nat.le_refl _) ?_)
    | (refine wpList_ld rfl 55 (.tmp 22) rfl b o rfl bs HR.out Tryd.underlying55 HSZ.out ?_))
  refine HC.out.mono ?_
  rintro e w1 ⟨rfl, hx1⟩
  have h2 := RW.new w1 55 z16
  have x2 := Ext.alloc w1 (.cells (cellsOf z16).toArray 55)
  obtain ⟨W2, hW2⟩ : ∃ W2, w1.alloc (.cells (cellsOf z16).toArray 55) = W2 := ⟨_, rfl⟩
  rw [hW2] at h2 x2
  obtain ⟨T, hT⟩ : ∃ T, w1.heap.size = T := ⟨_, rfl⟩
  rw [hT] at h2
  have h3 := h2.store0 X (by rw [HXL.out, z16_length])
  have hx3 := below_setCells (B := w.heap.size) (b := T) (a := w) (by have := hx1.size; omega) (cellsOf X) 0 W2 (hx1.trans x2)
  have HTH := hid (show W2.there T 0 X.length by rw [HXL.out]; have := h2.wr; rw [z16_length] at this; exact this)
  obtain ⟨W3, hW3⟩ : ∃ W3, W2.setCells T 0 (cellsOf X) = W3 := ⟨_, rfl⟩
  rw [hW3] at h3 hx3
  have HF := hid (And.intro (h3.slice HXL.out (h3.lt (by rw [HXL.out]; omega))) hx3)
  have HW := hid (And.intro hW2 (And.intro hT hW3))
  clear hx1 h2 x2 hW2 hT h3 hx3 hW3 HC
  go_wp2_with (first
    | (rw [← cells_z16, HW.out.1, HW.out.2.1]; refine wpList_st rfl 55 (.tmp 9) (.tmp 25) rfl T 0 X rfl rfl HTH.out HZM.out ?_; rw [HW.out.2.2]; clear HW HTH))
  go_ret2
  exact ⟨_, _, rfl, Nat.le_refl _, HF.out⟩
/-- True is handed back, and nothing that was there has turned. -/
def RetTrue (w : World) (e : Ending) (w' : World) : Prop := e = .returned (.bool true) ∧ Ext w w'
/-- Bytes are handed back. -/
def RdRet (w : World) (n : Nat) (bs : List UInt8) (e : Ending) (w' : World) : Prop := ∃ A c, e = .returned (.slice A n c) ∧ n ≤ c ∧ Rd w' w'.heap.size A n bs ∧ Ext w w'
theorem rd_ret {w w' : World} {v : Value} {bs : List UInt8} {n : Nat} (h : Own w' w.heap.size v bs) (hx : Ext w w') (hl : bs.length = n) : RdRet w n bs (.returned v) w' := by
  obtain ⟨A, c, rfl, hc, hr, _⟩ := h.rdc hl
  exact ⟨A, c, rfl, hc, hr, hx⟩
theorem strq {w : World} {B n c : Nat} {A : Option Addr} {bs : List UInt8} (h : Rd w B A n bs) : (convert 22 9 (.slice A n c)).run Tryd.prog w = .ok (.string (str bs)) w :=
  run_str (P := Tryd.prog) w 22 9 (by kernel_rfl) (by kernel_rfl) (by kernel_rfl) _ _ _ c _ h
/-- Byte number i of what Bytes makes. -/
def fillF (bs : List UInt8) (i : Nat) : UInt8 := if i < bs.length then bs.getD i 0 else UInt8.ofNat (i * 37 % 256)
def byL (n : Nat) (bs : List UInt8) : List UInt8 := (List.range n).map (fillF bs)
theorem byL_len (n : Nat) (bs : List UInt8) : (byL n bs).length = n := by simp [byL]
theorem by_start (bs : List UInt8) (n L : Nat) (hL : bs.length = L) : splice (List.replicate n (Value.int .u8 0)) 0 (cellsOf (bs.take n)) = cellsOf (fillTo (fillF bs) n L) := by
  apply List.ext_getElem?
  intro i
  unfold splice
  rw [List.take_zero, List.nil_append, Nat.zero_add, cellsOf_length]
  rcases Nat.lt_or_ge i n with hi | hi
  · rw [cellsOf_get _ _ (by rw [fillTo_length]; exact hi)]
    have e : byteAt (fillTo (fillF bs) n L) i = ((if i < L then fillF bs i else 0).toNat : Int) := by simp [byteAt, fillTo, List.getD, hi]
    rw [e]
    rcases Nat.lt_or_ge i L with h | h
    · rw [List.getElem?_append_left (by rw [cellsOf_length, List.length_take]; omega), cellsOf_get _ _ (by rw [List.length_take]; omega), if_pos h]
      unfold fillF
      rw [if_pos (by omega)]
      simp [byteAt, List.getD, hi]
    · rw [List.getElem?_append_right (by rw [cellsOf_length, List.length_take]; omega), List.getElem?_drop, List.getElem?_replicate, cellsOf_length, List.length_take, if_pos (by omega), if_neg (by omega)]
      rfl
  · rw [List.getElem?_eq_none (by simp [cellsOf]; omega), List.getElem?_eq_none (by simp [cellsOf, fillTo]; omega)]
theorem own_of_heap {w : World} {base G n : Nat} {bs : List UInt8} {e : TypeId} (he : e = 5) (h : w.heap[G]? = some (.cells (cellsOf bs).toArray e (0, 0))) (hn : bs.length = n) (hb : base ≤ G) (hm : n ≤ maxLen) : Own w base (.slice (some ⟨G, 0, none⟩) n n) bs := by
  subst he
  refine ⟨by rw [cellsOf_length, Nat.mul_one], .inr ⟨G, n, _, by rw [hn], hb, h, by omega, hm, by simp [cellsOf, hn], ?_⟩⟩
  rw [List.toList_toArray, List.take_of_length_le (by rw [cellsOf_length]; omega)]
theorem copy_facts {w w1 : World} {A : Option Addr} {n L : Nat} {bs : List UInt8} (h : Rd w w.heap.size A L bs) (hown1 : Own w1 w.heap.size (.slice (some ⟨w.heap.size, 0, none⟩) n n) (List.replicate n 0)) (hb1 : Below w.heap.size w w1) :
    w1.heap[w.heap.size]? = some (.cells (List.replicate n (Value.int .u8 0)).toArray 5 (0, 0)) ∧ (cellsOf (bs.take n)).length = Nat.min L n ∧
    (0 < (cellsOf (bs.take n)).length → ∃ ad, A = some ad ∧ ∀ j v, (cellsOf (bs.take n))[j]? = some v → w1.cell? (ad.add j) = some v) ∧ 0 + (cellsOf (bs.take n)).length ≤ (List.replicate n (Value.int .u8 0)).length := by
  have hl := h.len
  have hr1 := h.later (show Ext w w1 from hb1)
  have hcl : (cellsOf (bs.take n)).length = Nat.min L n := by rw [cellsOf_length, List.length_take, hl]; exact Nat.min_comm _ _
  refine ⟨?_, hcl, ?_, by rw [hcl, List.length_replicate, Nat.zero_add]; exact Nat.min_le_right _ _⟩
  · rcases hown1.2 with ⟨h1, _⟩ | ⟨g, cap, cur, e1, _, hh, _, _, hcs, htake⟩
    · cases h1
    · simp only [Value.slice.injEq, Option.some.injEq, Addr.mk.injEq, and_true] at e1
      obtain ⟨e0, e2, e3⟩ := e1
      rw [e0, hh]
      have : cur = (List.replicate n (Value.int .u8 0)).toArray := by
        apply Array.ext'
        rw [List.toList_toArray]
        have e5 : cur.toList.take n = cur.toList := List.take_of_length_le (by simp; omega)
        have e4 : cellsOf (List.replicate n 0) = List.replicate n (Value.int .u8 0) := by simp [cellsOf]
        rw [← e5, ← e4, ← htake]
        simp
      rw [this]
  · intro h0
    have h0' : 0 < L := by
      rw [cellsOf_length, List.length_take] at h0; omega
    obtain ⟨b, off, rfl, _, hc⟩ := hr1.at_ h0'
    refine ⟨_, rfl, fun j v hv => ?_⟩
    have hj : j < (bs.take n).length := by
      rcases Nat.lt_or_ge j (bs.take n).length with hj | hj
      · exact hj
      · rw [List.getElem?_eq_none (by rw [cellsOf_length]; omega)] at hv; cases hv
    rw [cellsOf_get _ j hj] at hv
    cases hv
    have hj2 : j < n ∧ j < L := by rw [List.length_take] at hj; omega
    rw [add_off, hc j hj2.2]
    simp [byteAt, List.getD, hj2.1]
set_option maxHeartbeats 4000000 in
theorem by_any (A : Option Addr) (n L c : Nat) (bs : List UInt8) (w : World) (h : Rd w w.heap.size A L bs) (hn : n ≤ 1000) (_hL : L ≤ 9223372036854775807) :
    Calls Tryd.prog 13 #[.int .i64 n, .slice A L c] w (RetB w (byL n bs)) := by
  have hl := h.len
  have HSP := hid (by_start bs n L hl)
  have HR := hid h
  clear h
  go_enter Tryd.func13, Tryd.ntmps13
  go_wp2_with (first
    | (at_make; refine wpL_make rfl (.tmp 7) (.tmp 7) 22 rfl Tryd.underlying22 Tryd.info5 .i64 n n rfl rfl rfl (by omega) w.heap.size (Nat.le_refl _) ?_; intro w1 hown1 hb1 _; have HF := hid (copy_facts HR.out hown1 hb1); have HB1 := hid hb1; clear hown1 hb1)
    | (with_reducible refine wpList_copy_splice rfl (.tmp 9) (.tmp 10) 22 22 rfl 5 Tryd.underlying22 (by kernel_rfl) (some ⟨w.heap.size, 0, none⟩) A n n L c rfl rfl w.heap.size 0 (List.replicate n (.int .u8 0)) 5 HF.out.1 (cellsOf (bs.take n)) HF.out.2.1 (fun h0 => ⟨rfl, HF.out.2.2.1 h0⟩) HF.out.2.2.2 (cellsOf_one _) w.heap.size w HB1.out (Nat.le_refl _) ?_; intro w2 hz2 hb2))
  rw [HSP.out] at hz2
  have HO2 := hid (own_of_heap rfl hz2.out (fillTo_length _ _ _) (Nat.le_refl w.heap.size) (by unfold maxLen; omega))
  have HB2 := hid hb2
  obtain ⟨G, hG⟩ : ∃ G, w.heap.size = G := ⟨_, rfl⟩
  have HO2 := hid (show Own w2 w.heap.size (.slice (some ⟨G, 0, none⟩) n n) (fillTo (fillF bs) n L) by rw [← hG]; exact HO2.out)
  rw [hG]
  have HG := hid hG
  clear hz2 hb2 HF HB1 HSP hG
  go_loopw [6] (fun i wr => ∃ k : Nat, L ≤ k ∧ (k ≤ n ∨ k = L) ∧ i = .int .i64 k ∧ Own wr w.heap.size (.slice (some ⟨G, 0, none⟩) n n) (fillTo (fillF bs) n k) ∧ Below w.heap.size w wr) (fun i _ => n - (intOf i).toNat)
  case atStart => exact ⟨L, Nat.le_refl _, .inr rfl, rfl, HO2.out, HB2.out⟩
  case round =>
    clear HO2 HB2
    obtain ⟨k, hk1, hk2, rfl, hown, hb⟩ := hrel
    by_cases hlt : k < n
    · have hset := hown
      obtain ⟨cur, hcur⟩ : ∃ cur, fillTo (fillF bs) n k = cur := ⟨_, rfl⟩
      have hcl : cur.length = n := by rw [← hcur]; exact fillTo_length _ _ _
      rw [hcur] at hown
      have hown0 : Own wr w.heap.size (.slice (some ⟨G, 0, none⟩) cur.length n) cur := by rw [hcl]; exact hown
      have hcell := hown0.cell k (by omega)
      have hfree := hown0.free k
      have hset := hown0.set_ k (fillF bs k)
      rw [← hcur, fillTo_set _ _ _ _ rfl, fillTo_length] at hset
      have hv : ((fillF bs k).toNat : Int) = (k : Int) * 37 % 256 := by
        unfold fillF
        rw [if_neg (by omega), UInt8.toNat_ofNat']
        omega
      rw [hv] at hset
      have HH := hid hset
      have HB := hid hb
      clear hset hv hown0 hown hb hcl hcur
      go_wp2_with fail
      go_roundw
      case rel => exact ⟨k + 1, by omega, .inl (by omega), by go_num, HH.out, HB.out.setCell (by have := HG.out; simp; omega) _⟩
      case measure => simp [intOf]; omega
    · have e : fillTo (fillF bs) n k = byL n bs := by
        unfold byL
        rw [← fillTo_full]
        apply List.ext_getElem
        · simp [fillTo]
        · intro i h1 h2
          have : i < n := by simpa [fillTo] using h1
          simp only [fillTo, List.getElem_map, List.getElem_range]
          rw [if_pos (by omega), if_pos this]
      rw [e] at hown
      have HH := hid (And.intro hown hb)
      clear hown hb e
      go_wp2_with fail
      go_ret
      exact ⟨_, rfl, HH.out.1, HH.out.2⟩
theorem by_rd (A : Option Addr) (n L c : Nat) (bs : List UInt8) (w : World) (h : Rd w w.heap.size A L bs) (hn : n ≤ 1000) (hL : L ≤ 9223372036854775807) :
    Calls Tryd.prog 13 #[.int .i64 n, .slice A L c] w (RdRet w n (byL n bs)) := by
  refine (by_any A n L c bs w h hn hL).mono ?_
  rintro e w' ⟨v, rfl, ho, hb⟩
  exact rd_ret ho hb (byL_len _ _)
theorem str_toList (bs : List UInt8) : (str bs).toList = bs := by
  unfold str
  apply List.ext_getElem
  · simp
  · intro i h1 h2; simp
theorem str_ne {xs ys : List UInt8} (h : xs ≠ ys) : ¬ (str xs).toList = (str ys).toList := by
  rw [str_toList, str_toList]; exact h
/-- Which of the three stands at a place. -/
theorem Own.rdm {w : World} {base n : Nat} {v : Value} {bs : List UInt8} (h : Own w base v bs) (hn : bs.length = n) : ∃ A c, v = .slice A n c ∧ n ≤ c ∧ c ≤ 9223372036854775807 ∧ Rd w w.heap.size A n bs := by
  obtain ⟨A, c, rfl, hr, _⟩ := h.rdn hn
  have hl := hr.len
  rcases h.2 with ⟨h1, h2⟩ | ⟨g, cap, cur, h1, _, _, h4, h5, _⟩
  · simp only [Value.slice.injEq] at h1
    obtain ⟨_, h3, h4⟩ := h1
    exact ⟨A, c, rfl, by omega, by omega, hr⟩
  · simp only [Value.slice.injEq] at h1
    obtain ⟨_, h6, h7⟩ := h1
    refine ⟨A, c, rfl, by omega, ?_, hr⟩
    unfold maxLen at h5
    omega
theorem made_run (n : Nat) (w : World) (hn : n ≤ 1000) : (Instr.makeSlice 22 (.int .i64 (n : Int)) (.int .i64 (n : Int))).run Tryd.prog w = .ok (.slice (some ⟨w.heap.size, 0, none⟩) n n) (w.alloc (.cells (madeCells #[Value.int .u8 0] n) 5)) := by
  obtain ⟨i0, hi0, hz0, hz1, hz2⟩ := info_parts Tryd.info5
  exact run_make_row 22 5 i0 (.int .u8 0) Tryd.underlying22 hi0 hz0 hz1 rfl .i64 .i64 n (by rw [hz2]; omega) (by omega) w
theorem made_own (n : Nat) (w : World) (hn : n ≤ 1000) : Own (w.alloc (.cells (madeCells #[Value.int .u8 0] n) 5)) w.heap.size (.slice (some ⟨w.heap.size, 0, none⟩) n n) (List.replicate n 0) := by
  have e : (madeCells #[Value.int .u8 0] n).toList = cellsOf (List.replicate n 0) := cells_zero n
  exact Own.lit w (List.replicate n 0) (madeCells #[Value.int .u8 0] n) n w.heap.size e (by simp) (by unfold maxLen; omega) (Nat.le_refl _)
/-- How long a key the law takes. -/
def kLen (n : Int) : Nat := if n % 3 = 0 then 16 else if n % 3 = 1 then 24 else 32
theorem kLen_ok (n : Int) : kLen n = 16 ∨ kLen n = 24 ∨ kLen n = 32 := by unfold kLen; split <;> (try split) <;> simp
set_option maxHeartbeats 1000000 in
theorem key_any (A : Option Addr) (L c : Nat) (n : Int) (bs : List UInt8) (w : World) (h : Rd w w.heap.size A L bs) (hL : L ≤ 9223372036854775807) :
    Calls Tryd.prog 11 #[.slice A L c, .int .i64 n] w (RdRet w (kLen n) (byL (kLen n) bs)) := by
  have hx1 : Ext w (w.alloc (.cells #[.int .i64 16, .int .i64 24, .int .i64 32] 3)) := Ext.alloc _ _
  have HX1 := hid hx1
  have HR1 := hid (h.later hx1)
  have hcell : ∀ i, i < 3 → (w.alloc (.cells #[.int .i64 16, .int .i64 24, .int .i64 32] 3)).cell? ⟨w.heap.size, i, none⟩ = some (.int .i64 ((([16, 24, 32] : List Int).getD i 0))) := fun i hi => by
    rw [cell_of_row _ _ _ _ _ _ (heap_alloc_new w _)]
    match i, hi with
    | 0, _ => rfl
    | 1, _ => rfl
    | 2, _ => rfl
  obtain ⟨q, hq⟩ : ∃ q : Nat, n % 3 = q := ⟨(n % 3).toNat, by omega⟩
  have hq3 : q < 3 := by omega
  have hcq := hcell q hq3
  have hk : ((kLen n : Nat) : Int) = ([16, 24, 32] : List Int).getD q 0 := by
    unfold kLen
    match q, hq3, hq with
    | 0, _, hq => rw [if_pos (by omega)]; rfl
    | 1, _, hq => rw [if_neg (by omega), if_pos (by omega)]; rfl
    | 2, _, hq => rw [if_neg (by omega), if_neg (by omega)]; rfl
  rw [← hk] at hcq
  have hk1000 : kLen n ≤ 1000 := by rcases kLen_ok n with e | e | e <;> omega
  obtain ⟨m, hm⟩ : ∃ m, kLen n = m := ⟨_, rfl⟩
  rw [hm] at hcq hk1000 ⊢
  have HQ := hid hq
  clear hcell hk hm hx1 h hq
  go_enter Tryd.func11, Tryd.ntmps11
  go_wp2_with (go_at_call 18; refine (within_any _ _ _ (by omega) (by omega)).mono ?_; rintro e w' ⟨rfl, rfl⟩; rw [HQ.out])
  refine (by_rd _ _ _ _ _ _ HR1.out hk1000 hL).mono ?_
  rintro e w2 ⟨A2, c2, rfl, hc2, hr2, hx2⟩
  have HH := hid (And.intro hr2 (Ext.trans HX1.out hx2))
  clear hr2 hx2
  go_wp2_with fail
  go_ret
  exact ⟨A2, c2, rfl, hc2, HH.out.1, HH.out.2⟩
end Go.Proofs.YtpfkcplldhdipaaDoor
