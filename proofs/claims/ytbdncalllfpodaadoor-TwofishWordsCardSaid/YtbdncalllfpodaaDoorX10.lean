/- Walks over the laws' own helpers; own lemmas of the verifier, no statement is proved here. -/
import Derived.Test.YtbdncalllfpodaaDoorX9
import Derived.Test.YtbdncalllfpodaaDoorX8
import Derived.Deep.OwnRows
namespace Go.Proofs.YtbdncalllfpodaaDoor
open Go.RowKit
/-- True is handed back, and nothing that was there has turned. -/
def RetTrue (w : World) (e : Ending) (w' : World) : Prop := e = .returned (.bool true) ∧ Ext w w'
/-- Bytes are handed back. -/
def RdRet (w : World) (n : Nat) (bs : List UInt8) (e : Ending) (w' : World) : Prop := ∃ A c, e = .returned (.slice A n c) ∧ n ≤ c ∧ Rd w' w'.heap.size A n bs ∧ Ext w w'
theorem rd_ret {w w' : World} {v : Value} {bs : List UInt8} {n : Nat} (h : Own w' w.heap.size v bs) (hx : Ext w w') (hl : bs.length = n) : RdRet w n bs (.returned v) w' := by
  obtain ⟨A, c, rfl, hc, hr, _⟩ := h.rdc hl
  exact ⟨A, c, rfl, hc, hr, hx⟩
theorem strq {w : World} {B n c : Nat} {A : Option Addr} {bs : List UInt8} (h : Rd w B A n bs) : (convert 22 9 (.slice A n c)).run Tryd.prog w = .ok (.string (str bs)) w :=
  run_str (P := Tryd.prog) w 22 9 (by kernel_rfl) (by kernel_rfl) (by kernel_rfl) _ _ _ c _ h
/-- Byte number i of what Bytes makes. -/
def fillF (bs : List UInt8) (i : Nat) : UInt8 := if i < bs.length then bs.getD i 0 else UInt8.ofNat (i * 37 % 256)
def byL (n : Nat) (bs : List UInt8) : List UInt8 := (List.range n).map (fillF bs)
theorem byL_len (n : Nat) (bs : List UInt8) : (byL n bs).length = n := by simp [byL]
theorem by_start (bs : List UInt8) (n L : Nat) (hL : bs.length = L) : splice (List.replicate n (Value.int .u8 0)) 0 (cellsOf (bs.take n)) = cellsOf (fillTo (fillF bs) n L) := by
  apply List.ext_getElem?
  intro i
  unfold splice
  rw [List.take_zero, List.nil_append, Nat.zero_add, cellsOf_length]
  rcases Nat.lt_or_ge i n with hi | hi
  · rw [cellsOf_get _ _ (by rw [fillTo_length]; exact hi)]
    have e : byteAt (fillTo (fillF bs) n L) i = ((if i < L then fillF bs i else 0).toNat : Int) := by simp [byteAt, fillTo, List.getD, hi]
    rw [e]
    rcases Nat.lt_or_ge i L with h | h
    · rw [List.getElem?_append_left (by rw [cellsOf_length, List.length_take]; omega), cellsOf_get _ _ (by rw [List.length_take]; omega), if_pos h]
      unfold fillF
      rw [if_pos (by omega)]
      simp [byteAt, List.getD, hi]
    · rw [List.getElem?_append_right (by rw [cellsOf_length, List.length_take]; omega), List.getElem?_drop, List.getElem?_replicate, cellsOf_length, List.length_take, if_pos (by omega), if_neg (by omega)]
      rfl
  · rw [List.getElem?_eq_none (by simp [cellsOf]; omega), List.getElem?_eq_none (by simp [cellsOf, fillTo]; omega)]
theorem own_of_heap {w : World} {base G n : Nat} {bs : List UInt8} {e : TypeId} (he : e = 5) (h : w.heap[G]? = some (.cells (cellsOf bs).toArray e (0, 0))) (hn : bs.length = n) (hb : base ≤ G) (hm : n ≤ maxLen) : Own w base (.slice (some ⟨G, 0, none⟩) n n) bs := by
  subst he
  refine ⟨by rw [cellsOf_length, Nat.mul_one], .inr ⟨G, n, _, by rw [hn], hb, h, by omega, hm, by simp [cellsOf, hn], ?_⟩⟩
  rw [List.toList_toArray, List.take_of_length_le (by rw [cellsOf_length]; omega)]
theorem copy_facts {w w1 : World} {A : Option Addr} {n L : Nat} {bs : List UInt8} (h : Rd w w.heap.size A L bs) (hown1 : Own w1 w.heap.size (.slice (some ⟨w.heap.size, 0, none⟩) n n) (List.replicate n 0)) (hb1 : Below w.heap.size w w1) :
    w1.heap[w.heap.size]? = some (.cells (List.replicate n (Value.int .u8 0)).toArray 5 (0, 0)) ∧ (cellsOf (bs.take n)).length = Nat.min L n ∧
    (0 < (cellsOf (bs.take n)).length → ∃ ad, A = some ad ∧ ∀ j v, (cellsOf (bs.take n))[j]? = some v → w1.cell? (ad.add j) = some v) ∧ 0 + (cellsOf (bs.take n)).length ≤ (List.replicate n (Value.int .u8 0)).length := by
  have hl := h.len
  have hr1 := h.later (show Ext w w1 from hb1)
  have hcl : (cellsOf (bs.take n)).length = Nat.min L n := by rw [cellsOf_length, List.length_take, hl]; exact Nat.min_comm _ _
  refine ⟨?_, hcl, ?_, by rw [hcl, List.length_replicate, Nat.zero_add]; exact Nat.min_le_right _ _⟩
  · rcases hown1.2 with ⟨h1, _⟩ | ⟨g, cap, cur, e1, _, hh, _, _, hcs, htake⟩
    · cases h1
    · simp only [Value.slice.injEq, Option.some.injEq, Addr.mk.injEq, and_true] at e1
      obtain ⟨e0, e2, e3⟩ := e1
      rw [e0, hh]
      have : cur = (List.replicate n (Value.int .u8 0)).toArray := by
        apply Array.ext'
        rw [List.toList_toArray]
        have e5 : cur.toList.take n = cur.toList := List.take_of_length_le (by simp; omega)
        have e4 : cellsOf (List.replicate n 0) = List.replicate n (Value.int .u8 0) := by simp [cellsOf]
        rw [← e5, ← e4, ← htake]
        simp
      rw [this]
  · intro h0
    have h0' : 0 < L := by
      rw [cellsOf_length, List.length_take] at h0; omega
    obtain ⟨b, off, rfl, _, hc⟩ := hr1.at_ h0'
    refine ⟨_, rfl, fun j v hv => ?_⟩
    have hj : j < (bs.take n).length := by
      rcases Nat.lt_or_ge j (bs.take n).length with hj | hj
      · exact hj
      · rw [List.getElem?_eq_none (by rw [cellsOf_length]; omega)] at hv; cases hv
    rw [cellsOf_get _ j hj] at hv
    cases hv
    have hj2 : j < n ∧ j < L := by rw [List.length_take] at hj; omega
    rw [add_off, hc j hj2.2]
    simp [byteAt, List.getD, hj2.1]
set_option maxHeartbeats 4000000 in
theorem by_any (A : Option Addr) (n L c : Nat) (bs : List UInt8) (w : World) (h : Rd w w.heap.size A L bs) (hn : n ≤ 1000) (_hL : L ≤ 9223372036854775807) :
    Calls Tryd.prog 19 #[.int .i64 n, .slice A L c] w (RetB w (byL n bs)) := by
  have hl := h.len
  have HSP := hid (by_start bs n L hl)
  have HR := hid h
  clear h
  go_enter Tryd.func19, Tryd.ntmps19
  go_wp2_with (first
    | (at_make; refine wpL_make rfl (.tmp 7) (.tmp 7) 22 rfl Tryd.underlying22 Tryd.info5 .i64 n n rfl rfl rfl (by omega) w.heap.size (Nat.le_refl _) ?_; intro w1 hown1 hb1 _; have HF := hid (copy_facts HR.out hown1 hb1); have HB1 := hid hb1; clear hown1 hb1)
    | (with_reducible refine wpList_copy_splice rfl (.tmp 9) (.tmp 10) 22 22 rfl 5 Tryd.underlying22 (by kernel_rfl) (some ⟨w.heap.size, 0, none⟩) A n n L c rfl rfl w.heap.size 0 (List.replicate n (.int .u8 0)) 5 HF.out.1 (cellsOf (bs.take n)) HF.out.2.1 (fun h0 => ⟨rfl, HF.out.2.2.1 h0⟩) HF.out.2.2.2 (cellsOf_one _) w.heap.size w HB1.out (Nat.le_refl _) ?_; intro w2 hz2 hb2))
  rw [HSP.out] at hz2
  have HO2 := hid (own_of_heap rfl hz2.out (fillTo_length _ _ _) (Nat.le_refl w.heap.size) (by unfold maxLen; omega))
  have HB2 := hid hb2
  obtain ⟨G, hG⟩ : ∃ G, w.heap.size = G := ⟨_, rfl⟩
  have HO2 := hid (show Own w2 w.heap.size (.slice (some ⟨G, 0, none⟩) n n) (fillTo (fillF bs) n L) by rw [← hG]; exact HO2.out)
  rw [hG]
  have HG := hid hG
  clear hz2 hb2 HF HB1 HSP hG
  go_loopw [6] (fun i wr => ∃ k : Nat, L ≤ k ∧ (k ≤ n ∨ k = L) ∧ i = .int .i64 k ∧ Own wr w.heap.size (.slice (some ⟨G, 0, none⟩) n n) (fillTo (fillF bs) n k) ∧ Below w.heap.size w wr) (fun i _ => n - (intOf i).toNat)
  case atStart => exact ⟨L, Nat.le_refl _, .inr rfl, rfl, HO2.out, HB2.out⟩
  case round =>
    clear HO2 HB2
    obtain ⟨k, hk1, hk2, rfl, hown, hb⟩ := hrel
    by_cases hlt : k < n
    · have hset := hown
      obtain ⟨cur, hcur⟩ : ∃ cur, fillTo (fillF bs) n k = cur := ⟨_, rfl⟩
      have hcl : cur.length = n := by rw [← hcur]; exact fillTo_length _ _ _
      rw [hcur] at hown
      have hown0 : Own wr w.heap.size (.slice (some ⟨G, 0, none⟩) cur.length n) cur := by rw [hcl]; exact hown
      have hcell := hown0.cell k (by omega)
      have hfree := hown0.free k
      have hset := hown0.set_ k (fillF bs k)
      rw [← hcur, fillTo_set _ _ _ _ rfl, fillTo_length] at hset
      have hv : ((fillF bs k).toNat : Int) = (k : Int) * 37 % 256 := by
        unfold fillF
        rw [if_neg (by omega), UInt8.toNat_ofNat']
        omega
      rw [hv] at hset
      have HH := hid hset
      have HB := hid hb
      clear hset hv hown0 hown hb hcl hcur
      go_wp2_with fail
      go_roundw
      case rel => exact ⟨k + 1, by omega, .inl (by omega), by go_num, HH.out, HB.out.setCell (by have := HG.out; simp; omega) _⟩
      case measure => simp [intOf]; omega
    · have e : fillTo (fillF bs) n k = byL n bs := by
        unfold byL
        rw [← fillTo_full]
        apply List.ext_getElem
        · simp [fillTo]
        · intro i h1 h2
          have : i < n := by simpa [fillTo] using h1
          simp only [fillTo, List.getElem_map, List.getElem_range]
          rw [if_pos (by omega), if_pos this]
      rw [e] at hown
      have HH := hid (And.intro hown hb)
      clear hown hb e
      go_wp2_with fail
      go_ret
      exact ⟨_, rfl, HH.out.1, HH.out.2⟩
theorem by_rd (A : Option Addr) (n L c : Nat) (bs : List UInt8) (w : World) (h : Rd w w.heap.size A L bs) (hn : n ≤ 1000) (hL : L ≤ 9223372036854775807) :
    Calls Tryd.prog 19 #[.int .i64 n, .slice A L c] w (RdRet w n (byL n bs)) := by
  refine (by_any A n L c bs w h hn hL).mono ?_
  rintro e w' ⟨v, rfl, ho, hb⟩
  exact rd_ret ho hb (byL_len _ _)
theorem str_toList (bs : List UInt8) : (str bs).toList = bs := by
  unfold str
  apply List.ext_getElem
  · simp
  · intro i h1 h2; simp
theorem str_ne {xs ys : List UInt8} (h : xs ≠ ys) : ¬ (str xs).toList = (str ys).toList := by
  rw [str_toList, str_toList]; exact h
/-- Which of the three stands at a place. -/
theorem Own.rdm {w : World} {base n : Nat} {v : Value} {bs : List UInt8} (h : Own w base v bs) (hn : bs.length = n) : ∃ A c, v = .slice A n c ∧ n ≤ c ∧ c ≤ 9223372036854775807 ∧ Rd w w.heap.size A n bs := by
  obtain ⟨A, c, rfl, hr, _⟩ := h.rdn hn
  have hl := hr.len
  rcases h.2 with ⟨h1, h2⟩ | ⟨g, cap, cur, h1, _, _, h4, h5, _⟩
  · simp only [Value.slice.injEq] at h1
    obtain ⟨_, h3, h4⟩ := h1
    exact ⟨A, c, rfl, by omega, by omega, hr⟩
  · simp only [Value.slice.injEq] at h1
    obtain ⟨_, h6, h7⟩ := h1
    refine ⟨A, c, rfl, by omega, ?_, hr⟩
    unfold maxLen at h5
    omega
theorem made_run (n : Nat) (w : World) (hn : n ≤ 1000) : (Instr.makeSlice 22 (.int .i64 (n : Int)) (.int .i64 (n : Int))).run Tryd.prog w = .ok (.slice (some ⟨w.heap.size, 0, none⟩) n n) (w.alloc (.cells (madeCells #[Value.int .u8 0] n) 5)) := by
  obtain ⟨i0, hi0, hz0, hz1, hz2⟩ := info_parts Tryd.info5
  exact run_make_row 22 5 i0 (.int .u8 0) Tryd.underlying22 hi0 hz0 hz1 rfl .i64 .i64 n (by rw [hz2]; omega) (by omega) w
theorem made_own (n : Nat) (w : World) (hn : n ≤ 1000) : Own (w.alloc (.cells (madeCells #[Value.int .u8 0] n) 5)) w.heap.size (.slice (some ⟨w.heap.size, 0, none⟩) n n) (List.replicate n 0) := by
  have e : (madeCells #[Value.int .u8 0] n).toList = cellsOf (List.replicate n 0) := cells_zero n
  exact Own.lit w (List.replicate n 0) (madeCells #[Value.int .u8 0] n) n w.heap.size e (by simp) (by unfold maxLen; omega) (Nat.le_refl _)
/-- How long a key the law takes. -/
def kLen (n : Int) : Nat := if n % 3 = 0 then 16 else if n % 3 = 1 then 24 else 32
theorem kLen_ok (n : Int) : kLen n = 16 ∨ kLen n = 24 ∨ kLen n = 32 := by unfold kLen; split <;> (try split) <;> simp
set_option maxHeartbeats 1000000 in
theorem key_any (A : Option Addr) (L c : Nat) (n : Int) (bs : List UInt8) (w : World) (h : Rd w w.heap.size A L bs) (hL : L ≤ 9223372036854775807) :
    Calls Tryd.prog 10 #[.slice A L c, .int .i64 n] w (RdRet w (kLen n) (byL (kLen n) bs)) := by
  have hx1 : Ext w (w.alloc (.cells #[.int .i64 16, .int .i64 24, .int .i64 32] 3)) := Ext.alloc _ _
  have HX1 := hid hx1
  have HR1 := hid (h.later hx1)
  have hcell : ∀ i, i < 3 → (w.alloc (.cells #[.int .i64 16, .int .i64 24, .int .i64 32] 3)).cell? ⟨w.heap.size, i, none⟩ = some (.int .i64 ((([16, 24, 32] : List Int).getD i 0))) := fun i hi => by
    rw [cell_of_row _ _ _ _ _ _ (heap_alloc_new w _)]
    match i, hi with
    | 0, _ => rfl
    | 1, _ => rfl
    | 2, _ => rfl
  obtain ⟨q, hq⟩ : ∃ q : Nat, n % 3 = q := ⟨(n % 3).toNat, by omega⟩
  have hq3 : q < 3 := by omega
  have hcq := hcell q hq3
  have hk : ((kLen n : Nat) : Int) = ([16, 24, 32] : List Int).getD q 0 := by
    unfold kLen
    match q, hq3, hq with
    | 0, _, hq => rw [if_pos (by omega)]; rfl
    | 1, _, hq => rw [if_neg (by omega), if_pos (by omega)]; rfl
    | 2, _, hq => rw [if_neg (by omega), if_neg (by omega)]; rfl
  rw [← hk] at hcq
  have hk1000 : kLen n ≤ 1000 := by rcases kLen_ok n with e | e | e <;> omega
  obtain ⟨m, hm⟩ : ∃ m, kLen n = m := ⟨_, rfl⟩
  rw [hm] at hcq hk1000 ⊢
  have HQ := hid hq
  clear hcell hk hm hx1 h hq
  go_enter Tryd.func10, Tryd.ntmps10
  go_wp2_with (go_at_call 13; refine (within_any _ _ _ (by omega) (by omega)).mono ?_; rintro e w' ⟨rfl, rfl⟩; rw [HQ.out])
  refine (by_rd _ _ _ _ _ _ HR1.out hk1000 hL).mono ?_
  rintro e w2 ⟨A2, c2, rfl, hc2, hr2, hx2⟩
  have HH := hid (And.intro hr2 (Ext.trans HX1.out hx2))
  clear hr2 hx2
  go_wp2_with fail
  go_ret
  exact ⟨A2, c2, rfl, hc2, HH.out.1, HH.out.2⟩
set_option maxHeartbeats 1000000 in
/-- Two rows of words: are they the same? -/
theorem alike_any (A1 A2 : Option Addr) (n1 n2 c1 c2 : Nat) (xs ys : List UInt32) (w : World) (h1 : RdN .u32 w w.heap.size A1 n1 (nW xs)) (h2 : RdN .u32 w w.heap.size A2 n2 (nW ys)) (e : xs = ys) (hn : n1 ≤ 1000) :
    Calls Tryd.prog 12 #[.slice A1 n1 c1, .slice A2 n2 c2] w (RetTrue w) := by
  subst e
  have l1 := h1.len
  have l2 := h2.len
  rw [nW_length] at l1 l2
  obtain rfl : n1 = n2 := by omega
  go_enter Tryd.func12, Tryd.ntmps12
  go_wp2_with fail
  go_loopw [5] (fun i wr => ∃ k : Nat, k ≤ n1 ∧ i = .int .i64 k ∧ ∃ nd, wr = w.drewN nd) (fun i _ => n1 - (intOf i).toNat)
  case atStart => exact ⟨0, by omega, rfl, 0, rfl⟩
  case round =>
    obtain ⟨k, hk, rfl, nd, hnd⟩ := hrel
    by_cases hlt : k < n1
    · obtain ⟨b1, o1, rfl, _, hc1⟩ := h1.at_ (by omega)
      obtain ⟨b2, o2, rfl, _, hc2⟩ := h2.at_ (by omega)
      have k1 : wr.cell? ⟨b1, o1 + k, none⟩ = some (.int .u32 ((xs.getD k 0).toNat : Nat)) := by rw [hnd]; exact (hc1 k hlt).trans (by rw [nW_get xs k (by omega)])
      have k2 : wr.cell? ⟨b2, o2 + k, none⟩ = some (.int .u32 ((xs.getD k 0).toNat : Nat)) := by rw [hnd]; exact (hc2 k hlt).trans (by rw [nW_get xs k (by omega)])
      obtain ⟨y, hy⟩ : ∃ y, xs.getD k 0 = y := ⟨_, rfl⟩
      rw [hy] at k1 k2
      have HN := hid hnd
      clear h1 h2 hc1 hc2 hnd hy
      go_wp2_with fail
      go_quiet (fail)
      go_wp2_with fail
      go_roundw
      case rel => exact ⟨k + 1, by omega, by go_num, nd + nq, by rw [HN.out]; exact drewN_add w nd nq⟩
      case measure => simp [intOf]; omega
    · have HX := hid (show Ext w wr by rw [hnd]; exact (Ext.refl w).drewN nd)
      clear hnd h1 h2
      go_wp2_with fail
      go_ret
      exact ⟨rfl, HX.out⟩
end Go.Proofs.YtbdncalllfpodaaDoor
