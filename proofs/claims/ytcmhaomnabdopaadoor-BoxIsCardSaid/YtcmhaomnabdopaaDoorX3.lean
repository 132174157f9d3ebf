/- Walks over Back of the program and of the reference; own lemmas of the verifier, no statement is proved here. -/
import Derived.Test.YtcmhaomnabdopaaDoorX2
namespace Go.Proofs.YtcmhaomnabdopaaDoor
open Go.RowKit
theorem Tryd.info5 : (Tryd.prog.info? 5).map (fun i => (i.zero, i.size, i.bytes)) = some (some (.int .u8 0), 1, 1) := by kernel_rfl
/-- What Back tells. -/
noncomputable def outB (bs : List UInt8) : List UInt8 := if isB bs = true then backL bs else []
theorem outB_of {n : Nat} {bs : List UInt8} (h : IsT n bs) : outB bs = backL bs := by unfold outB; rw [if_pos (isB_of h)]
theorem outB_no {bs : List UInt8} (h : isB bs = false) : outB bs = [] := by unfold outB; rw [h]; rfl
def BackRet (w : World) (bs : List UInt8) (e : Ending) (w' : World) : Prop :=
  ∃ A c, e = .returned (.tuple #[.slice A (outB bs).length c, .bool (isB bs)]) ∧ Rd w' w'.heap.size A (outB bs).length (outB bs) ∧ Ext w w'
theorem BackRet.bad {w w' : World} {bs : List UInt8} (h : isB bs = false) (hx : Ext w w') : BackRet w bs (.returned (.tuple #[.slice none 0 0, .bool false])) w' := by
  unfold BackRet
  rw [outB_no h, h]
  exact ⟨_, _, rfl, Rd.nil _ _ _, hx⟩
theorem BackRet.good {w w' : World} {bs : List UInt8} {n base G : Nat} (h : IsT n bs) (hx : Ext w w') (ho : Own w' base (.slice (some ⟨G, 0, none⟩) n n) (backG bs n n)) :
    BackRet w bs (.returned (.tuple #[.slice (some ⟨G, 0, none⟩) n n, .bool true])) w' := by
  unfold BackRet
  have e : outB bs = backG bs n n := by rw [outB_of h]; unfold backL; rw [h.len]
  rw [isB_of h, e]
  obtain ⟨A, c, e1, hr, _⟩ := ho.rdn (n := n) (backG_length _ _ _)
  cases e1
  rw [backG_length]
  exact ⟨_, _, rfl, hr, hx⟩
theorem backG_step {w : World} {base G n k : Nat} {bs : List UInt8} (h : IsT n bs) (ho : Own w base (.slice (some ⟨G, 0, none⟩) n n) (backG bs n k)) (hk : k < n) :
    w.cell? ⟨G, nb bs k, none⟩ = some (.int .u8 (nb (backG bs n k) (nb bs k) : Nat)) ∧ w.frozen? ⟨G, nb bs k, none⟩ = false ∧
    Own (w.setCell ⟨G, nb bs k, none⟩ (.int .u8 (k : Nat))) base (.slice (some ⟨G, 0, none⟩) n n) (backG bs n (k + 1)) := by
  have hl := backG_length bs n k
  have hs := h.small
  have ho' : Own w base (.slice (some ⟨G, 0, none⟩) (backG bs n k).length n) (backG bs n k) := by rw [hl]; exact ho
  have hc := ho'.cell (nb bs k) (by rw [hl]; exact h.lt k hk)
  have hf := ho'.free (nb bs k)
  have hset := ho'.set_ (nb bs k) (UInt8.ofNat k)
  rw [u8_nat k (by omega), hl] at hset
  exact ⟨hc, hf, hset⟩
set_option maxRecDepth 100000 in
set_option maxHeartbeats 1000000 in
theorem back_any (A : Option Addr) (n c : Nat) (bs : List UInt8) (w : World) (h : Rd w w.heap.size A n bs) (hn : n ≤ 140737488355328) :
    Calls Tryd.prog 15 #[.slice A n c] w (BackRet w bs) := by
  have hl := h.len
  cases hb : isB bs with
  | false =>
    have HB := hid hb
    go_enter Tryd.func15, Tryd.ntmps15
    go_wp2_with fail
    refine (is_any A n c bs _ h hn).mono ?_
    rintro e w1 ⟨rfl, hx1⟩
    have HX := hid hx1
    rw [HB.out]
    clear hb hx1
    go_wp2_with fail
    go_ret2
    exact BackRet.bad HB.out HX.out
  | true =>
    have hT : IsT n bs := by have := isB_true.1 hb; rwa [hl] at this
    have hs := hT.small
    have HB := hid hb
    have HT := hid hT
    go_enter Tryd.func15, Tryd.ntmps15
    go_wp2_with fail
    refine (is_any A n c bs _ h hn).mono ?_
    rintro e w1 ⟨rfl, hx1⟩
    have HX := hid hx1
    rw [HB.out]
    have h1 := h.later hx1
    clear hb hx1 hT
    go_wp2_with (at_make; refine wpL_make rfl (.tmp 11) (.tmp 11) 23 rfl Tryd.underlying23 Tryd.info5 .i64 _ n rfl rfl rfl (by omega) w1.heap.size (Nat.le_refl _) ?_; intro w2 hown2 hx2 _)
    have h2 := h1.later hx2
    have hz2 := h1.below hx2 (Nat.le_refl _)
    have HX2 := hid (show Ext w1 w2 from hx2)
    have hown2' : Own w2 w1.heap.size (.slice (some ⟨w1.heap.size, 0, none⟩) n n) (backG bs n 0) := hown2
    obtain ⟨G, hG⟩ : ∃ G, w1.heap.size = G := ⟨_, rfl⟩
    rw [hG] at hown2' hz2 ⊢
    have HO := hid hown2'
    have HG := hid hG
    clear hown2 hown2' hx2 h1 h2 hG
    go_loopw [15] (fun i wr => ∃ k : Nat, k ≤ n ∧ i = .int .i64 k ∧ Own wr G (.slice (some ⟨G, 0, none⟩) n n) (backG bs n k) ∧ Ext w1 wr) (fun i _ => n - (intOf i).toNat)
    case atStart => exact ⟨0, by omega, rfl, HO.out, HX2.out⟩
    case round =>
      obtain ⟨k, hk, rfl, ho, hx⟩ := hrel
      clear HO HX2
      by_cases hlt : k < n
      · have hr : Rd wr G A n bs := HG.out ▸ ((h.later HX.out).below hx (Nat.le_refl _))
        obtain ⟨b1, o1, rfl, hb1', hc1⟩ := hr.at_ (by omega)
        have hck := hc1 k hlt
        rw [byteAt_nb] at hck
        obtain ⟨hc, hf, hset⟩ := backG_step HT.out ho hlt
        have hpl := HT.out.lt k hlt
        have hcl := nb_lt (backG bs n k) (nb bs k)
        obtain ⟨q, hq⟩ : ∃ q, nb (backG bs n k) (nb bs k) = q := ⟨_, rfl⟩
        rw [hq] at hc hcl
        obtain ⟨p, hp⟩ : ∃ p, nb bs k = p := ⟨_, rfl⟩
        rw [hp] at hck hc hf hset hpl
        have HS := hid hset
        have HX3 := hid (show Ext w1 (wr.setCell ⟨G, p, none⟩ (.int .u8 (k : Nat))) from Below.setCell hx (by have := HG.out; simp; omega) _)
        clear hc1 hr ho hx hset hq hp hz2 h
        go_wp2_with fail
        go_roundw
        case rel => exact ⟨k + 1, by omega, by go_num, HS.out, HX3.out⟩
        case measure => simp [intOf]; omega
      · obtain rfl : k = n := by omega
        have HO := hid ho
        have HX3 := hid (Ext.trans HX.out hx)
        clear ho hx h hz2
        go_wp2_with fail
        go_ret2
        exact BackRet.good HT.out HX3.out HO.out
set_option maxRecDepth 100000 in
set_option maxHeartbeats 1000000 in
theorem rback_any (A : Option Addr) (n c : Nat) (bs : List UInt8) (w : World) (h : Rd w w.heap.size A n bs) (hn : n ≤ 140737488355328) :
    Calls Tryd.prog 16 #[.slice A n c] w (BackRet w bs) := by
  have hl := h.len
  cases hb : isB bs with
  | false =>
    have HB := hid hb
    go_enter Tryd.func16, Tryd.ntmps16
    go_wp2_with fail
    refine (ris_any A n c bs _ h hn).mono ?_
    rintro e w1 ⟨rfl, hx1⟩
    have HX := hid hx1
    rw [HB.out]
    clear hb hx1
    go_wp2_with fail
    go_ret2
    exact BackRet.bad HB.out HX.out
  | true =>
    have hT : IsT n bs := by have := isB_true.1 hb; rwa [hl] at this
    have hs := hT.small
    have HB := hid hb
    have HT := hid hT
    go_enter Tryd.func16, Tryd.ntmps16
    go_wp2_with fail
    refine (ris_any A n c bs _ h hn).mono ?_
    rintro e w1 ⟨rfl, hx1⟩
    have HX := hid hx1
    rw [HB.out]
    have h1 := h.later hx1
    clear hb hx1 hT
    go_wp2_with (at_make; refine wpL_make rfl (.tmp 10) (.tmp 10) 23 rfl Tryd.underlying23 Tryd.info5 .i64 _ n rfl rfl rfl (by omega) w1.heap.size (Nat.le_refl _) ?_; intro w2 hown2 hx2 _)
    have h2 := h1.later hx2
    have hz2 := h1.below hx2 (Nat.le_refl _)
    have HX2 := hid (show Ext w1 w2 from hx2)
    have hown2' : Own w2 w1.heap.size (.slice (some ⟨w1.heap.size, 0, none⟩) n n) (backG bs n 0) := hown2
    obtain ⟨G, hG⟩ : ∃ G, w1.heap.size = G := ⟨_, rfl⟩
    rw [hG] at hown2' hz2 ⊢
    have HO := hid hown2'
    have HG := hid hG
    clear hown2 hown2' hx2 h1 h2 hG
    go_loopw [5] (fun i wr => ∃ k : Nat, k ≤ n ∧ i = .int .i64 k ∧ Own wr G (.slice (some ⟨G, 0, none⟩) n n) (backG bs n k) ∧ Ext w1 wr) (fun i _ => n - (intOf i).toNat)
    case atStart => exact ⟨0, by omega, rfl, HO.out, HX2.out⟩
    case round =>
      obtain ⟨k, hk, rfl, ho, hx⟩ := hrel
      clear HO HX2
      by_cases hlt : k < n
      · have hr : Rd wr G A n bs := HG.out ▸ ((h.later HX.out).below hx (Nat.le_refl _))
        obtain ⟨b1, o1, rfl, hb1', hc1⟩ := hr.at_ (by omega)
        have hck := hc1 k hlt
        rw [byteAt_nb] at hck
        obtain ⟨hc, hf, hset⟩ := backG_step HT.out ho hlt
        have hpl := HT.out.lt k hlt
        have hcl := nb_lt (backG bs n k) (nb bs k)
        obtain ⟨q, hq⟩ : ∃ q, nb (backG bs n k) (nb bs k) = q := ⟨_, rfl⟩
        rw [hq] at hc hcl
        obtain ⟨p, hp⟩ : ∃ p, nb bs k = p := ⟨_, rfl⟩
        rw [hp] at hck hc hf hset hpl
        have HS := hid hset
        have HX3 := hid (show Ext w1 (wr.setCell ⟨G, p, none⟩ (.int .u8 (k : Nat))) from Below.setCell hx (by have := HG.out; simp; omega) _)
        clear hc1 hr ho hx hset hq hp hz2 h
        go_wp2_with fail
        go_roundw
        case rel => exact ⟨k + 1, by omega, by go_num, HS.out, HX3.out⟩
        case measure => simp [intOf]; omega
      · obtain rfl : k = n := by omega
        have HO := hid ho
        have HX3 := hid (Ext.trans HX.out hx)
        clear ho hx h hz2
        go_wp2_with fail
        go_ret2
        exact BackRet.good HT.out HX3.out HO.out
set_option maxHeartbeats 400000 in
theorem within_any (a n : Int) (w : World) (h0 : 0 < n) (h1 : n ≤ 9223372036854775807) :
    Calls Tryd.prog 14 #[.int .i64 a, .int .i64 n] w fun e w' => e = .returned (.int .i64 (a % n)) ∧ w = w' := by
  have b1 := Int.tmod_lt_of_pos a h0
  by_cases hc : a.tmod n < 0
  · have hf := tmod_neg a n h0 hc
    have b2 := Int.emod_nonneg a (Int.ne_of_gt h0)
    have b3 : 0 ≤ a.tmod n + n := by omega
    have HF := hid hf; clear hf b2
    go_enter Tryd.func14, Tryd.ntmps14
    go_wp2
    go_ret
    exact ⟨ret_int HF.out, rfl⟩
  · have hf := tmod_pos a n h0 hc
    have HF := hid hf; clear hf
    go_enter Tryd.func14, Tryd.ntmps14
    go_wp2
    go_ret
    exact ⟨ret_int HF.out, rfl⟩
theorem isT_10 : IsT 2 [1, 0] := ⟨rfl, by decide, fun i j hi hj => match i, j, hi, hj with | 0, 0, _, _ => fun _ => rfl | 0, 1, _, _ => fun h => absurd h (by decide) | 1, 0, _, _ => fun h => absurd h (by decide) | 1, 1, _, _ => fun _ => rfl⟩
theorem back_10 : outB [1, 0] = [1, 0] := by rw [outB_of isT_10]; decide
theorem rows_zero : ∀ k, nb (List.replicate 8 0) k = 0 := by
  intro k
  unfold nb
  rw [List.getD, List.getElem?_replicate]
  split <;> rfl
theorem cells_zero8 : (cellsOf (List.replicate 8 0)).toArray = #[.int .u8 0, .int .u8 0, .int .u8 0, .int .u8 0, .int .u8 0, .int .u8 0, .int .u8 0, .int .u8 0] := rfl
theorem aff_zero (x c : Nat) (w : World) (hx : x < 256) (hc : c < 256) (ho : Odd w) :
    Calls Tryd.prog 20 #[.int .u8 x, .agg #[.int .u8 0, .int .u8 0, .int .u8 0, .int .u8 0, .int .u8 0, .int .u8 0, .int .u8 0, .int .u8 0], .int .u8 c] w fun e w' => e = .returned (.int .u8 (c : Nat)) ∧ Ext w w' := by
  have h := aff_any x c (List.replicate 8 0) w rfl hx hc ho
  rw [cells_zero8, show affN x (nb (List.replicate 8 0)) c = c from affG_empty x c rows_zero 8] at h
  exact h
def RetTrue (w : World) (e : Ending) (w' : World) : Prop := e = .returned (.bool true) ∧ Ext w w'
set_option maxHeartbeats 1000000 in
theorem known_any (w : World) (ho : Odd w) : Calls Tryd.prog 12 #[] w (RetTrue w) := by
  have hL1 := Own.lit w [1, 0] #[.int .u8 1, .int .u8 0] 2 w.heap.size rfl rfl (by unfold maxLen; omega) (Nat.le_refl _)
  have hx1 := Ext.alloc w (.cells #[.int .u8 1, .int .u8 0] 5)
  obtain ⟨W1, hW1⟩ : ∃ W1, w.alloc (.cells #[.int .u8 1, .int .u8 0] 5) = W1 := ⟨_, rfl⟩
  rw [hW1] at hL1 hx1
  obtain ⟨A1, c1, e1, hr1, _⟩ := hL1.rd
  cases e1
  have hp := back_any _ 2 2 [1, 0] W1 hr1 (by omega)
  have HP := hid hp
  have HX := hid hx1
  have HW1 := hid hW1
  have HO := hid ho
  clear hp hL1 hr1 hx1 hW1 ho
  go_enter Tryd.func12, Tryd.ntmps12
  go_wp2_with fail
  rw [HW1.out]
  refine HP.out.mono ?_
  rintro e w2 ⟨A, c, rfl, hr, hx2⟩
  rw [back_10] at hr ⊢
  rw [isB_of isT_10]
  have hr' : Rd w2 w2.heap.size A 2 [1, 0] := hr
  obtain ⟨b, o, rfl, _, hc⟩ := hr'.at_ (by decide)
  have hc0 := hc 0 (by decide)
  have hc1 := hc 1 (by decide)
  rw [show byteAt [1, 0] 0 = 1 from rfl, Nat.add_zero] at hc0
  rw [show byteAt [1, 0] 1 = 0 from rfl] at hc1
  have HX2 := hid (Ext.trans HX.out hx2)
  have HR := hid hr'
  clear hc hr hr' hx2
  go_wp2_with fail
  refine (is_any _ 2 _ [1, 0] _ HR.out (by omega)).mono ?_
  rintro e w3 ⟨rfl, hx3⟩
  have HX3 := hid (Ext.trans HX2.out hx3)
  rw [isB_of isT_10]
  clear hx3
  go_wp2_with fail
  refine (aff_zero 0 7 _ (by omega) (by omega) (HO.out.later HX3.out)).mono ?_
  rintro e w4 ⟨rfl, hx4⟩
  have HX4 := hid (Ext.trans HX3.out hx4)
  clear hx4
  go_wp2_with fail
  go_ret
  exact ⟨rfl, HX4.out⟩
end Go.Proofs.YtcmhaomnabdopaaDoor
