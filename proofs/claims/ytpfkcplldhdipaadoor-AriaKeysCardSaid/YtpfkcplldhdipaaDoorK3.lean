/- Walks over Back of the program and of the reference; own lemmas of the verifier, no statement is proved here. -/
import Derived.Test.YtpfkcplldhdipaaDoorK2
namespace Go.Proofs.YtpfkcplldhdipaaDoor
open Go.RowKit
/-- What Back tells. -/
noncomputable def outB (bs : List UInt8) : List UInt8 := if isB bs = true then backL bs else []
theorem outB_of {n : Nat} {bs : List UInt8} (h : IsT n bs) : outB bs = backL bs := by unfold outB; rw [if_pos (isB_of h)]
theorem outB_no {bs : List UInt8} (h : isB bs = false) : outB bs = [] := by unfold outB; rw [h]; rfl
def BackRet (w : World) (bs : List UInt8) (e : Ending) (w' : World) : Prop :=
  ∃ A c, e = .returned (.tuple #[.slice A (outB bs).length c, .bool (isB bs)]) ∧ Rd w' w'.heap.size A (outB bs).length (outB bs) ∧ Ext w w'
theorem BackRet.bad {w w' : World} {bs : List UInt8} (h : isB bs = false) (hx : Ext w w') : BackRet w bs (.returned (.tuple #[.slice none 0 0, .bool false])) w' := by
  unfold BackRet
  rw [outB_no h, h]
  exact ⟨_, _, rfl, Rd.nil _ _ _, hx⟩
theorem BackRet.good {w w' : World} {bs : List UInt8} {n base G : Nat} (h : IsT n bs) (hx : Ext w w') (ho : Own w' base (.slice (some ⟨G, 0, none⟩) n n) (backG bs n n)) :
    BackRet w bs (.returned (.tuple #[.slice (some ⟨G, 0, none⟩) n n, .bool true])) w' := by
  unfold BackRet
  have e : outB bs = backG bs n n := by rw [outB_of h]; unfold backL; rw [h.len]
  rw [isB_of h, e]
  obtain ⟨A, c, e1, hr, _⟩ := ho.rdn (n := n) (backG_length _ _ _)
  cases e1
  rw [backG_length]
  exact ⟨_, _, rfl, hr, hx⟩
theorem backG_step {w : World} {base G n k : Nat} {bs : List UInt8} (h : IsT n bs) (ho : Own w base (.slice (some ⟨G, 0, none⟩) n n) (backG bs n k)) (hk : k < n) :
    w.cell? ⟨G, nb bs k, none⟩ = some (.int .u8 (nb (backG bs n k) (nb bs k) : Nat)) ∧ w.frozen? ⟨G, nb bs k, none⟩ = false ∧
    Own (w.setCell ⟨G, nb bs k, none⟩ (.int .u8 (k : Nat))) base (.slice (some ⟨G, 0, none⟩) n n) (backG bs n (k + 1)) := by
  have hl := backG_length bs n k
  have hs := h.small
  have ho' : Own w base (.slice (some ⟨G, 0, none⟩) (backG bs n k).length n) (backG bs n k) := by rw [hl]; exact ho
  have hc := ho'.cell (nb bs k) (by rw [hl]; exact h.lt k hk)
  have hf := ho'.free (nb bs k)
  have hset := ho'.set_ (nb bs k) (UInt8.ofNat k)
  rw [u8_nat k (by omega), hl] at hset
  exact ⟨hc, hf, hset⟩
set_option maxRecDepth 100000 in
set_option maxHeartbeats 1000000 in
theorem back_any (A : Option Addr) (n c : Nat) (bs : List UInt8) (w : World) (h : Rd w w.heap.size A n bs) (hn : n ≤ 140737488355328) :
    Calls Tryd.prog 34 #[.slice A n c] w (BackRet w bs) := by
  have hl := h.len
  cases hb : isB bs with
  | false =>
    have HB := hid hb
    go_enter Tryd.func34, Tryd.ntmps34
    go_wp2_with fail
    refine (is_any A n c bs _ h hn).mono ?_
    rintro e w1 ⟨rfl, hx1⟩
    have HX := hid hx1
    rw [HB.out]
    clear hb hx1
    go_wp2_with fail
    go_ret2
    exact BackRet.bad HB.out HX.out
  | true =>
    have hT : IsT n bs := by have := isB_true.1 hb; rwa [hl] at this
    have hs := hT.small
    have HB := hid hb
    have HT := hid hT
    go_enter Tryd.func34, Tryd.ntmps34
    go_wp2_with fail
    refine (is_any A n c bs _ h hn).mono ?_
    rintro e w1 ⟨rfl, hx1⟩
    have HX := hid hx1
    rw [HB.out]
    have h1 := h.later hx1
    clear hb hx1 hT
    go_wp2_with (at_make; refine wpL_make rfl (.tmp 11) (.tmp 11) 22 rfl Tryd.underlying22 Tryd.info5 .i64 _ n rfl rfl rfl (by omega) w1.heap.size (Nat.le_refl _) ?_; intro w2 hown2 hx2 _)
    have h2 := h1.later hx2
    have hz2 := h1.below hx2 (Nat.le_refl _)
    have HX2 := hid (show Ext w1 w2 from hx2)
    have hown2' : Own w2 w1.heap.size (.slice (some ⟨w1.heap.size, 0, none⟩) n n) (backG bs n 0) := hown2
    obtain ⟨G, hG⟩ : ∃ G, w1.heap.size = G := ⟨_, rfl⟩
    rw [hG] at hown2' hz2 ⊢
    have HO := hid hown2'
    have HG := hid hG
    clear hown2 hown2' hx2 h1 h2 hG
    go_loopw [15] (fun i wr => ∃ k : Nat, k ≤ n ∧ i = .int .i64 k ∧ Own wr G (.slice (some ⟨G, 0, none⟩) n n) (backG bs n k) ∧ Ext w1 wr) (fun i _ => n - (intOf i).toNat)
    case atStart => exact ⟨0, by omega, rfl, HO.out, HX2.out⟩
    case round =>
      obtain ⟨k, hk, rfl, ho, hx⟩ := hrel
      clear HO HX2
      by_cases hlt : k < n
      · have hr : Rd wr G A n bs := HG.out ▸ ((h.later HX.out).below hx (Nat.le_refl _))
        obtain ⟨b1, o1, rfl, hb1', hc1⟩ := hr.at_ (by omega)
        have hck := hc1 k hlt
        rw [byteAt_nb] at hck
        obtain ⟨hc, hf, hset⟩ := backG_step HT.out ho hlt
        have hpl := HT.out.lt k hlt
        have hcl := nb_lt (backG bs n k) (nb bs k)
        obtain ⟨q, hq⟩ : ∃ q, nb (backG bs n k) (nb bs k) = q := ⟨_, rfl⟩
        rw [hq] at hc hcl
        obtain ⟨p, hp⟩ : ∃ p, nb bs k = p := ⟨_, rfl⟩
        rw [hp] at hck hc hf hset hpl
        have HS := hid hset
        have HX3 := hid (show Ext w1 (wr.setCell ⟨G, p, none⟩ (.int .u8 (k : Nat))) from Below.setCell hx (by have := HG.out; simp; omega) _)
        clear hc1 hr ho hx hset hq hp hz2 h
        go_wp2_with fail
        go_roundw
        case rel => exact ⟨k + 1, by omega, by go_num, HS.out, HX3.out⟩
        case measure => simp [intOf]; omega
      · obtain rfl : k = n := by omega
        have HO := hid ho
        have HX3 := hid (Ext.trans HX.out hx)
        clear ho hx h hz2
        go_wp2_with fail
        go_ret2
        exact BackRet.good HT.out HX3.out HO.out
set_option maxRecDepth 100000 in
set_option maxHeartbeats 1000000 in
theorem rback_any (A : Option Addr) (n c : Nat) (bs : List UInt8) (w : World) (h : Rd w w.heap.size A n bs) (hn : n ≤ 140737488355328) :
    Calls Tryd.prog 39 #[.slice A n c] w (BackRet w bs) := by
  have hl := h.len
  cases hb : isB bs with
  | false =>
    have HB := hid hb
    go_enter Tryd.func39, Tryd.ntmps39
    go_wp2_with fail
    refine (ris_any A n c bs _ h hn).mono ?_
    rintro e w1 ⟨rfl, hx1⟩
    have HX := hid hx1
    rw [HB.out]
    clear hb hx1
    go_wp2_with fail
    go_ret2
    exact BackRet.bad HB.out HX.out
  | true =>
    have hT : IsT n bs := by have := isB_true.1 hb; rwa [hl] at this
    have hs := hT.small
    have HB := hid hb
    have HT := hid hT
    go_enter Tryd.func39, Tryd.ntmps39
    go_wp2_with fail
    refine (ris_any A n c bs _ h hn).mono ?_
    rintro e w1 ⟨rfl, hx1⟩
    have HX := hid hx1
    rw [HB.out]
    have h1 := h.later hx1
    clear hb hx1 hT
    go_wp2_with (at_make; refine wpL_make rfl (.tmp 10) (.tmp 10) 22 rfl Tryd.underlying22 Tryd.info5 .i64 _ n rfl rfl rfl (by omega) w1.heap.size (Nat.le_refl _) ?_; intro w2 hown2 hx2 _)
    have h2 := h1.later hx2
    have hz2 := h1.below hx2 (Nat.le_refl _)
    have HX2 := hid (show Ext w1 w2 from hx2)
    have hown2' : Own w2 w1.heap.size (.slice (some ⟨w1.heap.size, 0, none⟩) n n) (backG bs n 0) := hown2
    obtain ⟨G, hG⟩ : ∃ G, w1.heap.size = G := ⟨_, rfl⟩
    rw [hG] at hown2' hz2 ⊢
    have HO := hid hown2'
    have HG := hid hG
    clear hown2 hown2' hx2 h1 h2 hG
    go_loopw [5] (fun i wr => ∃ k : Nat, k ≤ n ∧ i = .int .i64 k ∧ Own wr G (.slice (some ⟨G, 0, none⟩) n n) (backG bs n k) ∧ Ext w1 wr) (fun i _ => n - (intOf i).toNat)
    case atStart => exact ⟨0, by omega, rfl, HO.out, HX2.out⟩
    case round =>
      obtain ⟨k, hk, rfl, ho, hx⟩ := hrel
      clear HO HX2
      by_cases hlt : k < n
      · have hr : Rd wr G A n bs := HG.out ▸ ((h.later HX.out).below hx (Nat.le_refl _))
        obtain ⟨b1, o1, rfl, hb1', hc1⟩ := hr.at_ (by omega)
        have hck := hc1 k hlt
        rw [byteAt_nb] at hck
        obtain ⟨hc, hf, hset⟩ := backG_step HT.out ho hlt
        have hpl := HT.out.lt k hlt
        have hcl := nb_lt (backG bs n k) (nb bs k)
        obtain ⟨q, hq⟩ : ∃ q, nb (backG bs n k) (nb bs k) = q := ⟨_, rfl⟩
        rw [hq] at hc hcl
        obtain ⟨p, hp⟩ : ∃ p, nb bs k = p := ⟨_, rfl⟩
        rw [hp] at hck hc hf hset hpl
        have HS := hid hset
        have HX3 := hid (show Ext w1 (wr.setCell ⟨G, p, none⟩ (.int .u8 (k : Nat))) from Below.setCell hx (by have := HG.out; simp; omega) _)
        clear hc1 hr ho hx hset hq hp hz2 h
        go_wp2_with fail
        go_roundw
        case rel => exact ⟨k + 1, by omega, by go_num, HS.out, HX3.out⟩
        case measure => simp [intOf]; omega
      · obtain rfl : k = n := by omega
        have HO := hid ho
        have HX3 := hid (Ext.trans HX.out hx)
        clear ho hx h hz2
        go_wp2_with fail
        go_ret2
        exact BackRet.good HT.out HX3.out HO.out
end Go.Proofs.YtpfkcplldhdipaaDoor
