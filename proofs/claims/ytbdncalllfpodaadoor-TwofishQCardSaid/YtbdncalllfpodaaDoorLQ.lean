/- The law on Q, walked; own text of the verifier. -/
import Derived.Test.YtbdncalllfpodaaDoorX23
namespace Go.Proofs.YtbdncalllfpodaaDoor
open Go.RowKit
/-- 256 yes or no, as cells. -/
def cB (f : Nat → Bool) : List Value := (List.range 256).map fun v => .bool (f v)
theorem cB_get (f : Nat → Bool) {j : Nat} (hj : j < 256) : (cB f)[j]? = some (.bool (f j)) := by simp [cB, hj]
theorem cB_set (f : Nat → Bool) (j : Nat) : (cB f).set j (.bool true) = cB (fun v => f v || v == j) := by
  apply List.ext_getElem?
  intro i
  rw [List.getElem?_set]
  by_cases h : j = i
  · subst h
    rw [if_pos rfl]
    by_cases hj : j < 256
    · rw [if_pos (by simp [cB]; exact hj), cB_get _ hj]; simp
    · rw [if_neg (by simp [cB]; omega), List.getElem?_eq_none (by simp [cB]; omega)]
  · rw [if_neg h]
    by_cases hi : i < 256
    · rw [cB_get _ hi, cB_get _ hi]
      simp [show ¬ i = j from fun e => h e.symm]
    · rw [List.getElem?_eq_none (by simp [cB]; omega), List.getElem?_eq_none (by simp [cB]; omega)]
theorem row_kept {w w' : World} {base n : Nat} {e : TypeId} {v : Value} {xs : List Value} (h : w.ownsRow base e 1 v n xs) (hb : Below w.heap.size w w') : w'.ownsRow base e 1 v n xs := by
  refine ⟨h.1, ?_⟩
  rcases h.2 with hn | ⟨g, cap, cur, rfl, hbg, hh, r⟩
  · exact .inl hn
  · exact .inr ⟨g, cap, cur, rfl, hbg, by rw [hb.block g (Array.getElem?_eq_some_iff.1 hh).1]; exact hh, r⟩
/-- What Q has answered before k. -/
def seenQ (q k v : Nat) : Bool := (List.range k).any fun j => qF q j == v
theorem seenQ_succ (q k v : Nat) : seenQ q (k + 1) v = (seenQ q k v || v == qF q k) := by
  unfold seenQ
  rw [List.range_succ, List.any_append]
  simp [Bool.beq_comm]
theorem seenQ_new {q k : Nat} (hq : q < 2) (hk : k < 256) : seenQ q k (qF q k) = false := by
  unfold seenQ
  rw [List.any_eq_false]
  intro j hj h
  have hj := List.mem_range.1 hj
  have := qF_inj hq (show j < 256 by omega) hk (show qF q j = qF q k from by simpa using h)
  omega
set_option maxRecDepth 100000 in
set_option maxHeartbeats 4000000 in
theorem q_walk (a0 : Int) (a1 : Int) (w0 : (Lit.int .u8 a0).wf = true) (_w1 : (Lit.int .i64 a1).wf = true) (w : World) (hG : GT w) :
    Calls Tryd.prog 4 #[.int .u8 a0, .int .i64 a1] w fun e w' => e = .returned (.bool true) ∧ Below w.heap.size w w' := by
  obtain ⟨b0, b1⟩ := bounds_u8 w0
  obtain ⟨x, rfl⟩ : ∃ x : Nat, a0 = x := ⟨a0.toNat, by omega⟩
  have hx : x < 256 := by omega
  have HQ0 := hid (fun w hG => q_any 0 x w (by omega) hx hG)
  have HQ1 := hid (fun w hG => q_any 1 x w (by omega) hx hG)
  have HR0 := hid (fun w => rq_any 0 x w (by omega) hx)
  have HR1 := hid (fun w => rq_any 1 x w (by omega) hx)
  obtain ⟨y0, hy0⟩ : ∃ y, qF 0 x = y := ⟨_, rfl⟩
  obtain ⟨y1, hy1⟩ : ∃ y, qF 1 x = y := ⟨_, rfl⟩
  rw [hy0] at HQ0 HR0
  rw [hy1] at HQ1 HR1
  obtain ⟨i0, hi, hz0, hz1, hz2⟩ := info_parts (show (Tryd.prog.info? 4).map (fun i => (i.zero, i.size, i.bytes)) = some (some (.bool false), 1, 1) by kernel_rfl)
  have HG := hid hG
  clear hG b0 b1 hx w0 hy0 hy1
  go_enter Tryd.func4, Tryd.ntmps4
  go_wp2_with fail
  refine (known_any _ HG.out).mono ?_
  rintro e w1 ⟨rfl, hx1⟩
  have HX1 := hid hx1
  clear hx1
  go_wp2_with fail
  refine (within_any a1 2 _ (by omega) (by omega)).mono ?_
  rintro e w' ⟨rfl, rfl⟩
  obtain ⟨q, hq⟩ : ∃ q : Nat, a1 % 2 = q := ⟨(a1 % 2).toNat, by omega⟩
  have hq2 : q < 2 := by omega
  rw [hq]
  have HQ2 := hid hq2
  clear hq hq2
  go_wp2_with (at_make; refine wpList_make_full w1 rfl (.const (.int .i64 256)) (.const (.int .i64 256)) 34 rfl w.heap.size 4 i0 (.bool false) 1 Tryd.underlying34 hi hz0 hz1 .i64 .i64 256 256 256 rfl rfl rfl rfl (by rw [hz2]; omega) (by unfold maxLen; omega) HX1.out.size ?_; intro w2 hown2 hg2)
  have hbel : Ext w w2 := Below.grown HX1.out hg2 HX1.out.size (fun k e => by cases e)
  have hrow : w2.ownsRow w.heap.size 4 1 (.slice (some ⟨w1.heap.size, 0, none⟩) 256 256) 256 (cB (seenQ q 0)) := by
    have e1 : (madeCells (Value.cells (.bool false)) (256 * 1)).toList = cB (seenQ q 0) := by kernel_rfl
    rw [← e1]
    exact hown2
  obtain ⟨g, hg⟩ : ∃ g, w1.heap.size = g := ⟨_, rfl⟩
  rw [hg] at hrow ⊢
  have hgw : w.heap.size ≤ g := by rw [← hg]; exact HX1.out.size
  have HGW := hid hgw
  have HO := hid hrow
  have HB := hid hbel
  clear hown2 hg2 hrow hbel hg hgw HX1 hi hz0 hz1 hz2
  go_loopw [7] (fun i wr => ∃ k : Nat, k ≤ 256 ∧ i = .int .i64 k ∧ wr.ownsRow w.heap.size 4 1 (.slice (some ⟨g, 0, none⟩) 256 256) 256 (cB (seenQ q k)) ∧ Ext w wr) (fun i _ => 256 - (intOf i).toNat)
  case atStart => exact ⟨0, by omega, rfl, HO.out, HB.out⟩
  case round =>
    clear HO HB
    obtain ⟨k, hk, rfl, hown, hx⟩ := hrel
    by_cases hlt : k < 256
    · have HP := hid (fun w hG => q_any q k w HQ2.out hlt hG)
      have HR := hid (fun w => rq_any q k w HQ2.out hlt)
      have hnew := seenQ_new HQ2.out hlt
      have hsuc : ∀ v, seenQ q (k + 1) v = (seenQ q k v || v == qF q k) := seenQ_succ q k
      have hpl := qF_lt q k
      obtain ⟨p, hp⟩ : ∃ p, qF q k = p := ⟨_, rfl⟩
      rw [hp] at HP HR hnew hpl
      simp only [hp] at hsuc
      have hcell : wr.cell? ⟨g, p, none⟩ = some (.bool false) := by
        rw [hown.cellAt p (by omega), cB_get _ hpl, hnew]
      have hset := (hown.stored p (.bool true)).1
      rw [cB_set] at hset
      have hfun : (fun v => seenQ q k v || v == p) = seenQ q (k + 1) := by funext v; exact (hsuc v).symm
      rw [hfun] at hset
      have HC := hid hcell
      have HO := hid hown
      have HX := hid hx
      have HFUN := hid hfun
      have hkk : (k : Int) < 256 := by omega
      have hpp : (p : Int) < 256 := by omega
      clear hp hnew hsuc hcell hset hown hx hfun
      go_wp2_with fail
      refine (HP.out _ (HG.out.later HX.out)).mono ?_
      rintro e w4 ⟨rfl, n4, rfl⟩
      have hx4 := (Ext.refl wr).drewN n4
      have HX4 := hid (Ext.trans HX.out hx4)
      have hc := cell_at hx4 HC.out
      have HO4 := hid (row_kept HO.out hx4)
      obtain ⟨W4, hW4⟩ : ∃ W, wr.drewN n4 = W := ⟨_, rfl⟩
      rw [hW4] at HX4 hc HO4 ⊢
      clear hx4 hW4 HX HO
      go_wp2_with fail
      refine (HR.out _).mono ?_
      rintro e w5 ⟨rfl, hx5⟩
      have HX5 := hid (Ext.trans HX4.out hx5)
      have hO5 := row_kept HO4.out hx5
      have hc5 := cell_at hx5 hc
      have hf5 := hO5.frozenAt p
      have hset := (hO5.stored p (.bool true)).1
      rw [cB_set, HFUN.out] at hset
      have HS := hid hset
      have HX6 := hid (HX5.out.setCell (p := ⟨g, p, none⟩) HGW.out (.bool true))
      clear hx5 hc hset hO5 HX4 HO4
      go_wp2_with fail
      go_roundw
      case rel => exact ⟨k + 1, by omega, by go_num, HS.out, HX6.out⟩
      case measure => simp [intOf]; omega
    · obtain rfl : k = 256 := by omega
      have HX := hid hx
      clear hx hown
      go_wp2_with fail
      refine (HQ0.out _ (HG.out.later HX.out)).mono ?_
      rintro e w4 ⟨rfl, n4, rfl⟩
      have HX4 := hid (HX.out.drewN n4)
      obtain ⟨W4, hW4⟩ : ∃ W, wr.drewN n4 = W := ⟨_, rfl⟩
      rw [hW4] at HX4 ⊢
      clear hW4 HX
      go_wp2_with fail
      refine (HR0.out _).mono ?_
      rintro e w5 ⟨rfl, hx5⟩
      have HX5 := hid (Ext.trans HX4.out hx5)
      clear hx5
      go_wp2_with fail
      refine (HQ1.out _ (HG.out.later HX5.out)).mono ?_
      rintro e w6 ⟨rfl, n6, rfl⟩
      have HX6 := hid (HX5.out.drewN n6)
      obtain ⟨W6, hW6⟩ : ∃ W, w5.drewN n6 = W := ⟨_, rfl⟩
      rw [hW6] at HX6 ⊢
      clear hW6 HX5
      go_wp2_with fail
      refine (HR1.out _).mono ?_
      rintro e w7 ⟨rfl, hx7⟩
      have HX7 := hid (Ext.trans HX6.out hx7)
      clear hx7
      go_wp2_with fail
      go_ret
      exact ⟨rfl, HX7.out⟩
end Go.Proofs.YtbdncalllfpodaaDoor
