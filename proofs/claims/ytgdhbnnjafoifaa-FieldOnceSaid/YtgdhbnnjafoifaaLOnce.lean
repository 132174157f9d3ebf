/- The law on all products of one byte in a field, walked; own text of the verifier. -/
import Derived.Test.YtgdhbnnjafoifaaF3
namespace Go.Proofs.Ytgdhbnnjafoifaa
open Go.RowKit
theorem zero37 (w : World) : (zeroValue 37).run Try.prog w = .ok (.agg (Array.replicate 256 (.bool false))) w := by
  kernel_rfl
/-- Which products were seen: of a and each number below k. -/
structure Seen (m a k : Nat) (cs : Array Value) : Prop where
  size : cs.size = 256
  at_ : ∀ j, j < 256 → ∃ b : Bool, cs[j]? = some (.bool b) ∧ (b = true ↔ ∃ x, x < k ∧ gm m a x = j)
theorem seen_start (m a : Nat) : Seen m a 0 (Array.replicate 256 (.bool false)) := by
  refine ⟨by simp, fun j hj => ⟨false, by simp [hj], ?_⟩⟩
  constructor
  · intro h; cases h
  · rintro ⟨x, hx, _⟩; omega
theorem Seen.cell {m a k : Nat} {cs : Array Value} {w : World} {G : Nat} (h : Seen m a k cs) (hF : IsField m) (h0 : 0 < a) (ha : a < 256) (hk : k < 256) (hh : w.heap[G]? = some (.cells cs 37 (0, 0))) :
    w.cell? ⟨G, gm m a k, none⟩ = some (.bool false) := by
  obtain ⟨b, hb, hiff⟩ := h.at_ _ (gm_lt hF.toIsRest ha k)
  have hb0 : b = false := by
    cases b with
    | false => rfl
    | true =>
      obtain ⟨x, hx, he⟩ := hiff.1 rfl
      have := hF.inj h0 ha (by omega) hk he
      omega
  subst hb0
  simp [World.cell?, hh, hb]
theorem Seen.next {m a : Nat} {cs : Array Value} (k : Nat) (h : Seen m a k cs) : Seen m a (k + 1) (cs.setIfInBounds (gm m a k) (.bool true)) := by
  refine ⟨by simp [h.size], fun j hj => ?_⟩
  obtain ⟨b, hb, hiff⟩ := h.at_ j hj
  by_cases he : gm m a k = j
  · refine ⟨true, by rw [he]; simp [h.size, hj], ⟨fun _ => ⟨k, by omega, he⟩, fun _ => rfl⟩⟩
  · refine ⟨b, by rw [Array.getElem?_setIfInBounds, if_neg he]; exact hb, hiff.trans ⟨?_, ?_⟩⟩
    · rintro ⟨x, hx, hxe⟩; exact ⟨x, by omega, hxe⟩
    · rintro ⟨x, hx, hxe⟩
      refine ⟨x, ?_, hxe⟩
      rcases Nat.lt_or_ge x k with h1 | h1
      · exact h1
      · rw [show x = k by omega] at hxe; exact absurd hxe he
set_option maxRecDepth 100000 in
set_option maxHeartbeats 4000000 in
theorem once_walk (a0 a1 : Int) (w0 : (Lit.int .u8 a0).wf = true) (_w1 : (Lit.int .i64 a1).wf = true) (w : World) :
    Calls Try.prog 10 #[.int .u8 a0, .int .i64 a1] w fun e w' => e = .returned (.bool true) ∧ Below w.heap.size w w' := by
  obtain ⟨a, rfl, ha⟩ := byte_arg w0
  clear w0
  go_enter Try.func10, Try.ntmps10
  go_wp2_with fail
  refine (known_any _).mono ?_
  rintro e wk ⟨rfl, rfl⟩
  rcases Nat.eq_zero_or_pos a with h0 | h0
  · subst h0
    go_wp2_with fail
    refine (mod_any _ _).mono ?_
    rintro e w2 ⟨rfl, hb2⟩
    have HB2 := hid hb2
    have hF0 := modF_field a1
    obtain ⟨m, hm⟩ : ∃ m, modF a1 = m := ⟨_, rfl⟩
    rw [hm] at hF0 ⊢
    have HM := hid hF0.toIsRest
    clear hm hF0 hb2
    go_wp2_with fail
    refine (mul_any 0 77 m _ HM.out (by omega) (by omega)).mono ?_
    rintro e w' ⟨rfl, rfl⟩
    rw [gm_zero_left]
    go_wp2_with fail
    go_ret
    exact ⟨rfl, HB2.out⟩
  · have hne : ((a : Int) == 0) = false := by simp; omega
    have hF0 := modF_field a1
    have HMd := hid (show (modF a1 : Nat) = modF a1 from rfl)
    go_wp2_with fail
    rw [zero37]
    simp only [Result.andThen]
    rw [Oper.upon_value]
    obtain ⟨W1, hW1⟩ : ∃ W1, w.alloc (.cells (Array.replicate 256 (.bool false)) 37) = W1 := ⟨_, rfl⟩
    have hx1 : Ext w W1 := hW1 ▸ Ext.alloc _ _
    have hh1 : W1.heap[w.heap.size]? = some (.cells (Array.replicate 256 (.bool false)) 37 (0, 0)) := hW1 ▸ heap_alloc_new _ _
    rw [hW1]
    obtain ⟨G, hG⟩ : ∃ G, w.heap.size = G := ⟨_, rfl⟩
    have HB := hid hx1
    have hgb : w.heap.size ≤ G := by omega
    have HGB := hid hgb
    rw [hG] at hh1 ⊢
    obtain ⟨m, hm⟩ : ∃ m, modF a1 = m := ⟨_, rfl⟩
    have HME := hid hm
    rw [hm] at hF0
    have HF := hid hF0
    have HM := hid hF0.toIsRest
    have hm0 := hF0.lo
    have hm1 := hF0.hi
    have HH := hid hh1
    clear hm hF0 hh1 hx1 hW1 hG hgb HMd
    go_wp2_with fail
    go_loopw [6] (fun i wr => ∃ (k : Nat) (cs : Array Value), k ≤ 256 ∧ i = .int .i64 k ∧ wr.heap[G]? = some (.cells cs 37 (0, 0)) ∧ Seen m a k cs ∧ Below w.heap.size w wr) (fun i _ => 256 - natOf i)
    case atStart => exact ⟨0, _, by omega, rfl, HH.out, seen_start m a, HB.out⟩
    case round =>
      obtain ⟨k, cs, hk, rfl, hh, hs, hb⟩ := hrel
      by_cases hlt : k < 256
      · have HHH := hid hh
        have HS := hid hs
        have HBB := hid hb
        have hGz : G < wr.heap.size := (Array.getElem?_eq_some_iff.1 hh).1
        clear hh hs hb
        go_wp2_with fail
        refine (mod_any _ _).mono ?_
        rintro e w2 ⟨rfl, hb2⟩
        have hh2 : w2.heap[G]? = some (.cells cs 37 (0, 0)) := (hb2.block G hGz).trans HHH.out
        have hpl := gm_lt HM.out ha k
        have hc := HS.out.cell HF.out h0 ha hlt hh2
        have hfr := frozen_of_row w2 G (gm m a k) cs 37 hh2
        have hset := heap_setCell_same w2 G (gm m a k) cs 37 (.bool true) hh2
        have HS2 := hid (HS.out.next k)
        have hb3 := Below.setCell (HBB.out.trans (Below.mono hb2 HBB.out.size)) (p := ⟨G, gm m a k, none⟩) HGB.out (.bool true)
        have HB3 := hid hb3
        have HSET := hid hset
        rw [HME.out]
        clear hh2 hset hb3 hb2
        go_wp2_with fail
        refine (mul_any a k m _ HM.out ha hlt).mono ?_
        rintro e w' ⟨rfl, rfl⟩
        obtain ⟨p, hp⟩ : ∃ p, gm m a k = p := ⟨_, rfl⟩
        rw [hp] at hpl hc hfr ⊢
        have HP := hid hp
        clear hp
        go_wp2_with fail
        go_roundw
        case rel => exact ⟨k + 1, _, by omega, by go_num, HP.out ▸ HSET.out, HS2.out, HP.out ▸ HB3.out⟩
        case measure => simp [natOf]; omega
      · obtain rfl : k = 256 := by omega
        have HBB := hid hb
        clear hh hs hb
        go_wp2_with fail
        go_ret
        exact ⟨rfl, HBB.out⟩
end Go.Proofs.Ytgdhbnnjafoifaa
