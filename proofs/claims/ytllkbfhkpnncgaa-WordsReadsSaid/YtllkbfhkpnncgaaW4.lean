/- Walks over the second Inc of chapter 1, and Turn at every length; own lemmas of the verifier, no statement is proved here. -/
import Derived.Test.YtllkbfhkpnncgaaW3
namespace Go.Proofs.Ytllkbfhkpnncgaa
open Go.RowKit
theorem Own.form {w : World} {base : Nat} {v : Value} {bs : List UInt8} (h : Own w base v bs) (hp : 0 < bs.length) : ∃ g c, v = .slice (some ⟨g, 0, none⟩) bs.length c := by
  rcases h.2 with ⟨_, hn⟩ | ⟨g, cap, cur, hv, _⟩
  · omega
  · exact ⟨g, cap, hv⟩
set_option maxHeartbeats 1000000 in
theorem rinc_any (A : Option Addr) (n c : Nat) (bs : List UInt8) (w : World) (h : Rd w w.heap.size A n bs) (hn : n ≤ 140737488355328) :
    Calls Try.prog 37 #[.slice A n c] w (RetB w (incB bs)) := by
  have hl := h.len
  have HL := hid hl
  rcases Nat.eq_zero_or_pos n with rfl | hpos
  · obtain rfl : bs = [] := List.eq_nil_of_length_eq_zero hl
    clear hl
    go_enter Try.func37, Try.ntmps37
    go_wp2_with (at_builtin; refine wpL_append _ rfl (.tmp 5) (.tmp 6) 22 rfl Try.underlying22 Try.info5 w.heap.size (.slice (some ⟨w.heap.size, 0, none⟩) 0 0) [] rfl (Own.lit w [] _ 0 _ rfl rfl (by unfold maxLen; omega) (Nat.le_refl _)) w.heap.size A 0 c [] rfl (h.below ((Below.refl _ _).alloc (Nat.le_refl _) _) (Nat.le_refl _)) (by simp) (by simp) ?_; intro v3 w3 hown3 hb3; obtain ⟨A3, c3, rfl, _, _, _⟩ := hown3.rd; have HO := hid hown3; clear hown3)
    go_loopw [4] (fun i wr => i = .int .i64 0 ∧ wr = w3) (fun _ _ => 0)
    case atStart => exact ⟨rfl, rfl⟩
    case round =>
      obtain ⟨rfl, rfl⟩ := hrel
      go_wp2
      go_ret
      exact ⟨_, rfl, by rw [incB_nil]; simpa using HO.out, ((Below.refl _ _).alloc (Nat.le_refl _) _).trans hb3⟩
  · clear hl
    have hp2 : 0 < ([] ++ bs).length := by have := HL.out; simp; omega
    have hl2 : ([] ++ bs).length = n := by have := HL.out; simpa using this
    have HL2 := hid hl2
    clear hl2
    go_enter Try.func37, Try.ntmps37
    go_wp2_with (at_builtin; refine wpL_append _ rfl (.tmp 5) (.tmp 6) 22 rfl Try.underlying22 Try.info5 w.heap.size (.slice (some ⟨w.heap.size, 0, none⟩) 0 0) [] rfl (Own.lit w [] _ 0 _ rfl rfl (by unfold maxLen; omega) (Nat.le_refl _)) w.heap.size A n c bs rfl (h.below ((Below.refl _ _).alloc (Nat.le_refl _) _) (Nat.le_refl _)) (by simp; omega) (by simp) ?_; intro v3 w3 hown3 hb3; obtain ⟨g, c3, hv3⟩ := hown3.form hp2; rw [HL2.out] at hv3; subst hv3; have HO := hid hown3; clear hown3)
    go_loopw [4] (fun i wr => ∃ k : Nat, k ≤ n ∧ i = .int .i64 k ∧ Own wr w.heap.size (.slice (some ⟨g, 0, none⟩) n c3) (bs.take k ++ List.replicate (n - k) 0) ∧ Below w.heap.size w wr ∧ incB bs = incB (bs.take k) ++ List.replicate (n - k) 0) (fun i _ => (intOf i).toNat)
    case atStart =>
      have hl := HL.out
      refine ⟨n, Nat.le_refl _, rfl, ?_, ((Below.refl _ _).alloc (Nat.le_refl _) _).trans hb3, ?_⟩
      · rw [List.take_of_length_le (by omega)]; simpa using HO.out
      · rw [List.take_of_length_le (by omega)]; simp
    case round =>
      obtain ⟨i, hi, rfl, hown, hb, hI⟩ := hrel
      have hl := HL.out
      rcases Nat.eq_zero_or_pos i with rfl | hpos
      · have hown' : Own wr w.heap.size (.slice (some ⟨g, 0, none⟩) n c3) (incB bs) := by
          rw [hI]; simpa [incB_nil] using hown
        have HH := hid (And.intro hown' hb)
        clear hI hown hl hown' hb hb3
        go_wp2
        go_ret
        exact ⟨_, rfl, HH.out.1, HH.out.2⟩
      · obtain ⟨j, rfl⟩ : ∃ j, i = j + 1 := ⟨i - 1, by omega⟩
        obtain ⟨cur, hcur⟩ : ∃ cur, cur = bs.take (j + 1) ++ List.replicate (n - (j + 1)) (0 : UInt8) := ⟨_, rfl⟩
        have hcl : cur.length = n := by rw [hcur]; simp; omega
        have hget : cur.getD j 0 = bs.getD j 0 := by rw [hcur]; exact inc_get bs n j hl (by omega)
        rw [← hcur] at hown
        have hown0 : Own wr w.heap.size (.slice (some ⟨g, 0, none⟩) cur.length c3) cur := by rw [hcl]; exact hown
        have hcell := hown0.cell j (by omega)
        have hfree := hown0.free j
        have hlt := hown.base_le
        by_cases hx : bs.getD j 0 + 1 = 0
        · have hov := inc_over bs n j hl (by omega) hI hx
          rw [← hcur] at hov
          have hx8 : byteAt cur j = 255 := by
            unfold byteAt; rw [hget]
            have h1 := congrArg UInt8.toNat hx
            simp [UInt8.toNat_add] at h1
            have := (bs.getD j 0).toNat_lt
            simp at *; omega
          rw [hx8] at hcell
          have hset := hown0.set_ j 0
          rw [hov.2, hcl] at hset
          have HH := hid (And.intro hov.1 hset)
          have HB := hid (And.intro hb hlt)
          clear hov hset hI hcur hget hx8 hown0 hown hx hb hlt hcl hl h hb3
          go_wp2
          go_roundw
          case rel => exact ⟨j, by omega, by go_num, HH.out.2, HB.out.1.setCell HB.out.2.1 _, HH.out.1⟩
          case measure => simp [intOf]
        · have hst := inc_stop bs n j hl (by omega) hI hx
          rw [← hcur] at hst
          have hset := hown0.set_ j (bs.getD j 0 + 1)
          rw [hst, hcl] at hset
          obtain ⟨X, hX⟩ : ∃ X : Int, byteAt cur j = X := ⟨_, rfl⟩
          have hX1 : 0 ≤ X := by rw [← hX]; exact byteAt_lo _ _
          have hX3 : ((bs.getD j 0 + 1).toNat : Int) = X + 1 ∧ X ≤ 254 := by
            rw [← hX]; unfold byteAt; rw [hget]
            have h1 : ¬ (bs.getD j 0).toNat = 255 := fun h2 => hx (by
              apply UInt8.toNat_inj.1; simp [UInt8.toNat_add] at h2 ⊢; omega)
            have := (bs.getD j 0).toNat_lt
            rw [UInt8.toNat_add]; simp at *; omega
          have hX2 := hX3.2
          rw [hX3.1] at hset
          rw [hX] at hcell
          have HH := hid hset
          have HB := hid (And.intro hb hlt)
          clear hset hst hX3 hX hI hcur hget hown0 hown hx hb hlt hcl hl h hb3
          go_wp2
          go_ret
          exact ⟨_, rfl, HH.out, HB.out.1.setCell HB.out.2.1 _⟩

theorem turn_all (A : Option Addr) (n c : Nat) (t : Int) (bs : List UInt8) (w : World) (h : Rd w w.heap.size A n bs) (hn : n ≤ 140737488355328) :
    Calls Try.prog 32 #[.slice A n c, .int .i64 t] w (RetB w (turnL bs n (tf t n) (ts t))) := by
  rcases Nat.eq_zero_or_pos n with rfl | hp
  · refine (turn_nil A c t w).mono ?_
    rintro e w' ⟨rfl, rfl⟩
    exact ⟨_, rfl, World.ownsRow_nil _ _ _ _, Below.refl _ _⟩
  · exact turn_any A n c t bs w h hn hp
theorem rturn_all (A : Option Addr) (n c : Nat) (t : Int) (bs : List UInt8) (w : World) (h : Rd w w.heap.size A n bs) (hn : n ≤ 140737488355328) :
    Calls Try.prog 33 #[.slice A n c, .int .i64 t] w (RetB w (turnL bs n (tf t n) (ts t))) := by
  rcases Nat.eq_zero_or_pos n with rfl | hp
  · exact rturn_nil A c t w
  · exact rturn_any A n c t bs w h hn hp
theorem lit_rd (w : World) (bs : List UInt8) (cs : Array Value) (n : Nat) (hcs : cs.toList = cellsOf bs) (hn : bs.length = n) (hm : n ≤ maxLen) :
    Rd (w.alloc (.cells cs 5)) (w.heap.size + 1) (some ⟨w.heap.size, 0, none⟩) n bs := by
  obtain ⟨A, c, e, h, _⟩ := (Own.lit w bs cs n w.heap.size hcs hn hm (Nat.le_refl _)).rd
  simp only [Value.slice.injEq] at e
  obtain ⟨rfl, hn', rfl⟩ := e
  rw [← hn'] at h
  simpa using h
end Go.Proofs.Ytllkbfhkpnncgaa
