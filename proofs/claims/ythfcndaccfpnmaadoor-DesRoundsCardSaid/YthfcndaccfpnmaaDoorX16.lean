/- Walks over more of the laws' own helpers; own lemmas of the verifier, no statement is proved here. -/
import Derived.Test.YthfcndaccfpnmaaDoorX15
import Derived.Test.YthfcndaccfpnmaaDoorF3
namespace Go.Proofs.YthfcndaccfpnmaaDoor
open Go.RowKit
/-- How long a key the law takes. -/
def kLen (n : Int) : Nat := if n % 3 = 0 then 8 else if n % 3 = 1 then 16 else 24
theorem kLen_ok (n : Int) : kLen n = 8 ∨ kLen n = 16 ∨ kLen n = 24 := by unfold kLen; split <;> (try split) <;> simp
set_option maxHeartbeats 1000000 in
theorem key_any (A : Option Addr) (L c : Nat) (n : Int) (bs : List UInt8) (w : World) (h : Rd w w.heap.size A L bs) (hL : L ≤ 9223372036854775807) :
    Calls Tryd.prog 17 #[.slice A L c, .int .i64 n] w (RdRet w (kLen n) (byL (kLen n) bs)) := by
  have hx1 : Ext w (w.alloc (.cells #[.int .i64 8, .int .i64 16, .int .i64 24] 3)) := Ext.alloc _ _
  have HX1 := hid hx1
  have HR1 := hid (h.later hx1)
  have hcell : ∀ i, i < 3 → (w.alloc (.cells #[.int .i64 8, .int .i64 16, .int .i64 24] 3)).cell? ⟨w.heap.size, i, none⟩ = some (.int .i64 ((([8, 16, 24] : List Int).getD i 0))) := fun i hi => by
    rw [cell_of_heap (heap_alloc_new w _)]
    match i, hi with
    | 0, _ => rfl
    | 1, _ => rfl
    | 2, _ => rfl
  obtain ⟨q, hq⟩ : ∃ q : Nat, n % 3 = q := ⟨(n % 3).toNat, by omega⟩
  have hq3 : q < 3 := by omega
  have hcq := hcell q hq3
  have hk : ((kLen n : Nat) : Int) = ([8, 16, 24] : List Int).getD q 0 := by
    unfold kLen
    match q, hq3, hq with
    | 0, _, hq => rw [if_pos (by omega)]; rfl
    | 1, _, hq => rw [if_neg (by omega), if_pos (by omega)]; rfl
    | 2, _, hq => rw [if_neg (by omega), if_neg (by omega)]; rfl
  rw [← hk] at hcq
  have hk1000 : kLen n ≤ 1000 := by rcases kLen_ok n with e | e | e <;> omega
  obtain ⟨m, hm⟩ : ∃ m, kLen n = m := ⟨_, rfl⟩
  rw [hm] at hcq hk1000 ⊢
  have HQ := hid hq
  clear hcell hk hm hx1 h hq
  go_enter Tryd.func17, Tryd.ntmps17
  go_wp2_with (go_at_call 20; refine (within_any _ _ _ (by omega) (by omega)).mono ?_; rintro e w' ⟨rfl, rfl⟩; rw [HQ.out])
  refine (bytes_rd _ _ _ _ _ _ HR1.out hk1000 hL).mono ?_
  rintro e w2 ⟨A2, c2, rfl, hc2, hr2, hx2⟩
  have HH := hid (And.intro hr2 (Ext.trans HX1.out hx2))
  clear hr2 hx2
  go_wp2_with fail
  go_ret
  exact ⟨A2, c2, rfl, hc2, HH.out.1, HH.out.2⟩
/-- True is told, and nothing that was there has turned. -/
def RetTrue (w : World) (e : Ending) (w' : World) : Prop := e = .returned (.bool true) ∧ Ext w w'
set_option maxHeartbeats 1000000 in
theorem rows_nil (w : World) : Calls Tryd.prog 14 #[.slice none 0 0, .slice none 0 0] w (RetTrue w) := by
  go_enter Tryd.func14, Tryd.ntmps14
  go_wp2
  go_loop [5] (fun i => i = .int .i64 0) (fun _ => 0)
  case atStart => rfl
  case round =>
    obtain rfl := hrel
    go_wp2
    go_ret
    exact ⟨rfl, Ext.refl _⟩
set_option maxHeartbeats 4000000 in
theorem rows_same (b1 b2 c1 c2 : Nat) (kf : Nat → List UInt8) (w : World) (h1 : KR w b1 0 kf) (h2 : KR w b2 0 kf) :
    Calls Tryd.prog 14 #[.slice (some ⟨b1, 0, none⟩) 16 c1, .slice (some ⟨b2, 0, none⟩) 16 c2] w (RetTrue w) := by
  go_enter Tryd.func14, Tryd.ntmps14
  go_wp2_with fail
  go_loopw [5] (fun i wr => ∃ k : Nat, k ≤ 16 ∧ i = .int .i64 k ∧ Ext w wr) (fun i _ => 16 - (intOf i).toNat)
  case atStart => exact ⟨0, by omega, rfl, Ext.refl _⟩
  case round =>
    obtain ⟨k, hk, rfl, hx⟩ := hrel
    by_cases hlt : k < 16
    · obtain ⟨A1, d1, hc1, hr1⟩ := (h1.later hx).2 k hlt
      obtain ⟨A2, d2, hc2, hr2⟩ := (h2.later hx).2 k hlt
      rw [Nat.zero_add] at hc1 hc2
      have hs1 := fun w0 (h : Rd w0 w0.heap.size A1 6 (kf k)) => strq (c := d1) h
      have hs2 := fun w0 (h : Rd w0 w0.heap.size A2 6 (kf k)) => strq (c := d2) h
      have t1 := fun n => hs1 (wr.drewN n) (hr1.later (below_drewN' (Ext.refl _) n))
      have t2 := fun n => hs2 (wr.drewN n) (hr2.later (below_drewN' (Ext.refl _) n))
      have HX := hid hx
      clear hx hr1 hr2 hs1 hs2 h1 h2
      go_wp2_with fail
      go_quiet (fail)
      go_wp2_with fail
      go_roundw
      case rel => exact ⟨k + 1, by omega, by go_num, below_drewN' HX.out nq⟩
      case measure => simp [intOf]; omega
    · obtain rfl : k = 16 := by omega
      have HX := hid hx
      clear hx h1 h2
      go_wp2_with fail
      go_ret
      exact ⟨rfl, HX.out⟩
end Go.Proofs.YthfcndaccfpnmaaDoor
