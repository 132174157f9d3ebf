/- The calls of chapter 1's functions, within a region; own lemmas of the verifier, no statement is proved here. -/
import Derived.Test.YtllkbfhkpnncgaaW5
import Derived.Test.YtllkbfhkpnncgaaRow
import Derived.Test.YtllkbfhkpnncgaaReg
namespace Go.Proofs.Ytllkbfhkpnncgaa
open Go.RowKit
theorem mixed : Try.prog.follows .mixedOrders = true := by kernel_rfl
theorem elem22 : Try.prog.underlying 22 = some (.slice (Try.prog.elem 22)) := by kernel_rfl
theorem size22 (w : World) : (sizeOf (Try.prog.elem 22)).run Try.prog w = .ok 1 w := by kernel_rfl
theorem cf14 (vs : Array Value) (w : World) : (callFunc 14 vs).run Try.prog w = .ok (.enter 14 vs) w := by go_simp
theorem cf15 (vs : Array Value) (w : World) : (callFunc 15 vs).run Try.prog w = .ok (.enter 15 vs) w := by go_simp
theorem cf16 (vs : Array Value) (w : World) : (callFunc 16 vs).run Try.prog w = .ok (.enter 16 vs) w := by go_simp
theorem cf17 (vs : Array Value) (w : World) : (callFunc 17 vs).run Try.prog w = .ok (.enter 17 vs) w := by go_simp
theorem cf18 (vs : Array Value) (w : World) : (callFunc 18 vs).run Try.prog w = .ok (.enter 18 vs) w := by go_simp
theorem cf19 (vs : Array Value) (w : World) : (callFunc 19 vs).run Try.prog w = .ok (.enter 19 vs) w := by go_simp
theorem cf20 (vs : Array Value) (w : World) : (callFunc 20 vs).run Try.prog w = .ok (.enter 20 vs) w := by go_simp
theorem cf21 (vs : Array Value) (w : World) : (callFunc 21 vs).run Try.prog w = .ok (.enter 21 vs) w := by go_simp
theorem cf22 (vs : Array Value) (w : World) : (callFunc 22 vs).run Try.prog w = .ok (.enter 22 vs) w := by go_simp
theorem cf23 (vs : Array Value) (w : World) : (callFunc 23 vs).run Try.prog w = .ok (.enter 23 vs) w := by go_simp
theorem cf24 (vs : Array Value) (w : World) : (callFunc 24 vs).run Try.prog w = .ok (.enter 24 vs) w := by go_simp
theorem cf25 (vs : Array Value) (w : World) : (callFunc 25 vs).run Try.prog w = .ok (.enter 25 vs) w := by go_simp
theorem cf26 (vs : Array Value) (w : World) : (callFunc 26 vs).run Try.prog w = .ok (.enter 26 vs) w := by go_simp
theorem cf27 (vs : Array Value) (w : World) : (callFunc 27 vs).run Try.prog w = .ok (.enter 27 vs) w := by go_simp
theorem cf28 (vs : Array Value) (w : World) : (callFunc 28 vs).run Try.prog w = .ok (.enter 28 vs) w := by go_simp
theorem cf29 (vs : Array Value) (w : World) : (callFunc 29 vs).run Try.prog w = .ok (.enter 29 vs) w := by go_simp
theorem cf30 (vs : Array Value) (w : World) : (callFunc 30 vs).run Try.prog w = .ok (.enter 30 vs) w := by go_simp
theorem cf31 (vs : Array Value) (w : World) : (callFunc 31 vs).run Try.prog w = .ok (.enter 31 vs) w := by go_simp
theorem cf32 (vs : Array Value) (w : World) : (callFunc 32 vs).run Try.prog w = .ok (.enter 32 vs) w := by go_simp
theorem cf33 (vs : Array Value) (w : World) : (callFunc 33 vs).run Try.prog w = .ok (.enter 33 vs) w := by go_simp
theorem cf34 (vs : Array Value) (w : World) : (callFunc 34 vs).run Try.prog w = .ok (.enter 34 vs) w := by go_simp
theorem cf35 (vs : Array Value) (w : World) : (callFunc 35 vs).run Try.prog w = .ok (.enter 35 vs) w := by go_simp
theorem cf36 (vs : Array Value) (w : World) : (callFunc 36 vs).run Try.prog w = .ok (.enter 36 vs) w := by go_simp
theorem cf37 (vs : Array Value) (w : World) : (callFunc 37 vs).run Try.prog w = .ok (.enter 37 vs) w := by go_simp
theorem cf38 (vs : Array Value) (w : World) : (callFunc 38 vs).run Try.prog w = .ok (.enter 38 vs) w := by go_simp
theorem cf39 (vs : Array Value) (w : World) : (callFunc 39 vs).run Try.prog w = .ok (.enter 39 vs) w := by go_simp
theorem cf40 (vs : Array Value) (w : World) : (callFunc 40 vs).run Try.prog w = .ok (.enter 40 vs) w := by go_simp
theorem cf41 (vs : Array Value) (w : World) : (callFunc 41 vs).run Try.prog w = .ok (.enter 41 vs) w := by go_simp
theorem cf42 (vs : Array Value) (w : World) : (callFunc 42 vs).run Try.prog w = .ok (.enter 42 vs) w := by go_simp
theorem cf44 (vs : Array Value) (w : World) : (callFunc 44 vs).run Try.prog w = .ok (.enter 44 vs) w := by go_simp
theorem cf46 (vs : Array Value) (w : World) : (callFunc 46 vs).run Try.prog w = .ok (.enter 46 vs) w := by go_simp
theorem cf47 (vs : Array Value) (w : World) : (callFunc 47 vs).run Try.prog w = .ok (.enter 47 vs) w := by go_simp
theorem be_put (v : Int) (h0 : 0 ≤ v) (h1 : v < 4294967296) : be32N (put32 v) 4 = v := by
  unfold be32N
  rw [if_pos rfl, be4]
  have e0 : byteAt (put32 v) 0 = v / 16777216 % 256 := u8_toNat _
  have e1 : byteAt (put32 v) 1 = v / 65536 % 256 := u8_toNat _
  have e2 : byteAt (put32 v) 2 = v / 256 % 256 := u8_toNat _
  have e3 : byteAt (put32 v) 3 = v % 256 := u8_toNat _
  rw [e0, e1, e2, e3]; omega
theorem le_put (v : Int) (h0 : 0 ≤ v) (h1 : v < 4294967296) : le32N (putL32 v) 4 = v := by
  unfold le32N
  rw [if_pos rfl, le4]
  have e0 : byteAt (putL32 v) 3 = v / 16777216 % 256 := u8_toNat _
  have e1 : byteAt (putL32 v) 2 = v / 65536 % 256 := u8_toNat _
  have e2 : byteAt (putL32 v) 1 = v / 256 % 256 := u8_toNat _
  have e3 : byteAt (putL32 v) 0 = v % 256 := u8_toNat _
  rw [e0, e1, e2, e3]; omega
theorem be8_put (v : Int) (h0 : 0 ≤ v) (h1 : v < 18446744073709551616) : be64N (spreadL v 8) 8 = v := by
  unfold be64N
  rw [if_pos rfl, be8]
  have e (i : Nat) (hi : i < 8) : byteAt (spreadL v 8) i = v / 2 ^ (8 * (8 - 1 - i)) % 256 := by
    unfold byteAt
    have : (spreadL v 8).getD i 0 = spreadF v 8 i := by simp [spreadL, List.getD, hi]
    rw [this]; exact u8_toNat _
  rw [e 0 (by omega), e 1 (by omega), e 2 (by omega), e 3 (by omega), e 4 (by omega), e 5 (by omega), e 6 (by omega), e 7 (by omega)]
  simp only [Nat.reduceSub, Nat.reduceMul]
  omega
theorem retV {w : World} {v : Value} {k : K} (hk : ∀ w, k.holds w v) (e : Ending) (w' : World) (h : e = .returned v ∧ w = w') : ∃ v, e = .returned v ∧ Ext w w' ∧ k.holds w' v := by
  obtain ⟨rfl, rfl⟩ := h
  exact ⟨_, rfl, Ext.refl _, hk _⟩
theorem retE {w : World} {v : Value} (e : Ending) (w' : World) (h : e = .returned v ∧ w = w') : ∃ u, e = .returned u ∧ Ext w w' ∧ K.holds (.eq v) w' u := by
  obtain ⟨rfl, rfl⟩ := h
  exact ⟨_, rfl, Ext.refl _, rfl⟩
end Go.Proofs.Ytllkbfhkpnncgaa
