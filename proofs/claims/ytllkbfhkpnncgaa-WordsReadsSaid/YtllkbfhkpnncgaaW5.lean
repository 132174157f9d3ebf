/- The laws' own check of the examples of chapter 1, walked; own lemmas of the verifier, no statement is proved here. -/
import Derived.Test.YtllkbfhkpnncgaaW4
namespace Go.Proofs.Ytllkbfhkpnncgaa
open Go.RowKit
theorem k_be : be32N [1, 2, 3, 4] 4 = 16909060 := by unfold be32N; rw [if_pos rfl, be4]; rfl
theorem k_rol : rol8 129 (1 % 8 : Int).toNat = 3 := by kernel_rfl
theorem Rd.alloc {w : World} {B n : Nat} {A : Option Addr} {bs : List UInt8} (h : Rd w B A n bs) (hB : B ≤ w.heap.size) (o : Obj) : Rd (w.alloc o) B A n bs :=
  h.below ((Below.refl _ _).alloc (Nat.le_refl _) o) hB
theorem strq {w : World} {B n c : Nat} {A : Option Addr} {bs : List UInt8} (h : Rd w B A n bs) : (convert 22 9 (.slice A n c)).run Try.prog w = .ok (.string (str bs)) w :=
  run_str w 22 9 Try.underlying22 Try.underlying5 Try.underlying9 B A n c bs h
theorem str_toList (bs : List UInt8) : (str bs).toList = bs := by
  unfold str
  apply List.ext_getElem
  · simp
  · intro i h1 h2; simp
set_option maxHeartbeats 400000 in
theorem known_any (w : World) :
    Calls Try.prog 14 #[] w fun e w' => e = .returned (.bool true) ∧ Below w.heap.size w w' := by
  go_enter Try.func14, Try.ntmps14
  go_wp2_with fail
  refine (inc_any _ 2 _ [0, 255] _ (by simpa using lit_rd w [0, 255] _ 2 rfl rfl (by unfold maxLen; omega)) (by omega)).mono ?_
  rintro e w1 ⟨x, rfl, hx, hb⟩
  have hb' : Below w.heap.size w w1 := ((Below.refl _ _).alloc (Nat.le_refl _) _).trans (hb.mono (by simp))
  obtain ⟨A, c, rfl, hrd, _⟩ := hx.rdn (n := 2) rfl
  have hr2 : Rd w1 w1.heap.size A 2 [1, 0] := hrd
  have HB := hid hb'
  have hsz := hb'.size
  clear hx hb hrd hb'
  go_wp2_with fail
  refine (be32_any _ 4 _ _ [1, 2, 3, 4] _ (lit_rd w1 [1, 2, 3, 4] _ 4 rfl rfl (by unfold maxLen; omega)) (by omega)).mono ?_
  rintro e w2 ⟨rfl, rfl⟩
  rw [k_be, show isLen 4 4 = true from rfl]
  have kt : ((str [1, 0]).toList == [1, 0]) = true := by rw [str_toList]; rfl
  have hs := fun o => strq (c := c) (hr2.alloc (Nat.le_refl _) o)
  go_wp2_with fail
  refine (rl8 _ _ _).mono ?_
  rintro e w2 ⟨rfl, rfl⟩
  rw [k_rol]
  go_wp2_with fail
  go_ret
  exact ⟨rfl, HB.out.alloc hsz _⟩
end Go.Proofs.Ytllkbfhkpnncgaa
