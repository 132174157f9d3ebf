/- What the calls of chapter 2 hand back, as tables; own lemmas of the verifier, no statement is proved here. -/
import Derived.Test.YtakfndhknoleaaaB7
import Derived.Test.YtakfndhknoleaaaB8
import Derived.Deep.DeepCutAuto
import Derived.Deep.CutBlock
namespace Go.Proofs.Ytakfndhknoleaaa
open Go.RowKit
theorem tab_of {w : World} {base : Nat} {v : Value} {xs : List Int} {n : Nat} (h : OwnN .i64 3 w base v xs) (hl : xs.length = n) (hn : n ≤ 1000) (hb : ∀ t ∈ xs, -9223372036854775808 ≤ t ∧ t ≤ 9223372036854775807) :
    ∃ A c, v = .slice A n c ∧ Tab w A n c xs := by
  obtain ⟨A, c, rfl, hc, hr, _⟩ := h.rdc hl
  refine ⟨A, c, rfl, hr, hc, hn, fun j hj => ?_⟩
  have := getD_of_all hb (j := j) (by omega)
  exact wf_of this.1 this.2
theorem order_tab (A : Option Addr) (n m c : Nat) (ns : List Int) (w : World) (N : Int) (hN : N = (n : Int)) (h : RdN .i64 w w.heap.size A m ns) (hn : n ≤ 1000) (hm : m ≤ 2 ^ 63 - 1) :
    Calls Try.prog 17 #[.int .i64 N, .slice A m c] w (fun e w' => ∃ A c, e = .returned (.slice A n c) ∧ Tab w' A n c (ordL n ns) ∧ Ext w w') := by
  subst hN
  refine (order_any A n m c ns w h hn (by omega)).mono ?_
  rintro e w' ⟨v, rfl, ho, hb⟩
  obtain ⟨A2, c2, rfl, ht⟩ := tab_of ho (ordL_length n ns) hn (fun t ht => by
    have := perm_bound (ordL_isPerm n ns) t ht
    omega)
  exact ⟨A2, c2, rfl, ht, hb⟩
theorem inv_tab (A : Option Addr) (n c : Nat) (xs us : List Int) (w : World) (h : Tab w A n c xs) (hi : invG xs n n = some us) (hu : IsPerm n us) :
    Calls Try.prog 18 #[.slice A n c] w (fun e w' => ∃ A c, e = .returned (.tuple #[.slice A n c, .bool true]) ∧ Tab w' A n c us ∧ Ext w w') := by
  refine (inv_any A n c xs w h.1 (by have := h.2.2.1; omega) h.2.2.2).mono ?_
  rw [hi]
  rintro e w' ⟨v, rfl, ho, hb⟩
  obtain ⟨A2, c2, rfl, ht⟩ := tab_of ho hu.len h.2.2.1 (fun t ht => by
    have := perm_bound hu t ht
    have := h.2.2.1
    omega)
  exact ⟨A2, c2, rfl, ht, hb⟩
theorem perm_rd (A A' : Option Addr) (n m c c' : Nat) (bs : List UInt8) (ts : List Int) (M : Nat) (w : World) (h : Rd w w.heap.size A n bs) (ht : Tab w A' m c' ts) (hok : okT n ts = true) (hM : (m + 7) / 8 = M) :
    Calls Try.prog 15 #[.slice A n c, .slice A' m c'] w (fun e w' => ∃ A c, e = .returned (.tuple #[.slice A M c, .bool true]) ∧ Rd w' w'.heap.size A M (permL bs ts) ∧ Ext w w') := by
  refine (perm_any A A' n m c c' bs ts w h ht.1 (by have := ht.2.2.1; omega) ht.2.1 ht.2.2.2).mono ?_
  unfold permR
  rw [h.len, hok]
  rintro e w' ⟨v, rfl, ho, hb⟩
  obtain ⟨A2, c2, rfl, hr, _⟩ := ho.rdn (n := M) (by rw [permL_length, ht.1.len]; exact hM)
  exact ⟨A2, c2, rfl, hr, hb⟩
theorem strq {w : World} {B n c : Nat} {A : Option Addr} {bs : List UInt8} (h : Rd w B A n bs) : (convert 22 9 (.slice A n c)).run Try.prog w = .ok (.string (str bs)) w :=
  run_str (P := Try.prog) w 22 9 (by kernel_rfl) (by kernel_rfl) (by kernel_rfl) _ _ _ c _ h
end Go.Proofs.Ytakfndhknoleaaa
