/- What the calls of chapter 2 hand back, as tables; own lemmas of the verifier, no statement is proved here. -/
import Derived.Test.YthfcndaccfpnmaaDoorX1
import Derived.Deep.DeepCutAuto
import Derived.Deep.CutBlock
namespace Go.Proofs.YthfcndaccfpnmaaDoor
open Go.RowKit
theorem wf_of {x : Int} (h0 : -9223372036854775808 ≤ x) (h1 : x ≤ 9223372036854775807) : (Lit.int .i64 x).wf = true := by
  simp [Lit.wf, IntKind.min, IntKind.max, IntKind.bits, IntKind.signed]; omega
/-- A table that a call may be handed. -/
def Tab (w : World) (A : Option Addr) (n c : Nat) (ts : List Int) : Prop :=
  RdN .i64 w w.heap.size A n ts ∧ n ≤ c ∧ n ≤ 1000 ∧ ∀ j, j < n → (Lit.int .i64 (ts.getD j 0)).wf = true
theorem Tab.later {w w' : World} {A : Option Addr} {n c : Nat} {ts : List Int} (h : Tab w A n c ts) (hx : Ext w w') : Tab w' A n c ts := ⟨h.1.later hx, h.2⟩
theorem getD_of_all {ts : List Int} {P : Int → Prop} (h : ∀ t ∈ ts, P t) {j : Nat} (hj : j < ts.length) : P (ts.getD j 0) := by
  apply h
  simp [List.getD, List.getElem?_eq_getElem hj]
theorem tab_of {w : World} {base : Nat} {v : Value} {xs : List Int} {n : Nat} (h : OwnN .i64 3 w base v xs) (hl : xs.length = n) (hn : n ≤ 1000) (hb : ∀ t ∈ xs, 1 ≤ t ∧ t ≤ 1000) :
    ∃ A c, v = .slice A n c ∧ Tab w A n c xs := by
  obtain ⟨A, c, rfl, hc, hr, _⟩ := h.rdc hl
  refine ⟨A, c, rfl, hr, hc, hn, fun j hj => ?_⟩
  have := getD_of_all hb (j := j) (by omega)
  exact wf_of (by omega) (by omega)
/-- A table is handed back. -/
def TabRet (w : World) (n : Nat) (ts : List Int) (e : Ending) (w' : World) : Prop := ∃ A c, e = .returned (.slice A n c) ∧ Tab w' A n c ts ∧ Ext w w'
theorem tab_ret {w w' : World} {v : Value} {xs : List Int} {n : Nat} (h : OwnN .i64 3 w' w.heap.size v xs) (hx : Ext w w') (hl : xs.length = n) (hn : n ≤ 1000) (hb : ∀ t ∈ xs, 1 ≤ t ∧ t ≤ 1000) :
    TabRet w n xs (.returned v) w' := by
  obtain ⟨A, c, rfl, ht⟩ := tab_of h hl hn hb
  exact ⟨A, c, rfl, ht, hx⟩
/-- Bytes are handed back. -/
def RdRet (w : World) (n : Nat) (bs : List UInt8) (e : Ending) (w' : World) : Prop := ∃ A c, e = .returned (.slice A n c) ∧ n ≤ c ∧ Rd w' w'.heap.size A n bs ∧ Ext w w'
theorem rd_ret {w w' : World} {v : Value} {bs : List UInt8} {n : Nat} (h : Own w' w.heap.size v bs) (hx : Ext w w') (hl : bs.length = n) : RdRet w n bs (.returned v) w' := by
  obtain ⟨A, c, rfl, hc, hr, _⟩ := h.rdc hl
  exact ⟨A, c, rfl, hc, hr, hx⟩
theorem perm_rd (A A' : Option Addr) (n m c c' : Nat) (bs : List UInt8) (ts : List Int) (M : Nat) (w : World) (h : Rd w w.heap.size A n bs) (ht : Tab w A' m c' ts) (hok : okT n ts = true) (hM : (m + 7) / 8 = M) :
    Calls Tryd.prog 27 #[.slice A n c, .slice A' m c'] w (fun e w' => ∃ A c, e = .returned (.tuple #[.slice A M c, .bool true]) ∧ M ≤ c ∧ Rd w' w'.heap.size A M (permL bs ts) ∧ Ext w w') := by
  refine (perm_any A A' n m c c' bs ts w h ht.1 (by have := ht.2.2.1; omega) ht.2.1 ht.2.2.2).mono ?_
  unfold permR
  rw [h.len, hok]
  rintro e w' ⟨v, rfl, ho, hb⟩
  obtain ⟨A2, c2, rfl, hc, hr, _⟩ := ho.rdc (n := M) (by rw [permL_length, ht.1.len]; exact hM)
  exact ⟨A2, c2, rfl, hc, hr, hb⟩
set_option maxHeartbeats 400000 in
theorem by_rd (A A' : Option Addr) (n m c c' : Nat) (bs : List UInt8) (ts : List Int) (M : Nat) (w : World) (h : Rd w w.heap.size A n bs) (hn : n ≤ 1000000) (ht : Tab w A' m c' ts) (hok : okT n ts = true) (hM : (m + 7) / 8 = M) :
    Calls Tryd.prog 21 #[.slice A n c, .slice A' m c'] w (RdRet w M (permL bs ts)) := by
  have hl := h.len
  have hml := ht.1.len
  go_enter Tryd.func21, Tryd.ntmps21
  go_wp2_with fail
  refine (rperm_any A A' n m c c' bs ts w h ht.1 (by omega) (by have := ht.2.2.1; omega) ht.2.2.2).mono ?_
  unfold permR
  rw [hl, hok]
  rintro e w' ⟨v, rfl, ho, hb⟩
  have H := hid (rd_ret (n := M) ho hb (by rw [permL_length, hml]; exact hM))
  clear ho hb ht h
  go_wp2_with fail
  go_ret
  exact H.out
theorem inv_ip (A : Option Addr) (c : Nat) (w : World) (h : Tab w A 64 c ipL) :
    Calls Tryd.prog 60 #[.slice A 64 c] w (fun e w' => ∃ A c, e = .returned (.tuple #[.slice A 64 c, .bool true]) ∧ Tab w' A 64 c ipU ∧ Ext w w') := by
  refine (inv_any A 64 c ipL w h.1 (by omega) h.2.2.2).mono ?_
  rw [ip_inv]
  rintro e w' ⟨v, rfl, ho, hb⟩
  obtain ⟨A2, c2, rfl, ht⟩ := tab_of ho ipU_perm.1.len (by omega) (fun t ht => by have := perm_bound ipU_perm.1 t ht; omega)
  exact ⟨A2, c2, rfl, ht, hb⟩
theorem rinv_ip (A : Option Addr) (c : Nat) (w : World) (h : Tab w A 64 c ipL) :
    Calls Tryd.prog 23 #[.slice A 64 c] w (fun e w' => ∃ A c, e = .returned (.tuple #[.slice A 64 c, .bool true]) ∧ Tab w' A 64 c ipU ∧ Ext w w') := by
  refine (rinv_any A 64 c ipL w h.1 (by omega) h.2.2.2).mono ?_
  rw [ip_inv]
  rintro e w' ⟨v, rfl, ho, hb⟩
  obtain ⟨A2, c2, rfl, ht⟩ := tab_of ho ipU_perm.1.len (by omega) (fun t ht => by have := perm_bound ipU_perm.1 t ht; omega)
  exact ⟨A2, c2, rfl, ht, hb⟩
theorem strq {w : World} {B n c : Nat} {A : Option Addr} {bs : List UInt8} (h : Rd w B A n bs) : (convert 22 9 (.slice A n c)).run Tryd.prog w = .ok (.string (str bs)) w :=
  run_str (P := Tryd.prog) w 22 9 (by kernel_rfl) (by kernel_rfl) (by kernel_rfl) _ _ _ c _ h
end Go.Proofs.YthfcndaccfpnmaaDoor
