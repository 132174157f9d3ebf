/- Back where a table is one, and strings of bytes; own lemmas of the verifier, no statement is proved here. -/
import Derived.Test.YtcmhaomnabdopaaDoorX5
namespace Go.Proofs.YtcmhaomnabdopaaDoor
open Go.RowKit
def BackTRet (w : World) (n : Nat) (bs : List UInt8) (e : Ending) (w' : World) : Prop :=
  ∃ A c, e = .returned (.tuple #[.slice A n c, .bool true]) ∧ Rd w' w'.heap.size A n (backL bs) ∧ Ext w w'
theorem back_tab (A : Option Addr) (n c : Nat) (bs : List UInt8) (w : World) (h : Rd w w.heap.size A n bs) (hT : IsT n bs) :
    Calls Tryd.prog 15 #[.slice A n c] w (BackTRet w n bs) := by
  have hs := hT.small
  refine (back_any A n c bs w h (by omega)).mono ?_
  rintro e w' ⟨A', c', rfl, hr, hx⟩
  have hl : (outB bs).length = n := by rw [outB_of hT, backL_length, hT.len]
  rw [hl, outB_of hT] at hr
  rw [hl, isB_of hT]
  exact ⟨_, _, rfl, hr, hx⟩
theorem is_tab (A : Option Addr) (n c : Nat) (bs : List UInt8) (w : World) (h : Rd w w.heap.size A n bs) (hT : IsT n bs) :
    Calls Tryd.prog 17 #[.slice A n c] w (RetTrue w) := by
  have hs := hT.small
  refine (is_any A n c bs w h (by omega)).mono ?_
  rintro e w' ⟨rfl, hx⟩
  exact ⟨by rw [isB_of hT], hx⟩
/-- A table of the law's own, as it is read. -/
def TabRet (w : World) (n : Nat) (bs : List UInt8) (e : Ending) (w' : World) : Prop :=
  ∃ A c, e = .returned (.slice A n c) ∧ n ≤ c ∧ Rd w' w'.heap.size A n bs ∧ Ext w w'
theorem table_rd (A : Option Addr) (n m c : Nat) (ns : List Int) (w : World) (h : RdN .i64 w w.heap.size A m ns) (hn : n ≤ 256) (hm : m ≤ 9223372036854775807) :
    Calls Tryd.prog 13 #[.int .i64 n, .slice A m c] w (TabRet w n (tabL n ns)) := by
  refine (table_any A n m c ns w h hn hm).mono ?_
  rintro e w' ⟨v, rfl, ho, hb⟩
  obtain ⟨A', c', rfl, hc, hr, _⟩ := ho.rdc (n := n) (tabL_length n ns)
  exact ⟨_, _, rfl, hc, hr, hb⟩
theorem strq {w : World} {B : Nat} {A : Option Addr} {n c : Nat} {bs : List UInt8} (h : Rd w B A n bs) : (convert 23 9 (.slice A n c)).run Tryd.prog w = .ok (.string (str bs)) w :=
  run_str w 23 9 Tryd.underlying23 Tryd.underlying5 Tryd.underlying9 B A n c bs h
theorem nb_cell {w : World} {B n : Nat} {A : Option Addr} {bs : List UInt8} (h : Rd w B A n bs) (hp : 0 < n) : ∃ b o, A = some ⟨b, o, none⟩ ∧ b < B ∧ ∀ k, k < n → w.cell? ⟨b, o + k, none⟩ = some (.int .u8 (nb bs k : Nat)) := h.at_ hp
end Go.Proofs.YtcmhaomnabdopaaDoor
