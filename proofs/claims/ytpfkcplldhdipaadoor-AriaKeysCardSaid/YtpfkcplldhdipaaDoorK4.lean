/- Walk over the law's own helper that makes a table; own lemmas of the verifier, no statement is proved here. -/
import Derived.Test.YtpfkcplldhdipaaDoorK3
import Derived.StillTailTactics
import Derived.Deep.RegionWith
namespace Go.Proofs.YtpfkcplldhdipaaDoor
open Go.RowKit
theorem quietSame {P : Program} {f : FuncId} {args : Array Value} {w : World} {n : Nat} {v : Value}
    (h : Calls P f args (w.drewN n) fun e w' => e = .returned v ∧ w.drewN n = w') : Calls P f args (w.drewN n) fun e w'' => e = .returned v ∧ ∃ m, w'' = w.drewN m :=
  h.mono fun _ _ ⟨he, hm⟩ => ⟨he, n, hm.symm⟩
theorem tabF_succ (f : Nat → Nat) (n : Nat) : tabF f (n + 1) = tabF f n ++ [UInt8.ofNat (f n)] := by simp [tabF, List.range_succ]
theorem Own.len_eq {w : World} {base n c : Nat} {A : Option Addr} {xs : List UInt8} (h : Own w base (.slice A n c) xs) : xs.length = n := by
  rcases h.2 with ⟨h1, h2⟩ | ⟨g, cap, cur, h1, _⟩
  · cases h1; exact h2
  · cases h1; rfl
theorem Own.head {w : World} {base n : Nat} {v : Value} {xs : List UInt8} (h : Own w base v xs) (hn : xs.length = n) (hp : 0 < n) : ∃ g c, v = .slice (some ⟨g, 0, none⟩) n c ∧ n ≤ c ∧ base ≤ g ∧ g < w.heap.size := by
  subst hn
  have hl := World.ownsRow.lt h
  rcases h.2 with ⟨_, h2⟩ | ⟨g, cap, cur, rfl, hb, hh, hnc, _⟩
  · omega
  · exact ⟨g, cap, rfl, hnc, hb, (hl g rfl).2⟩
theorem Own.celln {w : World} {base g n c : Nat} {xs : List UInt8} (h : Own w base (.slice (some ⟨g, 0, none⟩) n c) xs) (hn : xs.length = n) (j : Nat) (hj : j < n) :
    w.cell? ⟨g, j, none⟩ = some (.int .u8 (nb xs j : Nat)) := by
  subst hn; exact h.cell j hj
theorem Own.freen {w : World} {base g n c : Nat} {xs : List UInt8} (h : Own w base (.slice (some ⟨g, 0, none⟩) n c) xs) (j : Nat) : w.frozen? ⟨g, j, none⟩ = false := by
  have := h.len_eq
  subst this
  exact h.free j
theorem Own.setn {w : World} {base g n c : Nat} {xs : List UInt8} (h : Own w base (.slice (some ⟨g, 0, none⟩) n c) xs) (j : Nat) (x : UInt8) :
    Own (w.setCell ⟨g, j, none⟩ (.int .u8 (x.toNat : Int))) base (.slice (some ⟨g, 0, none⟩) n c) (xs.set j x) := by
  have := h.len_eq
  subst this
  exact h.set_ j x
end Go.Proofs.YtpfkcplldhdipaaDoor
