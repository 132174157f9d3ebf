/- Copies into arrays, and blocks laid in a row; own lemmas of the verifier, no statement is proved here. -/
import Derived.Test.YtpfkcplldhdipaaDoorX6
namespace Go.Proofs.YtpfkcplldhdipaaDoor
open Go.RowKit
theorem run_copy_wide (w : World) (dT sT ty elem : TypeId) (b o dLen dCap : Nat) (a : Addr) (sLen sCap sz : Nat) (cs : List Value)
    (hu : Tryd.prog.underlying dT = some (.slice elem)) (hs : (Tryd.prog.info? elem).map (·.size) = some sz) (hn : cs.length = Nat.min sLen dLen * sz)
    (hsrc : ∀ j v, cs[j]? = some v → w.cell? (a.add j) = some v) (hc : ∀ j, j < cs.length → (w.cell? ⟨b, o + j, none⟩).isSome = true) (hf : ∀ j, j < cs.length → w.frozen? ⟨b, o + j, none⟩ = false) (h1 : ∀ v ∈ cs, v.oneCell' = true) :
    (Builtin.copy_ #[dT, sT] ty #[.slice (some ⟨b, o, none⟩) dLen dCap, .slice (some a) sLen sCap]).run Tryd.prog w = .ok (goInt (Nat.min sLen dLen : Nat)) (w.setCells b o cs) := by
  have hl := run_loadCells_list (P := Tryd.prog) w a cs hsrc
  have hst := run_storeCells_cells (P := Tryd.prog) b o cs 0 w (by simpa using hc) (by simpa using hf) h1
  cases hq : Tryd.prog.info? elem with
  | none => simp [hq] at hs
  | some i =>
    have hi : i.size = sz := by simpa [hq] using hs
    simp [Builtin.copy_, run_underlying hu, Builtin.lenOf, Builtin.firstCells, sizeOf, typeInfo, hq, hi, ← hn, hl, hst]
/-- A copy of bytes, of elements of sz bytes each, into bytes that may be written. -/
theorem wpList_cp {ops : Array Oper} {rest : List Oper} {o : Oper} {a : Act} {w : World} {Q : Exit → Act → World → Prop} (hgd : o.guard = none) (d s : Operand) (dT sT elem : TypeId) (sz : Nat)
    (ho : o.op = .call { callee := .builtin .copy, args := #[d, s], argTypes := #[dT, sT] }) (hu : Tryd.prog.underlying dT = some (.slice elem)) (hs : (Tryd.prog.info? elem).map (·.size) = some sz)
    (g k dLen dCap sLen sCap b p : Nat) (bs : List UInt8) (hd : a.eval d = .slice (some ⟨g, k, none⟩) dLen dCap) (hx : a.eval s = .slice (some ⟨b, p, none⟩) sLen sCap)
    (hl : bs.length = Nat.min sLen dLen * sz) (hc : w.rangeAt b p (cellsOf bs)) (ht : w.there g k bs.length)
    (h : wpList Tryd.prog ops Q rest (a.put o.dst (goInt (Nat.min sLen dLen : Nat))) (w.setCells g k (cellsOf bs))) : wpList Tryd.prog ops Q (o :: rest) a w :=
  wpList_plain hgd fun K hK => by
    have hk := hK _ _ h
    clear hK h
    have hr := fun ty => run_copy_wide w dT sT ty elem g k dLen dCap ⟨b, p, none⟩ sLen sCap sz (cellsOf bs) hu hs (by rw [cellsOf_length]; exact hl)
      (fun j v hv => by rw [Addr.add_mid]; exact hc j v hv) (fun j hj => (ht j (by rw [cellsOf_length] at hj; exact hj)).1) (fun j hj => (ht j (by rw [cellsOf_length] at hj; exact hj)).2) (cellsOf_one bs)
    have hrun := hr o.type
    unfold Oper.wp
    simp [execOp, ho, resolve, invoke, builtin, hd, hx, hrun, Result.andThen]
    exact hk
/-- n blocks of sixteen bytes, one behind the other. -/
def FL (f : Nat → List UInt8) (n : Nat) : List UInt8 := (List.range (n * 16)).map fun p => (f (p / 16)).getD (p % 16) 0
theorem FL_length (f : Nat → List UInt8) (n : Nat) : (FL f n).length = n * 16 := by simp [FL]
theorem FL_cut (f : Nat → List UInt8) (n j : Nat) (hj : j < n) (hl : (f j).length = 16) : ((FL f n).drop (j * 16)).take 16 = f j := by
  apply List.ext_getElem
  · simp [FL, hl]; omega
  · intro i h1 h2
    have hi : i < 16 := by omega
    simp only [FL, List.getElem_take, List.getElem_drop, List.getElem_map, List.getElem_range]
    rw [show (j * 16 + i) / 16 = j by omega, show (j * 16 + i) % 16 = i by omega]
    simp [List.getD_eq_getElem?_getD, h2]
theorem FL_congr {f h : Nat → List UInt8} {n : Nat} (e : ∀ j, j < n → f j = h j) : FL f n = FL h n := by
  refine List.map_congr_left fun p hp => ?_
  have := List.mem_range.1 hp
  rw [e (p / 16) (by omega)]
theorem FL_lay (f : Nat → List UInt8) (n j : Nat) (c : List UInt8) (_hj : j < n) (hc : c.length = 16) : lay (FL f n) (j * 16) c = FL (fun k => if k = j then c else f k) n := by
  unfold lay
  rw [FL_length]
  refine List.map_congr_left fun p hp => ?_
  have hp := List.mem_range.1 hp
  by_cases h : j * 16 ≤ p ∧ p < j * 16 + c.length
  · rw [if_pos h]
    show _ = (if p / 16 = j then c else f (p / 16)).getD (p % 16) 0
    rw [if_pos (by omega), show p - j * 16 = p % 16 by omega]
  · rw [if_neg h]
    show _ = (if p / 16 = j then c else f (p / 16)).getD (p % 16) 0
    rw [if_neg (by omega)]
    simp [FL, List.getD_eq_getElem?_getD, hp]
theorem FL_nil (f : Nat → List UInt8) : FL f 0 = [] := by simp [FL]
theorem FL_zero (n : Nat) : FL (fun _ => z16) n = List.replicate (n * 16) 0 := by
  apply List.ext_getElem
  · simp [FL]
  · intro p h1 h2
    simp only [FL, List.getElem_map, List.getElem_range, List.getElem_replicate, z16]
    rw [List.getD_eq_getElem?_getD, List.getElem?_replicate]
    split <;> rfl
/-- Block j of a row of blocks. -/
theorem RW.blk {w : World} {g n : Nat} {f : Nat → List UInt8} (h : RW w g 0 (FL f n)) (j : Nat) (hj : j < n) (hl : (f j).length = 16) : RW w g (j * 16) (f j) := by
  have := h.cut (j * 16) 16 (by rw [FL_length]; omega)
  rw [FL_cut f n j hj hl, Nat.zero_add] at this
  exact this
theorem RW.setBlk {w : World} {g n : Nat} {f : Nat → List UInt8} (h : RW w g 0 (FL f n)) (j : Nat) (c : List UInt8) (hj : j < n) (hc : c.length = 16) : RW (w.setCells g (j * 16) (cellsOf c)) g 0 (FL (fun k => if k = j then c else f k) n) := by
  have := h.store (j * 16) c (by rw [FL_length]; omega)
  rw [FL_lay f n j c hj hc, Nat.zero_add] at this
  exact this
theorem rangeAt_blk {w : World} {g n o : Nat} {f : Nat → List UInt8} (h : w.rangeAt g o (cellsOf (FL f n))) (j : Nat) (hj : j < n) (hl : (f j).length = 16) : w.rangeAt g (o + j * 16) (cellsOf (f j)) := by
  have := rangeAt_cut h (j * 16) 16 (by rw [FL_length]; omega)
  rw [FL_cut f n j hj hl] at this
  exact this
end Go.Proofs.YtpfkcplldhdipaaDoor
