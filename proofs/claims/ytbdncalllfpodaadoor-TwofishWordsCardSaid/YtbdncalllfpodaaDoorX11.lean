/- Walks over slices.Chunk and the iterator that it makes; own lemmas of the verifier, no statement is proved here. -/
import Derived.Test.YtbdncalllfpodaaDoorX10
import Derived.Test.YtbdncalllfpodaaDoorRG
import Derived.Maps.AppendAt
import Derived.Shelf.Abstract
import Derived.WalkKit
namespace Go.Proofs.YtbdncalllfpodaaDoor
open Go.RowKit Go.Shelf
attribute [local go_sem] Oper.semAt_some
set_option maxHeartbeats 1000000 in
theorem chunk_any (A : Option Addr) (len cap k : Nat) (w : World) (hk : 1 ≤ k) :
    Calls Tryd.prog 24 #[.slice A len cap, .int .i64 k] w fun e w' => e = .returned (.func (.func 42) #[] #[.pointer (some ⟨w.heap.size, 0, none⟩), .pointer (some ⟨w.heap.size + 1, 0, none⟩)]) ∧ w' = (w.alloc (.cells #[.slice A len cap] 22)).alloc (.cells #[.int .i64 k] 3) := by
  have hk2 : ¬ ((k : Int) < 1) := by omega
  go_enter Tryd.func24, Tryd.ntmps24
  go_wp2
  go_ret
  exact ⟨rfl, rfl⟩
/-- What lies below n₀ keeps its cells, and two boxes theirs. -/
def KpC (n₀ B1 B2 : Nat) (W W' : World) : Prop := ∀ p : Addr, (p.block < n₀ ∨ p.block = B1 ∨ p.block = B2) → W'.cell? p = W.cell? p
theorem KpC.refl {n₀ B1 B2 : Nat} (W : World) : KpC n₀ B1 B2 W W := fun _ _ => rfl
theorem kpC_t {n₀ B1 B2 : Nat} {A B C : World} (h : KpC n₀ B1 B2 A B) (k : KpC n₀ B1 B2 B C) : KpC n₀ B1 B2 A C := fun p hp => (k p hp).trans (h p hp)
theorem kpC_b {n₀ B1 B2 : Nat} {w : World} (hn : n₀ ≤ w.heap.size) (h1 : B1 < w.heap.size) (h2 : B2 < w.heap.size) (W : World) (l : Nat) (o o' : Obj) (hl : w.heap.size ≤ l) (_ : W.heap[l]? = some o) (_ : o.isCells = false) (_ : o.isWalk = false) : KpC n₀ B1 B2 W (W.putObj l o') := fun p hp =>
  World.cell?_of_block (w := W) (World.putObj_heap_other (by omega))
set_option maxRecDepth 100000 in
set_option maxHeartbeats 4000000 in
theorem chunk1_in (n l Bs Bn n₀ b o k m c : Nat) (hn : 1 ≤ n) (hk : 1 ≤ k) (hk2 : k ≤ 16) (hm : m ≤ 1000) (hc : k * m ≤ c) (J Jx : List (Fin m) → World → Prop) (B0 : Nat) (hJa : AbidesFrom B0 J)
    (hY : ∀ (pre : List (Fin m)) (x : Fin m) W, J pre W → pre.length < m → YieldAt Fence.wide (n - 1) Tryd.prog l #[.slice (some ⟨b, o + k * x.1, none⟩) k k] W fun e W' =>
      (e = .returned (.bool true) ∧ J (pre ++ [x]) W' ∧ KpC n₀ Bs Bn W W') ∨ (e = .returned (.bool false) ∧ Jx (pre ++ [x]) W'))
    (W : World) (hBs : W.cell? ⟨Bs, 0, none⟩ = some (.slice (some ⟨b, o, none⟩) (k * m : Nat) c)) (hBn : W.cell? ⟨Bn, 0, none⟩ = some (.int .i64 k)) (h0 : J [] W) :
    CallsIn Fence.wide n Tryd.prog 42 #[.func (.yield l) #[] #[], .pointer (some ⟨Bs, 0, none⟩), .pointer (some ⟨Bn, 0, none⟩)] W fun e W' => (∃ v, e = .returned v) ∧
      ((∃ ys, ys = List.finRange m ∧ J ys W') ∨ (∃ pre, True ∧ Jx pre W')) := by
  refine callsIn_of_wp Tryd.func42 rfl trivial ?_ rfl
  simp only [Tryd.ntmps42, List.size_toArray, List.length_cons, List.length_nil, Nat.reduceAdd, Nat.reduceSub, Array.replicate_succ, Array.replicate_zero, List.push_toArray, List.append_toArray, List.nil_append, List.cons_append]
  gi_wp2
  gi_loopw [4] (fun i wr => ∃ j : Nat, j ≤ m ∧ i = .int .i64 (k * j : Nat) ∧ J ((List.finRange m).take j) wr ∧ KpC n₀ Bs Bn W wr)
    (fun i _ => k * m - (intOf i).toNat)
  case atStart => exact ⟨0, Nat.zero_le _, by simp, by simpa using h0, KpC.refl _⟩
  case round =>
    obtain ⟨j, hj, rfl, hJs, hkp⟩ := hrel
    have cs := (hkp ⟨Bs, 0, none⟩ (.inr (.inl rfl))).trans hBs
    have cn := (hkp ⟨Bn, 0, none⟩ (.inr (.inr rfl))).trans hBn
    obtain ⟨L, hL⟩ : ∃ L, k * m = L := ⟨_, rfl⟩
    obtain ⟨I, hI⟩ : ∃ I, k * j = I := ⟨_, rfl⟩
    rw [hL] at cs hc ⊢
    rw [hI]
    by_cases hlt : j < m
    · have hIL : I + k ≤ L := by rw [← hL, ← hI, ← Nat.mul_succ]; exact Nat.mul_le_mul_left _ hlt
      have hL2 : L ≤ 16000 := by rw [← hL]; exact Nat.mul_le_mul hk2 hm
      have hJq := fun q => hJa _ _ (wr.drewN q) none hJs ⟨rfl, rfl, rfl, Nat.le_refl _, fun _ _ _ => rfl⟩ (fun r e => by cases e)
      have HYX := hid (fun q => hY _ ⟨j, hlt⟩ (wr.drewN q) (hJq q) (by simp; omega))
      have HKP := hid hkp
      have hT : (List.finRange m).take (j + 1) = (List.finRange m).take j ++ [⟨j, hlt⟩] := by
        rw [List.take_succ_eq_append_getElem (by simpa using hlt)]; simp
      have HT := hid hT
      clear hY hkp hBs hBn hJq hT
      gi_wp2
      refine wpIn_wide.2 ?_
      go_quiet (fail)
      obtain ⟨fn, tmps, assign, body, hy, hR⟩ := HYX.out nq
      have HR := hid hR
      rw [show o + k * (⟨j, hlt⟩ : Fin m).1 = o + I by rw [← hI]] at hy
      clear hR
      gi_wp2
      refine HR.out.mono ?_
      rintro e W3 (⟨rfl, hJ3, hk3⟩ | ⟨rfl, hJx3⟩)
      · have cn3 : W3.cell? ⟨Bn, 0, none⟩ = some (.int .i64 k) := (hk3 ⟨Bn, 0, none⟩ (.inr (.inr rfl))).trans cn
        have HJ3 := hid hJ3
        have HK3 := hid hk3
        have HI := hid hI
        have HL := hid hL
        clear hJ3 hk3 hJs hI hL
        gi_wp2
        go_roundw
        case rel => exact ⟨j + 1, by omega, by rw [Nat.mul_succ, HI.out]; go_num, by rw [HT.out]; exact HJ3.out, kpC_t HKP.out HK3.out⟩
        case measure => simp [intOf]; omega
      · have HJX := hid hJx3
        clear hJx3 hJs
        gi_wp2
        refine bodyPost_ret (results_none rfl _ _ _) rfl ?_
        exact ⟨⟨_, rfl⟩, .inr ⟨_, trivial, HJX.out⟩⟩
    · obtain rfl : j = m := by omega
      have hIL : I = L := by rw [← hL, ← hI]
      subst hIL
      rw [List.take_of_length_le (by simp)] at hJs
      have HJS := hid hJs
      clear hJs hY
      gi_wp2
      go_end0
      exact ⟨⟨_, rfl⟩, .inl ⟨_, rfl, HJS.out⟩⟩
/-- What Chunk makes hands each part on, in order, and no more. -/
theorem chunk_stops (n Bs Bn n₀ b o k m c : Nat) (hn : 1 ≤ n) (hk : 1 ≤ k) (hk2 : k ≤ 16) (hm : m ≤ 1000) (hc : k * m ≤ c) (w : World) (h1 : Bs < w.heap.size) (h2 : Bn < w.heap.size)
    (hBs : w.cell? ⟨Bs, 0, none⟩ = some (.slice (some ⟨b, o, none⟩) (k * m : Nat) c)) (hBn : w.cell? ⟨Bn, 0, none⟩ = some (.int .i64 k)) :
    SeqStopsK Fence.wide n Tryd.prog 42 #[.pointer (some ⟨Bs, 0, none⟩), .pointer (some ⟨Bn, 0, none⟩)] (fun x : Fin m => #[Value.slice (some ⟨b, o + k * x.1, none⟩) k k]) (KpC n₀ Bs Bn) (fun ys => ys = List.finRange m) (fun _ => True) m w :=
  fun l J Jx W hW hJ _ hY h0 =>
    chunk1_in n l Bs Bn n₀ b o k m c hn hk hk2 hm hc J Jx W.heap.size hJ hY W ((hW.cell (p := ⟨Bs, 0, none⟩) h1).trans hBs) ((hW.cell (p := ⟨Bn, 0, none⟩) h2).trans hBn) h0
end Go.Proofs.YtbdncalllfpodaaDoor
