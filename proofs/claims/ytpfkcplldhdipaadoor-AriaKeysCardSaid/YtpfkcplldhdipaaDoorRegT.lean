/- A region whose order is open and that ends with one store: each operation by itself, the last one behind all; a law of the verifier's own; no statement is proved here. -/
import Derived.Test.YtpfkcplldhdipaaDoorReg
namespace Go.Proofs.YtpfkcplldhdipaaDoor
open Go.RowKit
/-- Each operation but the last one has one behind it that waits for it. -/
def tailOk (ops : Array Oper) (s : Nat) : Bool :=
  ops.size == s + 1 && (List.range s).all fun j => (List.range ops.size).any fun k => decide (j < k) && (ops[k]?.map fun x => waits x j).getD false
section
variable {P : Program} {ops : Array Oper} {V : Nat → World → Value → Prop} {a0 : Act} {w0 : World}
theorem wpAny_none {Q : Exit → Act → World → Prop} {fuel : Nat} {listed : Array Bool} {a : Act} {w : World} (hr : Region.ready .any ops listed = []) (h : Q .normal a w) :
    wpAny P .any ops Q fuel listed a w := by
  cases fuel with
  | zero => exact ⟨hr, h⟩
  | succ fuel => exact ⟨fun _ => h, fun i hi => by rw [hr] at hi; cases hi⟩
theorem tail_all {s : Nat} (hs : tailOk ops s = true) {listed : Array Bool} {a : Act} {w : World} (h : Inv ops V a0 w0 listed a w) (hi : s ∈ Region.ready .any ops listed) :
    ∀ j, j < s → listed.getD j false = true := by
  unfold tailOk at hs
  simp only [Bool.and_eq_true, beq_iff_eq, List.all_eq_true, List.mem_range, List.any_eq_true, decide_eq_true_eq] at hs
  obtain ⟨hsz, hall⟩ := hs
  obtain ⟨_, o, ho, hdep⟩ := mem_ready.1 hi
  have key : ∀ d j, j < s → s - j ≤ d → listed.getD j false = true := by
    intro d
    induction d with
    | zero => intro j hj hd; omega
    | succ d ih =>
      intro j hj hd
      obtain ⟨k, hk, hjk, hw⟩ := hall j hj
      cases hx : ops[k]? with
      | none => rw [hx] at hw; simp at hw
      | some x =>
        rw [hx] at hw
        simp only [Option.map_some, Option.getD_some] at hw
        obtain ⟨e, he, hb, heo⟩ := waits_edge hw
        by_cases hks : k = s
        · subst hks
          rw [ho] at hx; cases hx
          rw [← heo]; exact hdep e he hb
        · have := ih k (by omega) (by omega)
          rw [← heo]; exact h.closed k x hx this e he hb
  intro j hj
  exact key s j hj (by omega)
theorem wpAny_tail {Q : Exit → Act → World → Prop} {n s : Nat} (hok : regOk ops n = true) (hn : a0.tmps.size = n) (hs : tailOk ops s = true) {os : Oper} (hos : ops[s]? = some os) (hd : os.dst = none) (hg : os.guard = none)
    (hV : ∀ i w w' v, Ext w w' → V i w v → V i w' v)
    (step : ∀ i o, ops[i]? = some o → i ≠ s → ∀ a w, Kn ops V a0 w0 i a w → Step P ops V Q i o a w)
    (last : ∀ a w, Fin_ ops V a0 w0 a w → os.wp P a w (fun a' w' => Q .normal a' w') Q) :
    ∀ (fuel : Nat) (listed : Array Bool) (a : Act) (w : World), listed.toList.count false ≤ fuel → listed.getD s true = false → Inv ops V a0 w0 listed a w → wpAny P .any ops Q fuel listed a w := by
  have hss : s < ops.size := (Array.getElem?_eq_some_iff.1 hos).1
  have nope : ∀ (listed : Array Bool) (a : Act) (w : World), listed.getD s true = false → Inv ops V a0 w0 listed a w → Region.ready .any ops listed = [] → False := by
    intro listed a w hl h hr
    have := all_listed hok h.lsize hr s hss
    have hlt : s < listed.size := by rw [h.lsize]; exact hss
    simp [hlt] at hl this
    rw [hl] at this; cases this
  intro fuel
  induction fuel with
  | zero =>
    intro listed a w hc hl h
    have := count_set listed s hl
    omega
  | succ fuel ih =>
    intro listed a w hc hl h
    refine ⟨fun hr => absurd hr (nope listed a w hl h), fun i hi => ?_⟩
    obtain ⟨hun, o, ho, _⟩ := mem_ready.1 hi
    have hcs := count_set listed i hun
    by_cases his : i = s
    · subst his
      rw [hos] at ho
      cases ho
      have hall := tail_all hs h hi
      have hsz : ops.size = i + 1 := by
        unfold tailOk at hs
        simp only [Bool.and_eq_true, beq_iff_eq] at hs
        exact hs.1
      have hf : Fin_ ops V a0 w0 a w := by
        refine ⟨h.ext, h.defers, h.size, fun t ht => h.old t fun j x hx hdx => absurd hdx (ht j x hx), fun j x t hx hdx => ?_⟩
        have hj := (Array.getElem?_eq_some_iff.1 hx).1
        by_cases hji : j = i
        · subst hji
          rw [hos] at hx; cases hx
          rw [hd] at hdx; cases hdx
        · exact h.new j x t hx (hall j (by omega)) hdx
      have hl2 := last a w hf
      have hw : Region.wanted os (yielded ops a.tmps) = true := by simp [Region.wanted, hg]
      unfold wpOp
      simp only [hos]
      rw [if_pos hw]
      refine .inl (Oper.wp_mono (fun a' w' hh => ?_) hl2)
      refine wpAny_none ?_ hh
      refine List.eq_nil_iff_forall_not_mem.2 fun j hj => ?_
      obtain ⟨hun2, x, hx, _⟩ := mem_ready.1 hj
      have hjs := (Array.getElem?_eq_some_iff.1 hx).1
      have hli : i < listed.size := by rw [h.lsize]; exact hss
      by_cases hji : j = i
      · subst hji
        simp [hli] at hun2
      · have h3 := hall j (by omega)
        have hlj : j < listed.size := by rw [h.lsize]; exact hjs
        have h4 : (listed.setIfInBounds i true).getD j true = listed.getD j true := getD_set_ne true (Ne.symm hji)
        rw [h4] at hun2
        simp [hlj] at hun2 h3
        rw [hun2] at h3; cases h3
    · have hst := step i o ho his a w (h.kn hok hn hi)
      have hl2 : (listed.setIfInBounds i true).getD s true = false := by
        rw [getD_set_ne true his]; exact hl
      unfold wpOp
      simp only [ho]
      unfold Step at hst
      split
      · rename_i hw
        rw [if_pos hw] at hst
        refine .inl (Oper.wp_mono (fun a' w' hh => ?_) hst)
        obtain ⟨v, rfl, he, hv⟩ := hh
        exact ih _ _ _ (by omega) hl2 (h.put hok hn hV hi ho he hv)
      · rename_i hw
        rw [if_neg hw] at hst
        exact ih _ _ _ (by omega) hl2 (h.put hok hn hV hi ho (Ext.refl _) hst)
/-- A region that draws its order and ends with one store. -/
theorem region_tail {Q : Exit → Act → World → Prop} {id n : Nat} (s : Nat) (os : Oper) (hm : P.follows .mixedOrders = true) (hn : a0.tmps.size = n) (hok : regOk ops n = true)
    (hs : tailOk ops s = true) (hos : ops[s]? = some os) (hd : os.dst = none) (hg : os.guard = none)
    (V : Nat → World → Value → Prop) (hV : ∀ i w w' v, Ext w w' → V i w v → V i w' v)
    (step : ∀ i o, ops[i]? = some o → i ≠ s → ∀ a w, Kn ops V a0 w0 i a w → Step P ops V Q i o a w)
    (last : ∀ a w, Fin_ ops V a0 w0 a w → os.wp P a w (fun a' w' => Q .normal a' w') Q) : (Code.region id ops true).wp P Q a0 w0 := by
  have hss : s < ops.size := (Array.getElem?_eq_some_iff.1 hos).1
  refine wp_region_any hm (wpAny_tail (V := V) hok hn hs hos hd hg hV step last ops.size _ _ _ ?_ ?_ ?_)
  · simp
  · simp [hss]
  · refine ⟨by simp, Ext.drew w0, rfl, rfl, ?_, fun _ _ => rfl, ?_⟩
    · intro j x hx hl
      have hj := (Array.getElem?_eq_some_iff.1 hx).1
      simp [hj] at hl
    · intro j x t hx hl
      have hj := (Array.getElem?_eq_some_iff.1 hx).1
      simp [hj] at hl
end
end Go.Proofs.YtpfkcplldhdipaaDoor
