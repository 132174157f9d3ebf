/- A region one of whose first operations writes, the end by itself; a law of the verifier's own, no statement is proved here. -/
import Derived.Test.YtpfkcplldhdipaaDoorRegO
namespace Go.Proofs.YtpfkcplldhdipaaDoor
open Go.RowKit
section
variable {P : Program} {ops : Array Oper} {Q : Exit → Act → World → Prop} {r n : Nat}
variable {P : Program} {l : List Oper} {V : Nat → World → Value → Prop} {a0 : Act} {w0 : World}
theorem inv_start : Inv l.toArray V a0 w0 (Array.replicate l.toArray.size false) a0 { w0 with drawn := w0.drawn + 1 } := by
  refine ⟨by simp, Ext.drew w0, rfl, rfl, ?_, fun _ _ => rfl, ?_⟩
  · intro j x _ hl
    rw [getD_replicate_false] at hl; cases hl
  · intro j x t _ hl
    rw [getD_replicate_false] at hl; cases hl
/-- What holds of the world: ahead of the writer, behind it. -/
structure InvO (l : List Oper) (V : Nat → World → Value → Prop) (a0 : Act) (s1 : Nat) (I1 I2 : World → Prop) (listed : Array Bool) (a : Act) (w : World) : Prop where
  inv : Inv l.toArray V a0 w listed a w
  pre : listed.getD s1 false = false → I1 w
  post : listed.getD s1 false = true → I2 w
theorem InvO.any {s1 : Nat} {I1 I2 : World → Prop} {listed : Array Bool} {a : Act} {w : World} (h : InvO l V a0 s1 I1 I2 listed a w) : I1 w ∨ I2 w := by
  cases hl : listed.getD s1 false with
  | false => exact .inl (h.pre hl)
  | true => exact .inr (h.post hl)
theorem wpAny_ou {Q : Exit → Act → World → Prop} {n s s1 : Nat} {I1 I2 : World → Prop} (hok : regOk l.toArray n = true) (hn : a0.tmps.size = n) (hs : uptoOk l.toArray s = true) (hseq : Region.seqB .any l.toArray (l.length - s) s (listedAt l.length s) = true)
    (hs1 : s1 < s) {os : Oper} (hos : l[s1]? = some os) (hg : os.guard = none)
    (hV : ∀ i w w' v, Ext w w' → V i w v → V i w' v) (h1 : ∀ w w', Ext w w' → I1 w → I1 w') (h2 : ∀ w w', Ext w w' → I2 w → I2 w')
    (step : ∀ i o, (l.take s).toArray[i]? = some o → i ≠ s1 → ∀ a w, Kn l.toArray V a0 w i a w → (I1 w ∨ I2 w) → (waits os i = true → I1 w) → Step P l.toArray V Q i o a w)
    (wr : ∀ a w, Kn l.toArray V a0 w s1 a w → I1 w → os.wp P a w (fun a' w' => ∃ v, a' = a.put os.dst v ∧ I2 w' ∧ V s1 w' v ∧ ∀ i v, i ≠ s1 → V i w v → V i w' v) Q)
    (last : ∀ a w, Fin_ (l.take s).toArray V a0 w a w → I2 w → wpList P l.toArray Q (l.drop s) a w) :
    ∀ (fuel : Nat) (listed : Array Bool) (a : Act) (w : World), listed.toList.count false = fuel → (∀ j, listed.getD j false = true → j < s) → InvO l V a0 s1 I1 I2 listed a w → wpAny P .any l.toArray Q fuel listed a w := by
  have hsn : s < l.length := by
    unfold uptoOk at hs
    simp only [Bool.and_eq_true, decide_eq_true_eq, List.size_toArray] at hs
    exact hs.1.1
  have hlast : ∀ (listed : Array Bool) (a : Act) (w : World), (∀ j, listed.getD j false = true → j < s) → InvO l V a0 s1 I1 I2 listed a w → (∀ j, j < s → listed.getD j false = true) → wpAny P .any l.toArray Q (listed.toList.count false) listed a w := by
    intro listed a w hlo h hall
    have hsz : listed.size = l.length := by rw [h.inv.lsize, List.size_toArray]
    have e := listed_eq hsz (by omega) hall hlo
    have hc : listed.toList.count false = (l.drop s).length := by
      rw [e]
      simp [listedAt, List.count_append, List.count_replicate]
    rw [hc]
    refine wpAny_of_seq (l.drop s) s listed a w (fun j => by simp) (by rw [List.length_drop, e]; exact hseq) (last a w ⟨Ext.refl _, h.inv.defers, h.inv.size, fun t ht => h.inv.old t fun j x hx hd => ?_, fun j x t hx hd => ?_⟩ (h.post (hall s1 hs1)))
    · cases hl : listed.getD j false with
      | false => rfl
      | true =>
        have hj := hlo j hl
        exact absurd hd (ht j x (by
          have : l[j]? = some x := by simpa using hx
          simp [hj, this]))
    · have hx2 : (l.take s)[j]? = some x := by simpa using hx
      have hj : j < s := by
        rcases Nat.lt_or_ge j s with h1 | h1
        · exact h1
        · rw [List.getElem?_eq_none (by simp; omega)] at hx2; cases hx2
      rw [List.getElem?_take, if_pos hj] at hx2
      exact h.inv.new j x t (by simpa using hx2) (hall j hj) hd
  intro fuel
  induction fuel with
  | zero =>
    intro listed a w hc hlo h
    by_cases hall : ∀ j, j < s → listed.getD j false = true
    · rw [← hc]; exact hlast listed a w hlo h hall
    · exfalso
      refine hall fun j hj => ?_
      have hjs : j < listed.size := by rw [h.inv.lsize, List.size_toArray]; omega
      cases hl : listed.getD j false with
      | true => rfl
      | false =>
        have hm : false ∈ listed.toList := by
          have : listed[j] = false := by simpa [hjs] using hl
          rw [← this]; simp
        have := List.count_pos_iff.2 hm
        omega
  | succ fuel ih =>
    intro listed a w hc hlo h
    by_cases hall : ∀ j, j < s → listed.getD j false = true
    · rw [← hc]; exact hlast listed a w hlo h hall
    · refine ⟨fun hr => absurd (fun j hj => all_listed hok h.inv.lsize hr j (by rw [List.size_toArray]; omega)) hall, fun i hi => ?_⟩
      have his : i < s := (upto_ready hs h.inv hlo hi).resolve_right hall
      obtain ⟨hun, o, ho, _⟩ := mem_ready.1 hi
      have hcs := count_set listed i hun
      have ho2 : (l.take s).toArray[i]? = some o := by
        have : l[i]? = some o := by simpa using ho
        simp [his, this]
      have hlo2 : ∀ j, (listed.setIfInBounds i true).getD j false = true → j < s := fun j hl => by
        by_cases hj : j = i
        · omega
        · rw [getD_set_ne false (Ne.symm hj)] at hl
          exact hlo j hl
      have hli : i < listed.size := by rw [h.inv.lsize]; exact (Array.getElem?_eq_some_iff.1 ho).1
      have hun' : listed.getD i false = false := by simpa [hli] using hun
      have hat : ∀ {w1 : World}, Inv l.toArray V a0 w listed a w1 → Inv l.toArray V a0 w1 listed a w1 := fun h => ⟨h.lsize, Ext.refl _, h.defers, h.size, h.closed, h.old, h.new⟩
      by_cases hi1 : i = s1
      · subst hi1
        have hoe : o = os := by
          have : l[i]? = some o := by simpa using ho
          rw [hos] at this; exact (Option.some.inj this).symm
        subst hoe
        have hwr := wr a w (h.inv.kn hok hn hi) (h.pre hun')
        have hwant : Region.wanted o (yielded l.toArray a.tmps) = true := by simp [Region.wanted, hg]
        unfold wpOp
        simp only [ho]
        rw [if_pos hwant]
        refine .inl (Oper.wp_mono (fun a' w' hh => ?_) hwr)
        obtain ⟨v, rfl, hi2, hv, hkeep⟩ := hh
        have hI : Inv l.toArray V a0 w' listed a w' := ⟨h.inv.lsize, Ext.refl _, h.inv.defers, h.inv.size, h.inv.closed, h.inv.old, fun j x t hx hl hd => hkeep _ _ (fun e => by subst e; rw [hun'] at hl; cases hl) (h.inv.new j x t hx hl hd)⟩
        refine ih _ _ _ (by omega) hlo2 ⟨hI.put hok hn hV hi ho (Ext.refl _) hv, fun hl => ?_, fun _ => hi2⟩
        simp [hli] at hl
      · have hset : (listed.setIfInBounds i true).getD s1 false = listed.getD s1 false := getD_set_ne false hi1
        have hst := step i o ho2 hi1 a w (h.inv.kn hok hn hi) h.any (fun hwt => by
          refine h.pre ?_
          cases hl : listed.getD s1 false with
          | false => rfl
          | true =>
            obtain ⟨e, he, hb, rfl⟩ := waits_edge hwt
            have hos' : l.toArray[s1]? = some os := by simpa using hos
            have := h.inv.closed s1 os hos' hl e he hb
            rw [hun'] at this; cases this)
        unfold wpOp
        simp only [ho]
        unfold Step at hst
        split
        · rename_i hw
          rw [if_pos hw] at hst
          refine .inl (Oper.wp_mono (fun a' w' hh => ?_) hst)
          obtain ⟨v, rfl, he, hv⟩ := hh
          have hp := h.inv.put hok hn hV hi ho he hv
          exact ih _ _ _ (by omega) hlo2 ⟨⟨hp.lsize, Ext.refl _, hp.defers, hp.size, hp.closed, hp.old, hp.new⟩, fun hl => h1 _ _ he (h.pre (by rw [← hset]; exact hl)), fun hl => h2 _ _ he (h.post (by rw [← hset]; exact hl))⟩
        · rename_i hw
          rw [if_neg hw] at hst
          have hp := h.inv.put hok hn hV hi ho (Ext.refl _) hst
          exact ih _ _ _ (by omega) hlo2 ⟨⟨hp.lsize, Ext.refl _, hp.defers, hp.size, hp.closed, hp.old, hp.new⟩, fun hl => h.pre (by rw [← hset]; exact hl), fun hl => h.post (by rw [← hset]; exact hl)⟩
/-- A region that draws its order: the first s operations in whatever order, one of them, s1, writes; the end in the text's order. -/
theorem region_ou {Q : Exit → Act → World → Prop} {id n : Nat} (s s1 : Nat) (os : Oper) (I1 I2 : World → Prop) (hm : P.follows .mixedOrders = true) (hn : a0.tmps.size = n) (hok : regOk l.toArray n = true)
    (hs : uptoOk l.toArray s = true) (hseq : Region.seqB .any l.toArray (l.length - s) s (listedAt l.length s) = true)
    (hs1 : s1 < s) (hos : l[s1]? = some os) (hg : os.guard = none)
    (V : Nat → World → Value → Prop) (hV : ∀ i w w' v, Ext w w' → V i w v → V i w' v) (h1 : ∀ w w', Ext w w' → I1 w → I1 w') (h2 : ∀ w w', Ext w w' → I2 w → I2 w') (h0 : I1 w0)
    (step : ∀ i o, (l.take s).toArray[i]? = some o → i ≠ s1 → ∀ a w, Kn l.toArray V a0 w i a w → (I1 w ∨ I2 w) → (waits os i = true → I1 w) → Step P l.toArray V Q i o a w)
    (wr : ∀ a w, Kn l.toArray V a0 w s1 a w → I1 w → os.wp P a w (fun a' w' => ∃ v, a' = a.put os.dst v ∧ I2 w' ∧ V s1 w' v ∧ ∀ i v, i ≠ s1 → V i w v → V i w' v) Q)
    (last : ∀ a w, Fin_ (l.take s).toArray V a0 w a w → I2 w → wpList P l.toArray Q (l.drop s) a w) : (Code.region id l.toArray true).wp P Q a0 w0 := by
  have hi : Inv l.toArray V a0 w0 (Array.replicate l.toArray.size false) a0 { w0 with drawn := w0.drawn + 1 } := inv_start
  refine wp_region_any hm (wpAny_ou (V := V) hok hn hs hseq hs1 hos hg hV h1 h2 step wr last l.toArray.size _ _ _ ?_ ?_ ⟨⟨hi.lsize, Ext.refl _, hi.defers, hi.size, hi.closed, hi.old, hi.new⟩, fun _ => h1 _ _ (Ext.drew w0) h0, fun hl => ?_⟩)
  · simp
  · intro j hl
    rw [getD_replicate_false] at hl; cases hl
  · rw [getD_replicate_false] at hl; cases hl
end
end Go.Proofs.YtpfkcplldhdipaaDoor
