/- A region whose order is open and whose last operation writes: each operation by itself, the last one behind all; laws of the verifier's own; no statement is proved here. -/
import Derived.Test.YthfcndaccfpnmaaDoorRegT
import Derived.Test.YthfcndaccfpnmaaDoorX3
namespace Go.Proofs.YthfcndaccfpnmaaDoor
open Go.RowKit
section
variable {P : Program} {ops : Array Oper} {V : Nat → World → Value → Prop} {a0 : Act} {w0 : World}
theorem wpAny_tailK {Q : Exit → Act → World → Prop} {n s : Nat} (hok : regOk ops n = true) (hn : a0.tmps.size = n) (hs : tailOk ops s = true) {os : Oper} (hos : ops[s]? = some os) (hg : os.guard = none)
    (hV : ∀ i w w' v, Ext w w' → V i w v → V i w' v)
    (step : ∀ i o, ops[i]? = some o → i ≠ s → ∀ a w, Kn ops V a0 w0 i a w → Step P ops V Q i o a w)
    (last : ∀ a w, Kn ops V a0 w0 s a w → os.wp P a w (fun a' w' => Q .normal a' w') Q) :
    ∀ (fuel : Nat) (listed : Array Bool) (a : Act) (w : World), listed.toList.count false ≤ fuel → listed.getD s true = false → Inv ops V a0 w0 listed a w → wpAny P .any ops Q fuel listed a w := by
  have hss : s < ops.size := (Array.getElem?_eq_some_iff.1 hos).1
  have nope : ∀ (listed : Array Bool) (a : Act) (w : World), listed.getD s true = false → Inv ops V a0 w0 listed a w → Region.ready .any ops listed = [] → False := by
    intro listed a w hl h hr
    have := all_listed hok h.lsize hr s hss
    have hlt : s < listed.size := by rw [h.lsize]; exact hss
    simp [hlt] at hl this
    rw [hl] at this; cases this
  intro fuel
  induction fuel with
  | zero =>
    intro listed a w hc hl h
    have := count_set listed s hl
    omega
  | succ fuel ih =>
    intro listed a w hc hl h
    refine ⟨fun hr => absurd hr (nope listed a w hl h), fun i hi => ?_⟩
    obtain ⟨hun, o, ho, _⟩ := mem_ready.1 hi
    have hcs := count_set listed i hun
    by_cases his : i = s
    · subst his
      rw [hos] at ho
      cases ho
      have hall := tail_all hs h hi
      have hsz : ops.size = i + 1 := by
        unfold tailOk at hs
        simp only [Bool.and_eq_true, beq_iff_eq] at hs
        exact hs.1
      have hl2 := last a w (h.kn hok hn hi)
      have hw : Region.wanted os (yielded ops a.tmps) = true := by simp [Region.wanted, hg]
      unfold wpOp
      simp only [hos]
      rw [if_pos hw]
      refine .inl (Oper.wp_mono (fun a' w' hh => ?_) hl2)
      refine wpAny_none ?_ hh
      refine List.eq_nil_iff_forall_not_mem.2 fun j hj => ?_
      obtain ⟨hun2, x, hx, _⟩ := mem_ready.1 hj
      have hjs := (Array.getElem?_eq_some_iff.1 hx).1
      have hli : i < listed.size := by rw [h.lsize]; exact hss
      by_cases hji : j = i
      · subst hji
        simp [hli] at hun2
      · have h3 := hall j (by omega)
        have hlj : j < listed.size := by rw [h.lsize]; exact hjs
        have h4 : (listed.setIfInBounds i true).getD j true = listed.getD j true := getD_set_ne true (Ne.symm hji)
        rw [h4] at hun2
        simp [hlj] at hun2 h3
        rw [hun2] at h3; cases h3
    · have hst := step i o ho his a w (h.kn hok hn hi)
      have hl2 : (listed.setIfInBounds i true).getD s true = false := by
        rw [getD_set_ne true his]; exact hl
      unfold wpOp
      simp only [ho]
      unfold Step at hst
      split
      · rename_i hw
        rw [if_pos hw] at hst
        refine .inl (Oper.wp_mono (fun a' w' hh => ?_) hst)
        obtain ⟨v, rfl, he, hv⟩ := hh
        exact ih _ _ _ (by omega) hl2 (h.put hok hn hV hi ho he hv)
      · rename_i hw
        rw [if_neg hw] at hst
        exact ih _ _ _ (by omega) hl2 (h.put hok hn hV hi ho (Ext.refl _) hst)
/-- A region that draws its order; the last operation comes behind all. -/
theorem region_tailK {Q : Exit → Act → World → Prop} {id n : Nat} (s : Nat) (os : Oper) (hm : P.follows .mixedOrders = true) (hn : a0.tmps.size = n) (hok : regOk ops n = true)
    (hs : tailOk ops s = true) (hos : ops[s]? = some os) (hg : os.guard = none)
    (V : Nat → World → Value → Prop) (hV : ∀ i w w' v, Ext w w' → V i w v → V i w' v)
    (step : ∀ i o, ops[i]? = some o → i ≠ s → ∀ a w, Kn ops V a0 w0 i a w → Step P ops V Q i o a w)
    (last : ∀ a w, Kn ops V a0 w0 s a w → os.wp P a w (fun a' w' => Q .normal a' w') Q) : (Code.region id ops true).wp P Q a0 w0 := by
  have hss : s < ops.size := (Array.getElem?_eq_some_iff.1 hos).1
  refine wp_region_any hm (wpAny_tailK (V := V) hok hn hs hos hg hV step last ops.size _ _ _ ?_ ?_ ?_)
  · simp
  · simp [hss]
  · refine ⟨by simp, Ext.drew w0, rfl, rfl, ?_, fun _ _ => rfl, ?_⟩
    · intro j x hx hl
      have hj := (Array.getElem?_eq_some_iff.1 hx).1
      simp [hj] at hl
    · intro j x t hx hl
      have hj := (Array.getElem?_eq_some_iff.1 hx).1
      simp [hj] at hl
/-- What an operation knows of a slot that another one wrote. -/
theorem Kn.slot {i : Nat} {a : Act} {w : World} (hk : Kn ops V a0 w0 i a w) (j t : Nat) (hd : depOk ops i j t = true) : V j w (a.tmps.getD t undef) := by
  obtain ⟨o, x, ho, hx, hw, ht⟩ := depOk_spec hd
  exact hk.new j x o t ho hw hx ht
end
theorem mixed : Tryd.prog.follows .mixedOrders = true := by kernel_rfl
theorem elem46 : Tryd.prog.underlying 46 = some (.slice (Tryd.prog.elem 46)) := by kernel_rfl
theorem size46 (w : World) : (sizeOf (Tryd.prog.elem 46)).run Tryd.prog w = .ok 1 w := by kernel_rfl
theorem splice_take (cur cs : List Value) (N off : Nat) (h : off + cs.length ≤ N) (hN : N ≤ cur.length) : (splice cur off cs).take N = splice (cur.take N) off cs := by
  unfold splice
  have h1 : (cur.take off).length = off := by simp; omega
  rw [List.take_append, List.take_append, h1, List.take_take, List.take_take, Nat.min_eq_right (show off ≤ N by omega), Nat.min_eq_left (show off ≤ N by omega),
    List.take_of_length_le (show cs.length ≤ N - off by omega), List.drop_take]
  congr 3
  omega
/-- copy into a table of its own. -/
theorem wp_copy_into {o : Oper} {a : Act} {w : World} {K : Act → World → Prop} {Q : Exit → Act → World → Prop} (d s : Operand) (ho : o.op = .call { callee := .builtin .copy, args := #[d, s], argTypes := #[46, 46] })
    (g off n cap c base N C B : Nat) (A : Option Addr) (L ys : List Int) (hd : a.eval d = .slice (some ⟨g, off, none⟩) n cap) (hs : a.eval s = .slice A n c)
    (hown : OwnN .i64 3 w base (.slice (some ⟨g, 0, none⟩) N C) L) (hfit : off + n ≤ N) (h0 : 0 < n) (hr : RdN .i64 w B A n ys)
    (h : ∀ w', OwnN .i64 3 w' base (.slice (some ⟨g, 0, none⟩) N C) (L.take off ++ (ys ++ L.drop (off + n))) → w.grownBy w' (some g) → K (a.put o.dst (goInt n)) w') : o.wp Tryd.prog a w K Q := by
  have hyl := hr.len
  have hLN := hown.len_eq
  obtain ⟨b, off2, rfl, _, hc⟩ := hr.at_ h0
  rcases hown.2 with ⟨h1, _⟩ | ⟨g', C', cur, e, hbg, hh, hnc, hcm, hcs, htake⟩
  · cases h1
  · simp only [Value.slice.injEq, Option.some.injEq, Addr.mk.injEq, and_true] at e
    obtain ⟨rfl, hn1, rfl⟩ := e
    have hcN : N ≤ cur.toList.length := by simp; omega
    have hcl : (cN .i64 ys).length = n := by rw [cN_length]; exact hyl
    have hrun := run_copy_row (P := Tryd.prog) w 46 46 o.type 3 g off n cap ⟨b, off2, none⟩ n c cur 3 (cN .i64 ys) Tryd.underlying46 (by kernel_rfl) hh (by rw [hcl]; exact (Nat.min_self n).symm)
      (by
        intro j v hv
        have hj : j < n := by
          rcases Nat.lt_or_ge j n with hj | hj
          · exact hj
          · rw [List.getElem?_eq_none (by omega)] at hv; cases hv
        rw [cN_get _ ys j (by omega)] at hv
        cases hv
        rw [add_off]; exact hc j hj) (by rw [hcl]; simp at hcN; omega) (cN_one _ _)
    have es : cur.toList.take off ++ cN .i64 ys ++ cur.toList.drop (off + (cN .i64 ys).length) = splice cur.toList off (cN .i64 ys) := by simp [splice]
    rw [es, hcl] at hrun
    have hW := setRow_heap w g cur ((splice cur.toList off (cN .i64 ys)).toArray) 3 (0, 0) hh
    have hfin := h (w.setRow g (splice cur.toList off (cN .i64 ys)).toArray) ?_ ?_
    · unfold Oper.wp
      simp only [execOp, ho, resolve, invoke, builtin, Sem.run_bind, Sem.run_pure, Result.andThen_ok, List.map_toArray, List.map_cons, List.map_nil, hd, hs]
      rw [hrun]
      simp only [Result.andThen]
      rw [Oper.upon_value]
      exact hfin
    · have hlen : (L.take off ++ (ys ++ L.drop (off + n))).length = N := by simp; omega
      refine ⟨by rw [cN_length, Nat.mul_one], .inr ⟨g, C, _, by rw [hlen], hbg, hW, by omega, hcm, ?_, ?_⟩⟩
      · simp [splice, hcl]; simp at hcN; omega
      · rw [hlen, List.toList_toArray, Nat.mul_one, splice_take _ _ _ _ (by omega) hcN]
        have e1 : cur.toList.take N = cN .i64 L := by rw [← htake, hLN, Nat.mul_one]
        rw [e1]
        unfold splice
        rw [hcl]
        simp [cN, List.map_append, List.map_take, List.map_drop]
    · refine ⟨rfl, rfl, rfl, by simp [World.setRow], fun k _ hk => ?_⟩
      have hne : ¬ g = k := fun e => hk (by rw [e])
      exact setRow_other w g k _ (Ne.symm hne)
end Go.Proofs.YthfcndaccfpnmaaDoor
