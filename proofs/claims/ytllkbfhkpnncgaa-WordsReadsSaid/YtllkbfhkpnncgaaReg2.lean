/- A region whose order is open, where one operation writes in place: a law of the verifier's own; no statement is proved here. -/
import Derived.Test.YtllkbfhkpnncgaaCf
namespace Go.Proofs.Ytllkbfhkpnncgaa.R2
open Go.RowKit
/-- What an append in place keeps: blocks below H, and the first n cells of every block. -/
structure Keep (H n : Nat) (w w' : World) : Prop where
  below : Below H w w'
  grow : w.heap.size ≤ w'.heap.size
  cells : ∀ b k, b < w.heap.size → k < n → w'.cell? ⟨b, k, none⟩ = w.cell? ⟨b, k, none⟩
theorem Keep.ofExt {H n : Nat} {w w' : World} (h : Ext w w') (hH : H ≤ w.heap.size) : Keep H n w w' :=
  ⟨Below.mono h hH, Below.size h, fun b k hb _ => Below.cell h (p := ⟨b, k, none⟩) hb⟩
def EE (s H n : Nat) (i : Nat) (w w' : World) : Prop := if i = s then Keep H n w w' else Ext w w'
theorem EE.of {s H n i : Nat} {w w' : World} (h : Ext w w') (hi : i ≠ s := by decide) : EE s H n i w w' := by unfold EE; rw [if_neg hi]; exact h
theorem EE.at_ {s H n : Nat} {w w' : World} (h : Keep H n w w') : EE s H n s w w' := by unfold EE; rw [if_pos rfl]; exact h
theorem EE.cases {s H n i : Nat} {w w' : World} (h : EE s H n i w w') : (i = s ∧ Keep H n w w') ∨ Ext w w' := by
  unfold EE at h
  split at h
  · rename_i hi; exact .inl ⟨hi, h⟩
  · exact .inr h
theorem EE.go {s n i : Nat} {w0 w w' : World} (hx : Ext w0 w) (h : EE s w0.heap.size n i w w') : Ext w0 w' := by
  rcases h.cases with ⟨_, h⟩ | h
  · exact Below.trans hx h.below
  · exact Ext.trans hx h

section
variable (P : Program) (ops : Array Oper) (E : Nat → World → World → Prop) (sp : List (Nat × Nat)) (V : Nat → World → Value → Prop) (a0 : Act) (w0 : World)
def lateOk (late : List (Nat × Nat)) : Bool := late.all fun p => (ops[p.2]?.map fun x => waits x p.1).getD false
/-- Is what j told not spent when i comes up? -/
def fresh (i j : Nat) : Bool := sp.all fun p => p.2 != j || p.1 == i || (ops[p.1]?.map fun y => waits y i).getD false

structure Kn (i : Nat) (a : Act) (w : World) : Prop where
  ext : Ext w0 w
  defers : a.defers = a0.defers
  size : a.tmps.size = a0.tmps.size
  old : ∀ t, (∀ j x, ops[j]? = some x → x.dst = some t → waits x i = true ∨ j = i) → a.tmps.getD t undef = a0.tmps.getD t undef
  new : ∀ j x o t, ops[i]? = some o → waits o j = true → ops[j]? = some x → x.dst = some t → fresh ops sp i j = true → V j w (a.tmps.getD t undef)
  lt : ∀ (j : Nat) (x : Oper) (t : Nat), ops[j]? = some x → x.dst = some t → t < a.tmps.size

structure Fin_ (a : Act) (w : World) : Prop where
  ext : Ext w0 w
  defers : a.defers = a0.defers
  size : a.tmps.size = a0.tmps.size
  old : ∀ t, (∀ (j : Nat) (x : Oper), ops[j]? = some x → x.dst ≠ some t) → a.tmps.getD t undef = a0.tmps.getD t undef
  new : ∀ j x t, ops[j]? = some x → x.dst = some t → (sp.all fun p => p.2 != j) = true → V j w (a.tmps.getD t undef)

def Step (Q : Exit → Act → World → Prop) (i : Nat) (o : Oper) (a : Act) (w : World) : Prop :=
  if Region.wanted o (yielded ops a.tmps) = true then o.wp P a w (fun a' w' => ∃ v, a' = a.put o.dst v ∧ E i w w' ∧ V i w' v) Q else V i w undef

structure Inv (listed : Array Bool) (a : Act) (w : World) : Prop where
  lsize : listed.size = ops.size
  ext : Ext w0 w
  defers : a.defers = a0.defers
  size : a.tmps.size = a0.tmps.size
  closed : ∀ j x, ops[j]? = some x → listed.getD j false = true → ∀ e ∈ x.after, Region.binds .any e = true → listed.getD e.on false = true
  old : ∀ t, (∀ j x, ops[j]? = some x → x.dst = some t → listed.getD j false = false) → a.tmps.getD t undef = a0.tmps.getD t undef
  new : ∀ j x t, ops[j]? = some x → listed.getD j false = true → x.dst = some t → (∀ k, (k, j) ∈ sp → listed.getD k false = false) → V j w (a.tmps.getD t undef)
end

section
variable {P : Program} {ops : Array Oper} {E : Nat → World → World → Prop} {sp : List (Nat × Nat)} {V : Nat → World → Value → Prop} {a0 : Act} {w0 : World}

theorem fresh_spec {i j k : Nat} (h : fresh ops sp i j = true) (hk : (k, j) ∈ sp) : k = i ∨ ∃ y, ops[k]? = some y ∧ waits y i = true := by
  unfold fresh at h
  rw [List.all_eq_true] at h
  have := h _ hk
  simp only [bne_self_eq_false, Bool.false_or, Bool.or_eq_true, beq_iff_eq] at this
  rcases this with h1 | h1
  · exact .inl h1
  · cases hy : ops[k]? with
    | none => simp [hy] at h1
    | some y => exact .inr ⟨y, rfl, by simpa [hy] using h1⟩

theorem Inv.kn {listed : Array Bool} {a : Act} {w : World} {i n : Nat} (hok : regOk ops n = true) (hn : a0.tmps.size = n) (h : Inv ops sp V a0 w0 listed a w) (hi : i ∈ Region.ready .any ops listed) : Kn ops sp V a0 w0 i a w := by
  obtain ⟨hun, o, ho, hall⟩ := mem_ready.1 hi
  have hun' : listed.getD i false = false := by
    have hlt : i < listed.size := by rw [h.lsize]; exact (Array.getElem?_eq_some_iff.1 ho).1
    simpa [hlt] using hun
  have hback : ∀ j x, ops[j]? = some x → waits x i = true → listed.getD j false = false := by
    intro j x hx hwt
    cases hl : listed.getD j false with
    | false => rfl
    | true =>
      obtain ⟨e, he, hb, rfl⟩ := waits_edge hwt
      have := h.closed j x hx hl e he hb
      rw [hun'] at this; cases this
  refine ⟨h.ext, h.defers, h.size, fun t ht => h.old t fun j x hx hd => ?_, fun j x o' t ho' hw hx hd hf => ?_, fun j x t hx hd => ?_⟩
  · rcases ht j x hx hd with hwt | rfl
    · exact hback j x hx hwt
    · exact hun'
  · rw [ho] at ho'
    cases ho'
    obtain ⟨e, he, hb, rfl⟩ := waits_edge hw
    refine h.new _ x t hx (hall e he hb) hd fun k hk => ?_
    rcases fresh_spec hf hk with rfl | ⟨y, hy, hwy⟩
    · exact hun'
    · exact hback k y hy hwy
  · rw [h.size, hn]; exact regOk_lt hok hx hd

theorem Inv.put {listed : Array Bool} {a : Act} {w w' : World} {i : Nat} {o : Oper} {v : Value} {n : Nat} (hok : regOk ops n = true) (hn : a0.tmps.size = n)
    {late : List (Nat × Nat)} (hlate : lateOk ops late = true)
    (h : Inv ops sp V a0 w0 listed a w) (hi : i ∈ Region.ready .any ops listed) (ho : ops[i]? = some o) (he : Ext w0 w')
    (hk : ∀ j v, i ≠ j → (i, j) ∉ sp → (i, j) ∉ late → V j w v → V j w' v) (hv : V i w' v) :
    Inv ops sp V a0 w0 (listed.setIfInBounds i true) (a.put o.dst v) w' := by
  obtain ⟨hun, o', ho', hall⟩ := mem_ready.1 hi
  rw [ho] at ho'
  cases ho'
  have hlt : i < listed.size := by rw [h.lsize]; exact (Array.getElem?_eq_some_iff.1 ho).1
  have hun' : listed.getD i false = false := by simpa [hlt] using hun
  have hset : ∀ j, j ≠ i → (listed.setIfInBounds i true).getD j false = listed.getD j false := fun j hj => getD_set_ne false (Ne.symm hj)
  refine ⟨by simpa using h.lsize, he, (defers_put _ _ _).trans h.defers, (size_put _ _ _).trans h.size, ?_, ?_, ?_⟩
  · intro j x hx hl e hee hb
    by_cases hj : j = i
    · subst hj
      rw [ho] at hx; cases hx
      exact getD_set_true (hall e hee hb)
    · rw [hset j hj] at hl
      exact getD_set_true (h.closed j x hx hl e hee hb)
  · intro t ht
    have hne : o.dst ≠ some t := fun hd => by
      have := ht i o ho hd
      simp [hlt] at this
    rw [getD_put_ne hne]
    refine h.old t fun j x hx hd => ?_
    have := ht j x hx hd
    by_cases hj : j = i
    · subst hj
      rw [ho] at hx; cases hx
      exact absurd hd hne
    · rwa [hset j hj] at this
  · intro j x t hx hl hd hs
    by_cases hj : j = i
    · subst hj
      rw [ho] at hx; cases hx
      rw [hd, getD_put_eq (by rw [h.size, hn]; exact regOk_lt hok ho hd)]
      exact hv
    · rw [hset j hj] at hl
      have hne : o.dst ≠ some t := fun hd' => hj (regOk_ne hok hx hd ho hd')
      rw [getD_put_ne hne]
      have hisp : (i, j) ∉ sp := fun hm => by
        have := hs i hm
        simp [hlt] at this
      have hil : (i, j) ∉ late := fun hm => by
        unfold lateOk at hlate
        rw [List.all_eq_true] at hlate
        have := hlate _ hm
        simp only [hx, Option.map_some, Option.getD_some] at this
        obtain ⟨e, hee, hb, hei⟩ := waits_edge this
        have := h.closed j x hx hl e hee hb
        rw [hei, hun'] at this; cases this
      refine hk _ _ (Ne.symm hj) hisp hil (h.new j x t hx hl hd fun k hkk => ?_)
      have := hs k hkk
      by_cases hki : k = i
      · subst hki; exact hun'
      · rwa [hset k hki] at this

theorem wpAny_inv {Q : Exit → Act → World → Prop} {n : Nat} (hok : regOk ops n = true) (hn : a0.tmps.size = n)
    {late : List (Nat × Nat)} (hlate : lateOk ops late = true)
    (hE : ∀ i w w', Ext w0 w → E i w w' → Ext w0 w')
    (hV : ∀ i j w w' v, Ext w0 w → E i w w' → i ≠ j → (i, j) ∉ sp → (i, j) ∉ late → V j w v → V j w' v)
    (step : ∀ i o, ops[i]? = some o → ∀ a w, Kn ops sp V a0 w0 i a w → Step P ops E V Q i o a w)
    (fin : ∀ a w, Fin_ ops sp V a0 w0 a w → Q .normal a w) :
    ∀ (fuel : Nat) (listed : Array Bool) (a : Act) (w : World), listed.toList.count false ≤ fuel → Inv ops sp V a0 w0 listed a w → wpAny P .any ops Q fuel listed a w := by
  have done : ∀ (listed : Array Bool) (a : Act) (w : World), Inv ops sp V a0 w0 listed a w → Region.ready .any ops listed = [] → Q .normal a w := by
    intro listed a w h hr
    have hall := all_listed hok h.lsize hr
    refine fin a w ⟨h.ext, h.defers, h.size, fun t ht => h.old t fun j x hx hd => absurd hd (ht j x hx), fun j x t hx hd hs => h.new j x t hx (hall j (Array.getElem?_eq_some_iff.1 hx).1) hd fun k hk => ?_⟩
    rw [List.all_eq_true] at hs
    have := hs _ hk
    simp at this
  intro fuel
  induction fuel with
  | zero =>
    intro listed a w hc h
    have hr : Region.ready .any ops listed = [] := by
      refine List.eq_nil_iff_forall_not_mem.2 fun j hj => ?_
      have := count_set listed j (mem_ready.1 hj).1
      omega
    exact ⟨hr, done listed a w h hr⟩
  | succ fuel ih =>
    intro listed a w hc h
    refine ⟨done listed a w h, fun i hi => ?_⟩
    obtain ⟨hun, o, ho, _⟩ := mem_ready.1 hi
    have hcs := count_set listed i hun
    have hst := step i o ho a w (h.kn hok hn hi)
    unfold wpOp
    simp only [ho]
    unfold Step at hst
    split
    · rename_i hw
      rw [if_pos hw] at hst
      refine .inl (Oper.wp_mono (fun a' w' hh => ?_) hst)
      obtain ⟨v, rfl, he, hv⟩ := hh
      exact ih _ _ _ (by omega) (h.put hok hn hlate hi ho (hE _ _ _ h.ext he) (fun j v h1 h2 h3 h4 => hV _ _ _ _ _ h.ext he h1 h2 h3 h4) hv)
    · rename_i hw
      rw [if_neg hw] at hst
      exact ih _ _ _ (by omega) (h.put hok hn hlate hi ho h.ext (fun _ _ _ _ _ h4 => h4) hst)

theorem region_inv {Q : Exit → Act → World → Prop} {id n : Nat} (hm : P.follows .mixedOrders = true) (hn : a0.tmps.size = n) (hok : regOk ops n = true)
    (E : Nat → World → World → Prop) (sp late : List (Nat × Nat)) (hlate : lateOk ops late = true)
    (V : Nat → World → Value → Prop) (hE : ∀ i w w', Ext w0 w → E i w w' → Ext w0 w')
    (hV : ∀ i j w w' v, Ext w0 w → E i w w' → i ≠ j → (i, j) ∉ sp → (i, j) ∉ late → V j w v → V j w' v)
    (step : ∀ i o, ops[i]? = some o → ∀ a w, Kn ops sp V a0 w0 i a w → Step P ops E V Q i o a w)
    (fin : ∀ a w, Fin_ ops sp V a0 w0 a w → Q .normal a w) : (Code.region id ops true).wp P Q a0 w0 := by
  refine wp_region_any hm (wpAny_inv (V := V) hok hn hlate hE hV step fin ops.size _ _ _ ?_ ?_)
  · simp
  · refine ⟨by simp, Ext.drew w0, rfl, rfl, ?_, fun _ _ => rfl, ?_⟩
    · intro j x hx hl
      have hj := (Array.getElem?_eq_some_iff.1 hx).1
      simp [hj] at hl
    · intro j x t hx hl
      have hj := (Array.getElem?_eq_some_iff.1 hx).1
      simp [hj] at hl
end
/-- What a slot of a region may be told to hold. -/
inductive K where
  | eq (v : Value)
  | bytH (H n : Nat) (bs : List UInt8)
  | byt (n : Nat) (bs : List UInt8)
  | low (n : Nat) (bs : List UInt8)
  | lit0
  | app (H n : Nat) (bs : List UInt8)
  | rows (m k : Nat)
  | any
def K.holds : K → World → Value → Prop
  | .eq x, _, v => v = x
  | .bytH H n bs, w, v => ∃ A c, v = .slice A n c ∧ H ≤ w.heap.size ∧ Rd w H A n bs
  | .byt n bs, w, v => ∃ A c, v = .slice A n c ∧ Rd w w.heap.size A n bs
  | .low n bs, w, v => ∃ g c, v = .slice (some ⟨g, 0, none⟩) n c ∧ Rd w w.heap.size (some ⟨g, 0, none⟩) n bs
  | .lit0, _, v => ∃ g, v = .slice (some ⟨g, 0, none⟩) 0 0
  | .app H n bs, w, v => ∃ g c, v = .slice (some ⟨g, 0, none⟩) n c ∧ Rd w w.heap.size (some ⟨g, 0, none⟩) n bs ∧ (c < n + 4 ∨ Own w H v bs)
  | .rows m k, w, v => ∃ b, v = .slice (some ⟨b, 0, none⟩) k k ∧ b < w.heap.size ∧ ∀ i, i < k → ∃ A n c bs, w.cell? ⟨b, i, none⟩ = some (.slice A n c) ∧ Rd w w.heap.size A n bs ∧ n ≤ m
  | .any, _, _ => True
theorem K.keep (k : K) {w w' : World} {v : Value} (he : Ext w w') (h : k.holds w v) : k.holds w' v := by
  cases k with
  | eq x => exact h
  | bytH H n bs => obtain ⟨A, c, rfl, hH, hr⟩ := h; exact ⟨A, c, rfl, Nat.le_trans hH (Below.size he), hr.below he hH⟩
  | byt n bs => obtain ⟨A, c, rfl, hr⟩ := h; exact ⟨A, c, rfl, Rd.later hr he⟩
  | low n bs => obtain ⟨A, c, rfl, hr⟩ := h; exact ⟨A, c, rfl, Rd.later hr he⟩
  | lit0 => exact h
  | app H n bs => obtain ⟨A, c, rfl, hr, ho⟩ := h; exact ⟨A, c, rfl, Rd.later hr he, ho.imp id fun h => h.kept he⟩
  | rows m k =>
    obtain ⟨b, rfl, hb, hc⟩ := h
    refine ⟨b, rfl, Nat.lt_of_lt_of_le hb (Below.size he), fun i hi => ?_⟩
    obtain ⟨A, n, c, bs, h1, h2, h3⟩ := hc i hi
    exact ⟨A, n, c, bs, (Below.cell he (p := ⟨b, i, none⟩) hb).trans h1, Rd.later h2 he, h3⟩
  | any => trivial
/-- What an append in place keeps. -/
def K.fine (H n : Nat) : K → Prop
  | .eq _ => True
  | .bytH H' _ _ => H' = H
  | .low m _ => m ≤ n
  | .lit0 => True
  | .any => True
  | _ => False
theorem K.keep2 (k : K) {w w' : World} {v : Value} {H n : Nat} (hf : k.fine H n) (he : Keep H n w w') (h : k.holds w v) : k.holds w' v := by
  cases k with
  | eq x => exact h
  | bytH H' m bs => obtain ⟨A, c, rfl, hH, hr⟩ := h; cases hf; exact ⟨A, c, rfl, Nat.le_trans hH he.grow, hr.below he.below (Nat.le_refl _)⟩
  | byt n bs => exact hf.elim
  | low m bs =>
    obtain ⟨g, c, rfl, hr⟩ := h
    refine ⟨g, c, rfl, hr.len, fun hm => ?_⟩
    obtain ⟨b, o, e, hb, hc⟩ := hr.at_ hm
    cases e
    exact ⟨g, 0, rfl, Nat.lt_of_lt_of_le hb he.grow, fun k hk => by
      have := he.cells g (0 + k) hb (by have : m ≤ n := hf; omega)
      rw [this]; exact hc k hk⟩
  | lit0 => exact h
  | app H n bs => exact hf.elim
  | rows m k => exact hf.elim
  | any => trivial
def kV (ks : List K) (i : Nat) (w : World) (v : Value) : Prop := (ks.getD i .any).holds w v

def depOk (ops : Array Oper) (sp : List (Nat × Nat)) (i j t : Nat) : Bool :=
  (match ops[i]?, ops[j]? with
  | some o, some x => waits o j && x.dst == some t
  | _, _ => false) && fresh ops sp i j
def lastOk (ops : Array Oper) (sp : List (Nat × Nat)) (j t : Nat) : Bool := (ops[j]?.map fun x => x.dst == some t).getD false && sp.all fun p => p.2 != j

section
variable {P : Program} {ops : Array Oper} {E : Nat → World → World → Prop} {sp : List (Nat × Nat)} {ks : List K} {V : Nat → World → Value → Prop} {a0 a : Act} {w0 w : World} {i : Nat}
theorem Kn.val (hk : Kn ops sp (kV ks) a0 w0 i a w) (j t : Nat) {k : K} (hd : depOk ops sp i j t = true) (hks : ks.getD j .any = k) : k.holds w (a.tmps.getD t undef) := by
  unfold depOk at hd
  rw [Bool.and_eq_true] at hd
  obtain ⟨h1, h2⟩ := hd
  split at h1
  · rename_i o x ho hx
    simp at h1
    have := hk.new j x o t ho h1.1 hx h1.2 h2
    unfold kV at this
    rwa [hks] at this
  · cases h1
theorem Kn.eq_ (hk : Kn ops sp (kV ks) a0 w0 i a w) (j t : Nat) {v : Value} (hd : depOk ops sp i j t = true) (hks : ks.getD j .any = .eq v) : a.tmps.getD t undef = v :=
  hk.val j t hd hks
theorem Kn.was (hk : Kn ops sp V a0 w0 i a w) (t : Nat) {v : Value} (hd : oldOk ops i t = true) (hv : a0.tmps.getD t undef = v) : a.tmps.getD t undef = v := by
  rw [← hv]
  refine hk.old t fun j x hx hxd => ?_
  unfold oldOk at hd
  rw [List.all_eq_true] at hd
  have := hd j (List.mem_range.2 (Array.getElem?_eq_some_iff.1 hx).1)
  rw [hx] at this
  simp [hxd] at this
  exact this
theorem Fin_.val (hf : Fin_ ops sp (kV ks) a0 w0 a w) (j t : Nat) {k : K} (hd : lastOk ops sp j t = true) (hks : ks.getD j .any = k) : k.holds w (a.tmps.getD t undef) := by
  unfold lastOk at hd
  rw [Bool.and_eq_true] at hd
  cases hx : ops[j]? with
  | none => simp [hx] at hd
  | some x =>
    simp only [hx, Option.map_some, Option.getD_some, beq_iff_eq] at hd
    have := hf.new j x t hx hd.1 hd.2
    unfold kV at this
    rwa [hks] at this
theorem Fin_.frame {l : List Oper} (hf : Fin_ l.toArray sp V a0 w0 a w) : a = regFrame (fun t => a.tmps.getD t undef) l a0 := by
  have h := regFrame_get (fun t => a.tmps.getD t undef) l a0
  refine act_ext (hf.defers.trans h.1.symm) (hf.size.trans h.2.1.symm) fun t ht => ?_
  rw [h.2.2 t (by rw [← hf.size]; exact ht)]
  by_cases hn : (l.any fun o => o.dst == some t) = true
  · rw [if_pos hn]
  · rw [if_neg hn]
    refine hf.old t fun j x hx hxd => hn ?_
    rw [List.any_eq_true]
    exact ⟨x, List.mem_of_getElem? (by simpa using hx), by simp [hxd]⟩
theorem step_val {Q : Exit → Act → World → Prop} {o : Oper} {v : Value} {w' : World} (hw : Region.wanted o (yielded ops a.tmps) = true)
    (hrun : (execOp a.eval o).run P w = .ok (.value v) w') (he : E i w w') (hv : V i w' v) : Step P ops E V Q i o a w := by
  unfold Step; rw [if_pos hw]
  unfold Oper.wp
  rw [hrun]
  exact ⟨v, rfl, he, hv⟩
theorem step_move {Q : Exit → Act → World → Prop} {o : Oper} {x : Operand} {v : Value} (hw : Region.wanted o (yielded ops a.tmps) = true)
    (hop : o.op = .move x) (hx : a.eval x = v) (he : E i w w) (hv : V i w v) : Step P ops E V Q i o a w :=
  step_val (v := v) (w' := w) hw (by simp only [execOp, hop, hx, Sem.run_pure]) he hv
theorem step_assign {Q : Exit → Act → World → Prop} {o : Oper} {x : Operand} {v : Value} (hw : Region.wanted o (yielded ops a.tmps) = true)
    (hop : o.op = .assign x) (hx : a.eval x = v) (he : E i w w) (hv : V i w v) : Step P ops E V Q i o a w :=
  step_val (v := v) (w' := w) hw (by simp only [execOp, hop, hx, Sem.run_pure]) he hv
theorem step_slice_hi {Q : Exit → Act → World → Prop} {o : Oper} {t : TypeId} {x hi : Operand} {A : Option Addr} {B n c l : Nat} {bs : List UInt8} (hw : Region.wanted o (yielded ops a.tmps) = true)
    (hop : o.op = .slice t x none (some hi) none) (hx : a.eval x = .slice A n c) (hhi : a.eval hi = .int .i64 (l : Int)) (ht : P.underlying t = some (.slice (P.elem t))) (hs : ∀ w, (sizeOf (P.elem t)).run P w = .ok 1 w)
    (hl : l ≤ n) (hc : n ≤ c) (hr : Rd w B A n bs) (hB : B ≤ w.heap.size) (he : E i w w) (hV : ∀ v, K.holds (.bytH B l (bs.take l)) w v → V i w v) : Step P ops E V Q i o a w := by
  have hc0 := hr.cutlo (l := 0) (Nat.zero_le _) hc
  refine step_val (v := sliced A 0 l c 1) (w' := w) hw ?_ he (hV _ ⟨_, _, rfl, hB, ?_⟩)
  · have e : (Instr.sliceAt t (.slice A n c) none (some (.int .i64 (l : Int))) none).run P w = .ok (sliced A 0 l c 1) w := by
      rw [run_sliceAt_slice w t _ _ _ _ ht, run_slice_h w t A n c ht .i64 l (by omega) (by omega), hs]
      simp [Result.andThen]
    simp [execOp, hop, hx, hhi, e, Result.andThen]
  · have := hc0.cuthi l (by omega)
    simpa using this
theorem step_min {Q : Exit → Act → World → Prop} {o : Oper} (x y : Operand) (ts : Array TypeId) (hw : Region.wanted o (yielded ops a.tmps) = true)
    (ho : o.op = .call { callee := .builtin .min, args := #[x, y], argTypes := ts }) (p q m : Int) (hx : a.eval x = .int .i64 p) (hy : a.eval y = .int .i64 q) (hm : (if q < p then q else p) = m)
    (he : E i w w) (hv : V i w (.int .i64 m)) : Step P ops E V Q i o a w := by
  refine step_val (v := .int .i64 m) (w' := w) hw ?_ he hv
  have hrun := run_min_int2 (P := P) (w := w) ts o.type .i64 .i64 p q
  rw [hm] at hrun
  unfold execOp
  simp only [ho, resolve, invoke, builtin, Sem.run_bind, Sem.run_pure, Result.andThen_ok, List.map_toArray, List.map_cons, List.map_nil, hx, hy, hrun]
theorem step_append {Q : Exit → Act → World → Prop} {o : Oper} {s x : Operand} {t : TypeId} {v1 v2 v : Value} {w' : World} (hw : Region.wanted o (yielded ops a.tmps) = true)
    (ho : o.op = .call { callee := .builtin .append, args := #[s, x], argTypes := #[t, t] }) (hs : a.eval s = v1) (hx : a.eval x = v2)
    (hrun : (Builtin.append_ #[t, t] o.type #[v1, v2]).run P w = .ok v w') (he : E i w w') (hv : V i w' v) : Step P ops E V Q i o a w := by
  refine step_val (v := v) (w' := w') hw ?_ he hv
  unfold execOp
  simp only [ho, resolve, invoke, builtin, Sem.run_bind, Sem.run_pure, Result.andThen_ok, List.map_toArray, List.map_cons, List.map_nil, hs, hx, hrun]
end

/-- append to a literal of nothing: what comes out stands by itself. -/
theorem run_append_lit {P : Program} (w : World) (t ty : TypeId) (hu : P.underlying t = some (.slice 5))
    (hin : (P.info? 5).map (fun i => (i.zero, i.size, i.bytes)) = some (some (.int .u8 0), 1, 1)) (g B n c : Nat) (A : Option Addr) (ys : List UInt8) (hrd : Rd w B A n ys) (hn : n ≤ 140737488355328) :
    ∃ v' w', (Builtin.append_ #[t, t] ty #[.slice (some ⟨g, 0, none⟩) 0 0, .slice A n c]).run P w = .ok v' w' ∧ Ext w w' ∧ ∀ H, H ≤ w.heap.size → K.holds (.app H n ys) w' v' := by
  obtain ⟨i0, hi0, hz0, hz1, hz2⟩ := info_parts hin
  have hyl := hrd.len
  rcases Nat.eq_zero_or_pos n with h0 | hpos
  · subst h0
    have hys : ys = [] := List.eq_nil_of_length_eq_zero hyl
    subst hys
    refine ⟨.slice (some ⟨g, 0, none⟩) 0 0, w, ?_, Ext.refl w, fun H _ => ⟨g, 0, rfl, Rd.nil _ _ _, .inl (by omega)⟩⟩
    cases A <;> simp [Builtin.append_, run_underlying hu, sizeOf, typeInfo, hi0, Builtin.lenOf, Builtin.firstCells, storeCells, loadCells, loadCellsFrom]
  · obtain ⟨b, o, rfl, hb, hc⟩ := hrd.at_ hpos
    have hr := run_append_grow (P := P) w t ty 5 i0 (.int .u8 0) hu hi0 hz0 ⟨g, 0, none⟩ 0 0 [] (by simp) (by simp) ⟨b, o, none⟩ n c (cellsOf ys) (by rw [cellsOf_length, hz1]; omega)
      (fun j u hu' => by
        rcases Nat.lt_or_ge j n with hj | hj
        · rw [cellsOf_get ys j (by omega)] at hu'
          cases hu'
          rw [add_off]; exact hc j hj
        · rw [List.getElem?_eq_none (by rw [cellsOf_length]; omega)] at hu'; cases hu') (by omega) (by omega) (growslice_fits (by omega) (by rw [hz2]; omega))
    simp only [Nat.zero_add, Array.empty_append] at hr
    have hge := grownCap_ge w n 0 5
    have hcm : grownCap w n 0 5 ≤ maxLen := grownCap_le_maxLen w n 0 5 (by unfold maxLen; omega)
    have hown : ∀ H, H ≤ w.heap.size → Own (w.drew.alloc (.cells ((cellsOf ys).toArray ++ Builtin.zeroCells (Value.cells (.int .u8 0)) (grownCap w n 0 5 - n)) 5)) H (.slice (some ⟨w.heap.size, 0, none⟩) n (grownCap w n 0 5)) ys := by
      intro H hH
      subst hyl
      refine ⟨by rw [cellsOf_length]; omega, .inr ⟨w.heap.size, _, _, rfl, hH, heap_alloc_new w.drew _, hge, hcm, ?_, ?_⟩⟩
      · have hs1 : (Value.cells (.int .u8 0)).size = 1 := rfl
        rw [Array.size_append, List.size_toArray, cellsOf_length, size_zeroCells, hs1]
        omega
      · rw [Nat.mul_one, Array.toList_append, List.take_append_of_le_length (by simp [cellsOf_length]), List.take_of_length_le (by simp [cellsOf_length])]
    refine ⟨_, _, hr, (Ext.drew w).trans (Ext.alloc _ _), fun H hH => ?_⟩
    have h1 := hown H hH
    obtain ⟨A, c', e, hr', _⟩ := h1.rdn hyl
    cases e
    exact ⟨_, _, rfl, hr', .inr h1⟩
/-- append of four bytes: the first n cells of all are what they were. -/
theorem run_append_four {P : Program} (w : World) (t ty : TypeId) (hu : P.underlying t = some (.slice 5))
    (hin : (P.info? 5).map (fun i => (i.zero, i.size, i.bytes)) = some (some (.int .u8 0), 1, 1)) (H B n c4 : Nat) (A : Option Addr) (xs ys : List UInt8) (v : Value) (hv : K.holds (.app H n xs) w v)
    (hrd : Rd w B A 4 ys) (hn : n ≤ 1000000) (hH : H ≤ w.heap.size) :
    ∃ v' w', (Builtin.append_ #[t, t] ty #[v, .slice A 4 c4]).run P w = .ok v' w' ∧ Keep H n w w' ∧ K.holds (.low (n + 4) (xs ++ ys)) w' v' := by
  obtain ⟨i0, hi0, hz0, hz1, hz2⟩ := info_parts hin
  have hyl := hrd.len
  obtain ⟨g, c, rfl, hr, ho⟩ := hv
  have hxl := hr.len
  obtain ⟨b, o, rfl, hb, hc⟩ := hrd.at_ (by omega)
  have hnews : ∀ j u, (cellsOf ys)[j]? = some u → w.cell? ((⟨b, o, none⟩ : Addr).add j) = some u := fun j u hu' => by
    rcases Nat.lt_or_ge j 4 with hj | hj
    · rw [cellsOf_get ys j (by omega)] at hu'
      cases hu'
      rw [add_off]; exact hc j hj
    · rw [List.getElem?_eq_none (by rw [cellsOf_length]; omega)] at hu'; cases hu'
  have holds : ∀ j u, (cellsOf xs)[j]? = some u → w.cell? ((⟨g, 0, none⟩ : Addr).add j) = some u := fun j u hu' => by
    rcases Nat.lt_or_ge j n with hj | hj
    · obtain ⟨b', o', e, _, hc'⟩ := hr.at_ (by omega)
      cases e
      rw [cellsOf_get xs j (by omega)] at hu'
      cases hu'
      rw [add_off]; exact hc' j hj
    · rw [List.getElem?_eq_none (by rw [cellsOf_length]; omega)] at hu'; cases hu'
  by_cases hroom : n + 4 ≤ c
  · have ho := ho.resolve_left (by omega)
    have ho' := ho
    rcases ho.2 with ⟨h1, _⟩ | ⟨g', cap, cur, h1, hbg, hh, hnc, hcm, hcs, htake⟩
    · cases h1
    · simp only [Value.slice.injEq, Option.some.injEq, Addr.mk.injEq, and_true] at h1
      obtain ⟨rfl, h2, rfl⟩ := h1
      have hcsz : cur.size = c := by omega
      have hrun := run_append_room (P := P) w t ty 5 i0 hu hi0 g n c cur hh ⟨b, o, none⟩ 4 c4 (cellsOf ys) (by rw [cellsOf_length, hz1]; omega) hnews (cellsOf_one ys) hroom (by rw [hz1, cellsOf_length]; omega)
      rw [hz1, Nat.mul_one] at hrun
      have htake' : cur.toList.take n = cellsOf xs := by rw [← htake, hxl, Nat.mul_one]
      rw [htake'] at hrun
      have hown : Own (w.setRow g (cellsOf xs ++ cellsOf ys ++ cur.toList.drop (n + (cellsOf ys).length)).toArray) H (.slice (some ⟨g, 0, none⟩) (n + 4) c) (xs ++ ys) := by
        refine ⟨by rw [cellsOf_length]; omega, .inr ⟨g, c, _, by rw [List.length_append, hxl, hyl], hbg, setRow_heap w g cur _ 5 _ hh, by rw [List.length_append]; omega, hcm, ?_, ?_⟩⟩
        · simp only [List.size_toArray, List.length_append, List.length_drop, Array.length_toList, cellsOf_length]
          omega
        · rw [Nat.mul_one, ← cellsOf_append]
          simp only []
          rw [List.take_append_of_le_length (by rw [cellsOf_length]; exact Nat.le_refl _), List.take_of_length_le (by rw [cellsOf_length]; exact Nat.le_refl _)]
      have hbel : ∀ B, B ≤ g → Below B w (w.setRow g (cellsOf xs ++ cellsOf ys ++ cur.toList.drop (n + (cellsOf ys).length)).toArray) := fun B hB =>
        (Below.refl _ _).grown (row := some g) ⟨rfl, rfl, rfl, by simp, fun k _ hk => setRow_other w g k _ (fun e => hk (by simp [e]))⟩ (by have := (Array.getElem?_eq_some_iff.1 hh).1; omega) (fun k hk => by cases hk; exact hB)
      obtain ⟨A, c', e, hr', _⟩ := hown.rdn (n := n + 4) (by rw [List.length_append]; omega)
      cases e
      refine ⟨_, _, hrun, ⟨hbel H hbg, (hbel H hbg).size, fun b' k hb' hk => ?_⟩, _, _, rfl, hr'⟩
      by_cases hbe : b' = g
      · subst hbe
        have e1 := hr'.at_ (by omega)
        obtain ⟨b1, o1, e1, _, hc1⟩ := e1
        cases e1
        obtain ⟨b2, o2, e2, _, hc2⟩ := hr.at_ (by omega)
        cases e2
        have h1 := hc1 k (by omega)
        have h2 := hc2 k hk
        rw [Nat.zero_add] at h1 h2
        rw [h1, h2]
        unfold byteAt
        simp [List.getD, List.getElem?_append, hxl, hk]
      · have := setRow_other w g b' (cellsOf xs ++ cellsOf ys ++ cur.toList.drop (n + (cellsOf ys).length)).toArray (fun e => hbe e)
        exact World.cell?_of_block this
  · have hrun := run_append_grow (P := P) w t ty 5 i0 (.int .u8 0) hu hi0 hz0 ⟨g, 0, none⟩ n c (cellsOf xs) (by rw [cellsOf_length, hz1]; omega) holds ⟨b, o, none⟩ 4 c4 (cellsOf ys) (by rw [cellsOf_length, hz1]; omega)
      hnews (by omega) (by omega) (growslice_fits (by omega) (by rw [hz2]; omega))
    have hge := grownCap_ge w (n + 4) c 5
    have hcm : grownCap w (n + 4) c 5 ≤ maxLen := grownCap_le_maxLen w (n + 4) c 5 (by unfold maxLen; omega)
    have hown : Own (w.drew.alloc (.cells ((cellsOf xs).toArray ++ (cellsOf ys).toArray ++ Builtin.zeroCells (Value.cells (.int .u8 0)) (grownCap w (n + 4) c 5 - (n + 4))) 5)) H (.slice (some ⟨w.heap.size, 0, none⟩) (n + 4) (grownCap w (n + 4) c 5)) (xs ++ ys) := by
      refine ⟨by rw [cellsOf_length]; omega, .inr ⟨w.heap.size, _, _, by rw [List.length_append, hxl, hyl], hH, heap_alloc_new w.drew _, by rw [List.length_append]; omega, hcm, ?_, ?_⟩⟩
      · have hs1 : (Value.cells (.int .u8 0)).size = 1 := rfl
        rw [Array.size_append, Array.size_append, List.size_toArray, List.size_toArray, cellsOf_length, cellsOf_length, size_zeroCells, hs1]
        omega
      · rw [Nat.mul_one, Array.toList_append, Array.toList_append, ← cellsOf_append, List.take_append_of_le_length (by rw [cellsOf_length]; exact Nat.le_refl _), List.take_of_length_le (by rw [cellsOf_length]; exact Nat.le_refl _)]
    obtain ⟨A, c', e, hr', _⟩ := hown.rdn (n := n + 4) (by rw [List.length_append]; omega)
    cases e
    exact ⟨_, _, hrun, Keep.ofExt ((Ext.drew w).trans (Ext.alloc _ _)) hH, _, _, rfl, hr'⟩
end Go.Proofs.Ytllkbfhkpnncgaa.R2
