/- A region whose order is open, each operation by itself: a law of the verifier's own; no statement is proved here. -/
import Derived.Test.YtpfkcplldhdipaaDoorMem
import Derived.Orders
namespace Go.Proofs.YtpfkcplldhdipaaDoor
open Go.RowKit
/-- The world has at most grown: nothing that was there has turned. -/
def Ext (w w' : World) : Prop := Below w.heap.size w w'
theorem Ext.refl (w : World) : Ext w w := Below.refl _ _
theorem Ext.trans {a b c : World} (h : Ext a b) (k : Ext b c) : Ext a c := Below.trans h (Below.mono k (Below.size h))
theorem Ext.drew (w : World) : Ext w w.drew := (Below.refl _ _).drew
theorem Ext.alloc (w : World) (o : Obj) : Ext w (w.alloc o) := (Below.refl _ _).alloc (Nat.le_refl _) o

section
variable (P : Program) (ops : Array Oper) (V : Nat → World → Value → Prop) (a0 : Act) (w0 : World)

/-- Does operation x wait for operation number i? -/
def waits (x : Oper) (i : Nat) : Bool := x.after.any fun e => Region.binds .any e && e.on == i

/-- Edges lead back alone; no slot is written twice; every slot is there. -/
def regOk (n : Nat) : Bool :=
  (List.range ops.size).all fun i => (ops[i]?.map fun o =>
    (o.after.all fun e => !Region.binds .any e || decide (e.on < i)) &&
    (match o.dst with
     | some t => decide (t < n) && (List.range i).all fun j => ((ops[j]?.map fun p => p.dst != some t)).getD true
     | none => true)).getD true

/-- What operation number i may know when it comes up, in whatever order. -/
structure Kn (i : Nat) (a : Act) (w : World) : Prop where
  ext : Ext w0 w
  defers : a.defers = a0.defers
  size : a.tmps.size = a0.tmps.size
  old : ∀ t, (∀ j x, ops[j]? = some x → x.dst = some t → waits x i = true ∨ j = i) → a.tmps.getD t undef = a0.tmps.getD t undef
  new : ∀ j x o t, ops[i]? = some o → waits o j = true → ops[j]? = some x → x.dst = some t → V j w (a.tmps.getD t undef)
  lt : ∀ (j : Nat) (x : Oper) (t : Nat), ops[j]? = some x → x.dst = some t → t < a.tmps.size

/-- What there is when all have come up. -/
structure Fin_ (a : Act) (w : World) : Prop where
  ext : Ext w0 w
  defers : a.defers = a0.defers
  size : a.tmps.size = a0.tmps.size
  old : ∀ t, (∀ (j : Nat) (x : Oper), ops[j]? = some x → x.dst ≠ some t) → a.tmps.getD t undef = a0.tmps.getD t undef
  new : ∀ j x t, ops[j]? = some x → x.dst = some t → V j w (a.tmps.getD t undef)

def Step (Q : Exit → Act → World → Prop) (i : Nat) (o : Oper) (a : Act) (w : World) : Prop :=
  if Region.wanted o (yielded ops a.tmps) = true then o.wp P a w (fun a' w' => ∃ v, a' = a.put o.dst v ∧ Ext w w' ∧ V i w' v) Q else V i w undef

structure Inv (listed : Array Bool) (a : Act) (w : World) : Prop where
  lsize : listed.size = ops.size
  ext : Ext w0 w
  defers : a.defers = a0.defers
  size : a.tmps.size = a0.tmps.size
  closed : ∀ j x, ops[j]? = some x → listed.getD j false = true → ∀ e ∈ x.after, Region.binds .any e = true → listed.getD e.on false = true
  old : ∀ t, (∀ j x, ops[j]? = some x → x.dst = some t → listed.getD j false = false) → a.tmps.getD t undef = a0.tmps.getD t undef
  new : ∀ j x t, ops[j]? = some x → listed.getD j false = true → x.dst = some t → V j w (a.tmps.getD t undef)
end

section
variable {P : Program} {ops : Array Oper} {V : Nat → World → Value → Prop} {a0 : Act} {w0 : World}

theorem regOk_edge {n i : Nat} {o : Oper} (h : regOk ops n = true) (ho : ops[i]? = some o) : ∀ e ∈ o.after, Region.binds .any e = true → e.on < i := by
  intro e he hbe
  have hi := (Array.getElem?_eq_some_iff.1 ho).1
  unfold regOk at h
  rw [List.all_eq_true] at h
  have := h i (List.mem_range.2 hi)
  rw [ho] at this
  simp only [Option.map_some, Option.getD_some, Bool.and_eq_true] at this
  have h1 := this.1
  rw [Array.all_eq_true_iff_forall_mem] at h1
  have := h1 e he
  simpa [hbe] using this
theorem regOk_lt {n i t : Nat} {o : Oper} (h : regOk ops n = true) (ho : ops[i]? = some o) (hd : o.dst = some t) : t < n := by
  have hi := (Array.getElem?_eq_some_iff.1 ho).1
  unfold regOk at h
  rw [List.all_eq_true] at h
  have := h i (List.mem_range.2 hi)
  rw [ho] at this
  simp only [Option.map_some, Option.getD_some, Bool.and_eq_true, hd] at this
  simpa using this.2.1
theorem regOk_ne {n i j t : Nat} {o p : Oper} (h : regOk ops n = true) (ho : ops[i]? = some o) (hd : o.dst = some t) (hp : ops[j]? = some p) (hpd : p.dst = some t) : i = j := by
  have key : ∀ {i j : Nat} {o p : Oper}, ops[i]? = some o → o.dst = some t → ops[j]? = some p → p.dst = some t → ¬ j < i := by
    intro i j o p ho hd hp hpd hlt
    have hi := (Array.getElem?_eq_some_iff.1 ho).1
    unfold regOk at h
    rw [List.all_eq_true] at h
    have := h i (List.mem_range.2 hi)
    rw [ho] at this
    simp only [Option.map_some, Option.getD_some, Bool.and_eq_true, hd] at this
    have h2 := this.2.2
    rw [List.all_eq_true] at h2
    have := h2 j (List.mem_range.2 hlt)
    rw [hp] at this
    simp [hpd] at this
  have k1 := key ho hd hp hpd
  have k2 := key hp hpd ho hd
  omega

theorem getD_put_ne {a : Act} {d : Option Tmp} {v : Value} {t : Nat} (h : d ≠ some t) : (a.put d v).tmps.getD t undef = a.tmps.getD t undef := by
  cases d with
  | none => rfl
  | some k =>
    have hk : k ≠ t := fun e => h (by rw [e])
    simp [Act.put, Array.getElem?_setIfInBounds_ne hk]
theorem getD_put_eq {a : Act} {v : Value} {t : Nat} (h : t < a.tmps.size) : (a.put (some t) v).tmps.getD t undef = v := by
  simp [Act.put, h]
theorem size_put (a : Act) (d : Option Tmp) (v : Value) : (a.put d v).tmps.size = a.tmps.size := by
  cases d <;> simp [Act.put]
theorem defers_put (a : Act) (d : Option Tmp) (v : Value) : (a.put d v).defers = a.defers := by
  cases d <;> simp [Act.put]

theorem waits_edge {o : Oper} {j : Nat} (h : waits o j = true) : ∃ e ∈ o.after, Region.binds .any e = true ∧ e.on = j := by
  unfold waits at h
  rw [← Array.any_toList, List.any_eq_true] at h
  obtain ⟨e, he, hb⟩ := h
  simp at hb
  exact ⟨e, Array.mem_toList_iff.1 he, hb.1, hb.2⟩

theorem Inv.kn {listed : Array Bool} {a : Act} {w : World} {i n : Nat} (hok : regOk ops n = true) (hn : a0.tmps.size = n) (h : Inv ops V a0 w0 listed a w) (hi : i ∈ Region.ready .any ops listed) : Kn ops V a0 w0 i a w := by
  obtain ⟨hun, o, ho, hall⟩ := mem_ready.1 hi
  have hun' : listed.getD i false = false := by
    have hlt : i < listed.size := by rw [h.lsize]; exact (Array.getElem?_eq_some_iff.1 ho).1
    simpa [hlt] using hun
  refine ⟨h.ext, h.defers, h.size, fun t ht => h.old t fun j x hx hd => ?_, fun j x o' t ho' hw hx hd => ?_, fun j x t hx hd => ?_⟩
  · rcases ht j x hx hd with hwt | rfl
    · cases hl : listed.getD j false with
      | false => rfl
      | true =>
        obtain ⟨e, he, hb, rfl⟩ := waits_edge hwt
        have := h.closed j x hx hl e he hb
        rw [hun'] at this; cases this
    · exact hun'
  · rw [ho] at ho'
    cases ho'
    obtain ⟨e, he, hb, rfl⟩ := waits_edge hw
    exact h.new _ x t hx (hall e he hb) hd
  · rw [h.size, hn]; exact regOk_lt hok hx hd

theorem Inv.put {listed : Array Bool} {a : Act} {w w' : World} {i : Nat} {o : Oper} {v : Value} {n : Nat} (hok : regOk ops n = true) (hn : a0.tmps.size = n)
    (hV : ∀ i w w' v, Ext w w' → V i w v → V i w' v)
    (h : Inv ops V a0 w0 listed a w) (hi : i ∈ Region.ready .any ops listed) (ho : ops[i]? = some o) (he : Ext w w') (hv : V i w' v) :
    Inv ops V a0 w0 (listed.setIfInBounds i true) (a.put o.dst v) w' := by
  obtain ⟨hun, o', ho', hall⟩ := mem_ready.1 hi
  rw [ho] at ho'
  cases ho'
  have hlt : i < listed.size := by rw [h.lsize]; exact (Array.getElem?_eq_some_iff.1 ho).1
  have hset : ∀ j, j ≠ i → (listed.setIfInBounds i true).getD j false = listed.getD j false := fun j hj => getD_set_ne false (Ne.symm hj)
  refine ⟨by simpa using h.lsize, h.ext.trans he, (defers_put _ _ _).trans h.defers, (size_put _ _ _).trans h.size, ?_, ?_, ?_⟩
  · intro j x hx hl e hee hb
    by_cases hj : j = i
    · subst hj
      rw [ho] at hx; cases hx
      exact getD_set_true (hall e hee hb)
    · rw [hset j hj] at hl
      exact getD_set_true (h.closed j x hx hl e hee hb)
  · intro t ht
    have hne : o.dst ≠ some t := fun hd => by
      have := ht i o ho hd
      simp [hlt] at this
    rw [getD_put_ne hne]
    refine h.old t fun j x hx hd => ?_
    have := ht j x hx hd
    by_cases hj : j = i
    · subst hj
      rw [ho] at hx; cases hx
      exact absurd hd hne
    · rwa [hset j hj] at this
  · intro j x t hx hl hd
    by_cases hj : j = i
    · subst hj
      rw [ho] at hx; cases hx
      rw [hd, getD_put_eq (by rw [h.size, hn]; exact regOk_lt hok ho hd)]
      exact hv
    · rw [hset j hj] at hl
      have hne : o.dst ≠ some t := fun hd' => hj (regOk_ne hok hx hd ho hd')
      rw [getD_put_ne hne]
      exact hV _ _ _ _ he (h.new j x t hx hl hd)

theorem count_set (listed : Array Bool) (i : Nat) (h : listed.getD i true = false) : ((listed.setIfInBounds i true).toList.count false) + 1 = listed.toList.count false := by
  have hlt : i < listed.size := by
    rcases Nat.lt_or_ge i listed.size with h' | h'
    · exact h'
    · simp [Array.getElem?_eq_none h'] at h
  have hv : listed.toList[i]'(by simpa using hlt) = false := by simpa [hlt] using h
  rw [Array.toList_setIfInBounds, List.count_set (by simpa using hlt)]
  have hpos : 0 < listed.toList.count false := List.count_pos_iff.2 (by rw [← hv]; exact List.getElem_mem _)
  rw [hv]
  show List.count false listed.toList - 1 + 0 + 1 = List.count false listed.toList
  omega

/-- When none may come up, all have. -/
theorem all_listed {listed : Array Bool} {n : Nat} (hok : regOk ops n = true) (hs : listed.size = ops.size) (hr : Region.ready .any ops listed = []) : ∀ j, j < ops.size → listed.getD j false = true := by
  intro j
  induction j using Nat.strongRecOn with
  | _ j ih =>
    intro hj
    cases hl : listed.getD j false with
    | true => rfl
    | false =>
      exfalso
      have hm : j ∈ Region.ready .any ops listed := mem_ready.2 ⟨by simpa [hs, hj] using hl, ops[j], Array.getElem?_eq_getElem hj, fun e he hbe => by
        have hlt := regOk_edge hok (Array.getElem?_eq_getElem hj) e he hbe
        exact ih e.on hlt (by omega)⟩
      rw [hr] at hm
      cases hm

theorem wpAny_inv {Q : Exit → Act → World → Prop} {n : Nat} (hok : regOk ops n = true) (hn : a0.tmps.size = n)
    (hV : ∀ i w w' v, Ext w w' → V i w v → V i w' v)
    (step : ∀ i o, ops[i]? = some o → ∀ a w, Kn ops V a0 w0 i a w → Step P ops V Q i o a w)
    (fin : ∀ a w, Fin_ ops V a0 w0 a w → Q .normal a w) :
    ∀ (fuel : Nat) (listed : Array Bool) (a : Act) (w : World), listed.toList.count false ≤ fuel → Inv ops V a0 w0 listed a w → wpAny P .any ops Q fuel listed a w := by
  have done : ∀ (listed : Array Bool) (a : Act) (w : World), Inv ops V a0 w0 listed a w → Region.ready .any ops listed = [] → Q .normal a w := by
    intro listed a w h hr
    have hall := all_listed hok h.lsize hr
    refine fin a w ⟨h.ext, h.defers, h.size, fun t ht => h.old t fun j x hx hd => absurd hd (ht j x hx), fun j x t hx hd => h.new j x t hx (hall j (Array.getElem?_eq_some_iff.1 hx).1) hd⟩
  intro fuel
  induction fuel with
  | zero =>
    intro listed a w hc h
    have hr : Region.ready .any ops listed = [] := by
      refine List.eq_nil_iff_forall_not_mem.2 fun j hj => ?_
      have := count_set listed j (mem_ready.1 hj).1
      omega
    exact ⟨hr, done listed a w h hr⟩
  | succ fuel ih =>
    intro listed a w hc h
    refine ⟨done listed a w h, fun i hi => ?_⟩
    obtain ⟨hun, o, ho, _⟩ := mem_ready.1 hi
    have hcs := count_set listed i hun
    have hst := step i o ho a w (h.kn hok hn hi)
    unfold wpOp
    simp only [ho]
    unfold Step at hst
    split
    · rename_i hw
      rw [if_pos hw] at hst
      refine .inl (Oper.wp_mono (fun a' w' hh => ?_) hst)
      obtain ⟨v, rfl, he, hv⟩ := hh
      exact ih _ _ _ (by omega) (h.put hok hn hV hi ho he hv)
    · rename_i hw
      rw [if_neg hw] at hst
      exact ih _ _ _ (by omega) (h.put hok hn hV hi ho (Ext.refl _) hst)

/-- A region that draws its order, each operation by itself. -/
theorem region_inv {Q : Exit → Act → World → Prop} {id n : Nat} (hm : P.follows .mixedOrders = true) (hn : a0.tmps.size = n) (hok : regOk ops n = true)
    (V : Nat → World → Value → Prop) (hV : ∀ i w w' v, Ext w w' → V i w v → V i w' v)
    (step : ∀ i o, ops[i]? = some o → ∀ a w, Kn ops V a0 w0 i a w → Step P ops V Q i o a w)
    (fin : ∀ a w, Fin_ ops V a0 w0 a w → Q .normal a w) : (Code.region id ops true).wp P Q a0 w0 := by
  refine wp_region_any hm (wpAny_inv (V := V) hok hn hV step fin ops.size _ _ _ ?_ ?_)
  · simp
  · refine ⟨by simp, Ext.drew w0, rfl, rfl, ?_, fun _ _ => rfl, ?_⟩
    · intro j x hx hl
      have hj := (Array.getElem?_eq_some_iff.1 hx).1
      simp [hj] at hl
    · intro j x t hx hl
      have hj := (Array.getElem?_eq_some_iff.1 hx).1
      simp [hj] at hl
end
/-- What a slot of a region may be told to hold. -/
inductive K where
  | eq (v : Value)
  | byt (n : Nat) (bs : List UInt8)
  | byc (n : Nat) (bs : List UInt8)
  | bycm (n : Nat) (bs : List UInt8)
  | bytb (n : Nat) (bs : List UInt8) (b : Bool)
  | ptr (v : Value)
  | row (n : Nat) (vs : List Value)
  | num (g n : Nat) (cs : Array Value)
  | new (B : Nat) (cs : Array Value) (e : TypeId)
  | gen (p : World → Value → Prop) (hp : ∀ w w' v, Ext w w' → p w v → p w' v)
  | any
def K.holds : K → World → Value → Prop
  | .eq x, _, v => v = x
  | .byt n bs, w, v => ∃ A c, v = .slice A n c ∧ Rd w w.heap.size A n bs
  | .byc n bs, w, v => ∃ A c, v = .slice A n c ∧ n ≤ c ∧ Rd w w.heap.size A n bs
  | .bycm n bs, w, v => ∃ A c, v = .slice A n c ∧ n ≤ c ∧ c ≤ 9223372036854775807 ∧ Rd w w.heap.size A n bs
  | .bytb n bs b, w, v => ∃ A c, v = .tuple #[.slice A n c, .bool b] ∧ Rd w w.heap.size A n bs
  | .ptr x, w, v => ∃ p : Addr, v = .pointer (some p) ∧ p.block < w.heap.size ∧ w.cell? p = some x
  | .row n vs, w, v => ∃ b, v = .slice (some ⟨b, 0, none⟩) n n ∧ b < w.heap.size ∧ ∀ k, k < n → w.cell? ⟨b, k, none⟩ = some (vs.getD k undef)
  | .num g n cs, w, v => ∃ b, v = .slice (some ⟨b, 0, none⟩) n n ∧ b ≠ g ∧ w.heap[b]? = some (.cells cs 3 (0, 0))
  | .new B cs e, w, v => ∃ b, v = .pointer (some ⟨b, 0, none⟩) ∧ B ≤ b ∧ w.heap[b]? = some (.cells cs e (0, 0))
  | .gen p _, w, v => p w v
  | .any, _, _ => True
theorem K.keep (k : K) {w w' : World} {v : Value} (he : Ext w w') (h : k.holds w v) : k.holds w' v := by
  cases k with
  | eq x => exact h
  | byt n bs => obtain ⟨A, c, rfl, hr⟩ := h; exact ⟨A, c, rfl, Rd.later hr he⟩
  | byc n bs => obtain ⟨A, c, rfl, hc, hr⟩ := h; exact ⟨A, c, rfl, hc, Rd.later hr he⟩
  | bycm n bs => obtain ⟨A, c, rfl, hc, hm, hr⟩ := h; exact ⟨A, c, rfl, hc, hm, Rd.later hr he⟩
  | bytb n bs b => obtain ⟨A, c, rfl, hr⟩ := h; exact ⟨A, c, rfl, Rd.later hr he⟩
  | ptr x => obtain ⟨p, rfl, hlt, hc⟩ := h; exact ⟨p, rfl, Nat.lt_of_lt_of_le hlt (Below.size he), (Below.cell he hlt).trans hc⟩
  | row n vs => obtain ⟨b, rfl, hlt, hc⟩ := h; exact ⟨b, rfl, Nat.lt_of_lt_of_le hlt (Below.size he), fun k hk => (Below.cell he (p := ⟨b, k, none⟩) hlt).trans (hc k hk)⟩
  | num g n cs => obtain ⟨b, rfl, hne, hc⟩ := h; exact ⟨b, rfl, hne, (Below.block he b (Array.getElem?_eq_some_iff.1 hc).1).trans hc⟩
  | new B cs e => obtain ⟨b, rfl, hB, hc⟩ := h; exact ⟨b, rfl, hB, (Below.block he b (Array.getElem?_eq_some_iff.1 hc).1).trans hc⟩
  | gen p hp => exact hp _ _ _ he h
  | any => trivial
def kV (ks : List K) (i : Nat) (w : World) (v : Value) : Prop := (ks.getD i .any).holds w v
theorem kV_keep (ks : List K) : ∀ i w w' v, Ext w w' → kV ks i w v → kV ks i w' v := fun _ _ _ _ he h => K.keep _ he h

def depOk (ops : Array Oper) (i j t : Nat) : Bool :=
  match ops[i]?, ops[j]? with
  | some o, some x => waits o j && x.dst == some t
  | _, _ => false
def oldOk (ops : Array Oper) (i t : Nat) : Bool :=
  (List.range ops.size).all fun j => ((ops[j]?).map fun x => x.dst != some t || waits x i || j == i).getD true
def freeOk (ops : Array Oper) (t : Nat) : Bool := ops.all fun x => x.dst != some t
def lastOk (ops : Array Oper) (j t : Nat) : Bool := (ops[j]?.map fun x => x.dst == some t).getD false

def AllOps (p : Nat → Oper → Prop) : List Oper → Nat → Prop
  | [], _ => True
  | o :: l, k => p k o ∧ AllOps p l (k + 1)
theorem AllOps.get {p : Nat → Oper → Prop} : ∀ {l : List Oper} {k : Nat}, AllOps p l k → ∀ i o, l[i]? = some o → p (k + i) o
  | [], _, _, _, _, h => by simp at h
  | x :: l, k, ha, 0, o, h => by simp at h; subst h; exact ha.1
  | x :: l, k, ha, i + 1, o, h => by
    have := AllOps.get ha.2 i o (by simpa using h)
    have e : k + 1 + i = k + (i + 1) := by omega
    rw [e] at this; exact this
theorem forall_ops {l : List Oper} {p : Nat → Oper → Prop} (h : AllOps p l 0) : ∀ i o, l.toArray[i]? = some o → p i o := fun i o ho => by
  have := h.get i o (by simpa using ho)
  rwa [Nat.zero_add] at this

section
variable {P : Program} {ops : Array Oper} {ks : List K} {V : Nat → World → Value → Prop} {a0 a : Act} {w0 w : World} {i : Nat}

theorem depOk_spec {i j t : Nat} (h : depOk ops i j t = true) : ∃ o x, ops[i]? = some o ∧ ops[j]? = some x ∧ waits o j = true ∧ x.dst = some t := by
  unfold depOk at h
  split at h
  · rename_i o x ho hx
    simp at h
    exact ⟨o, x, ho, hx, h.1, h.2⟩
  · cases h
theorem Kn.val (hk : Kn ops (kV ks) a0 w0 i a w) (j t : Nat) {k : K} (hd : depOk ops i j t = true) (hks : ks.getD j .any = k) : k.holds w (a.tmps.getD t undef) := by
  obtain ⟨o, x, ho, hx, hw, ht⟩ := depOk_spec hd
  have := hk.new j x o t ho hw hx ht
  unfold kV at this
  rwa [hks] at this
theorem Kn.eq_ (hk : Kn ops (kV ks) a0 w0 i a w) (j t : Nat) {v : Value} (hd : depOk ops i j t = true) (hks : ks.getD j .any = .eq v) : a.tmps.getD t undef = v :=
  hk.val j t hd hks
theorem Kn.byt_ (hk : Kn ops (kV ks) a0 w0 i a w) (j t : Nat) {n : Nat} {bs : List UInt8} (hd : depOk ops i j t = true) (hks : ks.getD j .any = .byt n bs) :
    ∃ A c, a.tmps.getD t undef = .slice A n c ∧ Rd w w.heap.size A n bs :=
  hk.val j t hd hks
theorem Kn.was (hk : Kn ops V a0 w0 i a w) (t : Nat) {v : Value} (hd : oldOk ops i t = true) (hv : a0.tmps.getD t undef = v) : a.tmps.getD t undef = v := by
  rw [← hv]
  refine hk.old t fun j x hx hxd => ?_
  unfold oldOk at hd
  rw [List.all_eq_true] at hd
  have := hd j (List.mem_range.2 (Array.getElem?_eq_some_iff.1 hx).1)
  rw [hx] at this
  simp [hxd] at this
  exact this
theorem Kn.byt0 (hk : Kn ops V a0 w0 i a w) (t : Nat) {A : Option Addr} {n c : Nat} {bs : List UInt8} (hd : oldOk ops i t = true) (hv : a0.tmps.getD t undef = .slice A n c) (hr : Rd w0 w0.heap.size A n bs) :
    a.tmps.getD t undef = .slice A n c ∧ Rd w w.heap.size A n bs := ⟨hk.was t hd hv, hr.later hk.ext⟩
theorem Kn.run {Q : Exit → Act → World → Prop} {o : Oper} (hk : Kn ops (kV ks) a0 w0 i a w) (j t : Nat) (b b' : Bool) (hg : o.guard = some (j, b')) (hd : depOk ops i j t = true)
    (hks : ks.getD j .any = .eq (.bool b)) (h : Region.wanted o (yielded ops a.tmps) = (b == b') → Step P ops V Q i o a w) : Step P ops V Q i o a w := by
  refine h ?_
  have hv := hk.eq_ j t hd hks
  obtain ⟨_, x, _, hx, _, ht⟩ := depOk_spec hd
  have hlt : t < a.tmps.size := hk.lt j x t hx ht
  have h2 : a.tmps[t]? = some (.bool b) := by
    rw [Array.getElem?_eq_getElem hlt]
    simpa [hlt] using hv
  simp [Region.wanted, hg, yielded, hx, ht, h2]
theorem Fin_.eq_ (hf : Fin_ ops (kV ks) a0 w0 a w) (j t : Nat) {v : Value} (hd : lastOk ops j t = true) (hks : ks.getD j .any = .eq v) : a.tmps.getD t undef = v := by
  unfold lastOk at hd
  cases hx : ops[j]? with
  | none => simp [hx] at hd
  | some x =>
    simp [hx] at hd
    have := hf.new j x t hx hd
    unfold kV at this
    rwa [hks] at this
theorem Fin_.was (hf : Fin_ ops V a0 w0 a w) (t : Nat) {v : Value} (hd : freeOk ops t = true) (hv : a0.tmps.getD t undef = v) : a.tmps.getD t undef = v := by
  rw [← hv]
  refine hf.old t fun j x hx hxd => ?_
  unfold freeOk at hd
  rw [Array.all_eq_true_iff_forall_mem] at hd
  have := hd x (Array.mem_of_getElem? hx)
  simp [hxd] at this

/-- An operation that the guard passes over. -/
theorem step_skip {Q : Exit → Act → World → Prop} {o : Oper} (hw : Region.wanted o (yielded ops a.tmps) = false) (hv : V i w undef) : Step P ops V Q i o a w := by
  unfold Step; rw [if_neg (by rw [hw]; simp)]; exact hv
theorem step_val {Q : Exit → Act → World → Prop} {o : Oper} {v : Value} {w' : World} (hw : Region.wanted o (yielded ops a.tmps) = true)
    (hrun : (execOp a.eval o).run P w = .ok (.value v) w') (he : Ext w w') (hv : V i w' v) : Step P ops V Q i o a w := by
  unfold Step; rw [if_pos hw]
  unfold Oper.wp
  rw [hrun]
  exact ⟨v, rfl, he, hv⟩
theorem step_move {Q : Exit → Act → World → Prop} {o : Oper} {x : Operand} {v : Value} (hw : Region.wanted o (yielded ops a.tmps) = true)
    (hop : o.op = .move x) (hx : a.eval x = v) (hv : V i w v) : Step P ops V Q i o a w :=
  step_val (v := v) (w' := w) hw (by simp only [execOp, hop, hx, Sem.run_pure]) (Ext.refl w) hv
theorem step_assign {Q : Exit → Act → World → Prop} {o : Oper} {x : Operand} {v : Value} (hw : Region.wanted o (yielded ops a.tmps) = true)
    (hop : o.op = .assign x) (hx : a.eval x = v) (hv : V i w v) : Step P ops V Q i o a w :=
  step_val (v := v) (w' := w) hw (by simp only [execOp, hop, hx, Sem.run_pure]) (Ext.refl w) hv
theorem step_pick {Q : Exit → Act → World → Prop} {o : Oper} {c x y : Operand} {b : Bool} {v : Value} (hw : Region.wanted o (yielded ops a.tmps) = true)
    (hop : o.op = .pick c x y) (hc : a.eval c = .bool b) (hx : (if b = true then a.eval x else a.eval y) = v) (hv : V i w v) : Step P ops V Q i o a w :=
  step_val (v := v) (w' := w) hw (by simp [execOp, hop, hc, asBool, Sem.run_pure, hx]) (Ext.refl w) hv
theorem step_conv {Q : Exit → Act → World → Prop} {o : Oper} {s d : TypeId} {x : Operand} {y v : Value} (hw : Region.wanted o (yielded ops a.tmps) = true)
    (hop : o.op = .convert s d x) (hx : a.eval x = y) (hrun : (convert s d y).run P w = .ok v w) (hv : V i w v) : Step P ops V Q i o a w :=
  step_val (v := v) (w' := w) hw (by simp only [execOp, hop, hx, Sem.run_bind, hrun, Sem.run_pure, Result.andThen]) (Ext.refl w) hv
theorem step_extract {Q : Exit → Act → World → Prop} {o : Oper} {x : Operand} {k : Nat} {ys : Array Value} {v : Value} (hw : Region.wanted o (yielded ops a.tmps) = true)
    (hop : o.op = .extract x k) (hx : a.eval x = .tuple ys) (hy : ys[k]? = some v) (hv : V i w v) : Step P ops V Q i o a w :=
  step_val (v := v) (w' := w) hw (by simp [execOp, hop, hx, Instr.extract, hy, Sem.run_pure]) (Ext.refl w) hv
theorem step_call {Q : Exit → Act → World → Prop} {o : Oper} {f : FuncId} {args : Array Operand} {ts : Array TypeId} {vs : Array Value} {R : Ending → World → Prop} (hw : Region.wanted o (yielded ops a.tmps) = true)
    (hop : o.op = .call { callee := .value (.func f), args := args, argTypes := ts }) (hargs : args.map a.eval = vs)
    (hcf : ∀ vs w, (callFunc f vs).run P w = .ok (.enter f vs) w) (hc : Calls P f vs w R) (hR : ∀ e w', R e w' → ∃ v, e = .returned v ∧ Ext w w' ∧ V i w' v) : Step P ops V Q i o a w := by
  unfold Step; rw [if_pos hw]
  unfold Oper.wp
  have hrun : (execOp a.eval o).run P w = .ok (.enter f vs) w := by
    simp [execOp, hop, resolve, hargs, Act.eval, Deferred.ofValue, invoke, hcf]
  rw [hrun]
  refine hc.mono fun e w' he => ?_
  obtain ⟨v, rfl, hx, hv⟩ := hR e w' he
  exact ⟨v, rfl, hx, hv⟩
theorem RetB.k {bs : List UInt8} {n : Nat} (hn : bs.length = n) (e : Ending) (w' : World) (h : RetB w bs e w') : ∃ v, e = .returned v ∧ Ext w w' ∧ K.holds (.byt n bs) w' v := by
  obtain ⟨v, rfl, ho, hb⟩ := h
  obtain ⟨A, c, rfl, hr, _⟩ := ho.rdn hn
  exact ⟨_, rfl, hb, A, c, rfl, hr⟩
/-- The end of a function with one result. -/
theorem wp_ret_tmp {fn : Func} {R : Ending → World → Prop} {t : Tmp} {v : Value} (hres : fn.results = #[.tmp t]) (hd : a.defers = []) (hv : a.tmps.getD t undef = v) (h : R (.returned v) w) :
    Code.ret.wp P (bodyPost P fn R) a w := wp_ret (bodyPost_ret (results_tmp hres _ _ _) hd (by rw [hv]; exact h))
theorem Fin_.val (hf : Fin_ ops (kV ks) a0 w0 a w) (j t : Nat) {k : K} (hd : lastOk ops j t = true) (hks : ks.getD j .any = k) : k.holds w (a.tmps.getD t undef) := by
  unfold lastOk at hd
  cases hx : ops[j]? with
  | none => simp [hx] at hd
  | some x =>
    simp [hx] at hd
    have := hf.new j x t hx hd
    unfold kV at this
    rwa [hks] at this

/-- The frame behind a region, written out: what it was, but for the slots that the region wrote. -/
def regFrame (f : Nat → Value) : List Oper → Act → Act
  | [], a => a
  | o :: l, a => regFrame f l (match o.dst with | some t => a.put (some t) (f t) | none => a)
theorem regFrame_get (f : Nat → Value) : ∀ (l : List Oper) (a : Act), (regFrame f l a).defers = a.defers ∧ (regFrame f l a).tmps.size = a.tmps.size ∧
    ∀ t, t < a.tmps.size → (regFrame f l a).tmps.getD t undef = if l.any (fun o => o.dst == some t) then f t else a.tmps.getD t undef
  | [], a => ⟨rfl, rfl, fun t _ => by simp [regFrame]⟩
  | o :: l, a => by
    have ih := regFrame_get f l (match o.dst with | some t => a.put (some t) (f t) | none => a)
    cases hd : o.dst with
    | none =>
      rw [hd] at ih
      refine ⟨by simp only [regFrame, hd]; exact ih.1, by simp only [regFrame, hd]; exact ih.2.1, fun t ht => ?_⟩
      simp only [regFrame, hd]
      rw [ih.2.2 t ht]
      simp [hd]
    | some u =>
      rw [hd] at ih
      refine ⟨by simp only [regFrame, hd]; exact ih.1.trans (defers_put _ _ _), by simp only [regFrame, hd]; exact ih.2.1.trans (size_put _ _ _), fun t ht => ?_⟩
      simp only [regFrame, hd]
      rw [ih.2.2 t (by rw [size_put]; exact ht)]
      by_cases hu : u = t
      · subst hu
        simp only [List.any_cons, hd, beq_self_eq_true, Bool.true_or, if_true]
        split
        · rfl
        · exact getD_put_eq ht
      · rw [getD_put_ne (fun e => hu (Option.some.inj e))]
        simp [hd, hu]
theorem getD_of_lt (xs : Array Value) (i : Nat) (h : i < xs.size) : xs.getD i undef = xs[i] := by simp [h]
theorem act_ext {a b : Act} (hd : a.defers = b.defers) (hs : a.tmps.size = b.tmps.size) (h : ∀ t, t < a.tmps.size → a.tmps.getD t undef = b.tmps.getD t undef) : a = b := by
  have ht : a.tmps = b.tmps := by
    apply Array.ext hs
    intro i h1 h2
    rw [← getD_of_lt _ _ h1, ← getD_of_lt _ _ h2]
    exact h i h1
  cases a; cases b
  cases ht; cases hd
  rfl
theorem Fin_.frame {l : List Oper} (hf : Fin_ l.toArray V a0 w0 a w) : a = regFrame (fun t => a.tmps.getD t undef) l a0 := by
  have h := regFrame_get (fun t => a.tmps.getD t undef) l a0
  refine act_ext (hf.defers.trans h.1.symm) (hf.size.trans h.2.1.symm) fun t ht => ?_
  rw [h.2.2 t (by rw [← hf.size]; exact ht)]
  by_cases hn : (l.any fun o => o.dst == some t) = true
  · rw [if_pos hn]
  · rw [if_neg hn]
    refine hf.old t fun j x hx hxd => hn ?_
    rw [List.any_eq_true]
    exact ⟨x, List.mem_of_getElem? (by simpa using hx), by simp [hxd]⟩

/-- A slice literal of bytes, within a region. -/
theorem step_build {Q : Exit → Act → World → Prop} {o : Oper} {t : TypeId} {n : Nat} {parts : Array (Nat × Operand)} {vs : Array (Nat × Value)} {bs : List UInt8} {cs : Array Value} (hw : Region.wanted o (yielded ops a.tmps) = true)
    (hop : o.op = .buildSlice t n parts) (hparts : parts.map (fun p => (p.1, a.eval p.2)) = vs)
    (hrun : (Instr.buildSlice t n vs).run P w = .ok (.slice (some ⟨w.heap.size, 0, none⟩) n n) (w.alloc (.cells cs 5)))
    (hcs : cs.toList = cellsOf bs) (hn : bs.length = n) (hm : n ≤ maxLen) (hV : ∀ w' v, K.holds (.byt n bs) w' v → V i w' v) : Step P ops V Q i o a w := by
  refine step_val (v := .slice (some ⟨w.heap.size, 0, none⟩) n n) (w' := w.alloc (.cells cs 5)) hw ?_ (Ext.alloc _ _) (hV _ _ ?_)
  · have e : (parts.map fun x => match x with | (i, x) => (i, a.eval x)) = vs := hparts
    simp only [execOp, hop, e, Sem.run_bind, hrun, Sem.run_pure, Result.andThen]
  obtain ⟨A, c, e, hr, _⟩ := (Own.lit w bs cs n w.heap.size hcs hn hm (Nat.le_refl _)).rdn hn
  exact ⟨A, c, e, hr⟩
theorem Rd.cutlo {B n c l : Nat} {A : Option Addr} {bs : List UInt8} (h : Rd w B A n bs) (hl : l ≤ n) (hc : n ≤ c) :
    Rd w B (if c = l then A else A.map (·.add (l * 1))) (n - l) (bs.drop l) := by
  refine ⟨by rw [List.length_drop, h.len], fun hp => ?_⟩
  obtain ⟨b, o, rfl, hb, hcell⟩ := h.at_ (by omega)
  rw [if_neg (by omega)]
  refine ⟨b, o + l * 1, by simp [add_off], hb, fun k hk => ?_⟩
  have := hcell (l + k) (by omega)
  have e : byteAt (bs.drop l) k = byteAt bs (l + k) := by unfold byteAt; simp [List.getD]
  rw [e, ← this]
  congr 2; omega
theorem Rd.cuthi {B n : Nat} {A : Option Addr} {bs : List UInt8} (h : Rd w B A n bs) (l : Nat) (hl : l ≤ n) : Rd w B A l (bs.take l) := by
  refine ⟨by rw [List.length_take, h.len]; omega, fun hp => ?_⟩
  obtain ⟨b, o, rfl, hb, hcell⟩ := h.at_ (by omega)
  refine ⟨b, o, rfl, hb, fun k hk => ?_⟩
  have e : byteAt (bs.take l) k = byteAt bs k := by unfold byteAt; simp [List.getD, hk]
  rw [e]; exact hcell k (by omega)
theorem step_slice_lo {Q : Exit → Act → World → Prop} {o : Oper} {t : TypeId} {x lo : Operand} {A : Option Addr} {n c l : Nat} {bs : List UInt8} (hw : Region.wanted o (yielded ops a.tmps) = true)
    (hop : o.op = .slice t x (some lo) none none) (hx : a.eval x = .slice A n c) (hlo : a.eval lo = .int .i64 (l : Int)) (ht : P.underlying t = some (.slice (P.elem t))) (hs : ∀ w, (sizeOf (P.elem t)).run P w = .ok 1 w)
    (hl : l ≤ n) (hc : n ≤ c) (hr : Rd w w.heap.size A n bs) (hV : ∀ v, K.holds (.byt (n - l) (bs.drop l)) w v → V i w v) : Step P ops V Q i o a w := by
  refine step_val (v := sliced A l n c 1) (w' := w) hw ?_ (Ext.refl w) (hV _ ⟨_, _, rfl, hr.cutlo hl hc⟩)
  have e : (Instr.sliceAt t (.slice A n c) (some (.int .i64 (l : Int))) none none).run P w = .ok (sliced A l n c 1) w := by
    rw [run_sliceAt_slice w t _ _ _ _ ht, run_slice_l w t A n c ht .i64 l (by omega) (by omega), hs]
    simp [Result.andThen]
  simp [execOp, hop, hx, hlo, e, Result.andThen]
theorem step_slice_hi {Q : Exit → Act → World → Prop} {o : Oper} {t : TypeId} {x hi : Operand} {A : Option Addr} {n c l : Nat} {bs : List UInt8} (hw : Region.wanted o (yielded ops a.tmps) = true)
    (hop : o.op = .slice t x none (some hi) none) (hx : a.eval x = .slice A n c) (hhi : a.eval hi = .int .i64 (l : Int)) (ht : P.underlying t = some (.slice (P.elem t))) (hs : ∀ w, (sizeOf (P.elem t)).run P w = .ok 1 w)
    (hl : l ≤ n) (hc : n ≤ c) (hr : Rd w w.heap.size A n bs) (hV : ∀ v, K.holds (.byt l (bs.take l)) w v → V i w v) : Step P ops V Q i o a w := by
  have hc0 := hr.cutlo (l := 0) (Nat.zero_le _) hc
  refine step_val (v := sliced A 0 l c 1) (w' := w) hw ?_ (Ext.refl w) (hV _ ⟨_, _, rfl, ?_⟩)
  · have e : (Instr.sliceAt t (.slice A n c) none (some (.int .i64 (l : Int))) none).run P w = .ok (sliced A 0 l c 1) w := by
      rw [run_sliceAt_slice w t _ _ _ _ ht, run_slice_h w t A n c ht .i64 l (by omega) (by omega), hs]
      simp [Result.andThen]
    simp [execOp, hop, hx, hhi, e, Result.andThen]
  · have := hc0.cuthi l (by omega)
    simpa using this
end
theorem Own.rdc {w : World} {base n : Nat} {v : Value} {bs : List UInt8} (h : Own w base v bs) (hn : bs.length = n) : ∃ A c, v = .slice A n c ∧ n ≤ c ∧ Rd w w.heap.size A n bs ∧ Own w base (.slice A n c) bs := by
  subst hn
  obtain ⟨A, c, rfl, hr, _⟩ := h.rd
  refine ⟨A, c, rfl, ?_, hr, h⟩
  rcases h.2 with ⟨h1, h2⟩ | ⟨g, cap, cur, h1, _, _, hnc, _⟩
  · omega
  · simp only [Value.slice.injEq] at h1
    omega
end Go.Proofs.YtpfkcplldhdipaaDoor
