/- A region whose order is open and one of whose operations writes, wherever it stands: each operation by itself; and blocks of numbers; laws of the verifier's own; no statement is proved here. -/
import Derived.Test.YtpfkcplldhdipaaDoorRegT
import Derived.Test.YtpfkcplldhdipaaDoorMemN
import Derived.Test.YtpfkcplldhdipaaDoorProg
import Derived.Laws.Cover3
import Derived.Laws.CopyOwn
import Derived.StillTail
namespace Go.Proofs.YtpfkcplldhdipaaDoor
open Go.RowKit
section
variable {P : Program} {ops : Array Oper} {V : Nat → World → Value → Prop} {a0 : Act} {w0 : World}
/-- What an operation knows of a slot that another one wrote. -/
theorem Kn.slot {i : Nat} {a : Act} {w : World} (hk : Kn ops V a0 w0 i a w) (j t : Nat) (hd : depOk ops i j t = true) : V j w (a.tmps.getD t undef) := by
  obtain ⟨o, x, ho, hx, hw, ht⟩ := depOk_spec hd
  exact hk.new j x o t ho hw hx ht
structure InvW (ops : Array Oper) (V : Nat → World → Value → Prop) (a0 : Act) (w0 : World) (s : Nat) (Wr : World → Prop) (listed : Array Bool) (a : Act) (w : World) : Prop where
  inv : Inv ops V a0 w listed a w
  pre : listed.getD s false = false → Ext w0 w
  post : listed.getD s false = true → Wr w
theorem Inv.at_ {listed : Array Bool} {a : Act} {w w1 w2 : World} (h : Inv ops V a0 w1 listed a w) (hx : Ext w2 w) : Inv ops V a0 w2 listed a w := ⟨h.lsize, hx, h.defers, h.size, h.closed, h.old, h.new⟩
theorem wpAny_one {Q : Exit → Act → World → Prop} {n s : Nat} {Wr : World → Prop} (hok : regOk ops n = true) (hn : a0.tmps.size = n) {os : Oper} (hos : ops[s]? = some os) (hg : os.guard = none)
    (hV : ∀ i w w' v, Ext w w' → V i w v → V i w' v) (hW : ∀ w w', Ext w w' → Wr w → Wr w')
    (step : ∀ i o, ops[i]? = some o → i ≠ s → ∀ a w, Kn ops V a0 w i a w → (waits os i = true → Ext w0 w) → Step P ops V Q i o a w)
    (wr : ∀ a w, Kn ops V a0 w0 s a w → os.wp P a w (fun a' w' => ∃ v, a' = a.put os.dst v ∧ Wr w' ∧ V s w' v ∧ ∀ i v, V i w v → V i w' v) Q)
    (fin : ∀ a w, Fin_ ops V a0 w a w → Wr w → Q .normal a w) :
    ∀ (fuel : Nat) (listed : Array Bool) (a : Act) (w : World), listed.toList.count false ≤ fuel → InvW ops V a0 w0 s Wr listed a w → wpAny P .any ops Q fuel listed a w := by
  have hss : s < ops.size := (Array.getElem?_eq_some_iff.1 hos).1
  have done : ∀ (listed : Array Bool) (a : Act) (w : World), InvW ops V a0 w0 s Wr listed a w → Region.ready .any ops listed = [] → Q .normal a w := by
    intro listed a w h hr
    have hall := all_listed hok h.inv.lsize hr
    exact fin a w ⟨Ext.refl _, h.inv.defers, h.inv.size, fun t ht => h.inv.old t fun j x hx hd => absurd hd (ht j x hx), fun j x t hx hd => h.inv.new j x t hx (hall j (Array.getElem?_eq_some_iff.1 hx).1) hd⟩ (h.post (hall s hss))
  intro fuel
  induction fuel with
  | zero =>
    intro listed a w hc h
    have hr : Region.ready .any ops listed = [] := by
      refine List.eq_nil_iff_forall_not_mem.2 fun j hj => ?_
      have := count_set listed j (mem_ready.1 hj).1
      omega
    exact ⟨hr, done listed a w h hr⟩
  | succ fuel ih =>
    intro listed a w hc h
    refine ⟨done listed a w h, fun i hi => ?_⟩
    obtain ⟨hun, o, ho, hdep⟩ := mem_ready.1 hi
    have hcs := count_set listed i hun
    have hli : i < listed.size := by rw [h.inv.lsize]; exact (Array.getElem?_eq_some_iff.1 ho).1
    have hun' : listed.getD i false = false := by simpa [hli] using hun
    by_cases his : i = s
    · subst his
      rw [hos] at ho
      cases ho
      have hx := h.pre hun'
      have hw := wr a w ((h.inv.at_ hx).kn hok hn hi)
      have hwant : Region.wanted os (yielded ops a.tmps) = true := by simp [Region.wanted, hg]
      unfold wpOp
      simp only [hos]
      rw [if_pos hwant]
      refine .inl (Oper.wp_mono (fun a' w' hh => ?_) hw)
      obtain ⟨v, rfl, hwr, hv, hkeep⟩ := hh
      have hI : Inv ops V a0 w' listed a w' := ⟨h.inv.lsize, Ext.refl _, h.inv.defers, h.inv.size, h.inv.closed, h.inv.old, fun j x t hx hl hd => hkeep _ _ (h.inv.new j x t hx hl hd)⟩
      refine ih _ _ _ (by omega) ⟨hI.put hok hn hV hi hos (Ext.refl _) hv, fun hl => ?_, fun _ => hwr⟩
      simp [hli] at hl
    · have hset : (listed.setIfInBounds i true).getD s false = listed.getD s false := getD_set_ne false his
      have hst := step i o ho his a w ((h.inv.at_ (Ext.refl _)).kn hok hn hi) (fun hwt => by
        refine h.pre ?_
        cases hl : listed.getD s false with
        | false => rfl
        | true =>
          obtain ⟨e, he, hb, rfl⟩ := waits_edge hwt
          have := h.inv.closed s os hos hl e he hb
          rw [hun'] at this; cases this)
      unfold wpOp
      simp only [ho]
      unfold Step at hst
      split
      · rename_i hw
        rw [if_pos hw] at hst
        refine .inl (Oper.wp_mono (fun a' w' hh => ?_) hst)
        obtain ⟨v, rfl, he, hv⟩ := hh
        exact ih _ _ _ (by omega) ⟨((h.inv.at_ (Ext.refl _)).put hok hn hV hi ho he hv).at_ (Ext.refl _), fun hl => (h.pre (by rw [← hset]; exact hl)).trans he, fun hl => hW _ _ he (h.post (by rw [← hset]; exact hl))⟩
      · rename_i hw
        rw [if_neg hw] at hst
        exact ih _ _ _ (by omega) ⟨((h.inv.at_ (Ext.refl _)).put hok hn hV hi ho (Ext.refl _) hst).at_ (Ext.refl _), fun hl => h.pre (by rw [← hset]; exact hl), fun hl => h.post (by rw [← hset]; exact hl)⟩
/-- A region that draws its order, one of whose operations writes. -/
theorem region_one {Q : Exit → Act → World → Prop} {id n : Nat} (s : Nat) (os : Oper) (Wr : World → Prop) (hm : P.follows .mixedOrders = true) (hn : a0.tmps.size = n) (hok : regOk ops n = true)
    (hos : ops[s]? = some os) (hg : os.guard = none)
    (V : Nat → World → Value → Prop) (hV : ∀ i w w' v, Ext w w' → V i w v → V i w' v) (hW : ∀ w w', Ext w w' → Wr w → Wr w')
    (step : ∀ i o, ops[i]? = some o → i ≠ s → ∀ a w, Kn ops V a0 w i a w → (waits os i = true → Ext w0 w) → Step P ops V Q i o a w)
    (wr : ∀ a w, Kn ops V a0 w0 s a w → os.wp P a w (fun a' w' => ∃ v, a' = a.put os.dst v ∧ Wr w' ∧ V s w' v ∧ ∀ i v, V i w v → V i w' v) Q)
    (fin : ∀ a w, Fin_ ops V a0 w a w → Wr w → Q .normal a w) : (Code.region id ops true).wp P Q a0 w0 := by
  have hss : s < ops.size := (Array.getElem?_eq_some_iff.1 hos).1
  refine wp_region_any hm (wpAny_one (V := V) (Wr := Wr) hok hn hos hg hV hW step wr fin ops.size _ _ _ ?_ ⟨⟨by simp, Ext.refl _, rfl, rfl, ?_, fun _ _ => rfl, ?_⟩, fun _ => Ext.drew w0, ?_⟩)
  · simp
  · intro j x hx hl
    have hj := (Array.getElem?_eq_some_iff.1 hx).1
    simp [hj] at hl
  · intro j x t hx hl
    have hj := (Array.getElem?_eq_some_iff.1 hx).1
    simp [hj] at hl
  · intro hl
    simp [hss] at hl
end
section
variable {P : Program} {l : List Oper} {V : Nat → World → Value → Prop} {a0 : Act} {w0 : World}
/-- Each of the first s has one behind it, up to number s, that waits for it; each behind number s waits for one from there on. -/
def uptoOk (ops : Array Oper) (s : Nat) : Bool :=
  decide (s < ops.size) && ((List.range s).all fun j => (List.range (s + 1)).any fun k => decide (j < k) && (ops[k]?.map fun x => waits x j).getD false) &&
    (List.range ops.size).all fun i => decide (i ≤ s) || (List.range i).any fun k => decide (s ≤ k) && (ops[i]?.map fun x => waits x k).getD false
def listedAt (n s : Nat) : Array Bool := (List.replicate s true ++ List.replicate (n - s) false).toArray
theorem upto_ready {s : Nat} (hs : uptoOk l.toArray s = true) {listed : Array Bool} {a : Act} {w : World} (h : Inv l.toArray V a0 w0 listed a w) (hlo : ∀ j, listed.getD j false = true → j < s) {i : Nat} (hi : i ∈ Region.ready .any l.toArray listed) :
    i < s ∨ ∀ j, j < s → listed.getD j false = true := by
  unfold uptoOk at hs
  simp only [Bool.and_eq_true, List.all_eq_true, List.mem_range, List.any_eq_true, decide_eq_true_eq, Bool.or_eq_true] at hs
  obtain ⟨⟨hss, hpre⟩, hpost⟩ := hs
  obtain ⟨_, o, ho, hdep⟩ := mem_ready.1 hi
  have hin := (Array.getElem?_eq_some_iff.1 ho).1
  rcases Nat.lt_or_ge i s with h1 | h1
  · exact .inl h1
  · right
    rcases hpost i hin with h2 | ⟨k, hk, hsk, hw⟩
    · obtain rfl : i = s := by omega
      have key : ∀ d j, j < i → i - j ≤ d → listed.getD j false = true := by
        intro d
        induction d with
        | zero => intro j hj hd; omega
        | succ d ih =>
          intro j hj hd
          obtain ⟨k, hk, hjk, hw⟩ := hpre j hj
          cases hx : l.toArray[k]? with
          | none => rw [hx] at hw; simp at hw
          | some x =>
            rw [hx] at hw
            simp only [Option.map_some, Option.getD_some] at hw
            obtain ⟨e, he, hb, heo⟩ := waits_edge hw
            by_cases hks : k = i
            · subst hks
              rw [ho] at hx; cases hx
              rw [← heo]; exact hdep e he hb
            · have := ih k (by omega) (by omega)
              rw [← heo]; exact h.closed k x hx this e he hb
      intro j hj
      exact key i j hj (by omega)
    · rw [ho] at hw
      simp only [Option.map_some, Option.getD_some] at hw
      obtain ⟨e, he, hb, heo⟩ := waits_edge hw
      have := hlo _ (hdep e he hb)
      omega
theorem listed_eq {s n : Nat} {listed : Array Bool} (hn : listed.size = n) (hsn : s ≤ n) (hall : ∀ j, j < s → listed.getD j false = true) (hlo : ∀ j, listed.getD j false = true → j < s) : listed = listedAt n s := by
  apply Array.ext
  · simp [listedAt]; omega
  · intro i h1 h2
    have hg : listed.getD i false = listed[i] := by simp [h1]
    rcases Nat.lt_or_ge i s with h | h
    · have := hall i h
      rw [hg] at this
      rw [this]
      simp [listedAt, h]
    · have : listed[i] = false := by
        cases hb : listed[i] with
        | false => rfl
        | true => have := hlo i (by rw [hg, hb]); omega
      rw [this]
      simp [listedAt, List.getElem_append, Nat.not_lt.2 h]
theorem wpAny_upto {Q : Exit → Act → World → Prop} {n s : Nat} (hok : regOk l.toArray n = true) (hn : a0.tmps.size = n) (hs : uptoOk l.toArray s = true) (hseq : Region.seqB .any l.toArray (l.length - s) s (listedAt l.length s) = true)
    (hV : ∀ i w w' v, Ext w w' → V i w v → V i w' v)
    (step : ∀ i o, (l.take s).toArray[i]? = some o → ∀ a w, Kn l.toArray V a0 w0 i a w → Step P l.toArray V Q i o a w)
    (last : ∀ a w, Fin_ (l.take s).toArray V a0 w0 a w → wpList P l.toArray Q (l.drop s) a w) :
    ∀ (fuel : Nat) (listed : Array Bool) (a : Act) (w : World), listed.toList.count false = fuel → (∀ j, listed.getD j false = true → j < s) → Inv l.toArray V a0 w0 listed a w → wpAny P .any l.toArray Q fuel listed a w := by
  have hsn : s < l.length := by
    unfold uptoOk at hs
    simp only [Bool.and_eq_true, decide_eq_true_eq, List.size_toArray] at hs
    exact hs.1.1
  have hlast : ∀ (listed : Array Bool) (a : Act) (w : World), (∀ j, listed.getD j false = true → j < s) → Inv l.toArray V a0 w0 listed a w → (∀ j, j < s → listed.getD j false = true) → wpAny P .any l.toArray Q (listed.toList.count false) listed a w := by
    intro listed a w hlo h hall
    have hsz : listed.size = l.length := by rw [h.lsize, List.size_toArray]
    have e := listed_eq hsz (by omega) hall hlo
    have hc : listed.toList.count false = (l.drop s).length := by
      rw [e]
      simp [listedAt, List.count_append, List.count_replicate]
    rw [hc]
    refine wpAny_of_seq (l.drop s) s listed a w (fun j => by simp) (by rw [List.length_drop, e]; exact hseq) (last a w ⟨h.ext, h.defers, h.size, fun t ht => h.old t fun j x hx hd => ?_, fun j x t hx hd => ?_⟩)
    · cases hl : listed.getD j false with
      | false => rfl
      | true =>
        have hj := hlo j hl
        exact absurd hd (ht j x (by
          have : l[j]? = some x := by simpa using hx
          simp [hj, this]))
    · have hx2 : (l.take s)[j]? = some x := by simpa using hx
      have hj : j < s := by
        rcases Nat.lt_or_ge j s with h1 | h1
        · exact h1
        · rw [List.getElem?_eq_none (by simp; omega)] at hx2; cases hx2
      rw [List.getElem?_take, if_pos hj] at hx2
      exact h.new j x t (by simpa using hx2) (hall j hj) hd
  intro fuel
  induction fuel with
  | zero =>
    intro listed a w hc hlo h
    by_cases hall : ∀ j, j < s → listed.getD j false = true
    · rw [← hc]; exact hlast listed a w hlo h hall
    · exfalso
      refine hall fun j hj => ?_
      have hjs : j < listed.size := by rw [h.lsize, List.size_toArray]; omega
      cases hl : listed.getD j false with
      | true => rfl
      | false =>
        have hm : false ∈ listed.toList := by
          have : listed[j] = false := by simpa [hjs] using hl
          rw [← this]; simp
        have := List.count_pos_iff.2 hm
        omega
  | succ fuel ih =>
    intro listed a w hc hlo h
    by_cases hall : ∀ j, j < s → listed.getD j false = true
    · rw [← hc]; exact hlast listed a w hlo h hall
    · refine ⟨fun hr => absurd (fun j hj => all_listed hok h.lsize hr j (by rw [List.size_toArray]; omega)) hall, fun i hi => ?_⟩
      have his : i < s := (upto_ready hs h hlo hi).resolve_right hall
      obtain ⟨hun, o, ho, _⟩ := mem_ready.1 hi
      have hcs := count_set listed i hun
      have ho2 : (l.take s).toArray[i]? = some o := by
        have : l[i]? = some o := by simpa using ho
        simp [his, this]
      have hst := step i o ho2 a w (h.kn hok hn hi)
      have hlo2 : ∀ j, (listed.setIfInBounds i true).getD j false = true → j < s := fun j hl => by
        by_cases hj : j = i
        · omega
        · rw [getD_set_ne false (Ne.symm hj)] at hl
          exact hlo j hl
      unfold wpOp
      simp only [ho]
      unfold Step at hst
      split
      · rename_i hw
        rw [if_pos hw] at hst
        refine .inl (Oper.wp_mono (fun a' w' hh => ?_) hst)
        obtain ⟨v, rfl, he, hv⟩ := hh
        exact ih _ _ _ (by omega) hlo2 (h.put hok hn hV hi ho he hv)
      · rename_i hw
        rw [if_neg hw] at hst
        exact ih _ _ _ (by omega) hlo2 (h.put hok hn hV hi ho (Ext.refl _) hst)
/-- A region that draws its order, but for its end: each operation by itself, then the end in its order. -/
theorem region_upto {Q : Exit → Act → World → Prop} {id n : Nat} (s : Nat) (hm : P.follows .mixedOrders = true) (hn : a0.tmps.size = n) (hok : regOk l.toArray n = true)
    (hs : uptoOk l.toArray s = true) (hseq : Region.seqB .any l.toArray (l.length - s) s (listedAt l.length s) = true)
    (V : Nat → World → Value → Prop) (hV : ∀ i w w' v, Ext w w' → V i w v → V i w' v)
    (step : ∀ i o, (l.take s).toArray[i]? = some o → ∀ a w, Kn l.toArray V a0 w0 i a w → Step P l.toArray V Q i o a w)
    (last : ∀ a w, Fin_ (l.take s).toArray V a0 w0 a w → wpList P l.toArray Q (l.drop s) a w) : (Code.region id l.toArray true).wp P Q a0 w0 := by
  refine wp_region_any hm (wpAny_upto (V := V) hok hn hs hseq hV step last l.toArray.size _ _ _ ?_ ?_ ?_)
  · simp
  · intro j hl
    rw [getD_replicate_false] at hl; cases hl
  · refine ⟨by simp, Ext.drew w0, rfl, rfl, ?_, fun _ _ => rfl, ?_⟩
    · intro j x _ hl
      rw [getD_replicate_false] at hl; cases hl
    · intro j x t _ hl
      rw [getD_replicate_false] at hl; cases hl
end
/-- A block of numbers. -/
def Blk (w : World) (g : Nat) (e : TypeId) (L : List Int) : Prop := w.heap[g]? = some (.cells (cN .i64 L).toArray e (0, 0))
section
variable {w w' : World} {g : Nat} {e : TypeId} {L : List Int}
theorem Blk.lt (h : Blk w g e L) : g < w.heap.size := (Array.getElem?_eq_some_iff.1 h).1
theorem Blk.later (h : Blk w g e L) (hx : Ext w w') : Blk w' g e L := (hx.block g h.lt).trans h
theorem Blk.cell (h : Blk w g e L) (k : Nat) (hk : k < L.length) : w.cell? ⟨g, k, none⟩ = some (.int .i64 (L.getD k 0)) := by
  rw [cell_of_row w g k _ _ _ h]
  simpa using cN_get .i64 L k hk
theorem Blk.frozen (h : Blk w g e L) (k : Nat) : w.frozen? ⟨g, k, none⟩ = false := frozen_of_row w g k _ e h
theorem Blk.set_ (h : Blk w g e L) (k : Nat) (x : Int) : Blk (w.setCell ⟨g, k, none⟩ (.int .i64 x)) g e (L.set k x) := by
  have := heap_setCell_same w g k _ e (.int .i64 x) h
  unfold Blk
  rw [this]
  simp [cN, List.map_set]
theorem Blk.setne (h : Blk w g e L) (p : Addr) (v : Value) (hne : g ≠ p.block) : Blk (w.setCell p v) g e L := (heap_setCell_other w p g v hne).trans h
theorem Blk.put (h : Blk w g e L) (M : List Int) : Blk (w.setRow g (cN .i64 M).toArray) g e M := setRow_heap w g _ _ e (0, 0) h
theorem Blk.putne (h : Blk w g e L) (k : Nat) (cs : Array Value) (hne : g ≠ k) : Blk (w.setRow k cs) g e L := (setRow_other w k g cs hne).trans h
theorem Blk.alloc (w : World) (e : TypeId) (L : List Int) : Blk (w.alloc (.cells (cN .i64 L).toArray e)) w.heap.size e L := heap_alloc_new w _
theorem cN_all (L : List Int) : (cN .i64 L).toArray.all (·.oneCell') = true := by
  rw [Array.all_eq_true_iff_forall_mem]
  intro v hv
  exact cN_one .i64 L v (by simpa using hv)
theorem cN_size (L : List Int) : (cN .i64 L).toArray.size = L.length := by simp [cN]
theorem Below.setRow_ {B g : Nat} {a w : World} (h : Below B a w) (hg : B ≤ g) (cs : Array Value) : Below B a (w.setRow g cs) :=
  ⟨h.os, h.tape, h.output, by rw [setRow_size]; exact h.size, fun i hi => (setRow_other w g i cs (by omega)).trans (h.block i hi)⟩
theorem blk_of_own {base n : Nat} (h : OwnN .i64 e w base (.slice (some ⟨g, 0, none⟩) n n) L) : Blk w g e L := by
  have hl := h.len_eq
  rcases h.2 with ⟨h1, _⟩ | ⟨g', cap, cur, h1, _, hh, hnc, _, hcs, htake⟩
  · cases h1
  · simp only [Value.slice.injEq, Option.some.injEq, Addr.mk.injEq, and_true] at h1
    obtain ⟨rfl, h2, rfl⟩ := h1
    unfold Blk
    rw [hh]
    have e1 : cur.toList.take (L.length * 1) = cur.toList := List.take_of_length_le (by simp; omega)
    have e2 : cur.toList = cN .i64 L := by rw [← e1]; exact htake
    congr 2
    apply Array.ext'
    rw [e2]
theorem Blk.rd (h : Blk w g e L) (o n : Nat) (hn : o + n ≤ L.length) : RdN .i64 w w.heap.size (some ⟨g, o, none⟩) n ((L.drop o).take n) := by
  refine ⟨by simp; omega, fun _ => ⟨g, o, rfl, h.lt, fun j hj => ?_⟩⟩
  rw [h.cell (o + j) (by omega)]
  congr 2
  simp [List.getD, hj]
/-- What a copy makes of a block. -/
def spl (L : List Int) (off : Nat) (ys : List Int) : List Int := L.take off ++ (ys ++ L.drop (off + ys.length))
theorem spl_length {L ys : List Int} {off : Nat} (h : off + ys.length ≤ L.length) : (spl L off ys).length = L.length := by
  simp [spl]; omega
theorem spl_get {L ys : List Int} {off : Nat} (h : off + ys.length ≤ L.length) (j : Nat) : (spl L off ys).getD j 0 = if j < off then L.getD j 0 else if j < off + ys.length then ys.getD (j - off) 0 else L.getD j 0 := by
  unfold spl
  simp only [List.getD]
  by_cases h1 : j < off
  · rw [if_pos h1, List.getElem?_append_left (by simp; omega)]
    simp [h1]
  · rw [if_neg h1, List.getElem?_append_right (by simp; omega)]
    rw [List.length_take, Nat.min_eq_left (by omega)]
    by_cases h2 : j < off + ys.length
    · rw [if_pos h2, List.getElem?_append_left (by omega)]
    · rw [if_neg h2, List.getElem?_append_right (by omega), List.getElem?_drop]
      congr 2
      omega
theorem int_ext {L M : List Int} {n : Nat} (h1 : L.length = n) (h2 : M.length = n) (h : ∀ j, j < n → L.getD j 0 = M.getD j 0) : L = M := by
  apply List.ext_getElem (by omega)
  intro i a b
  have := h i (by omega)
  simpa [List.getD, a, b] using this
theorem Blk.grown {k : Nat} (h : Blk w g e L) (hg : w.grownBy w' (some k)) (hne : g ≠ k) : Blk w' g e L := (hg.block g h.lt (by simp [hne])).trans h
theorem Ext.below {a b c : World} (h : Ext a b) (hg : b.grownBy c (some g)) (hk : a.heap.size ≤ g) : Ext a c := Below.grown h hg (Below.size h) (fun k e => by cases e; exact hk)
end
/-- A kind that a write into block g leaves as it is. -/
def K.okG (g : Nat) : K → Bool
  | .eq _ => true
  | .num g2 _ _ => g2 == g
  | .any => true
  | _ => false
theorem kV_grown {ks : List K} {g : Nat} (h : ks.all (K.okG g) = true) {w w' : World} (hg : w.grownBy w' (some g)) (i : Nat) (v : Value) (hv : kV ks i w v) : kV ks i w' v := by
  unfold kV at hv ⊢
  have hk : (ks.getD i .any).okG g = true := by
    rcases Nat.lt_or_ge i ks.length with hi | hi
    · rw [List.all_eq_true] at h
      refine h _ ?_
      simp [List.getD, List.getElem?_eq_getElem hi]
    · simp [List.getD, List.getElem?_eq_none hi, K.okG]
  generalize ks.getD i .any = k at hv hk
  cases k with
  | eq x => exact hv
  | num g2 n cs =>
    obtain ⟨b, rfl, hne, hc⟩ := hv
    have e : g2 = g := by simpa [K.okG] using hk
    subst e
    exact ⟨b, rfl, hne, (hg.block b (Array.getElem?_eq_some_iff.1 hc).1 (by simp [hne])).trans hc⟩
  | any => trivial
  | _ => simp [K.okG] at hk
theorem mixed : Tryd.prog.follows .mixedOrders = true := by kernel_rfl
end Go.Proofs.YtpfkcplldhdipaaDoor
