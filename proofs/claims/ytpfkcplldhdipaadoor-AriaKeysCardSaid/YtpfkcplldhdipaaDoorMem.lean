/- Words for byte slices in memory: what a slice that came in, or that the call made, holds; own lemmas of the verifier, no statement is proved here. -/
import Derived.WalkKit
import Derived.WalkSpells
import Derived.WalkLawsBesides
import Derived.Laws.CopyOwn
import Derived.ScopeJumps
namespace Go.Proofs.YtpfkcplldhdipaaDoor
open Go.RowKit

theorem hid {p : Prop} (h : p) : Hid p := h

/-- Byte number k of a list, as the model's number. -/
def byteAt (bs : List UInt8) (k : Nat) : Int := ((bs.getD k 0).toNat : Int)
theorem byteAt_lo (bs : List UInt8) (k : Nat) : 0 ≤ byteAt bs k := by unfold byteAt; omega
theorem byteAt_hi (bs : List UInt8) (k : Nat) : byteAt bs k ≤ 255 := by
  unfold byteAt; have := (bs.getD k 0).toNat_lt; omega

/-- The cells of a list of bytes. -/
def cellsOf (bs : List UInt8) : List Value := bs.map fun b => .int .u8 (b.toNat : Int)
theorem cellsOf_length (bs : List UInt8) : (cellsOf bs).length = bs.length := by simp [cellsOf]
theorem cellsOf_get (bs : List UInt8) (k : Nat) (h : k < bs.length) : (cellsOf bs)[k]? = some (.int .u8 (byteAt bs k)) := by
  simp [cellsOf, byteAt, h]
theorem cellsOf_one (bs : List UInt8) : ∀ u ∈ cellsOf bs, u.oneCell' = true := by
  intro u hu
  simp only [cellsOf, List.mem_map] at hu
  obtain ⟨b, _, rfl⟩ := hu
  rfl
theorem cellsOf_append (xs ys : List UInt8) : cellsOf (xs ++ ys) = cellsOf xs ++ cellsOf ys := by simp [cellsOf]

/-- The slice with head A and length n holds the bytes bs, and lies below block B. -/
structure Rd (w : World) (B : Nat) (A : Option Addr) (n : Nat) (bs : List UInt8) : Prop where
  len : bs.length = n
  at_ : 0 < n → ∃ b o, A = some ⟨b, o, none⟩ ∧ b < B ∧ ∀ k, k < n → w.cell? ⟨b, o + k, none⟩ = some (.int .u8 (byteAt bs k))

theorem Rd.nil (w : World) (B : Nat) (A : Option Addr) : Rd w B A 0 [] := ⟨rfl, fun h => absurd h (by omega)⟩
theorem Rd.keep {w w' : World} {B n : Nat} {A : Option Addr} {bs : List UInt8} (h : Rd w B A n bs) (hk : ∀ p : Addr, p.block < B → w'.cell? p = w.cell? p) : Rd w' B A n bs :=
  ⟨h.len, fun hn => by
    obtain ⟨b, o, e, hb, hc⟩ := h.at_ hn
    exact ⟨b, o, e, hb, fun k hkn => (hk _ hb).trans (hc k hkn)⟩⟩
theorem Rd.more {w : World} {B B' n : Nat} {A : Option Addr} {bs : List UInt8} (h : Rd w B A n bs) (hB : B ≤ B') : Rd w B' A n bs :=
  ⟨h.len, fun hn => by
    obtain ⟨b, o, e, hb, hc⟩ := h.at_ hn
    exact ⟨b, o, e, by omega, hc⟩⟩
theorem Rd.below {w w' : World} {B B' n : Nat} {A : Option Addr} {bs : List UInt8} (h : Rd w B A n bs) (hb : Below B' w w') (hB : B ≤ B') : Rd w' B A n bs :=
  h.keep fun p hp => hb.cell (p := p) (by omega)
theorem Rd.later {w w' : World} {n : Nat} {A : Option Addr} {bs : List UInt8} (h : Rd w w.heap.size A n bs) (hb : Below w.heap.size w w') : Rd w' w'.heap.size A n bs :=
  (h.below hb (Nat.le_refl _)).more hb.size

/-- A slice that the call made: blocks from 'base' on. -/
def Own (w : World) (base : Nat) (v : Value) (bs : List UInt8) : Prop :=
  w.ownsRow base 5 1 v bs.length (cellsOf bs)

theorem add_at (g k : Nat) : (⟨g, 0, none⟩ : Addr).add k = ⟨g, k, none⟩ := by
  unfold Addr.add; split <;> simp_all

theorem add_off (g o k : Nat) : (⟨g, o, none⟩ : Addr).add k = ⟨g, o + k, none⟩ := by
  unfold Addr.add; split <;> simp_all

theorem Own.rd {w : World} {base : Nat} {v : Value} {bs : List UInt8} (h : Own w base v bs) : ∃ A c, v = .slice A bs.length c ∧ Rd w w.heap.size A bs.length bs ∧ (A = none → bs = []) ∧ (∀ a, A = some a → base ≤ a.block) := by
  rcases h.2 with ⟨rfl, hn⟩ | ⟨g, cap, cur, rfl, hb, hh, hnc, hcm, hcs, htake⟩
  · have : bs = [] := List.eq_nil_of_length_eq_zero hn
    subst this
    exact ⟨none, 0, rfl, Rd.nil _ _ _, fun _ => rfl, fun a h => by cases h⟩
  · refine ⟨_, cap, rfl, ⟨rfl, fun _ => ⟨g, 0, rfl, (Array.getElem?_eq_some_iff.1 hh).1, fun k hk => ?_⟩⟩, (fun h => by cases h), (fun a h => by cases h; exact hb)⟩
    have := h.cells (g := g) rfl k _ (cellsOf_get bs k hk)
    rw [add_at] at this
    simpa using this

theorem Own.kept {w w' : World} {base : Nat} {v : Value} {bs : List UInt8} (h : Own w base v bs) (hb : Below w.heap.size w w') : Own w' base v bs := by
  refine ⟨h.1, ?_⟩
  rcases h.2 with hn | ⟨g, cap, cur, rfl, hbg, hh, r⟩
  · exact .inl hn
  · exact .inr ⟨g, cap, cur, rfl, hbg, by rw [hb.block g (Array.getElem?_eq_some_iff.1 hh).1]; exact hh, r⟩

theorem wf_u8 (x : UInt8) : (x.toNat : Int) = byteAt [x] 0 := rfl

/-- A store into a slice that the call made. -/
theorem Own.set_ {w : World} {base g c : Nat} {bs : List UInt8} (h : Own w base (.slice (some ⟨g, 0, none⟩) bs.length c) bs) (j : Nat) (x : UInt8) :
    Own (w.setCell ⟨g, j, none⟩ (.int .u8 (x.toNat : Int))) base (.slice (some ⟨g, 0, none⟩) bs.length c) (bs.set j x) := by
  have := (h.stored j (.int .u8 (x.toNat : Int))).1
  unfold Own
  simpa [cellsOf, List.map_set] using this
theorem Own.cell {w : World} {base g c : Nat} {bs : List UInt8} (h : Own w base (.slice (some ⟨g, 0, none⟩) bs.length c) bs) (j : Nat) (hj : j < bs.length) :
    w.cell? ⟨g, j, none⟩ = some (.int .u8 (byteAt bs j)) := by
  rw [h.cellAt j (by omega), cellsOf_get bs j hj]
theorem Own.free {w : World} {base g c : Nat} {bs : List UInt8} (h : Own w base (.slice (some ⟨g, 0, none⟩) bs.length c) bs) (j : Nat) :
    w.frozen? ⟨g, j, none⟩ = false := h.frozenAt j
theorem Own.base_le {w : World} {base g n c : Nat} {bs : List UInt8} (h : Own w base (.slice (some ⟨g, 0, none⟩) n c) bs) : base ≤ g ∧ g < w.heap.size := by
  have := World.ownsRow.lt h g rfl
  exact this

/-- Cells of noughts. -/
theorem cells_zero (n : Nat) : (madeCells #[Value.int .u8 0] n).toList = cellsOf (List.replicate n 0) := by
  rw [toList_madeCells_one]; simp [cellsOf]

/-- A goto to one label, the pass from the label proved once. -/
theorem wp_scope_jumps2 {P : Program} {a : Act} {w : World} {Q : Exit → Act → World → Prop} {c X : Code} (l : Nat) (J : Act → World → Prop) (μ : Act → World → Nat) (hf : findLabel c l = some (Code.skip.seq X))
    (pass : ∀ a w, J a w → X.wp P (Exit.jump l (fun a' w' => J a' w' ∧ μ a' w' < μ a w) Q) a w)
    (first : Hid (∀ a w, J a w → X.wp P (Exit.jump l J Q) a w) → c.wp P (Exit.jump l J Q) a w) : (Code.scope c).wp P Q a w :=
  wp_scope_jumps l J μ hf (first fun a w h => Code.wp_mono (fun e a' w' hq => by cases e <;> first | exact hq | exact ⟨hq.1, hq.2.1⟩) (pass a w h)) fun a w h => wp_seq (wp_skip (pass a w h))

/-- make([]byte, n): n noughts of the call's own. -/
theorem wpL_make {P : Program} {w : World} {ops : Array Oper} {rest : List Oper} {o : Oper} {a : Act} {Q : Exit → Act → World → Prop}
    (hg : o.guard = none) (l c : Operand) (t : TypeId) (hop : o.op = Op.makeSlice t l c)
    (h1 : P.underlying t = some (.slice 5)) (hin : (P.info? 5).map (fun i => (i.zero, i.size, i.bytes)) = some (some (.int .u8 0), 1, 1))
    (kl : IntKind) (L : Int) (n : Nat) (hl : a.eval l = .int kl L) (hc : a.eval c = .int kl L) (hL : L = (n : Int)) (b3 : n ≤ 140737488355328)
    (base : Nat) (hbase : base ≤ w.heap.size)
    (hK : ∀ w', Own w' base (.slice (some ⟨w.heap.size, 0, none⟩) n n) (List.replicate n 0) → Below w.heap.size w w' → w'.heap.size = w.heap.size + 1 ∨ True → wpList P ops Q rest (a.put o.dst (.slice (some ⟨w.heap.size, 0, none⟩) n n)) w') :
    wpList P ops Q (o :: rest) a w := by
  obtain ⟨i0, hi0, hz0, hz1, hz2⟩ := info_parts hin
  refine wpList_make_full w hg l c t hop base 5 i0 (.int .u8 0) 1 h1 hi0 hz0 hz1 kl kl L L n hl hc hL hL (by rw [hz2]; omega) (by unfold maxLen; omega) hbase ?_
  intro w' hown hgr
  refine hK w' ?_ ((Below.refl _ _).grown hgr (Nat.le_refl _) (by simp)) (.inr trivial)
  have e : (madeCells (Value.cells (.int .u8 0)) (n * 1)).toList = cellsOf (List.replicate n 0) := by
    rw [Nat.mul_one]; exact cells_zero n
  rw [e] at hown
  simpa [Own] using hown

/-- copy(x, b), x of the call's own and as long as b. -/
theorem wpL_copy {P : Program} {w : World} {ops : Array Oper} {rest : List Oper} {o : Oper} {a : Act} {Q : Exit → Act → World → Prop} (hgd : o.guard = none) (d s : Operand) (t : TypeId)
    (ho : o.op = .call { callee := .builtin .copy, args := #[d, s], argTypes := #[t, t] }) (hu : P.underlying t = some (.slice 5))
    (hin : (P.info? 5).map (fun i => (i.zero, i.size, i.bytes)) = some (some (.int .u8 0), 1, 1))
    (g n c : Nat) (A : Option Addr) (hd : a.eval d = .slice (some ⟨g, 0, none⟩) n n) (hs : a.eval s = .slice A n c)
    (base : Nat) (zs bs : List UInt8) (hown : Own w base (.slice (some ⟨g, 0, none⟩) n n) zs) (_hz : zs.length = n) (B : Nat) (hrd : Rd w B A n bs)
    (B0 : Nat) (w0 : World) (hb : Below B0 w0 w) (hB0 : B0 ≤ g)
    (h : ∀ w', Own w' base (.slice (some ⟨g, 0, none⟩) n n) bs → Below B0 w0 w' → wpList P ops Q rest (a.put o.dst (goInt n)) w') :
    wpList P ops Q (o :: rest) a w := by
  obtain ⟨i0, hi0, hz0, hz1, hz2⟩ := info_parts hin
  have hbl := hrd.len
  rcases hown.2 with ⟨h', _⟩ | ⟨g', cap, cur, h', hbg, hh, hnc, hcm, hcs, htake⟩
  · cases h'
  · simp only [Value.slice.injEq, Option.some.injEq, Addr.mk.injEq, and_true] at h'
    obtain ⟨rfl, h2, rfl⟩ := h'
    have hcl : (cellsOf bs).length = n := by rw [cellsOf_length]; exact hbl
    have hcurl : cur.toList.length = n := by simpa using hcs
    refine wpList_copy_splice hgd d s t t ho 5 hu (by rw [hi0]; exact congrArg some hz1) (some ⟨g, 0, none⟩) A n n n c hd hs g 0 cur.toList 5 (by simpa using hh) (cellsOf bs) (by rw [hcl]; exact (Nat.min_self n).symm) ?_ (by omega) (cellsOf_one bs) B0 w0 hb hB0 ?_
    · intro hpos
      obtain ⟨b, off, rfl, _, hc⟩ := hrd.at_ (by omega)
      refine ⟨rfl, _, rfl, fun j v hv => ?_⟩
      have hj : j < n := by
        rcases Nat.lt_or_ge j n with hj | hj
        · exact hj
        · rw [List.getElem?_eq_none (by omega)] at hv; cases hv
      rw [cellsOf_get bs j (by omega)] at hv
      cases hv
      rw [add_off]; exact hc j hj
    · intro w' hw' hb'
      rw [hcl]
      refine h w' ?_ hb'
      have hw := hw'.out
      have e : splice cur.toList 0 (cellsOf bs) = cellsOf bs := by
        simp only [splice, List.take_zero, List.nil_append, Nat.zero_add]
        rw [List.drop_eq_nil_of_le (by omega)]; simp
      rw [e] at hw
      refine ⟨by rw [cellsOf_length]; omega, .inr ⟨g, n, _, by rw [hbl], hbg, hw, by omega, hcm, by rw [List.size_toArray, hcl, Nat.mul_one], ?_⟩⟩
      simp only [Nat.mul_one]
      rw [List.take_of_length_le (by simp [cellsOf_length])]

def incR : List UInt8 → List UInt8
  | [] => []
  | b :: r => if b + 1 = 0 then 0 :: incR r else (b + 1) :: r
def incB (bs : List UInt8) : List UInt8 := (incR bs.reverse).reverse
theorem incB_nil : incB [] = [] := rfl
theorem incB_snoc (l : List UInt8) (x : UInt8) : incB (l ++ [x]) = if x + 1 = 0 then incB l ++ [0] else l ++ [x + 1] := by
  simp only [incB, List.reverse_append, List.reverse_cons, List.reverse_nil, List.nil_append, List.singleton_append, incR]
  split <;> simp
theorem incR_length : ∀ l, (incR l).length = l.length
  | [] => rfl
  | b :: r => by simp only [incR]; split <;> simp [incR_length r]
theorem incB_length (l : List UInt8) : (incB l).length = l.length := by simp [incB, incR_length]
theorem take_get (bs : List UInt8) (j : Nat) (h : j < bs.length) : bs.take (j + 1) = bs.take j ++ [bs.getD j 0] := by
  rw [List.take_succ_eq_append_getElem h]; simp [h]
theorem inc_over (bs : List UInt8) (n j : Nat) (hn : bs.length = n) (hj : j < n) (hI : incB bs = incB (bs.take (j + 1)) ++ List.replicate (n - (j + 1)) 0)
    (hx : bs.getD j 0 + 1 = 0) : incB bs = incB (bs.take j) ++ List.replicate (n - j) 0 ∧
      (bs.take (j + 1) ++ List.replicate (n - (j + 1)) (0 : UInt8)).set j 0 = bs.take j ++ List.replicate (n - j) 0 := by
  have e : n - j = (n - (j + 1)) + 1 := by omega
  rw [take_get bs j (by omega)] at hI ⊢
  rw [incB_snoc, if_pos hx] at hI
  rw [e, List.replicate_succ]
  refine ⟨by simpa using hI, ?_⟩
  rw [List.append_assoc, List.set_append_right _ _ (by simp; omega)]
  have : j - (bs.take j).length = 0 := by simp; omega
  rw [this]; rfl
theorem inc_stop (bs : List UInt8) (n j : Nat) (hn : bs.length = n) (hj : j < n) (hI : incB bs = incB (bs.take (j + 1)) ++ List.replicate (n - (j + 1)) 0)
    (hx : ¬ bs.getD j 0 + 1 = 0) :
      (bs.take (j + 1) ++ List.replicate (n - (j + 1)) (0 : UInt8)).set j (bs.getD j 0 + 1) = incB bs := by
  rw [take_get bs j (by omega)] at hI ⊢
  rw [incB_snoc, if_neg hx] at hI
  rw [hI, List.append_assoc, List.set_append_right _ _ (by simp; omega)]
  have : j - (bs.take j).length = 0 := by simp; omega
  rw [this]; simp
theorem inc_get (bs : List UInt8) (n j : Nat) (hn : bs.length = n) (hj : j < n) : (bs.take (j + 1) ++ List.replicate (n - (j + 1)) (0 : UInt8)).getD j 0 = bs.getD j 0 := by
  simp [List.getD, List.getElem?_append, hn]
  rw [if_pos (by omega)]
def fillTo (f : Nat → UInt8) (n k : Nat) : List UInt8 := (List.range n).map fun i => if i < k then f i else 0
theorem fillTo_length (f : Nat → UInt8) (n k : Nat) : (fillTo f n k).length = n := by simp [fillTo]
theorem fillTo_zero (f : Nat → UInt8) (n : Nat) : fillTo f n 0 = List.replicate n 0 := by
  apply List.ext_getElem <;> simp [fillTo]
theorem fillTo_full (f : Nat → UInt8) (n : Nat) : fillTo f n n = (List.range n).map f := by
  apply List.ext_getElem
  · simp [fillTo]
  · intro i h1 h2
    have : i < n := by simpa [fillTo] using h1
    simp [fillTo, this]
theorem fillTo_set (f : Nat → UInt8) (n k : Nat) (y : UInt8) (hy : y = f k) : (fillTo f n k).set k y = fillTo f n (k + 1) := by
  subst hy
  apply List.ext_getElem
  · simp [fillTo]
  · intro i h1 h2
    simp only [fillTo, List.getElem_set, List.getElem_map, List.getElem_range]
    by_cases h : k = i
    · subst h; simp
    · rw [if_neg h]
      by_cases h' : i < k
      · rw [if_pos h', if_pos (by omega)]
      · rw [if_neg h', if_neg (by omega)]
def u8 (x : Int) : UInt8 := UInt8.ofNat (x % 256).toNat
theorem u8_toNat (x : Int) : ((u8 x).toNat : Int) = x % 256 := by
  unfold u8; rw [UInt8.toNat_ofNat']; omega

/-- A slice literal of bytes. -/
theorem Own.lit (w : World) (bs : List UInt8) (cs : Array Value) (n base : Nat) (hcs : cs.toList = cellsOf bs) (hn : bs.length = n) (hm : n ≤ maxLen) (hb : base ≤ w.heap.size) :
    Own (w.alloc (.cells cs 5)) base (.slice (some ⟨w.heap.size, 0, none⟩) n n) bs := by
  subst hn
  have hsz : cs.size = bs.length * 1 := by rw [← Array.length_toList, hcs, cellsOf_length, Nat.mul_one]
  have := World.ownsRow_lit (e := 5) (size := 1) w cs bs.length hb hm hsz
  rw [hcs] at this
  exact this

/-- append(x, b...), x of the call's own. -/
theorem wpL_append {P : Program} (w : World) {ops : Array Oper} {rest : List Oper} {o : Oper} {a : Act} {Q : Exit → Act → World → Prop} (hgd : o.guard = none) (s x : Operand) (t : TypeId)
    (ho : o.op = .call { callee := .builtin .append, args := #[s, x], argTypes := #[t, t] }) (hu : P.underlying t = some (.slice 5))
    (hin : (P.info? 5).map (fun i => (i.zero, i.size, i.bytes)) = some (some (.int .u8 0), 1, 1))
    (base : Nat) (v : Value) (xs : List UInt8) (hs : a.eval s = v) (hown : Own w base v xs)
    (B : Nat) (A : Option Addr) (n c : Nat) (ys : List UInt8) (hx : a.eval x = .slice A n c) (hrd : Rd w B A n ys)
    (hlen : xs.length + n ≤ 140737488355328) (hbase : base ≤ w.heap.size)
    (h : ∀ v' w', Own w' base v' (xs ++ ys) → Below base w w' → wpList P ops Q rest (a.put o.dst v') w') : wpList P ops Q (o :: rest) a w := by
  obtain ⟨i0, hi0, hz0, hz1, hz2⟩ := info_parts hin
  have hyl := hrd.len
  have hbel : ∀ w', w.grownBy w' v.ownBlock → Below base w w' := fun w' hg => (Below.refl _ _).grown hg hbase fun k hk => (World.ownsRow.lt hown k hk).1
  have fin : ∀ v' w', w'.ownsRow base 5 1 v' (xs.length + n) (cellsOf xs ++ cellsOf ys) → Own w' base v' (xs ++ ys) := by
    intro v' w' h2
    unfold Own
    rw [List.length_append, cellsOf_append, hyl]
    exact h2
  cases A with
  | some ad =>
    refine wpList_append_own w hgd s x t ho base 5 i0 (.int .u8 0) 1 1 hu hi0 hz0 hz1 hz2 rfl (by omega) v xs.length (cellsOf xs) hs hown ad n c (cellsOf ys) hx (by rw [cellsOf_length]; omega) ?_ (cellsOf_one ys) (by unfold maxLen; omega) (by omega) hbase ?_
    · intro j u hu
      rcases Nat.lt_or_ge j n with hj | hj
      · obtain ⟨b, off, e, _, hc⟩ := hrd.at_ (by omega)
        cases e
        rw [cellsOf_get ys j (by omega)] at hu
        cases hu
        rw [add_off]; exact hc j hj
      · rw [List.getElem?_eq_none (by rw [cellsOf_length]; omega)] at hu; cases hu
    · intro v' w' h2 h3 _
      exact h v' w' (fin _ _ h2) (hbel _ h3)
  | none =>
    have hn : n = 0 := by
      rcases Nat.eq_zero_or_pos n with h0 | h0
      · exact h0
      · obtain ⟨b, off, e, _⟩ := hrd.at_ h0; cases e
    subst hn
    have hys : ys = [] := List.eq_nil_of_length_eq_zero hyl
    subst hys
    refine wpList_plain hgd fun K hK' => ?_
    have hrun : (Builtin.append_ #[t, t] o.type #[v, .slice none 0 c]).run P w = .ok v w := by
      rcases hown.2 with ⟨rfl, _⟩ | ⟨g, cap, cur, rfl, _, _, hnc, _⟩
      · simp [Builtin.append_, run_underlying hu, sizeOf, typeInfo, hi0, Builtin.lenOf, Builtin.firstCells]
      · simp [Builtin.append_, run_underlying hu, sizeOf, typeInfo, hi0, Builtin.lenOf, Builtin.firstCells, hnc, storeCells]
    unfold Oper.wp execOp
    simp only [ho, resolve, invoke, builtin, Sem.run_bind, Sem.run_pure, Result.andThen_ok, List.map_toArray, List.map_cons, List.map_nil, hs, hx, hrun]
    exact hK' _ _ (h v w (by simpa using hown) (Below.refl _ _))

/-- The bytes as a string. -/
def str (bs : List UInt8) : ByteArray := ⟨bs.toArray⟩
theorem run_str {P : Program} (w : World) (src dst : TypeId) (hs : P.underlying src = some (.slice 5)) (he : P.underlying 5 = some (.int .u8)) (hd : P.underlying dst = some .string)
    (B : Nat) (A : Option Addr) (n c : Nat) (bs : List UInt8) (h : Rd w B A n bs) :
    (convert src dst (.slice A n c)).run P w = .ok (.string (str bs)) w := by
  have hl := h.len
  cases A with
  | none =>
    have hn : n = 0 := by
      rcases Nat.eq_zero_or_pos n with h0 | h0
      · exact h0
      · obtain ⟨b, off, e, _⟩ := h.at_ h0; cases e
    have hys : bs = [] := List.eq_nil_of_length_eq_zero (by omega)
    subst hys
    rw [run_convert_bytes_nil w src 5 hs he n c dst hd]
    rfl
  | some ad =>
    rcases Nat.eq_zero_or_pos n with h0 | h0
    · have hys : bs = [] := List.eq_nil_of_length_eq_zero (by omega)
      subst h0 hys
      rw [run_convert_bytes_string w src dst 5 _ 0 c hs he hd, run_bytesToString w ad 0 c [] (by simp [loadCells, loadCellsFrom, Sem.run_pure])]
      rfl
    · obtain ⟨b, off, e, _, hc⟩ := h.at_ h0
      cases e
      have e2 : ∀ i, (bs.map fun b => (b.toNat : Int)).getD i 0 = byteAt bs i := by
        intro i
        simp only [byteAt, List.getD, List.getElem?_map]
        cases bs[i]? <;> simp
      rw [run_convert_bytes_arg w src 5 hs he b off n c (bs.map fun b => (b.toNat : Int)) (by simpa using hl) (fun i hi => by rw [e2]; exact hc i hi) dst hd]
      have e3 : strOfNums (bs.map fun b => (b.toNat : Int)) = str bs := by
        unfold strOfNums str
        congr 2
        simp [Function.comp_def]
      rw [e3]

theorem Own.rdn {w : World} {base n : Nat} {v : Value} {bs : List UInt8} (h : Own w base v bs) (hn : bs.length = n) : ∃ A c, v = .slice A n c ∧ Rd w w.heap.size A n bs ∧ Own w base (.slice A n c) bs := by
  subst hn
  obtain ⟨A, c, rfl, hr, _⟩ := h.rd
  exact ⟨A, c, rfl, hr, h⟩

/-- A slice of its own is handed back, and nothing that was there has turned. -/
def RetB (w : World) (bs : List UInt8) (e : Ending) (w' : World) : Prop := ∃ v, e = .returned v ∧ Own w' w.heap.size v bs ∧ Below w.heap.size w w'

end Go.Proofs.YtpfkcplldhdipaaDoor
