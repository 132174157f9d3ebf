/- Words for slices of numbers of any kind in memory: what a slice that came in, or that the call made, holds; own lemmas of the verifier, no statement is proved here. -/
import Derived.Test.YtpfkcplldhdipaaDoorReg
import Derived.Test.YtpfkcplldhdipaaDoorRow
namespace Go.Proofs.YtpfkcplldhdipaaDoor
open Go.RowKit
/-- The cells of a list of numbers of a kind. -/
def cN (k : IntKind) (xs : List Int) : List Value := xs.map fun x => .int k x
theorem cN_length (k : IntKind) (xs : List Int) : (cN k xs).length = xs.length := by simp [cN]
theorem cN_get (k : IntKind) (xs : List Int) (j : Nat) (h : j < xs.length) : (cN k xs)[j]? = some (.int k (xs.getD j 0)) := by
  simp [cN, h]
theorem cN_one (k : IntKind) (xs : List Int) : ∀ u ∈ cN k xs, u.oneCell' = true := by
  intro u hu
  simp only [cN, List.mem_map] at hu
  obtain ⟨b, _, rfl⟩ := hu
  rfl
theorem cN_append (k : IntKind) (xs ys : List Int) : cN k (xs ++ ys) = cN k xs ++ cN k ys := by simp [cN]
theorem cN_set (k : IntKind) (xs : List Int) (j : Nat) (x : Int) : (cN k xs).set j (.int k x) = cN k (xs.set j x) := by simp [cN, List.map_set]

/-- The slice with head A and length n holds the numbers xs, and lies below block B. -/
structure RdN (k : IntKind) (w : World) (B : Nat) (A : Option Addr) (n : Nat) (xs : List Int) : Prop where
  len : xs.length = n
  at_ : 0 < n → ∃ b o, A = some ⟨b, o, none⟩ ∧ b < B ∧ ∀ j, j < n → w.cell? ⟨b, o + j, none⟩ = some (.int k (xs.getD j 0))

section
variable {kd : IntKind}
theorem RdN.nil (w : World) (B : Nat) (A : Option Addr) : RdN kd w B A 0 [] := ⟨rfl, fun h => absurd h (by omega)⟩
theorem RdN.keep {w w' : World} {B n : Nat} {A : Option Addr} {xs : List Int} (h : RdN kd w B A n xs) (hk : ∀ p : Addr, p.block < B → w'.cell? p = w.cell? p) : RdN kd w' B A n xs :=
  ⟨h.len, fun hn => by
    obtain ⟨b, o, e, hb, hc⟩ := h.at_ hn
    exact ⟨b, o, e, hb, fun k hkn => (hk _ hb).trans (hc k hkn)⟩⟩
theorem RdN.more {w : World} {B B' n : Nat} {A : Option Addr} {xs : List Int} (h : RdN kd w B A n xs) (hB : B ≤ B') : RdN kd w B' A n xs :=
  ⟨h.len, fun hn => by
    obtain ⟨b, o, e, hb, hc⟩ := h.at_ hn
    exact ⟨b, o, e, by omega, hc⟩⟩
theorem RdN.below {w w' : World} {B B' n : Nat} {A : Option Addr} {xs : List Int} (h : RdN kd w B A n xs) (hb : Below B' w w') (hB : B ≤ B') : RdN kd w' B A n xs :=
  h.keep fun p hp => hb.cell (p := p) (by omega)
theorem RdN.later {w w' : World} {n : Nat} {A : Option Addr} {xs : List Int} (h : RdN kd w w.heap.size A n xs) (hb : Below w.heap.size w w') : RdN kd w' w'.heap.size A n xs :=
  (h.below hb (Nat.le_refl _)).more hb.size
theorem RdN.drew {w : World} {B n : Nat} {A : Option Addr} {xs : List Int} (h : RdN kd w B A n xs) : RdN kd w.drew B A n xs := ⟨h.len, h.at_⟩

/-- A slice of numbers that the call made: blocks from 'base' on. -/
def OwnN (kd : IntKind) (e : TypeId) (w : World) (base : Nat) (v : Value) (xs : List Int) : Prop :=
  w.ownsRow base e 1 v xs.length (cN kd xs)
variable {e : TypeId}
theorem OwnN.rd {w : World} {base : Nat} {v : Value} {xs : List Int} (h : OwnN kd e w base v xs) : ∃ A c, v = .slice A xs.length c ∧ RdN kd w w.heap.size A xs.length xs ∧ (A = none → xs = []) ∧ (∀ a, A = some a → base ≤ a.block) := by
  rcases h.2 with ⟨rfl, hn⟩ | ⟨g, cap, cur, rfl, hb, hh, hnc, hcm, hcs, htake⟩
  · have : xs = [] := List.eq_nil_of_length_eq_zero hn
    subst this
    exact ⟨none, 0, rfl, RdN.nil _ _ _, fun _ => rfl, fun a h => by cases h⟩
  · refine ⟨_, cap, rfl, ⟨rfl, fun _ => ⟨g, 0, rfl, (Array.getElem?_eq_some_iff.1 hh).1, fun k hk => ?_⟩⟩, (fun h => by cases h), (fun a h => by cases h; exact hb)⟩
    have := h.cells (g := g) rfl k _ (cN_get kd xs k hk)
    rw [add_at] at this
    simpa using this
theorem OwnN.kept {w w' : World} {base : Nat} {v : Value} {xs : List Int} (h : OwnN kd e w base v xs) (hb : Below w.heap.size w w') : OwnN kd e w' base v xs := by
  refine ⟨h.1, ?_⟩
  rcases h.2 with hn | ⟨g, cap, cur, rfl, hbg, hh, r⟩
  · exact .inl hn
  · exact .inr ⟨g, cap, cur, rfl, hbg, by rw [hb.block g (Array.getElem?_eq_some_iff.1 hh).1]; exact hh, r⟩
/-- A store into a slice that the call made. -/
theorem OwnN.set_ {w : World} {base g c : Nat} {xs : List Int} (h : OwnN kd e w base (.slice (some ⟨g, 0, none⟩) xs.length c) xs) (j : Nat) (x : Int) :
    OwnN kd e (w.setCell ⟨g, j, none⟩ (.int kd x)) base (.slice (some ⟨g, 0, none⟩) xs.length c) (xs.set j x) := by
  have := (h.stored j (.int kd x)).1
  unfold OwnN
  rw [cN_set] at this
  simpa using this
theorem OwnN.setn {w : World} {base g n c : Nat} {xs : List Int} (h : OwnN kd e w base (.slice (some ⟨g, 0, none⟩) n c) xs) (hn : xs.length = n) (j : Nat) (x : Int) :
    OwnN kd e (w.setCell ⟨g, j, none⟩ (.int kd x)) base (.slice (some ⟨g, 0, none⟩) n c) (xs.set j x) := by
  subst hn; exact h.set_ j x
theorem OwnN.cell {w : World} {base g c : Nat} {xs : List Int} (h : OwnN kd e w base (.slice (some ⟨g, 0, none⟩) xs.length c) xs) (j : Nat) (hj : j < xs.length) :
    w.cell? ⟨g, j, none⟩ = some (.int kd (xs.getD j 0)) := by
  rw [h.cellAt j (by omega), cN_get kd xs j hj]
theorem OwnN.celln {w : World} {base g n c : Nat} {xs : List Int} (h : OwnN kd e w base (.slice (some ⟨g, 0, none⟩) n c) xs) (hn : xs.length = n) (j : Nat) (hj : j < n) :
    w.cell? ⟨g, j, none⟩ = some (.int kd (xs.getD j 0)) := by
  subst hn; exact h.cell j hj
theorem OwnN.len_eq {w : World} {base n c : Nat} {A : Option Addr} {xs : List Int} (h : OwnN kd e w base (.slice A n c) xs) : xs.length = n := by
  rcases h.2 with ⟨h1, h2⟩ | ⟨g, cap, cur, h1, _⟩
  · cases h1; exact h2
  · cases h1; rfl
theorem OwnN.free {w : World} {base g n c : Nat} {xs : List Int} (h : OwnN kd e w base (.slice (some ⟨g, 0, none⟩) n c) xs) (j : Nat) :
    w.frozen? ⟨g, j, none⟩ = false := by
  have hl := h.len_eq
  subst hl
  exact World.ownsRow.frozenAt h j
theorem OwnN.base_le {w : World} {base g n c : Nat} {xs : List Int} (h : OwnN kd e w base (.slice (some ⟨g, 0, none⟩) n c) xs) : base ≤ g ∧ g < w.heap.size := by
  have := World.ownsRow.lt h g rfl
  exact this
theorem OwnN.drew {w : World} {base : Nat} {v : Value} {xs : List Int} (h : OwnN kd e w base v xs) : OwnN kd e w.drew base v xs := h
theorem OwnN.rdn {w : World} {base n : Nat} {v : Value} {xs : List Int} (h : OwnN kd e w base v xs) (hn : xs.length = n) : ∃ A c, v = .slice A n c ∧ RdN kd w w.heap.size A n xs ∧ OwnN kd e w base (.slice A n c) xs := by
  subst hn
  obtain ⟨A, c, rfl, hr, _⟩ := h.rd
  exact ⟨A, c, rfl, hr, h⟩
theorem OwnN.rdc {w : World} {base n : Nat} {v : Value} {xs : List Int} (h : OwnN kd e w base v xs) (hn : xs.length = n) : ∃ A c, v = .slice A n c ∧ n ≤ c ∧ RdN kd w w.heap.size A n xs ∧ OwnN kd e w base (.slice A n c) xs := by
  subst hn
  obtain ⟨A, c, rfl, hr, _⟩ := h.rd
  refine ⟨A, c, rfl, ?_, hr, h⟩
  rcases h.2 with ⟨h1, h2⟩ | ⟨g, cap, cur, h1, _, _, hnc, _⟩
  · omega
  · simp only [Value.slice.injEq] at h1
    omega
/-- A slice of its own that is not empty has its head at a block's start. -/
theorem OwnN.head {w : World} {base n : Nat} {v : Value} {xs : List Int} (h : OwnN kd e w base v xs) (hn : xs.length = n) (hp : 0 < n) : ∃ g c, v = .slice (some ⟨g, 0, none⟩) n c ∧ n ≤ c ∧ base ≤ g ∧ g < w.heap.size := by
  subst hn
  have hl := World.ownsRow.lt h
  rcases h.2 with ⟨_, h2⟩ | ⟨g, cap, cur, rfl, hb, hh, hnc, _⟩
  · omega
  · exact ⟨g, cap, rfl, hnc, hb, (hl g rfl).2⟩

/-- Cells of noughts. -/
theorem cN_zero (n : Nat) : (madeCells #[Value.int kd 0] n).toList = cN kd (List.replicate n 0) := by
  rw [toList_madeCells_one]; simp [cN]

/-- make([]T, n): n noughts of the call's own. -/
theorem wpL_makeN {P : Program} {w : World} {ops : Array Oper} {rest : List Oper} {o : Oper} {a : Act} {Q : Exit → Act → World → Prop}
    (hg : o.guard = none) (l c : Operand) (t : TypeId) (hop : o.op = Op.makeSlice t l c)
    (h1 : P.underlying t = some (.slice e)) (by_ : Nat) (hin : (P.info? e).map (fun i => (i.zero, i.size, i.bytes)) = some (some (.int kd 0), 1, by_))
    (kl : IntKind) (L : Int) (n : Nat) (hl : a.eval l = .int kl L) (hc : a.eval c = .int kl L) (hL : L = (n : Int)) (b3 : by_ * n ≤ 281474976710656) (b4 : n ≤ maxLen)
    (base : Nat) (hbase : base ≤ w.heap.size)
    (hK : ∀ w', OwnN kd e w' base (.slice (some ⟨w.heap.size, 0, none⟩) n n) (List.replicate n 0) → Below w.heap.size w w' → wpList P ops Q rest (a.put o.dst (.slice (some ⟨w.heap.size, 0, none⟩) n n)) w') :
    wpList P ops Q (o :: rest) a w := by
  obtain ⟨i0, hi0, hz0, hz1, hz2⟩ := info_parts hin
  refine wpList_make_full w hg l c t hop base e i0 (.int kd 0) 1 h1 hi0 hz0 hz1 kl kl L L n hl hc hL hL (by rw [hz2]; exact b3) b4 hbase ?_
  intro w' hown hgr
  refine hK w' ?_ ((Below.refl _ _).grown hgr (Nat.le_refl _) (by simp))
  have e1 : (madeCells (Value.cells (.int kd 0)) (n * 1)).toList = cN kd (List.replicate n 0) := by
    rw [Nat.mul_one]; exact cN_zero n
  rw [e1] at hown
  simpa [OwnN] using hown

/-- A slice literal of numbers. -/
theorem OwnN.lit (w : World) (xs : List Int) (cs : Array Value) (n base : Nat) (hcs : cs.toList = cN kd xs) (hn : xs.length = n) (hm : n ≤ maxLen) (hb : base ≤ w.heap.size) :
    OwnN kd e (w.alloc (.cells cs e)) base (.slice (some ⟨w.heap.size, 0, none⟩) n n) xs := by
  subst hn
  have hsz : cs.size = xs.length * 1 := by rw [← Array.length_toList, hcs, cN_length, Nat.mul_one]
  have := World.ownsRow_lit (e := e) (size := 1) w cs xs.length hb hm hsz
  rw [hcs] at this
  exact this

/-- append(x, b...), x of the call's own. -/
theorem wpL_appendN {P : Program} (w : World) {ops : Array Oper} {rest : List Oper} {o : Oper} {a : Act} {Q : Exit → Act → World → Prop} (hgd : o.guard = none) (s x : Operand) (t : TypeId)
    (ho : o.op = .call { callee := .builtin .append, args := #[s, x], argTypes := #[t, t] }) (hu : P.underlying t = some (.slice e)) (by_ : Nat)
    (hin : (P.info? e).map (fun i => (i.zero, i.size, i.bytes)) = some (some (.int kd 0), 1, by_))
    (base : Nat) (v : Value) (xs : List Int) (hs : a.eval s = v) (hown : OwnN kd e w base v xs)
    (B : Nat) (A : Option Addr) (n c : Nat) (ys : List Int) (hx : a.eval x = .slice A n c) (hrd : RdN kd w B A n ys)
    (hlen : (xs.length + n) * by_ ≤ 140737488355328) (hmax : xs.length + n ≤ maxLen) (hbase : base ≤ w.heap.size)
    (h : ∀ v' w', OwnN kd e w' base v' (xs ++ ys) → Below base w w' → wpList P ops Q rest (a.put o.dst v') w') : wpList P ops Q (o :: rest) a w := by
  obtain ⟨i0, hi0, hz0, hz1, hz2⟩ := info_parts hin
  have hyl := hrd.len
  have hbel : ∀ w', w.grownBy w' v.ownBlock → Below base w w' := fun w' hg => (Below.refl _ _).grown hg hbase fun k hk => (World.ownsRow.lt hown k hk).1
  have fin : ∀ v' w', w'.ownsRow base e 1 v' (xs.length + n) (cN kd xs ++ cN kd ys) → OwnN kd e w' base v' (xs ++ ys) := by
    intro v' w' h2
    unfold OwnN
    rw [List.length_append, cN_append, hyl]
    exact h2
  cases A with
  | some ad =>
    refine wpList_append_own w hgd s x t ho base e i0 (.int kd 0) 1 by_ hu hi0 hz0 hz1 hz2 rfl (by omega) v xs.length (cN kd xs) hs hown ad n c (cN kd ys) hx (by rw [cN_length]; omega) ?_ (cN_one kd ys) hmax hlen hbase ?_
    · intro j u hu
      rcases Nat.lt_or_ge j n with hj | hj
      · obtain ⟨b, off, e1, _, hc⟩ := hrd.at_ (by omega)
        cases e1
        rw [cN_get kd ys j (by omega)] at hu
        cases hu
        rw [add_off]; exact hc j hj
      · rw [List.getElem?_eq_none (by rw [cN_length]; omega)] at hu; cases hu
    · intro v' w' h2 h3 _
      exact h v' w' (fin _ _ h2) (hbel _ h3)
  | none =>
    have hn : n = 0 := by
      rcases Nat.eq_zero_or_pos n with h0 | h0
      · exact h0
      · obtain ⟨b, off, e1, _⟩ := hrd.at_ h0; cases e1
    subst hn
    have hys : ys = [] := List.eq_nil_of_length_eq_zero hyl
    subst hys
    refine wpList_plain hgd fun K hK' => ?_
    have hrun : (Builtin.append_ #[t, t] o.type #[v, .slice none 0 c]).run P w = .ok v w := by
      rcases hown.2 with ⟨rfl, _⟩ | ⟨g, cap, cur, rfl, _, _, hnc, _⟩
      · simp [Builtin.append_, run_underlying hu, sizeOf, typeInfo, hi0, Builtin.lenOf, Builtin.firstCells]
      · simp [Builtin.append_, run_underlying hu, sizeOf, typeInfo, hi0, Builtin.lenOf, Builtin.firstCells, hnc, storeCells]
    unfold Oper.wp execOp
    simp only [ho, resolve, invoke, builtin, Sem.run_bind, Sem.run_pure, Result.andThen_ok, List.map_toArray, List.map_cons, List.map_nil, hs, hx, hrun]
    exact hK' _ _ (h v w (by simpa using hown) (Below.refl _ _))

theorem IsRow.rdN {k : IntKind} {w : World} {a : Option Addr} {len cap : Nat} {zs : List Int} (h : IsRow k w a len cap zs) : ∃ xs, RdN k w w.heap.size a len xs ∧ len ≤ maxLen ∧ len ≤ cap ∧ ∀ j, j < len → (Lit.int k (xs.getD j 0)).wf = true := by
  rcases h with ⟨rfl, rfl, rfl, rfl⟩ | ⟨x, rfl, h1, h2, h3, hc, hw⟩
  · exact ⟨[], RdN.nil _ _ _, by simp, by simp, fun j hj => absurd hj (by omega)⟩
  · refine ⟨zs.take len, ⟨by simp; omega, fun hp => ?_⟩, by omega, h1, fun j hj => ?_⟩
    · obtain ⟨b, off, spot⟩ := x
      have hc0 := hc 0 (by omega)
      have hspot : spot = none := by simpa [Addr.add] using World.cell?_spot hc0
      subst hspot
      refine ⟨b, off, rfl, ?_, fun j hj => ?_⟩
      · have := World.block_lt_of_cell? w _ hc0
        rwa [add_off] at this
      · have := hc j (by omega)
        rw [add_off] at this
        rw [this]
        simp [List.getD, hj]
    · have hm : zs.getD j 0 ∈ zs := by
        have hkl : j < zs.length := by omega
        simp [List.getD, List.getElem?_eq_getElem hkl]
      have e1 : (zs.take len).getD j 0 = zs.getD j 0 := by simp [List.getD, hj]
      rw [e1]
      exact hw _ hm
theorem RdN.cutlo {w : World} {B n c l : Nat} {A : Option Addr} {xs : List Int} (h : RdN kd w B A n xs) (hl : l ≤ n) (hc : n ≤ c) :
    RdN kd w B (if c = l then A else A.map (·.add (l * 1))) (n - l) (xs.drop l) := by
  refine ⟨by rw [List.length_drop, h.len], fun hp => ?_⟩
  obtain ⟨b, o, rfl, hb, hcell⟩ := h.at_ (by omega)
  rw [if_neg (by omega)]
  refine ⟨b, o + l * 1, by simp [add_off], hb, fun k hk => ?_⟩
  have := hcell (l + k) (by omega)
  have e : (xs.drop l).getD k 0 = xs.getD (l + k) 0 := by simp [List.getD]
  rw [e, ← this]
  congr 2; omega
theorem RdN.cuthi {w : World} {B n : Nat} {A : Option Addr} {xs : List Int} (h : RdN kd w B A n xs) (l : Nat) (hl : l ≤ n) : RdN kd w B A l (xs.take l) := by
  refine ⟨by rw [List.length_take, h.len]; omega, fun hp => ?_⟩
  obtain ⟨b, o, rfl, hb, hcell⟩ := h.at_ (by omega)
  refine ⟨b, o, rfl, hb, fun k hk => ?_⟩
  have e : (xs.take l).getD k 0 = xs.getD k 0 := by simp [List.getD, hk]
  rw [e]; exact hcell k (by omega)
/-- A slice of its own is handed back, and nothing that was there has turned. -/
def RetN (kd : IntKind) (e : TypeId) (w : World) (xs : List Int) (en : Ending) (w' : World) : Prop := ∃ v, en = .returned v ∧ OwnN kd e w' w.heap.size v xs ∧ Below w.heap.size w w'
end
end Go.Proofs.YtpfkcplldhdipaaDoor
