/- Walks over isKey, Keys, Mix and Layer of the program; own lemmas of the verifier, no statement is proved here. -/
import Derived.Test.YtpfkcplldhdipaaDoorX10
namespace Go.Proofs.YtpfkcplldhdipaaDoor
open Go.RowKit
def OwnV (e : TypeId) (w : World) (base : Nat) (v : Value) (vs : List Value) : Prop := w.ownsRow base e 1 v vs.length vs
theorem Tryd.info22 : (Tryd.prog.info? 22).map (fun i => (i.zero, i.size, i.bytes)) = some (some (.slice none 0 0), 1, 24) := by kernel_rfl
theorem OwnV.kept {e : TypeId} {w w' : World} {base : Nat} {v : Value} {vs : List Value} (h : OwnV e w base v vs) (hb : Ext w w') : OwnV e w' base v vs := by
  refine ⟨h.1, ?_⟩
  rcases h.2 with hn | ⟨g, cap, cur, rfl, hbg, hh, r⟩
  · exact .inl hn
  · exact .inr ⟨g, cap, cur, rfl, hbg, by rw [Below.block hb g (Array.getElem?_eq_some_iff.1 hh).1]; exact hh, r⟩
theorem OwnV.celln {e : TypeId} {w : World} {base g n c : Nat} {vs : List Value} (h : OwnV e w base (.slice (some ⟨g, 0, none⟩) n c) vs) (hn : vs.length = n) (j : Nat) (hj : j < n) : w.cell? ⟨g, j, none⟩ = vs[j]? := by
  subst hn
  exact World.ownsRow.cellAt h j (by omega)
theorem wpL_appendV {P : Program} (w : World) {ops : Array Oper} {rest : List Oper} {o : Oper} {a : Act} {Q : Exit → Act → World → Prop} (hgd : o.guard = none) (s x : Operand) (t e : TypeId)
    (ho : o.op = .call { callee := .builtin .append, args := #[s, x], argTypes := #[t, t] }) (hu : P.underlying t = some (.slice e))
    (hin : (P.info? e).map (fun i => (i.zero, i.size, i.bytes)) = some (some (.slice none 0 0), 1, 24))
    (base : Nat) (v : Value) (xs : List Value) (hs : a.eval s = v) (hown : OwnV e w base v xs)
    (g c : Nat) (u : Value) (hx : a.eval x = .slice (some ⟨g, 0, none⟩) 1 c) (hc : w.cell? ⟨g, 0, none⟩ = some u) (h1 : u.oneCell' = true) (hlen : xs.length ≤ 1000) (hbase : base ≤ w.heap.size)
    (h : ∀ v' w', OwnV e w' base v' (xs ++ [u]) → w.grownBy w' v.ownBlock → wpList P ops Q rest (a.put o.dst v') w') : wpList P ops Q (o :: rest) a w := by
  obtain ⟨i0, hi0, hz0, hz1, hz2⟩ := info_parts hin
  refine wpList_append_own w hgd s x t ho base e i0 (.slice none 0 0) 1 24 hu hi0 hz0 hz1 hz2 rfl (by omega) v xs.length xs hs hown ⟨g, 0, none⟩ 1 c [u] hx rfl ?_ (by intro y hy; simp at hy; subst hy; exact h1) (by unfold maxLen; omega) (by omega) hbase ?_
  · intro j y hy
    match j with
    | 0 => simp at hy; subst hy; rw [add_at]; exact hc
    | j + 1 => simp at hy
  · intro v' w' h2 h3 _
    exact h v' w' (by simpa [OwnV] using h2) h3
theorem OwnV.block_ne {e : TypeId} {w : World} {base : Nat} {v : Value} {vs : List Value} (h : OwnV e w base v vs) {b : Nat} {cur : Array Value} {e2 : TypeId} {f : Nat × Nat} (hb : w.heap[b]? = some (.cells cur e2 f)) (hne : e2 ≠ e) : some b ≠ v.ownBlock := by
  rcases h.2 with ⟨rfl, _⟩ | ⟨g, cap, cur2, rfl, _, hh, _⟩
  · simp [Value.ownBlock]
  · simp only [Value.ownBlock, ne_eq, Option.some.injEq]
    rintro rfl
    rw [hh] at hb
    cases hb
    exact hne rfl
theorem OwnV.below {e : TypeId} {w w' : World} {base : Nat} {v : Value} {vs : List Value} (hv : OwnV e w base v vs) (hbase : base ≤ w.heap.size) (hg : w.grownBy w' v.ownBlock) : Below base w w' :=
  (Below.refl _ _).grown hg hbase fun k hk => (World.ownsRow.lt hv k hk).1
/-- Which lengths a key may have. -/
def okLen (n : Nat) : Prop := n = 16 ∨ n = 24 ∨ n = 32
theorem isKey_good (A : Option Addr) (n c : Nat) (w : World) (hn : okLen n) : Calls Tryd.prog 22 #[.slice A n c] w fun e w' => e = .returned (.bool true) ∧ w = w' := by
  rcases hn with rfl | rfl | rfl
  all_goals
    go_enter Tryd.func22, Tryd.ntmps22
    go_wp2
    go_ret
    exact ⟨rfl, rfl⟩
theorem isKey_bad (A : Option Addr) (n c : Nat) (w : World) (hn : ¬ okLen n) : Calls Tryd.prog 22 #[.slice A n c] w fun e w' => e = .returned (.bool false) ∧ w = w' := by
  have h1 : ((n : Int) == 16) = false := by simp; unfold okLen at hn; omega
  have h2 : ((n : Int) == 24) = false := by simp; unfold okLen at hn; omega
  have h3 : ((n : Int) == 32) = false := by simp; unfold okLen at hn; omega
  clear hn
  go_enter Tryd.func22, Tryd.ntmps22
  go_wp2
  go_ret
  exact ⟨rfl, rfl⟩
/-- What a function that has refused a key hands back. -/
def KeysRet (w : World) (key : List UInt8) (e : Ending) (w' : World) : Prop :=
  ∃ b c, e = .returned (.tuple #[.slice (some ⟨b, 0, none⟩) (keyN key) c, .int .i64 0]) ∧ RowsB w' b 0 (keysL key) ∧ Ext w w'
/-- A block of an array type of its own. -/
def B55 (w : World) (g : Nat) (bs : List UInt8) : Prop := w.heap[g]? = some (.cells (cellsOf bs).toArray 55 (0, 0))
/-- All cells that the program's keys want. -/
structure GK (w : World) : Prop where
  odd : Odd w
  rws : Rws w
  sev : Sev w
  con : Con w
  tu : Tu w
theorem GK.later {w w' : World} (h : GK w) (hx : Ext w w') : GK w' := ⟨h.odd.later hx, h.rws.later hx, h.sev.later hx, h.con.later hx, h.tu.later hx⟩
theorem pkeys_bad (A : Option Addr) (n c : Nat) (w : World) (hn : ¬ okLen n) : Calls Tryd.prog 10 #[.slice A n c] w fun e w' => e = .returned (.tuple #[.slice none 0 0, .int .i64 4]) ∧ Ext w w' := by
  go_enter Tryd.func10, Tryd.ntmps10
  go_wp2_with (go_at_call 22; refine (isKey_bad _ _ _ _ hn).mono ?_; rintro e w' ⟨rfl, rfl⟩)
  go_ret2
  exact ⟨rfl, Ext.refl _⟩
set_option maxRecDepth 100000 in
set_option maxHeartbeats 4000000 in
theorem pkeys_any (A : Option Addr) (n c : Nat) (key : List UInt8) (w : World) (h : Rd w w.heap.size A n key) (hn : okLen n) (hc : n ≤ c) (hG : GK w) :
    Calls Tryd.prog 10 #[.slice A n c] w (KeysRet w key) := by
  have hl := h.len
  have HR := hid h
  have HG := hid hG
  have HN := hid hn
  have HC := hid hc
  have HZ := hid zc50
  clear h hG hc
  go_enter Tryd.func10, Tryd.ntmps10
  go_wp2_with (go_at_call 22; refine (isKey_good _ _ _ _ HN.out).mono ?_; rintro e w' ⟨rfl, rfl⟩)
  refine (makeBoxes_any _ HG.out.odd HG.out.rws).mono ?_
  rintro e w1 ⟨rfl, hx1⟩
  have h2 := RW.new w1 50 z1024
  have x2 := Ext.alloc w1 (.cells (cellsOf z1024).toArray 50)
  obtain ⟨W2, hW2⟩ : ∃ W2, w1.alloc (.cells (cellsOf z1024).toArray 50) = W2 := ⟨_, rfl⟩
  rw [hW2] at h2 x2
  obtain ⟨T, hT⟩ : ∃ T, w1.heap.size = T := ⟨_, rfl⟩
  rw [hT] at h2
  have h3 := h2.store0 tabB (by rw [tabB_length, z1024_length])
  have hx3 := below_setCells (B := w.heap.size) (b := T) (a := w) (by have := hx1.size; omega) (cellsOf tabB) 0 W2 (hx1.trans x2)
  have HTH := hid (show W2.there T 0 tabB.length by rw [tabB_length]; have := h2.wr; rw [z1024_length] at this; exact this)
  have HSZ := hid (size50' tabB_length)
  obtain ⟨W3, hW3⟩ : ∃ W3, W2.setCells T 0 (cellsOf tabB) = W3 := ⟨_, rfl⟩
  rw [hW3] at h3 hx3
  have HT := hid (show TB W3 T from h3.rd)
  have HX3 := hid hx3
  have HW := hid (And.intro hW2 (And.intro hT hW3))
  clear hx1 h2 x2 hW2 hT h3 hx3 hW3
  go_wp2_with (first
    | (rw [HZ.out, HW.out.1, HW.out.2.1]; refine wpList_st rfl 50 (.tmp 4) (.tmp 11) rfl T 0 tabB rfl rfl HTH.out HSZ.out ?_; rw [HW.out.2.2]; clear HW HTH HZ))
  refine (keys_any T n c A key W3 (HR.out.later HX3.out) HN.out HC.out HT.out (HG.out.later HX3.out).sev (HG.out.later HX3.out).con (HG.out.later HX3.out).tu).mono ?_
  rintro e w4 ⟨K, rfl, _, hK, hx4⟩
  have HX4 := hid (Ext.trans HX3.out hx4)
  obtain ⟨N, hN⟩ : ∃ N, keyN key = N := ⟨_, rfl⟩
  have hNn : N ≤ 17 ∧ 0 < N := by
    have := HN.out
    unfold okLen at this
    unfold keyN at hN
    omega
  have HNN := hid hNn
  have HN0 := hid hN
  rw [hN] at hK ⊢
  have HK := hid hK
  have HKL := hid (hK.lt (by rw [FL_length]; omega))
  have hN17 : (N : Int) ≤ 17 := by omega
  clear hx4 hK hN hNn HT HX3 HG HR
  go_wp2_with fail
  go_loopw [5, 15] (fun v i wr => ∃ (k : Nat) (vs : List Value), k ≤ N ∧ i = .int .i64 k ∧ OwnV 22 wr w4.heap.size v vs ∧ vs.length = k ∧ (∀ j, j < k → ∃ V, vs[j]? = some (.slice (some ⟨V, 0, none⟩) 16 16) ∧ B55 wr V (keyF key j)) ∧ Ext w4 wr) (fun _ i _ => N - (intOf i).toNat)
  case atStart => exact ⟨0, [], by omega, rfl, World.ownsRow_nil _ _ _ _, rfl, fun j hj => absurd hj (by omega), Ext.refl _⟩
  case round =>
    obtain ⟨k, vs, hk, rfl, hov, hvl, hbs, hx⟩ := hrel
    by_cases hlt : k < N
    · have hKw := HK.out.later (by rw [FL_length]; omega) hx
      have hblk := hKw.blk k hlt (keyF_length key k)
      obtain ⟨SK, hSK⟩ : ∃ SK, keyF key k = SK := ⟨_, rfl⟩
      have hSL : SK.length = 16 := by rw [← hSK]; exact keyF_length key k
      rw [hSK] at hblk
      have h5 := heap_alloc_new wr (.cells (cellsOf z16).toArray 55)
      have x5 := Ext.alloc wr (.cells (cellsOf z16).toArray 55)
      obtain ⟨W5, hW5⟩ : ∃ W5, wr.alloc (.cells (cellsOf z16).toArray 55) = W5 := ⟨_, rfl⟩
      have z5 : W5.heap.size = wr.heap.size + 1 := by rw [← hW5]; simp
      rw [hW5] at h5 x5
      have hsr := setRow_heap W5 wr.heap.size _ (cellsOf SK).toArray 55 (0, 0) h5
      have hother := fun i (hi : i ≠ wr.heap.size) => setRow_other W5 wr.heap.size i (cellsOf SK).toArray hi
      have hx6 : Ext wr (W5.setRow wr.heap.size (cellsOf SK).toArray) := below_setRow x5 (Nat.le_refl _) _
      have z6 : (W5.setRow wr.heap.size (cellsOf SK).toArray).heap.size = wr.heap.size + 1 := by rw [setRow_size, z5]
      obtain ⟨W6, hW6⟩ : ∃ W6, W5.setRow wr.heap.size (cellsOf SK).toArray = W6 := ⟨_, rfl⟩
      rw [hW6] at hsr hx6 z6
      obtain ⟨V, hV⟩ : ∃ V, wr.heap.size = V := ⟨_, rfl⟩
      rw [hV] at h5 hsr z6 hW6
      have x7 := Ext.alloc W6 (.cells #[.slice (some ⟨V, 0, none⟩) 16 16] 22)
      have hc7 := heap_alloc_new W6 (.cells #[.slice (some ⟨V, 0, none⟩) 16 16] 22)
      obtain ⟨W7, hW7⟩ : ∃ W7, W6.alloc (.cells #[.slice (some ⟨V, 0, none⟩) 16 16] 22) = W7 := ⟨_, rfl⟩
      rw [hW7] at x7 hc7
      rw [z6] at hc7
      have hcell : W7.cell? ⟨V + 1, 0, none⟩ = some (.slice (some ⟨V, 0, none⟩) 16 16) := by rw [cell_of_row _ _ _ _ _ _ hc7]; rfl
      have hx7 : Ext wr W7 := hx6.trans x7
      have hov7 := hov.kept hx7
      have hbs7 : ∀ j, j < k → ∃ V, vs[j]? = some (.slice (some ⟨V, 0, none⟩) 16 16) ∧ B55 W7 V (keyF key j) := fun j hj => by
        obtain ⟨V', h1, h2⟩ := hbs j hj
        exact ⟨V', h1, (hx7.block V' (Array.getElem?_eq_some_iff.1 h2).1).trans h2⟩
      have hself : B55 W7 V SK := (x7.block V (Array.getElem?_eq_some_iff.1 hsr).1).trans hsr
      have hxx := Ext.trans hx hx7
      have hs7 := hxx.size
      have HB := hid hblk.rd
      have H5 := hid h5
      have HW := hid (And.intro hW5 (And.intro hV (And.intro hW6 (And.intro z6 hW7))))
      have HQ := hid (And.intro hov7 (And.intro hbs7 (And.intro hself hxx)))
      have HSZ := hid (And.intro (size55' hSL) (size55a hSL))
      have HSS := hid (show (cellsOf z16).toArray.size = (cellsOf SK).toArray.size by simp [cellsOf_length, hSL, z16_length])
      have HCL := hid hcell
      have HS7 := hid hs7
      have HSK := hid hSK
      have HVL := hid hvl
      have hl10 : vs.length ≤ 1000 := by omega
      clear hKw hblk h5 x5 hW5 z5 hsr hother hx6 z6 hW6 hV x7 hc7 hW7 hcell hx7 hov7 hbs7 hself hxx hs7 hov hbs hx hSK hvl
      go_wp2_with (first
        | (refine wpList_ld rfl 55 (.tmp 17) rfl K (k * 16) rfl SK HB.out Tryd.underlying55 HSZ.out.1 ?_)
        | (rw [← cells_z16, HW.out.1, HW.out.2.1]; refine wpList_store_row rfl 55 (.tmp 7) (.tmp 18) rfl V (cellsOf SK).toArray rfl rfl 55 _ H5.out HSZ.out.2 HSS.out (cells_all _) ?_; rw [HW.out.2.2.1])
        | (at_builtin; rw [HW.out.2.2.2.1, HW.out.2.2.2.2]; clear HW HB H5; refine wpL_appendV _ rfl (.tmp 19) (.tmp 21) 24 22 rfl Tryd.underlying24 Tryd.info22 w4.heap.size _ vs rfl HQ.out.1 (V + 1) 1 (.slice (some ⟨V, 0, none⟩) 16 16) rfl HCL.out rfl hl10 HS7.out ?_; intro v9 w9 hown9 hg9))
      have hb9 : ∀ V' bs, B55 W7 V' bs → B55 w9 V' bs := fun V' bs hb => (hg9.block V' (Array.getElem?_eq_some_iff.1 hb).1 (HQ.out.1.block_ne hb (by decide))).trans hb
      have HQ9 := hid (show OwnV 22 w9 w4.heap.size v9 (vs ++ [.slice (some ⟨V, 0, none⟩) 16 16]) ∧ (vs ++ [Value.slice (some ⟨V, 0, none⟩) 16 16]).length = k + 1 ∧ (∀ j, j < k + 1 → ∃ V', (vs ++ [Value.slice (some ⟨V, 0, none⟩) 16 16])[j]? = some (.slice (some ⟨V', 0, none⟩) 16 16) ∧ B55 w9 V' (keyF key j)) ∧ Ext w4 w9 from
        ⟨hown9, by simp [HVL.out], fun j hj => by
          by_cases e : j = k
          · subst e
            exact ⟨V, by rw [List.getElem?_append_right (by rw [HVL.out]; exact Nat.le_refl _), HVL.out]; simp, by rw [HSK.out]; exact hb9 _ _ HQ.out.2.2.1⟩
          · obtain ⟨V', h1, h2⟩ := HQ.out.2.1 j (by omega)
            exact ⟨V', by rw [List.getElem?_append_left (by rw [HVL.out]; omega)]; exact h1, hb9 _ _ h2⟩,
         Below.trans HQ.out.2.2.2 (OwnV.below HQ.out.1 HS7.out hg9)⟩)
      clear hown9 hg9 hb9 HQ HCL HSZ HSS HS7 HSK HVL
      go_roundw
      case rel => exact ⟨k + 1, _, by omega, by go_num, HQ9.out⟩
      case measure => simp [intOf]; omega
    · obtain rfl : k = N := by omega
      have hp := HNN.out.2
      rcases hov.2 with ⟨_, h0⟩ | ⟨g, cap, cur, rfl, _, _, _⟩
      · omega
      · have hrows : RowsB wr g 0 (keysL key) := fun i hi => by
          have hi' : i < vs.length := by rw [hvl, ← HN0.out]; simpa [keysL] using hi
          have hgd : (keysL key).getD i [] = keyF key i := by
            have : i < keyN key := by simpa [keysL] using hi
            simp [keysL, List.getD_eq_getElem?_getD, this]
          obtain ⟨V, h1, h2⟩ := hbs i (by omega)
          have hr := RW.of_block h2
          refine ⟨some ⟨V, 0, none⟩, 16, ?_, ?_⟩
          · rw [Nat.zero_add, OwnV.celln hov rfl i hi', h1, hgd, keyF_length]
          · rw [hgd, keyF_length]
            exact hr.slice (keyF_length key i) (Array.getElem?_eq_some_iff.1 h2).1
        have HRW := hid hrows
        have HXE := hid (Ext.trans HX4.out hx)
        have HVL := hid hvl
        clear hov hbs hx hrows
        go_wp2_with fail
        go_ret2
        refine ⟨g, cap, ?_, HRW.out, HXE.out⟩
        show Ending.returned (.tuple #[.slice (some ⟨g, 0, none⟩) vs.length cap, .int .i64 0]) = _
        rw [HVL.out, HN0.out]
end Go.Proofs.YtpfkcplldhdipaaDoor
