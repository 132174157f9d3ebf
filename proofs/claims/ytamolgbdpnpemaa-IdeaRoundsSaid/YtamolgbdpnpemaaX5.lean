/- Walk over Keys of the reference; own lemmas of the verifier, no statement is proved here. -/
import Derived.Test.YtamolgbdpnpemaaX4
import Derived.StillTailTactics
namespace Go.Proofs.Ytamolgbdpnpemaa
open Go.RowKit
theorem one_rd (w : World) (X : Int) : RdN .i64 (w.alloc (.cells #[.int .i64 X] 3)) (w.alloc (.cells #[.int .i64 X] 3)).heap.size (some ⟨w.heap.size, 0, none⟩) 1 [X] := by
  have h : Blk (w.alloc (.cells #[.int .i64 X] 3)) w.heap.size 3 [X] := heap_alloc_new w _
  exact h.rd 0 1 (by simp)
theorem tabN_succ (f : Nat → Nat) (k : Nat) : tabN f (k + 1) = tabN f k ++ [((f k : Nat) : Int)] := by simp [tabN, List.range_succ]
theorem num_key {key : List UInt8} {r j : Nat} (hj : j < 8) : ((keyF key (8 * r + j) : Nat) : Int) = (nb (rowT key r) (2 * j) : Int) * 256 + nb (rowT key r) (2 * j + 1) := by
  rw [keyF_at key r j hj]
  unfold numF
  omega
/-- append(x, n), x of the call's own. -/
theorem wpL_append1 {P : Program} (w : World) {ops : Array Oper} {rest : List Oper} {o : Oper} {a : Act} {Q : Exit → Act → World → Prop} (hgd : o.guard = none) (s x : Operand) (t : TypeId)
    (ho : o.op = .call { callee := .builtin .append, args := #[s, x], argTypes := #[t, t] }) (hu : P.underlying t = some (.slice 3))
    (hin : (P.info? 3).map (fun i => (i.zero, i.size, i.bytes)) = some (some (.int .i64 0), 1, 8))
    (base : Nat) (v : Value) (xs : List Int) (hs : a.eval s = v) (hown : OwnN .i64 3 w base v xs)
    (g c : Nat) (X : Int) (hx : a.eval x = .slice (some ⟨g, 0, none⟩) 1 c) (hc : w.cell? ⟨g, 0, none⟩ = some (.int .i64 X)) (hlen : xs.length ≤ 1000) (hbase : base ≤ w.heap.size)
    (h : ∀ v' w', OwnN .i64 3 w' base v' (xs ++ [X]) → w.grownBy w' v.ownBlock → wpList P ops Q rest (a.put o.dst v') w') : wpList P ops Q (o :: rest) a w := by
  obtain ⟨i0, hi0, hz0, hz1, hz2⟩ := info_parts hin
  refine wpList_append_own w hgd s x t ho base 3 i0 (.int .i64 0) 1 8 hu hi0 hz0 hz1 hz2 rfl (by omega) v xs.length (cN .i64 xs) hs hown ⟨g, 0, none⟩ 1 c [.int .i64 X] hx rfl ?_ (by intro y hy; simp at hy; subst hy; rfl) (by unfold maxLen; omega) (by omega) hbase ?_
  · intro j y hy
    match j with
    | 0 => simp at hy; subst hy; rw [add_at]; exact hc
    | j + 1 => simp at hy
  · intro v' w' h2 h3 _
    refine h v' w' ?_ h3
    unfold OwnN
    rw [cN_append, List.length_append]
    exact h2
theorem OwnN.block_ne {e : TypeId} {w : World} {base : Nat} {v : Value} {xs : List Int} (h : OwnN .i64 e w base v xs) {b : Nat} {cur : Array Value} {e2 : TypeId} {f : Nat × Nat} (hb : w.heap[b]? = some (.cells cur e2 f)) (hne : e2 ≠ e) : some b ≠ v.ownBlock := by
  rcases h.2 with ⟨rfl, _⟩ | ⟨g, cap, cur2, rfl, _, hh, _⟩
  · simp [Value.ownBlock]
  · simp only [Value.ownBlock, ne_eq, Option.some.injEq]
    rintro rfl
    rw [hh] at hb
    cases hb
    exact hne rfl
theorem OwnN.block_ge {e : TypeId} {w : World} {base : Nat} {v : Value} {xs : List Int} (h : OwnN .i64 e w base v xs) {b : Nat} (hb : b < base) : some b ≠ v.ownBlock := by
  rcases h.2 with ⟨rfl, _⟩ | ⟨g, cap, cur2, rfl, hg, hh, _⟩
  · simp [Value.ownBlock]
  · simp only [Value.ownBlock, ne_eq, Option.some.injEq]
    omega
theorem Own.base_mono {w : World} {base base' : Nat} {v : Value} {bs : List UInt8} (h : Own w base v bs) (hb : base' ≤ base) : Own w base' v bs := by
  refine ⟨h.1, ?_⟩
  rcases h.2 with hn | ⟨g, cap, cur, e, hbg, r⟩
  · exact .inl hn
  · exact .inr ⟨g, cap, cur, e, Nat.le_trans hb hbg, r⟩
/-- Where the key lies: below what the call made, or in a block of bytes of the call's own. -/
def KeyAt (w : World) (base : Nat) (A : Option Addr) (c : Nat) (bs : List UInt8) : Prop := base ≤ w.heap.size ∧ (Rd w base A 16 bs ∨ (bs.length = 16 ∧ Own w base (.slice A 16 c) bs))
theorem KeyAt.rd {w : World} {base c : Nat} {A : Option Addr} {bs : List UInt8} (h : KeyAt w base A c bs) : Rd w w.heap.size A 16 bs := by
  rcases h with ⟨hz, h | ⟨hl, h⟩⟩
  · exact h.more hz
  · obtain ⟨A1, c1, e, hr, _⟩ := h.rdn hl
    cases e
    exact hr
theorem KeyAt.later {w w' : World} {base c : Nat} {A : Option Addr} {bs : List UInt8} (h : KeyAt w base A c bs) (hx : Ext w w') : KeyAt w' base A c bs := by
  refine ⟨Nat.le_trans h.1 (Below.size hx), ?_⟩
  rcases h with ⟨hz, h | ⟨hl, h⟩⟩
  · exact .inl (h.below hx hz)
  · exact .inr ⟨hl, h.kept hx⟩
theorem KeyAt.grown {w w' : World} {base base2 c : Nat} {A : Option Addr} {bs : List UInt8} {v : Value} {xs : List Int} (h : KeyAt w base A c bs) (hv : OwnN .i64 3 w base2 v xs) (hb : base ≤ base2) (hg : w.grownBy w' v.ownBlock) : KeyAt w' base A c bs := by
  refine ⟨Nat.le_trans h.1 hg.size, ?_⟩
  rcases h with ⟨hz, h | ⟨hl, h⟩⟩
  · exact .inl ⟨h.len, fun hn => by
      obtain ⟨b, o, rfl, hb1, hc⟩ := h.at_ hn
      exact ⟨b, o, rfl, hb1, fun k hk => hg.cell (hc k hk) (hv.block_ge (by show b < base2; omega))⟩⟩
  · refine .inr ⟨hl, h.1, ?_⟩
    rcases h.2 with hn | ⟨b, cap, cur, e, hbg, hh, rr⟩
    · exact .inl hn
    · exact .inr ⟨b, cap, cur, e, hbg, by rw [hg.block b (Array.getElem?_eq_some_iff.1 hh).1 (hv.block_ne hh (by decide))]; exact hh, rr⟩
def lenOfV : Value → Nat
  | .slice _ n _ => n
  | _ => 0
/-- What the reference's Keys hands back. -/
def RKeyRet (w : World) (key : List UInt8) (e : Ending) (w' : World) : Prop :=
  ∃ A c, e = .returned (.tuple #[.slice A 52 c, .int .i64 0]) ∧ 52 ≤ c ∧ RdN .i64 w' w'.heap.size A 52 (tabN (keyF key) 52) ∧ Ext w w'
set_option maxHeartbeats 400000 in
theorem rkeys_bad (A : Option Addr) (n c : Nat) (w : World) (h : n ≠ 16) :
    Calls Try.prog 12 #[.slice A n c] w fun e w' => e = .returned (.tuple #[.slice none 0 0, .int .i64 4]) ∧ Ext w w' := by
  have h5 : ((n : Int) != 16) = true := by simp; omega
  go_enter Try.func12, Try.ntmps12
  go_wp2
  go_ret2
  exact ⟨rfl, Ext.refl _⟩
def refKs (r j b1 o1 c1 x y : Nat) (A3 : Option Addr) (c3 : Nat) : List K := [.eq (.slice A3 (8 * r + j) c3), .eq (.slice (some ⟨b1, o1, none⟩) 16 c1), .eq (.int .i64 (2 * j : Nat)), .eq (.pointer (some ⟨b1, o1 + 2 * j, none⟩)), .eq (.int .u8 x), .eq (.int .i64 x), .eq (.int .i64 ((x : Int) * 256)), .eq (.slice (some ⟨b1, o1, none⟩) 16 c1), .eq (.int .i64 (2 * j : Nat)), .eq (.int .i64 (2 * j + 1 : Nat)), .eq (.pointer (some ⟨b1, o1 + (2 * j + 1), none⟩)), .eq (.int .u8 y), .eq (.int .i64 y), .eq (.int .i64 ((x : Int) * 256 + y)), .row 1 [.int .i64 ((x : Int) * 256 + y)], .any, .any]
theorem step_build1 {ops : Array Oper} {V : Nat → World → Value → Prop} {i : Nat} {a : Act} {w : World} {Q : Exit → Act → World → Prop} {o : Oper} {x : Operand} {X : Int} (hw : Region.wanted o (yielded ops a.tmps) = true)
    (hop : o.op = .buildSlice 25 1 #[(0, x)]) (hx : a.eval x = .int .i64 X) (hV : V i (w.alloc (.cells #[.int .i64 X] 3)) (.slice (some ⟨w.heap.size, 0, none⟩) 1 1)) : Step Try.prog ops V Q i o a w := by
  have e : (Instr.buildSlice 25 1 #[(0, .int .i64 X)]).run Try.prog w = .ok (.slice (some ⟨w.heap.size, 0, none⟩) 1 1) (w.alloc (.cells #[.int .i64 X] 3)) := by go_simp
  refine step_val hw ?_ (Ext.alloc _ _) hV
  simp only [execOp, hop, List.map_toArray, List.map_cons, List.map_nil, hx, Sem.run_bind, e, Sem.run_pure, Result.andThen]
theorem cell_later {w w' : World} {p : Addr} {v : Value} (hx : Ext w w') (h : w.cell? p = some v) : w'.cell? p = some v := (Below.cell hx (World.block_lt_of_cell? w _ h)).trans h
set_option maxRecDepth 100000 in
set_option maxHeartbeats 4000000 in
theorem rkeys_any (A : Option Addr) (c : Nat) (key : List UInt8) (w : World) (h : Rd w w.heap.size A 16 key) :
    Calls Try.prog 12 #[.slice A 16 c] w (RKeyRet w key) := by
  have HR := hid h
  clear h
  go_enter Try.func12, Try.ntmps12
  go_wp2_with fail
  go_loopw [0, 4] (fun s v wr => ∃ (r n : Nat) (A1 : Option Addr) (c1 : Nat), r ≤ 7 ∧ n = min (8 * r) 52 ∧ s = .slice A1 16 c1 ∧ KeyAt wr w.heap.size A1 c1 (rowT key r) ∧ (∃ A2 c2, v = .slice A2 n c2 ∧ OwnN .i64 3 wr w.heap.size (.slice A2 n c2) (tabN (keyF key) n)) ∧ Below w.heap.size w wr) (fun _ v _ => 52 - lenOfV v)
  case atStart => exact ⟨0, 0, A, c, by omega, by omega, rfl, ⟨Nat.le_refl _, .inl HR.out⟩, ⟨none, 0, rfl, World.ownsRow_nil _ _ _ _⟩, Below.refl _ _⟩
  case round =>
    obtain ⟨r, n, A1, c1, hr, hn, rfl, hrd, ⟨A2, c2, rfl, hown⟩, hb⟩ := hrel
    have HRD := hid hrd
    have HOWN := hid hown
    have HB := hid hb
    clear hrd hown hb
    by_cases hlt : n < 52
    · have hn8 : n = 8 * r := by omega
      have hr6 : r ≤ 6 := by omega
      clear hn
      subst hn8
      go_wp2_with fail
      rw [show decide (8 * (r : Int) < 52) = true by simp; omega]
      go_loopw [4, 5] (fun v i wr => ∃ (j : Nat) (A2 : Option Addr) (c2 : Nat), j ≤ 8 ∧ 8 * r + j ≤ 52 ∧ i = .int .i64 (2 * j : Nat) ∧ v = .slice A2 (8 * r + j) c2 ∧ OwnN .i64 3 wr w.heap.size (.slice A2 (8 * r + j) c2) (tabN (keyF key) (8 * r + j)) ∧ Below w.heap.size w wr ∧ KeyAt wr w.heap.size A1 c1 (rowT key r)) (fun v _ _ => 52 - lenOfV v)
      case atStart => exact ⟨0, A2, c2, by omega, by omega, rfl, rfl, HOWN.out, HB.out, HRD.out⟩
      case round =>
        clear HOWN HB HRD
        obtain ⟨j, A3, c3, hj, hjn, rfl, rfl, hown, hb, hrd⟩ := hrel
        have hz := hb.size
        by_cases hgo : j < 8 ∧ 8 * r + j < 52
        · obtain ⟨hj8, hj52⟩ := hgo
          have h1 : 2 * (j : Int) < 16 := by omega
          have h2 : 2 * (j : Int) + 1 < 16 := by omega
          have h3 : (0 : Int) ≤ 2 * (j : Int) := by omega
          have h4 : (0 : Int) ≤ 2 * (j : Int) + 1 := by omega
          have h5 : (2 * (j : Int)).toNat = 2 * j := by omega
          have h6 : (2 * (j : Int) + 1).toNat = 2 * j + 1 := by omega
          have h7 : IntKind.i64.wrap (2 * (j : Int) + 1) = 2 * (j : Int) + 1 := wrap_i64 (by omega) (by omega)
          obtain ⟨b1, o1, rfl, _, hc1⟩ := hrd.rd.at_ (by omega)
          have hck1 := hc1 (2 * j) (by omega)
          have hck2 := hc1 (2 * j + 1) (by omega)
          rw [byteAt_nb] at hck1 hck2
          have r1 := nb_lt (rowT key r) (2 * j)
          have r2 := nb_lt (rowT key r) (2 * j + 1)
          have HV := hid (num_key (key := key) (r := r) hj8)
          obtain ⟨x, hx⟩ : ∃ x, nb (rowT key r) (2 * j) = x := ⟨_, rfl⟩
          obtain ⟨y, hy⟩ : ∃ y, nb (rowT key r) (2 * j + 1) = y := ⟨_, rfl⟩
          rw [hx] at hck1 r1 HV
          rw [hy] at hck2 r2 HV
          have hor := or_pair r1 r2
          have HO := hid hown
          have HB := hid hb
          have HK := hid hrd
          have HC1 := hid hck1
          have HC2 := hid hck2
          have HOR := hid hor
          clear hx hy hc1 hown hb hrd hck1 hck2 hor
          go_wp2_with fail
          refine region_upto 15 mixed rfl (by kernel_rfl) (by kernel_rfl) (by kernel_rfl) (kV (refKs r j b1 o1 c1 x y A3 c3)) (kV_keep _) (forall_ops ⟨?_, ?_, ?_, ?_, ?_, ?_, ?_, ?_, ?_, ?_, ?_, ?_, ?_, ?_, ?_, trivial⟩) ?_
          · intro a w hk
            have s4 : a.tmps.getD 4 undef = .slice A3 (8 * r + j) c3 := hk.was 4 (by kernel_rfl) rfl
            exact step_move rfl rfl s4 rfl
          · intro a w hk
            have s0 : a.tmps.getD 0 undef = .slice (some ⟨b1, o1, none⟩) 16 c1 := hk.was 0 (by kernel_rfl) rfl
            exact step_move rfl rfl s0 rfl
          · intro a w hk
            have s5 : a.tmps.getD 5 undef = .int .i64 (2 * j : Nat) := hk.was 5 (by kernel_rfl) rfl
            exact step_move rfl rfl s5 rfl
          · intro a w hk
            have s22 := hk.eq_ 1 22 (by kernel_rfl) rfl
            have s23 := hk.eq_ 2 23 (by kernel_rfl) rfl
            refine step_val (v := .pointer (some ⟨b1, o1 + 2 * j, none⟩)) (w' := w) rfl ?_ (Ext.refl w) rfl
            go_simp
          · intro a w hk
            have s24 := hk.eq_ 3 24 (by kernel_rfl) rfl
            refine step_val (v := .int .u8 x) (w' := w) rfl ?_ (Ext.refl w) rfl
            have hc := cell_later hk.ext HC1.out
            go_simp
          · intro a w hk
            have s25 := hk.eq_ 4 25 (by kernel_rfl) rfl
            refine step_val (v := .int .i64 x) (w' := w) rfl ?_ (Ext.refl w) rfl
            go_simp
            exact wrap_i64 (by omega) (by omega)
          · intro a w hk
            have s26 := hk.eq_ 5 26 (by kernel_rfl) rfl
            refine step_val (v := .int .i64 ((x : Int) * 256)) (w' := w) rfl ?_ (Ext.refl w) rfl
            go_simp
            exact wrap_i64 (by omega) (by omega)
          · intro a w hk
            have s0 : a.tmps.getD 0 undef = .slice (some ⟨b1, o1, none⟩) 16 c1 := hk.was 0 (by kernel_rfl) rfl
            exact step_move rfl rfl s0 rfl
          · intro a w hk
            have s5 : a.tmps.getD 5 undef = .int .i64 (2 * j : Nat) := hk.was 5 (by kernel_rfl) rfl
            exact step_move rfl rfl s5 rfl
          · intro a w hk
            have s29 := hk.eq_ 8 29 (by kernel_rfl) rfl
            refine step_val (v := .int .i64 (2 * j + 1 : Nat)) (w' := w) rfl ?_ (Ext.refl w) rfl
            go_simp
          · intro a w hk
            have s28 := hk.eq_ 7 28 (by kernel_rfl) rfl
            have s30 := hk.eq_ 9 30 (by kernel_rfl) rfl
            refine step_val (v := .pointer (some ⟨b1, o1 + (2 * j + 1), none⟩)) (w' := w) rfl ?_ (Ext.refl w) rfl
            go_simp
          · intro a w hk
            have s31 := hk.eq_ 10 31 (by kernel_rfl) rfl
            refine step_val (v := .int .u8 y) (w' := w) rfl ?_ (Ext.refl w) rfl
            have hc := cell_later hk.ext HC2.out
            go_simp
          · intro a w hk
            have s32 := hk.eq_ 11 32 (by kernel_rfl) rfl
            refine step_val (v := .int .i64 y) (w' := w) rfl ?_ (Ext.refl w) rfl
            go_simp
            exact wrap_i64 (by omega) (by omega)
          · intro a w hk
            have s27 := hk.eq_ 6 27 (by kernel_rfl) rfl
            have s33 := hk.eq_ 12 33 (by kernel_rfl) rfl
            refine step_val (v := .int .i64 ((x : Int) * 256 + y)) (w' := w) rfl ?_ (Ext.refl w) rfl
            have hor := HOR.out
            go_simp
          · intro a w hk
            have s34 := hk.eq_ 13 34 (by kernel_rfl) rfl
            exact step_build1 rfl rfl s34 ⟨w.heap.size, rfl, by simp, fun k hk => by obtain rfl : k = 0 := (by omega); exact (show Blk (w.alloc (.cells #[.int .i64 ((x : Int) * 256 + y)] 3)) w.heap.size 3 [(x : Int) * 256 + y] from heap_alloc_new w _).cell 0 (by simp)⟩
          · intro a w1 hf
            have s21 := hf.eq_ 0 21 (by kernel_rfl) rfl
            have s22 := hf.eq_ 1 22 (by kernel_rfl) rfl
            have s23 := hf.eq_ 2 23 (by kernel_rfl) rfl
            have s24 := hf.eq_ 3 24 (by kernel_rfl) rfl
            have s25 := hf.eq_ 4 25 (by kernel_rfl) rfl
            have s26 := hf.eq_ 5 26 (by kernel_rfl) rfl
            have s27 := hf.eq_ 6 27 (by kernel_rfl) rfl
            have s28 := hf.eq_ 7 28 (by kernel_rfl) rfl
            have s29 := hf.eq_ 8 29 (by kernel_rfl) rfl
            have s30 := hf.eq_ 9 30 (by kernel_rfl) rfl
            have s31 := hf.eq_ 10 31 (by kernel_rfl) rfl
            have s32 := hf.eq_ 11 32 (by kernel_rfl) rfl
            have s33 := hf.eq_ 12 33 (by kernel_rfl) rfl
            have s34 := hf.eq_ 13 34 (by kernel_rfl) rfl
            obtain ⟨b35, s35, h35, g35⟩ := hf.val 14 35 (by kernel_rfl) rfl
            have hx := hf.ext
            have e := hf.frame
            clear hf
            simp only [List.take_succ_cons, List.take_zero, regFrame, Act.put, List.setIfInBounds_toArray, List.set_cons_zero, List.set_cons_succ, s21, s22, s23, s24, s25, s26, s27, s28, s29, s30, s31, s32, s33, s34, s35] at e
            clear s21 s22 s23 s24 s25 s26 s27 s28 s29 s30 s31 s32 s33 s34 s35
            subst e
            simp only [List.drop_succ_cons, List.drop_zero]
            have hc35 := g35 0 (by omega)
            have hown1 := HO.out.kept hx
            have hl1 := tabN_length (keyF key) (8 * r + j)
            have HK1 := hid (HK.out.later hx)
            have HB1 := hid (HB.out.trans (Below.mono hx hz))
            have hz1 := Below.size hx
            have HT := hid (tabN_succ (keyF key) (8 * r + j))
            clear hx g35 h35
            go_wp2_with (at_builtin; refine wpL_append1 _ rfl (.tmp 21) (.tmp 35) 25 rfl Try.underlying25 Try.info3 w.heap.size _ (tabN (keyF key) (8 * r + j)) rfl hown1 b35 1 ((x : Int) * 256 + y) rfl hc35 (by omega) (by omega) ?_; intro v2 w2 hown2 hg2)
            have HB2 := hid (HB1.out.grown hg2 HB1.out.size (fun q hq => by have := (World.ownsRow.lt hown1 q hq).1; omega))
            have HK2 := hid (HK1.out.grown hown1 (Nat.le_refl _) hg2)
            have hlen : (tabN (keyF key) (8 * r + j) ++ [(x : Int) * 256 + y]).length = 8 * r + (j + 1) := by rw [List.length_append, tabN_length]; rfl
            obtain ⟨A4, c4, rfl, _, hown2⟩ := hown2.rdn hlen
            have HO2 := hid (show OwnN .i64 3 w2 w.heap.size (.slice A4 (8 * r + (j + 1)) c4) (tabN (keyF key) (8 * r + (j + 1))) by
              rw [show 8 * r + (j + 1) = 8 * r + j + 1 by omega, HT.out, HV.out]; exact hown2)
            clear hown1 hown2 hg2 hc35
            go_wp2_with fail
            go_roundw
            case rel => exact ⟨j + 1, A4, c4, by omega, by omega, by rw [show ((2 * (j + 1) : Nat) : Int) = 2 * (j : Int) + 2 by omega], rfl, HO2.out, HB2.out, HK2.out⟩
            case measure => simp [lenOfV]; omega
        · have HO := hid hown
          have HB := hid hb
          have HK := hid hrd
          clear hown hb hrd
          by_cases hj8 : j < 8
          · have h1 : 2 * (j : Int) < 16 := by omega
            clear h1
            obtain ⟨rfl, rfl⟩ : r = 6 ∧ j = 4 := by omega
            go_wp2_with fail
            refine (rturn_any A1 16 c1 25 _ _ HK.out.rd (by omega) (by omega)).mono ?_
            rintro e w5 ⟨v5, rfl, ho5, hb5⟩
            have hx5 : Ext wr w5 := hb5
            obtain ⟨A5, c5, rfl, _, ho5⟩ := ho5.rdn (n := 16) (turnL_length _ _ _ _)
            have HH := hid (show KeyAt w5 w.heap.size A5 c5 (rowT key (6 + 1)) ∧ OwnN .i64 3 w5 w.heap.size (.slice A3 (8 * 6 + 4) c3) (tabN (keyF key) (8 * 6 + 4)) ∧ Below w.heap.size w w5 from
              ⟨⟨by have := Below.size hx5; omega, .inr ⟨turnL_length _ _ _ _, ho5.base_mono hz⟩⟩, HO.out.kept hx5, HB.out.trans (Below.mono hx5 hz)⟩)
            clear ho5 hb5 hx5
            go_wp2_with fail
            go_roundw
            case rel => exact ⟨7, _, A5, c5, by omega, by omega, rfl, HH.out.1, ⟨A3, c3, rfl, HH.out.2.1⟩, HH.out.2.2⟩
            case measure => simp [lenOfV]
          · obtain rfl : j = 8 := by omega
            go_wp2_with fail
            refine (rturn_any A1 16 c1 25 _ _ HK.out.rd (by omega) (by omega)).mono ?_
            rintro e w5 ⟨v5, rfl, ho5, hb5⟩
            have hx5 : Ext wr w5 := hb5
            obtain ⟨A5, c5, rfl, _, ho5⟩ := ho5.rdn (n := 16) (turnL_length _ _ _ _)
            have HH := hid (show KeyAt w5 w.heap.size A5 c5 (rowT key (r + 1)) ∧ OwnN .i64 3 w5 w.heap.size (.slice A3 (8 * r + 8) c3) (tabN (keyF key) (8 * r + 8)) ∧ Below w.heap.size w w5 from
              ⟨⟨by have := Below.size hx5; omega, .inr ⟨turnL_length _ _ _ _, ho5.base_mono hz⟩⟩, HO.out.kept hx5, HB.out.trans (Below.mono hx5 hz)⟩)
            clear ho5 hb5 hx5
            go_wp2_with fail
            go_roundw
            case rel => exact ⟨r + 1, 8 * r + 8, A5, c5, by omega, by omega, rfl, HH.out.1, ⟨A3, c3, rfl, HH.out.2.1⟩, HH.out.2.2⟩
            case measure => simp [lenOfV]; omega
    · obtain rfl : n = 52 := by omega
      obtain ⟨A9, c9, e9, hc9, hr9, _⟩ := HOWN.out.rdc (tabN_length _ _)
      cases e9
      have HH := hid (And.intro hr9 (show Ext w wr from HB.out))
      clear hr9 hn hlt
      go_wp2_with fail
      go_ret2
      exact ⟨A2, c2, rfl, hc9, HH.out.1, HH.out.2⟩
end Go.Proofs.Ytamolgbdpnpemaa
