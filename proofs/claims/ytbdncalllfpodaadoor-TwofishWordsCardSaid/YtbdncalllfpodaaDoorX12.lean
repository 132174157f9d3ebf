/- Walk over gather of the program: the words of bytes; own lemmas of the verifier, no statement is proved here. -/
import Derived.Test.YtbdncalllfpodaaDoorX11
namespace Go.Proofs.YtbdncalllfpodaaDoor
open Go.RowKit Go.Shelf
attribute [local go_sem] Oper.semAt_some
/-- The words of bytes. -/
def gW (bs : List UInt8) (m : Nat) : List UInt32 := (List.range m).map fun j => wdL bs (4 * j)
theorem gW_length (bs : List UInt8) (m : Nat) : (gW bs m).length = m := by simp [gW]
theorem finRange_map {α : Type} (m : Nat) (f : Nat → α) : (List.finRange m).map (fun j => f j.1) = (List.range m).map f := by
  apply List.ext_getElem
  · simp
  · intro i h1 h2
    simp
theorem le_wd4 (L : List UInt8) : le L 4 4 = ((wd4 (bl L)).toNat : Int) := by
  rw [wd4_toNat (bl_lt L), le4]
  simp only [wdN, byteAt_bl]
  omega
/-- Words are handed back. -/
def WRet (w : World) (ks : List UInt32) (e : Ending) (w' : World) : Prop := ∃ v, e = .returned v ∧ OwnW w' w.heap.size v ks ∧ Ext w w'
theorem rd_four {w : World} {B n b o j : Nat} {bs : List UInt8} (h : Rd w B (some ⟨b, o, none⟩) n bs) (hj : 4 * j + 4 ≤ n) : ∃ L : List UInt8, Rd w B (some ⟨b, o + 4 * j, none⟩) 4 L ∧ wd4 (bl L) = wdL bs (4 * j) := by
  obtain ⟨b', o', e, hb, hc⟩ := h.at_ (by omega)
  cases e
  have hl := h.len
  refine ⟨(bs.drop (4 * j)).take 4, ⟨by simp; omega, fun _ => ⟨b, o + 4 * j, rfl, hb, fun k hk => ?_⟩⟩, ?_⟩
  · have := hc (4 * j + k) (by omega)
    have e2 : byteAt ((bs.drop (4 * j)).take 4) k = byteAt bs (4 * j + k) := by unfold byteAt; simp [List.getD, hk]
    rw [e2, ← this]
    congr 2; omega
  · unfold wdL wd4
    congr 1
    exact wdN_congr 4 fun i hi => by unfold bl; simp [List.getD, hi]
/-- Behind an append and the store into its box: what is neither the row nor the box keeps its cells. -/
theorem kp_appended {W w1 : World} {tmp : Obj} {v v' : Value} {B n₀ B1 B2 : Nat} (hgrow : (W.alloc tmp).grownBy w1 v.ownBlock) (h : ∀ q, (q < n₀ ∨ q = B1 ∨ q = B2) → q ≠ B ∧ q < W.heap.size ∧ some q ≠ v.ownBlock) : KpC n₀ B1 B2 W (w1.setCell ⟨B, 0, none⟩ v') := fun p hp => by
  obtain ⟨h1, h2, h3⟩ := h p.block hp
  refine World.cell?_of_block (w := W) ?_
  rw [heap_setCell_other w1 ⟨B, 0, none⟩ p.block v' h1, hgrow.block p.block (by rw [World.size_alloc]; omega) h3]
  exact Below.heap_alloc W tmp p.block h2
/-- What gather holds between two rounds. -/
def GI (m : Nat) (f : Nat → UInt32) (w : World) (B : Nat) (sv : Value) (pre : List (Fin m)) (W : World) : Prop :=
  (∃ v, Boxed W B 24 v ∧ OwnN .u32 37 W w.heap.size v (nW (pre.map fun j => f j.1))) ∧ (Boxed W (B + 1) 22 sv ∧ Boxed W (B + 1 + 1) 3 (.int .i64 4)) ∧ Below w.heap.size w W
theorem boxed_from {B' : Nat} {W W' : World} {row : Option Nat} {B : Nat} {t : TypeId} {v : Value} (h : Boxed W B t v) (hg : W.grownBy W' row) (hr : ∀ r, row = some r → B' ≤ r ∧ ∃ o : Obj, W.heap[r]? = some o ∧ o.isCells = false) : Boxed W' B t v :=
  h.kept hg (fun e' => by obtain ⟨_, o, ho, hc⟩ := hr _ e'.symm; rw [show W.heap[B]? = _ from h] at ho; cases ho; cases hc)
theorem ownN_from {B' base : Nat} {W W' : World} {row : Option Nat} {kd : IntKind} {e : TypeId} {v : Value} {xs : List Int} (h : OwnN kd e W base v xs) (hg : W.grownBy W' row) (hr : ∀ r, row = some r → B' ≤ r ∧ ∃ o : Obj, W.heap[r]? = some o ∧ o.isCells = false) : OwnN kd e W' base v xs := by
  refine World.ownsRow.kept h hg ?_
  rcases h.2 with ⟨rfl, _⟩ | ⟨g, cap, cur, rfl, _, hgb, _⟩
  · exact .inl rfl
  · refine .inr fun e' => ?_
    obtain ⟨_, o, ho, hc⟩ := hr g (by simpa [Value.ownBlock] using e'.symm)
    rw [hgb] at ho; cases ho; cases hc
theorem gi_own {m : Nat} {f : Nat → UInt32} {w W4 : World} {B : Nat} {sv : Value} (h : w.heap.size ≤ W4.heap.size) : OwnFrom W4.heap.size (GI m f w B sv) := by
  intro s W W' row hs hg hr
  obtain ⟨⟨v, hv, hrow⟩, ⟨h2, h3⟩, h4⟩ := hs
  exact ⟨⟨v, boxed_from hv hg hr, ownN_from hrow hg hr⟩, ⟨boxed_from h2 hg hr, boxed_from h3 hg hr⟩, h4.grown hg h4.size (fun k e => Nat.le_trans h (hr k e).1)⟩
theorem gi_start {m : Nat} {f : Nat → UInt32} {w W4 : World} {B : Nat} {sv V0 : Value} (h1 : Boxed W4 B 24 V0) (h2 : OwnN .u32 37 W4 w.heap.size V0 []) (h3 : Boxed W4 (B + 1) 22 sv ∧ Boxed W4 (B + 1 + 1) 3 (.int .i64 4)) (h4 : Below w.heap.size w W4) : GI m f w B sv [] W4 :=
  ⟨⟨V0, h1, h2⟩, h3, h4⟩
set_option maxRecDepth 100000 in
set_option maxHeartbeats 4000000 in
theorem gather_f (b o m c : Nat) (f : Nat → UInt32) (w : World) (h : ∀ j, j < m → ∃ L : List UInt8, Rd w w.heap.size (some ⟨b, o + 4 * j, none⟩) 4 L ∧ le L 4 4 = ((f j).toNat : Int)) (hm2 : m ≤ 1000) (hc : 4 * m ≤ c) :
    Calls Tryd.prog 25 #[.slice (some ⟨b, o, none⟩) (4 * m : Nat) c] w (WRet w ((List.range m).map f)) := by
  obtain ⟨i0, hi, hz0, hz1, hz2⟩ := info_parts Tryd.info37
  have HRD := hid h
  obtain ⟨L, hL⟩ : ∃ L, 4 * m = L := ⟨_, rfl⟩
  have hLm : (L : Int) / 4 = (m : Int) := by omega
  rw [hL]
  have HL := hid hL
  clear h hL
  refine (callsIn_wide (n := 6)).1 ?_
  refine callsIn_of_wp_marks Tryd.func25 rfl trivial ?_ rfl
  simp only [Tryd.ntmps25, List.size_toArray, List.length_cons, List.length_nil, Nat.reduceAdd, Nat.reduceSub, Array.replicate_succ, Array.replicate_zero, List.push_toArray, List.append_toArray, List.nil_append, List.cons_append]
  gi_wp2_with (first
    | (gi_at_make; refine wpListIn_make_own _ rfl (.const (.int .i64 0)) (.tmp 9) 24 rfl w.heap.size 37 i0 (.int .u32 0) 1 Tryd.underlying24 hi hz0 hz1 .i64 .i64 m m rfl rfl rfl (by rw [hz2]; omega) (by unfold maxLen; omega) (Nat.le_refl _) ?_; intro w1 hown1 hg1; have HO := hid hown1; have HG := hid hg1; clear hown1 hg1)
    | (refine ⟨trivial, ?_⟩; gi_at_call 24; refine (callsIn_wide.2 (chunk_any _ _ _ 4 _ (by omega))).mono ?_; rintro e w' ⟨rfl, rfl⟩))
  have hB1 : Below w.heap.size w w1 := (Below.refl _ _).grown HG.out (Nat.le_refl _) (fun k e => by cases e)
  have hsz := hB1.size
  obtain ⟨V0, hV0⟩ : ∃ V0, Value.slice (some ⟨w.heap.size, 0, none⟩) 0 m = V0 := ⟨_, rfl⟩
  have HO0 := hid (show w1.ownsRow w.heap.size 37 1 V0 0 [] by rw [← hV0]; exact HO.out)
  obtain ⟨sv, hsv⟩ : ∃ sv, Value.slice (some ⟨b, o, none⟩) (L : Nat) c = sv := ⟨_, rfl⟩
  have bO := Boxed.new w1 24 V0
  have bS := Boxed.new (w1.alloc (.cells #[V0] 24)) 22 sv
  have bN := Boxed.new ((w1.alloc (.cells #[V0] 24)).alloc (.cells #[sv] 22)) 3 (.int .i64 4)
  rw [World.size_alloc] at bS bN
  rw [World.size_alloc] at bN
  rw [hV0, hsv]
  obtain ⟨W4, hW4⟩ : ∃ W4, ((w1.alloc (.cells #[V0] 24)).alloc (.cells #[sv] 22)).alloc (.cells #[.int .i64 4] 3) = W4 := ⟨_, rfl⟩
  have hs4 : W4.heap.size = w1.heap.size + 3 := by rw [← hW4]; simp
  have bO4 : Boxed W4 w1.heap.size 24 V0 := by rw [← hW4]; exact (bO.alloc _).alloc _
  have bS4 : Boxed W4 (w1.heap.size + 1) 22 sv := by rw [← hW4]; exact bS.alloc _
  have bN4 : Boxed W4 (w1.heap.size + 1 + 1) 3 (.int .i64 4) := by rw [← hW4]; exact bN
  have hB4 : Below w.heap.size w W4 := by
    rw [← hW4]
    exact ((hB1.alloc (by omega) _).alloc (by simp; omega) _).alloc (by simp; omega) _
  have hO4 : W4.ownsRow w.heap.size 37 1 V0 0 [] := by
    rw [← hW4]
    exact ((HO0.out.alloc _).alloc _).alloc _
  rw [hW4]
  have HB4 := hid hB4
  have HBX := hid (And.intro bO4 (And.intro bS4 bN4))
  have HO4 := hid hO4
  have HS4 := hid hs4
  obtain ⟨B, hBe⟩ : ∃ B, w1.heap.size = B := ⟨_, rfl⟩
  rw [hBe] at bO4 bS4 bN4 hs4 hsz HBX ⊢
  clear hW4 bO bS bN hB1 HO HG HO0 hBe HS4
  have hmc : 4 * m ≤ c := hc
  have hcs : W4.cell? ⟨B + 1, 0, none⟩ = some (.slice (some ⟨b, o, none⟩) (4 * m : Nat) c) := by
    rw [HL.out, hsv]; exact bS4.cell
  have hcn := bN4.cell
  have hq1 : B + 1 < W4.heap.size := by omega
  have hq2 : B + 1 + 1 < W4.heap.size := by omega
  have hq3 : w.heap.size ≤ W4.heap.size := by omega
  have hseq := chunk_stops (6 - 1) (B + 1) (B + 1 + 1) w.heap.size b o 4 m c (by omega) (by omega) (by omega) hm2 hmc W4 hq1 hq2 hcs hcn
  have hown := @gi_own m f w W4 B sv hq3
  have hI0 := @gi_start m f w W4 B sv V0 HBX.out.1 HO4.out HBX.out.2 HB4.out
  have hkb := @kpC_b w.heap.size (B + 1) (B + 1 + 1) W4 hq3 hq1 hq2
  refine wpIn_rangeFunc_ownG (Kp := KpC w.heap.size (B + 1) (B + 1 + 1)) rfl (by omega) (gf := 42) (lb := #[.pointer (some ⟨B + 1, 0, none⟩), .pointer (some ⟨B + 1 + 1, 0, none⟩)]) rfl trivial (enters_of Tryd.func42 (by kernel_rfl) rfl)
    hseq kpC_t hkb (Below.refl _ _) (fun _ => rfl) (GI m f w B sv) (fun _ _ _ => False) hown (fun _ _ _ _ _ hs _ _ => hs) hI0
    (fun x => { tmps := #[sv, undef, .slice none 0 0, .pointer (some ⟨B, 0, none⟩), .slice (some ⟨b, o + 4 * x.1, none⟩) 4 4, undef, undef, sv, .int .i64 L, .int .i64 m, V0, sv, .func (.func 42) #[] #[.pointer (some ⟨B + 1, 0, none⟩), .pointer (some ⟨B + 1 + 1, 0, none⟩)], .slice (some ⟨b, o + 4 * x.1, none⟩) 4 4, undef, undef, undef, undef, undef, undef, undef, undef, undef, undef], defers := [] }) ?assign ?body ?done ?stop
  case assign =>
    intro l x W K hK
    gi_wp2
    exact hK
  case body =>
    intro l pre x W hIW hlt
    obtain ⟨⟨v, hv, hrow⟩, ⟨hbs, hbn⟩, hB⟩ := hIW
    obtain ⟨L4, hrd, hle⟩ := HRD.out x.1 x.2
    have hrdW := hrd.later (show Ext w W from hB)
    have hc := hv.cell
    have hle2 : le32N L4 4 = ((f x.1).toNat : Int) := by unfold le32N; rw [if_pos rfl]; exact hle
    have hWs := hB.size
    obtain ⟨xs, hxs⟩ : ∃ xs, nW (pre.map fun j => f j.1) = xs := ⟨_, rfl⟩
    have hxl : xs.length = pre.length := by rw [← hxs]; simp [nW]
    rw [hxs] at hrow
    have hnx : nW ((pre ++ [x]).map fun j => f j.1) = xs ++ [((f x.1).toNat : Int)] := by rw [List.map_append, nW_append, hxs]; rfl
    obtain ⟨y, hy⟩ : ∃ y, f x.1 = y := ⟨_, rfl⟩
    rw [hy] at hle2 hnx
    have HNX := hid hnx
    have HRW := hid hrdW
    have HLE := hid hle2
    have HBS := hid hbs
    have HBN := hid hbn
    have HBB := hid hB
    have hrow2 : W.ownsRow w.heap.size 37 1 v xs.length (cN .u32 xs) := hrow
    have hxm : xs.length + 1 ≤ 1000 := by omega
    clear hle hle2 hnx hxs hy hrd hrdW hbs hbn hB hlt hxl
    gi_wp2_with (first
      | (refine ⟨trivial, ?_⟩; gi_at_call 43; refine (CallsIn.inRound l (callsIn_wide.2 (le32_any _ 4 _ _ L4 _ HRW.out (by omega)))).mono ?_; rintro e w' ⟨rfl, rfl⟩; rw [HLE.out])
      | (gi_at_builtin; refine wpListIn_append_own _ rfl _ _ 24 rfl w.heap.size 37 i0 (.int .u32 0) 1 4 Tryd.underlying24 hi hz0 hz1 hz2 rfl (by decide) _ _ _ rfl (hrow2.alloc _) ⟨W.heap.size, 0, none⟩ 1 1 [.int .u32 (y.toNat : Nat)] rfl rfl (cell_one_new _ _ _) (by simp [Value.oneCell']) (by unfold maxLen; omega) (by omega) (by simp; omega) ?_; intro v' w1 hown' hgrow _; obtain ⟨g', cap', rfl⟩ := ownsRow_succ hown'; obtain ⟨hv1, hv2, hr2, hk2, hb2⟩ := hv.appended (by decide) hrow2 hWs hsz hown' hgrow; have hc1 := hv1.cell; have hf1 := hv1.frozen))
    have hnr : ∀ {q t u}, Boxed W q t u → t ≠ 37 → some q ≠ v.ownBlock := fun hb ht => hb.not_row ht hrow2
    refine ⟨hk2.from _, kp_appended hgrow (fun q hq => ?_), ⟨⟨_, hv2, ?_⟩, ⟨?_, ?_⟩, HBB.out.trans hb2⟩⟩
    · rcases hq with hq | rfl | rfl
      · refine ⟨by omega, by omega, fun e => ?_⟩
        have := (World.ownsRow.lt hrow2 q e.symm).1
        omega
      · exact ⟨by omega, HBS.out.lt, hnr HBS.out (by decide)⟩
      · exact ⟨by omega, HBN.out.lt, hnr HBN.out (by decide)⟩
    · rw [HNX.out]
      unfold OwnN
      rw [List.length_append, cN_append]
      exact hr2
    · exact ((HBS.out.alloc _).kept hgrow (hnr HBS.out (by decide))).other (by omega) _
    · exact ((HBN.out.alloc _).kept hgrow (hnr HBN.out (by decide))).other (by omega) _
  case done =>
    rintro D ys W hD rfl hIW hK
    obtain ⟨⟨v, hv, hrow⟩, _, hB⟩ := hIW
    have hc := hv.cell
    gi_wp2
    refine ⟨by simp, .inl ⟨_, _, rfl, run_takeDeferred hK, ?_⟩⟩
    rw [finRange_map m f] at hrow
    exact ⟨_, results_tmp rfl _ _ _, v, rfl, ownsRow_putObj hrow _ hK rfl, hB.trans (belowK_b (w := w) (Nat.le_refl _) W D _ _ (by omega) hK rfl rfl)⟩
  case stop =>
    rintro D c pre W _ _ h _
    exact h.elim
theorem gatherW_any (b o m c : Nat) (bs : List UInt8) (w : World) (h : Rd w w.heap.size (some ⟨b, o, none⟩) (4 * m) bs) (hm2 : m ≤ 1000) (hc : 4 * m ≤ c) :
    Calls Tryd.prog 25 #[.slice (some ⟨b, o, none⟩) (4 * m : Nat) c] w (WRet w (gW bs m)) :=
  gather_f b o m c (fun j => wdL bs (4 * j)) w (fun j hj => by
    obtain ⟨L, h1, h2⟩ := rd_four (j := j) h (by omega)
    exact ⟨L, h1, by rw [le_wd4, h2]⟩) hm2 hc
end Go.Proofs.YtbdncalllfpodaaDoor
