/- Walk over Block of the program; own lemmas of the verifier, no statement is proved here. -/
import Derived.Test.YtgkfohgeelfceaaDoorX6
namespace Go.Proofs.YtgkfohgeelfceaaDoor
open Go.RowKit
theorem cf36 (vs : Array Value) (w : World) : (callFunc 36 vs).run Tryd.prog w = .ok (.enter 36 vs) w := by go_simp
theorem cf35 (vs : Array Value) (w : World) : (callFunc 35 vs).run Tryd.prog w = .ok (.enter 35 vs) w := by go_simp
/-- Two rows of bytes, and own bytes, in a slot. -/
def RowP (xs ys : List UInt8) (w : World) (v : Value) : Prop := ∃ b, v = .slice (some ⟨b, 0, none⟩) 2 2 ∧ RowsB w b 0 [xs, ys]
theorem RowP.keep (xs ys : List UInt8) : ∀ w w' v, Ext w w' → RowP xs ys w v → RowP xs ys w' v := fun _ _ _ hx ⟨b, h1, h2⟩ => ⟨b, h1, h2.later hx⟩
def OwnP (base : Nat) (bs : List UInt8) (w : World) (v : Value) : Prop := ∃ u, v = u ∧ Own w base u bs
theorem OwnP.keep (base : Nat) (bs : List UInt8) : ∀ w w' v, Ext w w' → OwnP base bs w v → OwnP base bs w' v := fun _ _ _ hx ⟨u, h1, h2⟩ => ⟨u, h1, h2.kept hx⟩
theorem build25 (A1 A2 : Option Addr) (c1 c2 : Nat) (w : World) : (Instr.buildSlice 25 2 #[(0, .slice A1 4 c1), (1, .slice A2 4 c2)]).run Tryd.prog w = .ok (.slice (some ⟨w.heap.size, 0, none⟩) 2 2) (w.alloc (.cells #[.slice A1 4 c1, .slice A2 4 c2] 22)) := by go_simp
theorem concat2 {w : World} {b : Nat} {xs ys : List UInt8} (h : RowsB w b 0 [xs, ys]) (hl : xs.length + ys.length = 8) :
    Calls Tryd.prog 35 #[.slice (some ⟨b, 0, none⟩) 2 2] w (RetB w (xs ++ ys)) := by
  have hf : ([xs, ys] : List (List UInt8)).flatten = xs ++ ys := by simp
  have h1 := concatB_any b 0 2 2 [xs, ys] w rfl h (by rw [hf, List.length_append]; omega) (by rw [hf, List.length_append]; omega) (by omega)
  rw [hf] at h1
  exact h1
theorem retOwn {w : World} {bs : List UInt8} {H : Nat} (hH : H ≤ w.heap.size) (e : Ending) (w' : World) (h : RetB w bs e w') : ∃ v, e = .returned v ∧ Ext w w' ∧ K.holds (.gen (OwnP H bs) (OwnP.keep _ _)) w' v := by
  obtain ⟨v, rfl, ho, hb⟩ := h
  exact ⟨v, rfl, hb, v, rfl, ho.base_mono hH⟩
theorem ownN_heap {kd : IntKind} {e : TypeId} {w : World} {base g n : Nat} {L : List Int} (h : OwnN kd e w base (.slice (some ⟨g, 0, none⟩) n n) L) : w.heap[g]? = some (.cells (cN kd L).toArray e (0, 0)) := by
  have hl := h.len_eq
  rcases h.2 with ⟨h1, _⟩ | ⟨g', cap, cur, h1, _, hh, hnc, _, hcs, htake⟩
  · cases h1
  · simp only [Value.slice.injEq, Option.some.injEq, Addr.mk.injEq, and_true] at h1
    obtain ⟨rfl, h2, rfl⟩ := h1
    rw [hh]
    have e1 : cur.toList.take (L.length * 1) = cur.toList := List.take_of_length_le (by simp; omega)
    have e2 : cur.toList = cN kd L := by rw [← e1]; exact htake
    congr 2
    apply Array.ext'
    rw [e2]
/-- What Block hands back: own memory. -/
def BlkRet (w : World) (bs : List UInt8) (e : Ending) (w' : World) : Prop := ∃ v, e = .returned (.tuple #[v, .int .i64 0]) ∧ Own w' w.heap.size v bs ∧ Ext w w'
def blk7 (p G H : Nat) (t : T3) (y : W2) : List K := [.eq (.pointer (some ⟨p, 0, none⟩)), .eq (.pointer (some ⟨p, 0, none⟩)), .eq (.pointer (some ⟨p, 0, none⟩)), .eq (.int .i64 t.code), .eq (.pointer (some ⟨G, 0, none⟩)), .eq (.int .u32 (y.a.toNat : Nat)), .byt 4 (put t y.a), .eq (.pointer (some ⟨p, 0, none⟩)), .eq (.pointer (some ⟨p, 0, none⟩)), .eq (.pointer (some ⟨p, 0, none⟩)), .eq (.int .i64 t.code), .eq (.pointer (some ⟨G, 1, none⟩)), .eq (.int .u32 (y.b.toNat : Nat)), .byt 4 (put t y.b), .gen (RowP (put t y.a) (put t y.b)) (RowP.keep _ _), .gen (OwnP H (outW t y)) (OwnP.keep _ _), .gen (OwnP H (outW t y)) (OwnP.keep _ _), .eq (Value.int IntKind.i64 0)]
set_option maxHeartbeats 1000000 in
theorem block_bad (p : Nat) (A : Option Addr) (n cc : Nat) (back : Bool) (w : World) (h : n ≠ 8) :
    Calls Tryd.prog 18 #[.pointer (some ⟨p, 0, none⟩), .slice A n cc, .bool back] w fun e w' => e = .returned (.tuple #[.slice none 0 0, .int .i64 1]) ∧ Ext w w' := by
  have g : ((n : Int) != 8) = true := by simp; omega
  go_enter Tryd.func18, Tryd.ntmps18
  go_wp2
  go_ret2
  exact ⟨rfl, Ext.refl _⟩
set_option maxRecDepth 100000 in
set_option maxHeartbeats 4000000 in
theorem blockT_any (p b o c : Nat) (t : T3) (ah : W2) (ks : List UInt32) (A : Option Addr) (cc : Nat) (bs : List UInt8) (w : World) (hs : Small_ w p b o c t ah ks) (hn : ks.length ≤ 1000) (hG : GRows w)
    (h : Rd w w.heap.size A 8 bs) (hc8 : 8 ≤ cc) (hcb : cc ≤ 9223372036854775807) :
    Calls Tryd.prog 18 #[.pointer (some ⟨p, 0, none⟩), .slice A 8 cc, .bool false] w (BlkRet w (outW t (thereW t ah ks (inW t bs)))) := by
  have HS := hid hs
  have hs0 := hid hs
  have HGR := hid hG
  have ct := hs.tag
  have hcut := cut_any t A 2 cc bs w h (by omega) (by omega) hcb
  rw [show 4 * 2 = 8 from rfl] at hcut
  obtain ⟨T, hT⟩ : ∃ T, t.code = T := ⟨_, rfl⟩
  rw [hT] at ct hcut
  have HCUT := hid hcut
  have HT := hid hT
  clear hs hG h hcut hT
  go_enter Tryd.func18, Tryd.ntmps18
  go_wp2_with fail
  refine HCUT.out.mono ?_
  rintro e w1 ⟨rfl, ho1, hx1⟩
  have hrow : w1.heap[w.heap.size]? = some (.cells (inW t bs).cells 43 (0, 0)) := ownN_heap ho1
  obtain ⟨x, hx⟩ : ∃ x, inW t bs = x := ⟨_, rfl⟩
  rw [hx] at hrow
  have HXX := hid hx
  have HX1 := hid (show Ext w w1 from hx1)
  have HROW := hid hrow
  have HAT := hid (fun w' => run_arrayAt (P := Tryd.prog) w' 58 43 2 (some ⟨w.heap.size, 0, none⟩) 2 2 Tryd.underlying58 (Nat.le_refl _))
  have hb2 : B2 ((w1.alloc (.cells #[.int .u32 0, .int .u32 0] 58)).setRow w1.heap.size x.cells) w1.heap.size x := B2.put (show B2 _ _ ⟨0, 0⟩ from heap_alloc_new w1 _) x
  have hz1 := Below.size hx1
  have hx2 : Ext w ((w1.alloc (.cells #[.int .u32 0, .int .u32 0] 58)).setRow w1.heap.size x.cells) := Below.setRow_ (Ext.trans hx1 (Ext.alloc _ _)) hz1 _
  have HB2 := hid hb2
  have HX2 := hid hx2
  have HS2 := hid (HS.out.later hx2)
  have HG2 := hid (HGR.out.later hx2)
  have HZ1 := hid hz1
  clear ho1 hx1 hrow HCUT ct hx hb2 hx2 hz1 HS HGR
  go_wp2_with (first
    | (rw [HAT.out]; simp only [Result.andThen]; rw [Oper.upon_value])
    | (refine wpList_load_row rfl 58 (.tmp 18) rfl w.heap.size rfl 43 x.cells (0, 0) _ HROW.out Tryd.underlying58 rfl (W2.size x) ?_)
    | (refine wpList_store_row rfl 58 (.tmp 8) (.tmp 19) rfl w1.heap.size x.cells rfl rfl 58 _ (heap_alloc_new w1 _) (W2.size x) rfl (W2.all x) ?_)
    | (refine wpList_load_row rfl 58 (.tmp 8) rfl w1.heap.size rfl 58 x.cells (0, 0) _ HB2.out Tryd.underlying58 rfl (W2.size x) ?_))
  refine (turn_any p b o c t ah ks x _ HS2.out hn HG2.out).mono ?_
  rintro e w3 ⟨rfl, hx3⟩
  obtain ⟨y, hy⟩ : ∃ y, thereW t ah ks x = y := ⟨_, rfl⟩
  have HYY := hid hy
  rw [hy]
  have hb3 := HB2.out.later hx3
  have HB3 := hid hb3
  have HB4 := hid (hb3.put y)
  have HX4 := hid (Below.setRow_ (Ext.trans HX2.out hx3) HZ1.out y.cells : Below w.heap.size w (w3.setRow w1.heap.size y.cells))
  have HSW := hid (hs0.out.later (show Ext w _ from HX4.out))
  clear hb3 hx3 hy HX2 HS2 HG2 HROW HAT HB2
  go_wp2_with (refine wpList_store_row rfl 58 (.tmp 8) (.tmp 26) rfl w1.heap.size y.cells rfl rfl 58 _ HB3.out (W2.size y) rfl (W2.all y) ?_)
  obtain ⟨W4, hW4⟩ : ∃ W4, w3.setRow w1.heap.size y.cells = W4 := ⟨_, rfl⟩
  rw [hW4] at HB4 HX4 HSW ⊢
  obtain ⟨G, hGe⟩ : ∃ G, w1.heap.size = G := ⟨_, rfl⟩
  rw [hGe] at HB4 ⊢
  obtain ⟨H, hHe⟩ : ∃ H, w.heap.size = H := ⟨_, rfl⟩
  have HHE := hid hHe
  have HB := hid HB4.out
  have HSM := hid HSW.out
  have HH0 := hid (show H ≤ W4.heap.size by rw [← hHe]; exact Below.size HX4.out)
  clear hW4 hGe HB3 HZ1 HB4 HSW hHe
  refine region_inv mixed rfl (by kernel_rfl) (kV (blk7 p G H t y)) (kV_keep _) (forall_ops ⟨?_, ?_, ?_, ?_, ?_, ?_, ?_, ?_, ?_, ?_, ?_, ?_, ?_, ?_, ?_, ?_, ?_, ?_, trivial⟩) ?_
  · intro a w hk
    have s0 : a.tmps.getD 0 undef = .pointer (some ⟨p, 0, none⟩) := hk.was 0 (by kernel_rfl) rfl
    exact step_move rfl rfl s0 rfl
  · intro a w hk
    have s27 := hk.eq_ 0 27 (by kernel_rfl) rfl
    refine step_val (v := .pointer (some ⟨p, 0, none⟩)) (w' := w) rfl ?_ (Ext.refl w) rfl
    go_simp
  · intro a w hk
    have s28 := hk.eq_ 1 28 (by kernel_rfl) rfl
    refine step_val (v := .pointer (some ⟨p, 0, none⟩)) (w' := w) rfl ?_ (Ext.refl w) rfl
    go_simp
  · intro a w hk
    have s29 := hk.eq_ 2 29 (by kernel_rfl) rfl
    refine step_val (v := .int .i64 t.code) (w' := w) rfl ?_ (Ext.refl w) rfl
    have hc := (HSM.out.later hk.ext).tag
    go_simp
  · intro a w hk
    have s8 : a.tmps.getD 8 undef = .pointer (some ⟨G, 0, none⟩) := hk.was 8 (by kernel_rfl) rfl
    refine step_val (v := .pointer (some ⟨G, 0, none⟩)) (w' := w) rfl ?_ (Ext.refl w) rfl
    go_simp
  · intro a w hk
    have s31 := hk.eq_ 4 31 (by kernel_rfl) rfl
    refine step_val (v := .int .u32 (y.a.toNat : Nat)) (w' := w) rfl ?_ (Ext.refl w) rfl
    have hc := (HB.out.later hk.ext).ca
    go_simp
  · intro a w hk
    have s30 := hk.eq_ 3 30 (by kernel_rfl) rfl
    have s32 := hk.eq_ 5 32 (by kernel_rfl) rfl
    exact step_call rfl rfl (by simp only [List.map_toArray, List.map_cons, List.map_nil, Act.eval, s30, s32] <;> rfl) cf36 (spreadT_any t y.a w) (fun e w1 h => RetB.k (put_length t y.a) e w1 h)
  · intro a w hk
    have s0 : a.tmps.getD 0 undef = .pointer (some ⟨p, 0, none⟩) := hk.was 0 (by kernel_rfl) rfl
    exact step_move rfl rfl s0 rfl
  · intro a w hk
    have s34 := hk.eq_ 7 34 (by kernel_rfl) rfl
    refine step_val (v := .pointer (some ⟨p, 0, none⟩)) (w' := w) rfl ?_ (Ext.refl w) rfl
    go_simp
  · intro a w hk
    have s35 := hk.eq_ 8 35 (by kernel_rfl) rfl
    refine step_val (v := .pointer (some ⟨p, 0, none⟩)) (w' := w) rfl ?_ (Ext.refl w) rfl
    go_simp
  · intro a w hk
    have s36 := hk.eq_ 9 36 (by kernel_rfl) rfl
    refine step_val (v := .int .i64 t.code) (w' := w) rfl ?_ (Ext.refl w) rfl
    have hc := (HSM.out.later hk.ext).tag
    go_simp
  · intro a w hk
    have s8 : a.tmps.getD 8 undef = .pointer (some ⟨G, 0, none⟩) := hk.was 8 (by kernel_rfl) rfl
    refine step_val (v := .pointer (some ⟨G, 1, none⟩)) (w' := w) rfl ?_ (Ext.refl w) rfl
    go_simp
  · intro a w hk
    have s38 := hk.eq_ 11 38 (by kernel_rfl) rfl
    refine step_val (v := .int .u32 (y.b.toNat : Nat)) (w' := w) rfl ?_ (Ext.refl w) rfl
    have hc := (HB.out.later hk.ext).cb
    go_simp
  · intro a w hk
    have s37 := hk.eq_ 10 37 (by kernel_rfl) rfl
    have s39 := hk.eq_ 12 39 (by kernel_rfl) rfl
    exact step_call rfl rfl (by simp only [List.map_toArray, List.map_cons, List.map_nil, Act.eval, s37, s39] <;> rfl) cf36 (spreadT_any t y.b w) (fun e w1 h => RetB.k (put_length t y.b) e w1 h)
  · intro a w hk
    obtain ⟨A33, c33, s33, r33⟩ := hk.byt_ 6 33 (by kernel_rfl) rfl
    obtain ⟨A40, c40, s40, r40⟩ := hk.byt_ 13 40 (by kernel_rfl) rfl
    refine step_val (v := .slice (some ⟨w.heap.size, 0, none⟩) 2 2) (w' := w.alloc (.cells #[.slice A33 4 c33, .slice A40 4 c40] 22)) rfl ?_ (Ext.alloc _ _) ⟨_, rfl, RowsB.two w A33 A40 4 4 c33 c40 22 _ _ r33 r40⟩
    have e := build25 A33 A40 c33 c40 w
    simp only [execOp, Act.eval, List.map_toArray, List.map_cons, List.map_nil, s33, s40, Sem.run_bind, e, Sem.run_pure, Result.andThen]
  · intro a w hk
    obtain ⟨b41, s41, g41⟩ := hk.val 14 41 (by kernel_rfl) rfl
    exact step_call rfl rfl (by simp only [List.map_toArray, List.map_cons, List.map_nil, Act.eval, s41] <;> rfl) cf35 (concat2 g41 (by simp [put_length])) (fun e w1 h => retOwn (Nat.le_trans HH0.out (Below.size hk.ext)) e w1 h)
  · intro a w hk
    obtain ⟨u42, s42, g42⟩ := hk.val 15 42 (by kernel_rfl) rfl
    exact step_assign rfl rfl s42 ⟨_, rfl, g42⟩
  · intro a w hk
    exact step_assign rfl rfl rfl rfl
  · intro a w1 hf
    have s27 := hf.eq_ 0 27 (by kernel_rfl) rfl
    have s28 := hf.eq_ 1 28 (by kernel_rfl) rfl
    have s29 := hf.eq_ 2 29 (by kernel_rfl) rfl
    have s30 := hf.eq_ 3 30 (by kernel_rfl) rfl
    have s31 := hf.eq_ 4 31 (by kernel_rfl) rfl
    have s32 := hf.eq_ 5 32 (by kernel_rfl) rfl
    obtain ⟨A33, c33, s33, r33⟩ := hf.val 6 33 (by kernel_rfl) rfl
    have s34 := hf.eq_ 7 34 (by kernel_rfl) rfl
    have s35 := hf.eq_ 8 35 (by kernel_rfl) rfl
    have s36 := hf.eq_ 9 36 (by kernel_rfl) rfl
    have s37 := hf.eq_ 10 37 (by kernel_rfl) rfl
    have s38 := hf.eq_ 11 38 (by kernel_rfl) rfl
    have s39 := hf.eq_ 12 39 (by kernel_rfl) rfl
    obtain ⟨A40, c40, s40, r40⟩ := hf.val 13 40 (by kernel_rfl) rfl
    obtain ⟨b41, s41, g41⟩ := hf.val 14 41 (by kernel_rfl) rfl
    obtain ⟨u42, s42, g42⟩ := hf.val 15 42 (by kernel_rfl) rfl
    obtain ⟨u6, s6, g6⟩ := hf.val 16 6 (by kernel_rfl) rfl
    have s7 := hf.eq_ 17 7 (by kernel_rfl) rfl
    have hx := hf.ext
    have e := hf.frame
    clear hf
    simp only [regFrame, Act.put, List.setIfInBounds_toArray, List.set_cons_zero, List.set_cons_succ, s27, s28, s29, s30, s31, s32, s33, s34, s35, s36, s37, s38, s39, s40, s41, s42, s6, s7] at e
    clear s27 s28 s29 s30 s31 s32 s33 s34 s35 s36 s37 s38 s39 s40 s41 s42 s6 s7
    subst e
    have HO := hid g6
    have HE := hid (Ext.trans HX4.out hx)
    have HHE2 := HHE.out
    clear g42 g6 g41 r33 r40 hx
    subst HHE2
    go_wp2_with fail
    go_ret2
    exact ⟨u6, rfl, by rw [HXX.out, HYY.out]; exact HO.out, HE.out⟩
set_option maxRecDepth 100000 in
set_option maxHeartbeats 4000000 in
theorem blockB_any (p b o c : Nat) (t : T3) (ah : W2) (ks : List UInt32) (A : Option Addr) (cc : Nat) (bs : List UInt8) (w : World) (hs : Small_ w p b o c t ah ks) (hn : ks.length ≤ 1000) (hG : GRows w)
    (h : Rd w w.heap.size A 8 bs) (hc8 : 8 ≤ cc) (hcb : cc ≤ 9223372036854775807) :
    Calls Tryd.prog 18 #[.pointer (some ⟨p, 0, none⟩), .slice A 8 cc, .bool true] w (BlkRet w (outW t (backW t ah ks (inW t bs)))) := by
  have HS := hid hs
  have hs0 := hid hs
  have HGR := hid hG
  have ct := hs.tag
  have hcut := cut_any t A 2 cc bs w h (by omega) (by omega) hcb
  rw [show 4 * 2 = 8 from rfl] at hcut
  obtain ⟨T, hT⟩ : ∃ T, t.code = T := ⟨_, rfl⟩
  rw [hT] at ct hcut
  have HCUT := hid hcut
  have HT := hid hT
  clear hs hG h hcut hT
  go_enter Tryd.func18, Tryd.ntmps18
  go_wp2_with fail
  refine HCUT.out.mono ?_
  rintro e w1 ⟨rfl, ho1, hx1⟩
  have hrow : w1.heap[w.heap.size]? = some (.cells (inW t bs).cells 43 (0, 0)) := ownN_heap ho1
  obtain ⟨x, hx⟩ : ∃ x, inW t bs = x := ⟨_, rfl⟩
  rw [hx] at hrow
  have HXX := hid hx
  have HX1 := hid (show Ext w w1 from hx1)
  have HROW := hid hrow
  have HAT := hid (fun w' => run_arrayAt (P := Tryd.prog) w' 58 43 2 (some ⟨w.heap.size, 0, none⟩) 2 2 Tryd.underlying58 (Nat.le_refl _))
  have hb2 : B2 ((w1.alloc (.cells #[.int .u32 0, .int .u32 0] 58)).setRow w1.heap.size x.cells) w1.heap.size x := B2.put (show B2 _ _ ⟨0, 0⟩ from heap_alloc_new w1 _) x
  have hz1 := Below.size hx1
  have hx2 : Ext w ((w1.alloc (.cells #[.int .u32 0, .int .u32 0] 58)).setRow w1.heap.size x.cells) := Below.setRow_ (Ext.trans hx1 (Ext.alloc _ _)) hz1 _
  have HB2 := hid hb2
  have HX2 := hid hx2
  have HS2 := hid (HS.out.later hx2)
  have HG2 := hid (HGR.out.later hx2)
  have HZ1 := hid hz1
  clear ho1 hx1 hrow HCUT ct hx hb2 hx2 hz1 HS HGR
  go_wp2_with (first
    | (rw [HAT.out]; simp only [Result.andThen]; rw [Oper.upon_value])
    | (refine wpList_load_row rfl 58 (.tmp 18) rfl w.heap.size rfl 43 x.cells (0, 0) _ HROW.out Tryd.underlying58 rfl (W2.size x) ?_)
    | (refine wpList_store_row rfl 58 (.tmp 8) (.tmp 19) rfl w1.heap.size x.cells rfl rfl 58 _ (heap_alloc_new w1 _) (W2.size x) rfl (W2.all x) ?_)
    | (refine wpList_load_row rfl 58 (.tmp 8) rfl w1.heap.size rfl 58 x.cells (0, 0) _ HB2.out Tryd.underlying58 rfl (W2.size x) ?_))
  refine (turnBack_any p b o c t ah ks x _ HS2.out hn HG2.out).mono ?_
  rintro e w3 ⟨rfl, hx3⟩
  obtain ⟨y, hy⟩ : ∃ y, backW t ah ks x = y := ⟨_, rfl⟩
  have HYY := hid hy
  rw [hy]
  have hb3 := HB2.out.later hx3
  have HB3 := hid hb3
  have HB4 := hid (hb3.put y)
  have HX4 := hid (Below.setRow_ (Ext.trans HX2.out hx3) HZ1.out y.cells : Below w.heap.size w (w3.setRow w1.heap.size y.cells))
  have HSW := hid (hs0.out.later (show Ext w _ from HX4.out))
  clear hb3 hx3 hy HX2 HS2 HG2 HROW HAT HB2
  go_wp2_with (refine wpList_store_row rfl 58 (.tmp 8) (.tmp 23) rfl w1.heap.size y.cells rfl rfl 58 _ HB3.out (W2.size y) rfl (W2.all y) ?_)
  obtain ⟨W4, hW4⟩ : ∃ W4, w3.setRow w1.heap.size y.cells = W4 := ⟨_, rfl⟩
  rw [hW4] at HB4 HX4 HSW ⊢
  obtain ⟨G, hGe⟩ : ∃ G, w1.heap.size = G := ⟨_, rfl⟩
  rw [hGe] at HB4 ⊢
  obtain ⟨H, hHe⟩ : ∃ H, w.heap.size = H := ⟨_, rfl⟩
  have HHE := hid hHe
  have HB := hid HB4.out
  have HSM := hid HSW.out
  have HH0 := hid (show H ≤ W4.heap.size by rw [← hHe]; exact Below.size HX4.out)
  clear hW4 hGe HB3 HZ1 HB4 HSW hHe
  refine region_inv mixed rfl (by kernel_rfl) (kV (blk7 p G H t y)) (kV_keep _) (forall_ops ⟨?_, ?_, ?_, ?_, ?_, ?_, ?_, ?_, ?_, ?_, ?_, ?_, ?_, ?_, ?_, ?_, ?_, ?_, trivial⟩) ?_
  · intro a w hk
    have s0 : a.tmps.getD 0 undef = .pointer (some ⟨p, 0, none⟩) := hk.was 0 (by kernel_rfl) rfl
    exact step_move rfl rfl s0 rfl
  · intro a w hk
    have s27 := hk.eq_ 0 27 (by kernel_rfl) rfl
    refine step_val (v := .pointer (some ⟨p, 0, none⟩)) (w' := w) rfl ?_ (Ext.refl w) rfl
    go_simp
  · intro a w hk
    have s28 := hk.eq_ 1 28 (by kernel_rfl) rfl
    refine step_val (v := .pointer (some ⟨p, 0, none⟩)) (w' := w) rfl ?_ (Ext.refl w) rfl
    go_simp
  · intro a w hk
    have s29 := hk.eq_ 2 29 (by kernel_rfl) rfl
    refine step_val (v := .int .i64 t.code) (w' := w) rfl ?_ (Ext.refl w) rfl
    have hc := (HSM.out.later hk.ext).tag
    go_simp
  · intro a w hk
    have s8 : a.tmps.getD 8 undef = .pointer (some ⟨G, 0, none⟩) := hk.was 8 (by kernel_rfl) rfl
    refine step_val (v := .pointer (some ⟨G, 0, none⟩)) (w' := w) rfl ?_ (Ext.refl w) rfl
    go_simp
  · intro a w hk
    have s31 := hk.eq_ 4 31 (by kernel_rfl) rfl
    refine step_val (v := .int .u32 (y.a.toNat : Nat)) (w' := w) rfl ?_ (Ext.refl w) rfl
    have hc := (HB.out.later hk.ext).ca
    go_simp
  · intro a w hk
    have s30 := hk.eq_ 3 30 (by kernel_rfl) rfl
    have s32 := hk.eq_ 5 32 (by kernel_rfl) rfl
    exact step_call rfl rfl (by simp only [List.map_toArray, List.map_cons, List.map_nil, Act.eval, s30, s32] <;> rfl) cf36 (spreadT_any t y.a w) (fun e w1 h => RetB.k (put_length t y.a) e w1 h)
  · intro a w hk
    have s0 : a.tmps.getD 0 undef = .pointer (some ⟨p, 0, none⟩) := hk.was 0 (by kernel_rfl) rfl
    exact step_move rfl rfl s0 rfl
  · intro a w hk
    have s34 := hk.eq_ 7 34 (by kernel_rfl) rfl
    refine step_val (v := .pointer (some ⟨p, 0, none⟩)) (w' := w) rfl ?_ (Ext.refl w) rfl
    go_simp
  · intro a w hk
    have s35 := hk.eq_ 8 35 (by kernel_rfl) rfl
    refine step_val (v := .pointer (some ⟨p, 0, none⟩)) (w' := w) rfl ?_ (Ext.refl w) rfl
    go_simp
  · intro a w hk
    have s36 := hk.eq_ 9 36 (by kernel_rfl) rfl
    refine step_val (v := .int .i64 t.code) (w' := w) rfl ?_ (Ext.refl w) rfl
    have hc := (HSM.out.later hk.ext).tag
    go_simp
  · intro a w hk
    have s8 : a.tmps.getD 8 undef = .pointer (some ⟨G, 0, none⟩) := hk.was 8 (by kernel_rfl) rfl
    refine step_val (v := .pointer (some ⟨G, 1, none⟩)) (w' := w) rfl ?_ (Ext.refl w) rfl
    go_simp
  · intro a w hk
    have s38 := hk.eq_ 11 38 (by kernel_rfl) rfl
    refine step_val (v := .int .u32 (y.b.toNat : Nat)) (w' := w) rfl ?_ (Ext.refl w) rfl
    have hc := (HB.out.later hk.ext).cb
    go_simp
  · intro a w hk
    have s37 := hk.eq_ 10 37 (by kernel_rfl) rfl
    have s39 := hk.eq_ 12 39 (by kernel_rfl) rfl
    exact step_call rfl rfl (by simp only [List.map_toArray, List.map_cons, List.map_nil, Act.eval, s37, s39] <;> rfl) cf36 (spreadT_any t y.b w) (fun e w1 h => RetB.k (put_length t y.b) e w1 h)
  · intro a w hk
    obtain ⟨A33, c33, s33, r33⟩ := hk.byt_ 6 33 (by kernel_rfl) rfl
    obtain ⟨A40, c40, s40, r40⟩ := hk.byt_ 13 40 (by kernel_rfl) rfl
    refine step_val (v := .slice (some ⟨w.heap.size, 0, none⟩) 2 2) (w' := w.alloc (.cells #[.slice A33 4 c33, .slice A40 4 c40] 22)) rfl ?_ (Ext.alloc _ _) ⟨_, rfl, RowsB.two w A33 A40 4 4 c33 c40 22 _ _ r33 r40⟩
    have e := build25 A33 A40 c33 c40 w
    simp only [execOp, Act.eval, List.map_toArray, List.map_cons, List.map_nil, s33, s40, Sem.run_bind, e, Sem.run_pure, Result.andThen]
  · intro a w hk
    obtain ⟨b41, s41, g41⟩ := hk.val 14 41 (by kernel_rfl) rfl
    exact step_call rfl rfl (by simp only [List.map_toArray, List.map_cons, List.map_nil, Act.eval, s41] <;> rfl) cf35 (concat2 g41 (by simp [put_length])) (fun e w1 h => retOwn (Nat.le_trans HH0.out (Below.size hk.ext)) e w1 h)
  · intro a w hk
    obtain ⟨u42, s42, g42⟩ := hk.val 15 42 (by kernel_rfl) rfl
    exact step_assign rfl rfl s42 ⟨_, rfl, g42⟩
  · intro a w hk
    exact step_assign rfl rfl rfl rfl
  · intro a w1 hf
    have s27 := hf.eq_ 0 27 (by kernel_rfl) rfl
    have s28 := hf.eq_ 1 28 (by kernel_rfl) rfl
    have s29 := hf.eq_ 2 29 (by kernel_rfl) rfl
    have s30 := hf.eq_ 3 30 (by kernel_rfl) rfl
    have s31 := hf.eq_ 4 31 (by kernel_rfl) rfl
    have s32 := hf.eq_ 5 32 (by kernel_rfl) rfl
    obtain ⟨A33, c33, s33, r33⟩ := hf.val 6 33 (by kernel_rfl) rfl
    have s34 := hf.eq_ 7 34 (by kernel_rfl) rfl
    have s35 := hf.eq_ 8 35 (by kernel_rfl) rfl
    have s36 := hf.eq_ 9 36 (by kernel_rfl) rfl
    have s37 := hf.eq_ 10 37 (by kernel_rfl) rfl
    have s38 := hf.eq_ 11 38 (by kernel_rfl) rfl
    have s39 := hf.eq_ 12 39 (by kernel_rfl) rfl
    obtain ⟨A40, c40, s40, r40⟩ := hf.val 13 40 (by kernel_rfl) rfl
    obtain ⟨b41, s41, g41⟩ := hf.val 14 41 (by kernel_rfl) rfl
    obtain ⟨u42, s42, g42⟩ := hf.val 15 42 (by kernel_rfl) rfl
    obtain ⟨u6, s6, g6⟩ := hf.val 16 6 (by kernel_rfl) rfl
    have s7 := hf.eq_ 17 7 (by kernel_rfl) rfl
    have hx := hf.ext
    have e := hf.frame
    clear hf
    simp only [regFrame, Act.put, List.setIfInBounds_toArray, List.set_cons_zero, List.set_cons_succ, s27, s28, s29, s30, s31, s32, s33, s34, s35, s36, s37, s38, s39, s40, s41, s42, s6, s7] at e
    clear s27 s28 s29 s30 s31 s32 s33 s34 s35 s36 s37 s38 s39 s40 s41 s42 s6 s7
    subst e
    have HO := hid g6
    have HE := hid (Ext.trans HX4.out hx)
    have HHE2 := HHE.out
    clear g42 g6 g41 r33 r40 hx
    subst HHE2
    go_wp2_with fail
    go_ret2
    exact ⟨u6, rfl, by rw [HXX.out, HYY.out]; exact HO.out, HE.out⟩
end Go.Proofs.YtgkfohgeelfceaaDoor
