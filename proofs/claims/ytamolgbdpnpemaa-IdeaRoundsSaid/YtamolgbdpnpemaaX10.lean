/- Walk over New of the program; own lemmas of the verifier, no statement is proved here. -/
import Derived.Test.YtamolgbdpnpemaaX9
import Derived.Deep.MidRow
namespace Go.Proofs.Ytamolgbdpnpemaa
open Go.RowKit
theorem build56 (k l : Nat → Nat) (w : World) : (Instr.build 56 #[(0, .agg (cN .i64 (tabN k 52)).toArray), (1, .agg (cN .i64 (tabN l 52)).toArray)]).run Try.prog w = .ok (.agg (cN .i64 (tabN k 52 ++ tabN l 52)).toArray) w := by kernel_rfl
theorem s53 (k : Nat → Nat) : (Try.prog.info? 53).map (·.size) = some (cN .i64 (tabN k 52)).toArray.size := size53 _ (tabN_length _ _)
theorem exec_load53 {o : Oper} {a : Act} {w : World} {t : Tmp} {B : Nat} {e : TypeId} {k : Nat → Nat} (ho : o.op = .load 53 (.tmp t)) (ht : a.tmps.getD t undef = .pointer (some ⟨B, 0, none⟩)) (hA : Blk w B e (tabN k 52)) :
    (execOp a.eval o).run Try.prog w = .ok (.value (.agg (cN .i64 (tabN k 52)).toArray)) w := by
  have h := run_loadVar_row (P := Try.prog) w B e 53 (cN .i64 (tabN k 52)).toArray (0, 0) _ hA Try.underlying53 rfl (s53 k)
  unfold execOp
  simp only [ho, Act.eval, ht, Instr.loadAt, Instr.sureAddr, Sem.run_bind, Sem.run_pure, Result.andThen_ok, h]
/-- The program's Idea, of keys k. -/
def IsIdea (w : World) (p : Nat) (k : Nat → Nat) : Prop := Blk w p 56 (tabN k 52 ++ tabN (undF k) 52)
theorem IsIdea.later {w w' : World} {p : Nat} {k : Nat → Nat} (h : IsIdea w p k) (hx : Ext w w') : IsIdea w' p k := Blk.later h hx
/-- What New hands back. -/
def NewRet (w : World) (key : List UInt8) (e : Ending) (w' : World) : Prop :=
  ∃ p, e = .returned (.tuple #[.pointer (some ⟨p, 0, none⟩), .int .i64 0]) ∧ IsIdea w' p (keyF key) ∧ Ext w w'
set_option maxHeartbeats 400000 in
theorem new_bad (A : Option Addr) (n c : Nat) (w : World) (h : n ≠ 16) :
    Calls Try.prog 17 #[.slice A n c] w fun e w' => e = .returned (.tuple #[.pointer none, .int .i64 4]) ∧ Ext w w' := by
  go_enter Try.func17, Try.ntmps17
  go_wp2_with fail
  refine (keys_bad A n c _ h).mono ?_
  rintro e w1 ⟨rfl, hx1⟩
  have HX1 := hid hx1
  clear hx1
  go_wp2_with fail
  go_ret2
  exact ⟨rfl, HX1.out⟩
def newKs (Hz : Nat) (k : Nat → Nat) : List K := [.eq (.agg (cN .i64 (tabN k 52)).toArray), .eq (.agg (cN .i64 (tabN k 52)).toArray), .eq (.agg (cN .i64 (tabN (undF k) 52)).toArray), .eq (.agg (cN .i64 (tabN k 52 ++ tabN (undF k) 52)).toArray), .new Hz (cN .i64 (tabN k 52 ++ tabN (undF k) 52)).toArray 56, .new Hz (cN .i64 (tabN k 52 ++ tabN (undF k) 52)).toArray 56, .eq (Value.int IntKind.i64 0)]
set_option maxRecDepth 100000 in
set_option maxHeartbeats 4000000 in
theorem new_any (A : Option Addr) (c : Nat) (key : List UInt8) (w : World) (h : Rd w w.heap.size A 16 key) :
    Calls Try.prog 17 #[.slice A 16 c] w (NewRet w key) := by
  have HR := hid h
  have HL := hid (keyF_lt key)
  clear h
  go_enter Try.func17, Try.ntmps17
  go_wp2_with fail
  refine (keys_any A c key _ HR.out).mono ?_
  obtain ⟨k, hk⟩ : ∃ k, keyF key = k := ⟨_, rfl⟩
  rintro e w1 ⟨g, rfl, hg, hb, hx⟩
  rw [hk] at HL hb
  have HKK := hid hk
  clear hk
  have HG := hid hb
  have HX1 := hid hx
  have HAT := hid (fun w => run_arrayAt (P := Try.prog) w 53 3 52 (some ⟨g, 0, none⟩) 52 52 Try.underlying53 (Nat.le_refl _))
  have HS := hid (s53 k)
  clear hb hx hg
  go_wp2_with (first
    | (rw [HAT.out]; simp only [Result.andThen]; rw [Oper.upon_value])
    | (refine wpList_load_row rfl 53 (.tmp 16) rfl g rfl 3 (cN .i64 (tabN k 52)).toArray (0, 0) _ HG.out Try.underlying53 rfl HS.out ?_)
    | (refine wpList_store_row rfl 53 (.tmp 6) (.tmp 17) rfl w1.heap.size (cN .i64 (tabN k 52)).toArray rfl rfl 53 _ (heap_alloc_new _ _) HS.out (by rw [cN_size, tabN_length]; rfl) (cN_all _) ?_))
  obtain ⟨W2, hW2⟩ : ∃ W2, (w1.alloc (.cells #[.int .i64 0, .int .i64 0, .int .i64 0, .int .i64 0, .int .i64 0, .int .i64 0, .int .i64 0, .int .i64 0, .int .i64 0, .int .i64 0, .int .i64 0, .int .i64 0, .int .i64 0, .int .i64 0, .int .i64 0, .int .i64 0, .int .i64 0, .int .i64 0, .int .i64 0, .int .i64 0, .int .i64 0, .int .i64 0, .int .i64 0, .int .i64 0, .int .i64 0, .int .i64 0, .int .i64 0, .int .i64 0, .int .i64 0, .int .i64 0, .int .i64 0, .int .i64 0, .int .i64 0, .int .i64 0, .int .i64 0, .int .i64 0, .int .i64 0, .int .i64 0, .int .i64 0, .int .i64 0, .int .i64 0, .int .i64 0, .int .i64 0, .int .i64 0, .int .i64 0, .int .i64 0, .int .i64 0, .int .i64 0, .int .i64 0, .int .i64 0, .int .i64 0, .int .i64 0] 53)).setRow w1.heap.size (cN .i64 (tabN k 52)).toArray = W2 := ⟨_, rfl⟩
  have hb2 : Blk W2 w1.heap.size 53 (tabN k 52) := by rw [← hW2]; exact setRow_heap _ _ _ _ _ _ (heap_alloc_new w1 (.cells #[.int .i64 0, .int .i64 0, .int .i64 0, .int .i64 0, .int .i64 0, .int .i64 0, .int .i64 0, .int .i64 0, .int .i64 0, .int .i64 0, .int .i64 0, .int .i64 0, .int .i64 0, .int .i64 0, .int .i64 0, .int .i64 0, .int .i64 0, .int .i64 0, .int .i64 0, .int .i64 0, .int .i64 0, .int .i64 0, .int .i64 0, .int .i64 0, .int .i64 0, .int .i64 0, .int .i64 0, .int .i64 0, .int .i64 0, .int .i64 0, .int .i64 0, .int .i64 0, .int .i64 0, .int .i64 0, .int .i64 0, .int .i64 0, .int .i64 0, .int .i64 0, .int .i64 0, .int .i64 0, .int .i64 0, .int .i64 0, .int .i64 0, .int .i64 0, .int .i64 0, .int .i64 0, .int .i64 0, .int .i64 0, .int .i64 0, .int .i64 0, .int .i64 0, .int .i64 0] 53))
  have hx2 : Ext w W2 := by rw [← hW2]; exact Below.setRow_ (HX1.out.trans (Ext.alloc _ _)) (by have := Below.size HX1.out; omega) _
  rw [hW2]
  obtain ⟨g6, hg6⟩ : ∃ g, w1.heap.size = g := ⟨_, rfl⟩
  rw [hg6] at hb2 ⊢
  obtain ⟨Hz, hHz⟩ : ∃ Hz, W2.heap.size = Hz := ⟨_, rfl⟩
  have HB := hid hb2
  have HX2 := hid hx2
  have HZ := hid hHz
  clear hb2 hx2 hW2 hg6 hHz HX1 HG HR
  refine region_inv mixed rfl (by kernel_rfl) (kV (newKs Hz k)) (kV_keep _) (forall_ops ⟨?_, ?_, ?_, ?_, ?_, ?_, ?_, trivial⟩) ?_
  · intro a w hk
    have s6 : a.tmps.getD 6 undef = .pointer (some ⟨g6, 0, none⟩) := hk.was 6 (by kernel_rfl) rfl
    refine step_val (v := .agg (cN .i64 (tabN k 52)).toArray) (w' := w) rfl ?_ (Ext.refl w) rfl
    exact exec_load53 rfl s6 (HB.out.later hk.ext)
  · intro a w hk
    have s6 : a.tmps.getD 6 undef = .pointer (some ⟨g6, 0, none⟩) := hk.was 6 (by kernel_rfl) rfl
    refine step_val (v := .agg (cN .i64 (tabN k 52)).toArray) (w' := w) rfl ?_ (Ext.refl w) rfl
    exact exec_load53 rfl s6 (HB.out.later hk.ext)
  · intro a w hk
    have s19 := hk.eq_ 1 19 (by kernel_rfl) rfl
    exact step_call rfl rfl (by simp only [List.map_toArray, List.map_cons, List.map_nil, Act.eval, s19] <;> rfl) cf25 (undoing_any k w HL.out) (fun e w1 h => retX e w1 h)
  · intro a w hk
    have s18 := hk.eq_ 0 18 (by kernel_rfl) rfl
    have s20 := hk.eq_ 2 20 (by kernel_rfl) rfl
    refine step_val (v := .agg (cN .i64 (tabN k 52 ++ tabN (undF k) 52)).toArray) (w' := w) rfl ?_ (Ext.refl w) rfl
    have e := build56 k (undF k) w
    simp only [execOp, Act.eval, List.map_toArray, List.map_cons, List.map_nil, s18, s20, Sem.run_bind, e, Sem.run_pure, Result.andThen]
  · intro a w hk
    have s21 := hk.eq_ 3 21 (by kernel_rfl) rfl
    refine step_val (v := .pointer (some ⟨w.heap.size, 0, none⟩)) (w' := w.alloc (.cells (cN .i64 (tabN k 52 ++ tabN (undF k) 52)).toArray 56)) rfl ?_ (Ext.alloc _ _) ⟨w.heap.size, rfl, by have := HZ.out; have := Below.size hk.ext; omega, heap_alloc_new w _⟩
    go_simp
  · intro a w hk
    obtain ⟨b22, s22, h22, g22⟩ := hk.val 4 22 (by kernel_rfl) rfl
    exact step_assign rfl rfl s22 ⟨_, rfl, h22, g22⟩
  · intro a w hk
    exact step_assign rfl rfl rfl rfl
  · intro a w1 hf
    have s18 := hf.eq_ 0 18 (by kernel_rfl) rfl
    have s19 := hf.eq_ 1 19 (by kernel_rfl) rfl
    have s20 := hf.eq_ 2 20 (by kernel_rfl) rfl
    have s21 := hf.eq_ 3 21 (by kernel_rfl) rfl
    obtain ⟨b22, s22, h22, g22⟩ := hf.val 4 22 (by kernel_rfl) rfl
    obtain ⟨b2, s2, h2, g2⟩ := hf.val 5 2 (by kernel_rfl) rfl
    have s3 := hf.eq_ 6 3 (by kernel_rfl) rfl
    have hx := hf.ext
    have e := hf.frame
    clear hf
    simp only [regFrame, Act.put, List.setIfInBounds_toArray, List.set_cons_zero, List.set_cons_succ, s18, s19, s20, s21, s22, s2, s3] at e
    clear s18 s19 s20 s21 s22 s2 s3
    subst e
    have HH := hid (show IsIdea w1 b2 k ∧ Ext w w1 from ⟨g2, HX2.out.trans hx⟩)
    clear g22 g2 hx
    go_wp2_with fail
    go_ret2
    exact ⟨b2, rfl, by rw [HKK.out]; exact HH.out.1, HH.out.2⟩
end Go.Proofs.Ytamolgbdpnpemaa
