/- Walk over Block of the program; own lemmas of the verifier, no statement is proved here. -/
import Derived.Test.YtamolgbdpnpemaaX10
namespace Go.Proofs.Ytamolgbdpnpemaa
open Go.RowKit
theorem exec_load57c {o : Oper} {a : Act} {w : World} {t : Tmp} {B : Nat} {e : TypeId} {x : F4} (ho : o.op = .load 57 (.tmp t)) (ht : a.tmps.getD t undef = .pointer (some ⟨B, 0, none⟩)) (hA : w.heap[B]? = some (.cells x.cells e (0, 0))) :
    (execOp a.eval o).run Try.prog w = .ok (.value (.agg x.cells)) w := by
  have h := run_loadVar_row (P := Try.prog) w B e 57 x.cells (0, 0) _ hA Try.underlying57 rfl (F4.size x)
  unfold execOp
  simp only [ho, Act.eval, ht, Instr.loadAt, Instr.sureAddr, Sem.run_bind, Sem.run_pure, Result.andThen_ok, h]
theorem alloc_size (w : World) (o : Obj) : (w.alloc o).heap.size = w.heap.size + 1 := by simp
def F4.nth (x : F4) (j : Nat) : Nat := match j with
  | 0 => x.a
  | 1 => x.b
  | 2 => x.c
  | _ => x.d
theorem nth_lt {x : F4} (h : x.ok) (j : Nat) : x.nth j < 65536 := by
  unfold F4.nth
  split
  · exact h.a
  · exact h.b
  · exact h.c
  · exact h.d
def outK (x : F4) : Nat → List UInt8
  | 0 => []
  | j + 1 => outK x j ++ two (x.nth j)
theorem outK_length (x : F4) : ∀ j, (outK x j).length = 2 * j
  | 0 => rfl
  | j + 1 => by rw [outK, List.length_append, outK_length x j]; rfl
theorem run_index57 (x : F4) (j : Nat) (w : World) (h : j < 4) : (Instr.index 57 (.agg x.cells) (.int .i64 (j : Nat))).run Try.prog w = .ok (.int .i64 (x.nth j : Nat)) w := by
  match j, h with
  | 0, _ => exact (show (Instr.index 57 (.agg x.cells) (.int .i64 ((0 : Nat) : Int))).run Try.prog w = .ok (.int .i64 (x.a : Nat)) w by kernel_rfl)
  | 1, _ => exact (show (Instr.index 57 (.agg x.cells) (.int .i64 ((1 : Nat) : Int))).run Try.prog w = .ok (.int .i64 (x.b : Nat)) w by kernel_rfl)
  | 2, _ => exact (show (Instr.index 57 (.agg x.cells) (.int .i64 ((2 : Nat) : Int))).run Try.prog w = .ok (.int .i64 (x.c : Nat)) w by kernel_rfl)
  | 3, _ => exact (show (Instr.index 57 (.agg x.cells) (.int .i64 ((3 : Nat) : Int))).run Try.prog w = .ok (.int .i64 (x.d : Nat)) w by kernel_rfl)
theorem IsIdea.there {w : World} {p : Nat} {k : Nat → Nat} (h : IsIdea w p k) : w.rangeAt p 0 (cN .i64 (tabN k 52)) := fun j v hv => by
  have hj : j < 52 := by
    rcases Nat.lt_or_ge j 52 with h1 | h1
    · exact h1
    · rw [List.getElem?_eq_none (by rw [cN_length, tabN_length]; exact h1)] at hv; cases hv
  rw [Nat.zero_add, cell_of_row w p j _ _ _ h, cN_append, List.getElem?_toArray, List.getElem?_append_left (by rw [cN_length, tabN_length]; exact hj)]
  exact hv
theorem IsIdea.back {w : World} {p : Nat} {k : Nat → Nat} (h : IsIdea w p k) : w.rangeAt p 52 (cN .i64 (tabN (undF k) 52)) := fun j v hv => by
  rw [cell_of_row w p (52 + j) _ _ _ h, cN_append, List.getElem?_toArray, List.getElem?_append_right (by rw [cN_length, tabN_length]; omega), cN_length, tabN_length, show 52 + j - 52 = j by omega]
  exact hv
theorem byte_lo (n : Nat) : IntKind.u8.wrap (n : Int) = ((UInt8.ofNat n).toNat : Int) := by
  rw [UInt8.toNat_ofNat']
  simp [IntKind.wrap, IntKind.bits, IntKind.signed]
theorem byte_hi {n : Nat} (_h : n < 65536) : IntKind.u8.wrap ((n : Int) / 256) = ((UInt8.ofNat (n / 256)).toNat : Int) := by
  rw [← byte_lo]
  rfl
/-- What Block hands back. -/
def BlkRet (w : World) (bs : List UInt8) (e : Ending) (w' : World) : Prop :=
  ∃ A c, e = .returned (.tuple #[.slice A 8 c, .int .i64 0]) ∧ 8 ≤ c ∧ Rd w' w'.heap.size A 8 bs ∧ Ext w w'
def blkKs (A : Option Addr) (c g8 : Nat) (b : List UInt8) (kk : Nat → Nat) : List K := [.eq (.slice A 8 c), .num g8 4 (inF b).cells, .new 0 (inF b).cells 3, .eq (.agg (inF b).cells), .eq (.slice (some ⟨g8, 0, none⟩) 52 52), .eq (.agg (passF kk (inF b)).cells), .eq (Value.int IntKind.i64 0)]
set_option maxRecDepth 100000 in
set_option maxHeartbeats 8000000 in
theorem block_there (A : Option Addr) (p c : Nat) (b : List UInt8) (k : Nat → Nat) (w : World) (hd : IsIdea w p k) (hl : ∀ i, k i < 65536) (h : Rd w w.heap.size A 8 b) :
    Calls Try.prog 18 #[.pointer (some ⟨p, 0, none⟩), .slice A 8 c, .bool false] w (BlkRet w (outL (passF k (inF b)))) := by
  have HR0 := hid h
  have HRG := hid (hd.there)
  have HS := hid (s53 k)
  have HB0 := hid (show Blk ((w.alloc (.cells #[.int .i64 0, .int .i64 0, .int .i64 0, .int .i64 0, .int .i64 0, .int .i64 0, .int .i64 0, .int .i64 0, .int .i64 0, .int .i64 0, .int .i64 0, .int .i64 0, .int .i64 0, .int .i64 0, .int .i64 0, .int .i64 0, .int .i64 0, .int .i64 0, .int .i64 0, .int .i64 0, .int .i64 0, .int .i64 0, .int .i64 0, .int .i64 0, .int .i64 0, .int .i64 0, .int .i64 0, .int .i64 0, .int .i64 0, .int .i64 0, .int .i64 0, .int .i64 0, .int .i64 0, .int .i64 0, .int .i64 0, .int .i64 0, .int .i64 0, .int .i64 0, .int .i64 0, .int .i64 0, .int .i64 0, .int .i64 0, .int .i64 0, .int .i64 0, .int .i64 0, .int .i64 0, .int .i64 0, .int .i64 0, .int .i64 0, .int .i64 0, .int .i64 0, .int .i64 0] 53)).setRow w.heap.size (cN .i64 (tabN k 52)).toArray) w.heap.size 53 (tabN k 52) from setRow_heap _ _ _ _ _ _ (heap_alloc_new w (.cells #[.int .i64 0, .int .i64 0, .int .i64 0, .int .i64 0, .int .i64 0, .int .i64 0, .int .i64 0, .int .i64 0, .int .i64 0, .int .i64 0, .int .i64 0, .int .i64 0, .int .i64 0, .int .i64 0, .int .i64 0, .int .i64 0, .int .i64 0, .int .i64 0, .int .i64 0, .int .i64 0, .int .i64 0, .int .i64 0, .int .i64 0, .int .i64 0, .int .i64 0, .int .i64 0, .int .i64 0, .int .i64 0, .int .i64 0, .int .i64 0, .int .i64 0, .int .i64 0, .int .i64 0, .int .i64 0, .int .i64 0, .int .i64 0, .int .i64 0, .int .i64 0, .int .i64 0, .int .i64 0, .int .i64 0, .int .i64 0, .int .i64 0, .int .i64 0, .int .i64 0, .int .i64 0, .int .i64 0, .int .i64 0, .int .i64 0, .int .i64 0, .int .i64 0, .int .i64 0] 53)))
  have HL := hid (hl)
  clear hd h hl
  go_enter Try.func18, Try.ntmps18
  go_wp2_with (first
    | (refine wpList_load_mid rfl 53 (.tmp 17) rfl p 0 rfl (cN .i64 (tabN k 52)) _ HRG.out Try.underlying53 rfl (by rw [HS.out]; simp) ?_)
    | (refine wpList_store_row rfl 53 (.tmp 8) (.tmp 18) rfl w.heap.size (cN .i64 (tabN k 52)).toArray rfl rfl 53 _ (heap_alloc_new _ _) HS.out (by rw [cN_size, tabN_length]; rfl) (cN_all _) ?_)
    | (at_make; refine wpList_make_own _ rfl (.const (.int .i64 0)) (.const (.int .i64 8)) 22 rfl w.heap.size 5 _ _ 1 Try.underlying22 rfl rfl rfl .i64 .i64 _ 8 rfl rfl rfl (by decide) (by unfold maxLen; omega) (by simp) ?_; intro w1 hown1 hg1))
  obtain ⟨Wn, hWn⟩ : ∃ Wn, (w.alloc (.cells #[.int .i64 0, .int .i64 0, .int .i64 0, .int .i64 0, .int .i64 0, .int .i64 0, .int .i64 0, .int .i64 0, .int .i64 0, .int .i64 0, .int .i64 0, .int .i64 0, .int .i64 0, .int .i64 0, .int .i64 0, .int .i64 0, .int .i64 0, .int .i64 0, .int .i64 0, .int .i64 0, .int .i64 0, .int .i64 0, .int .i64 0, .int .i64 0, .int .i64 0, .int .i64 0, .int .i64 0, .int .i64 0, .int .i64 0, .int .i64 0, .int .i64 0, .int .i64 0, .int .i64 0, .int .i64 0, .int .i64 0, .int .i64 0, .int .i64 0, .int .i64 0, .int .i64 0, .int .i64 0, .int .i64 0, .int .i64 0, .int .i64 0, .int .i64 0, .int .i64 0, .int .i64 0, .int .i64 0, .int .i64 0, .int .i64 0, .int .i64 0, .int .i64 0, .int .i64 0] 53)).setRow w.heap.size (cN .i64 (tabN k 52)).toArray = Wn := ⟨_, rfl⟩
  rw [hWn] at hown1 hg1
  have hx1 : Ext Wn w1 := (Below.refl _ _).grown hg1 (Nat.le_refl _) (fun q hq => by cases hq)
  have hb0 : Blk Wn w.heap.size 53 (tabN k 52) := by rw [← hWn]; exact HB0.out
  have hx0 : Ext w Wn := by rw [← hWn]; exact Below.setRow_ (Ext.alloc w _) (Nat.le_refl _) _
  have hz0 : Wn.heap.size = w.heap.size + 1 := by rw [← hWn]; exact (setRow_size _ _ _).trans (alloc_size w _)
  clear hWn
  have HK8 := hid (hb0.later hx1)
  have HX0 := hid (hx0.trans hx1)
  have HR := hid (HR0.out.later HX0.out)
  rw [hz0] at hown1
  have HO0 := hid (show Own w1 w.heap.size (.slice (some ⟨w.heap.size + 1, 0, none⟩) 0 8) [] from hown1)
  have HB0 := hid (Below.size HX0.out)
  have HG8 := hid HK8.out.lt
  obtain ⟨kk, hkk⟩ : ∃ kk, k = kk := ⟨_, rfl⟩
  rw [hkk] at HK8 HL ⊢
  obtain ⟨g8, hg8⟩ : ∃ g, w.heap.size = g := ⟨_, rfl⟩
  have HG := hid hg8
  have HKK := hid hkk
  rw [hg8] at HK8 HO0 HB0 HG8 ⊢
  clear hz0 hx1 hb0 hx0 hown1 hg1 HRG HS HR0 hkk hg8
  refine region_inv mixed rfl (by kernel_rfl) (kV (blkKs A c g8 b kk)) (kV_keep _) (forall_ops ⟨?_, ?_, ?_, ?_, ?_, ?_, ?_, trivial⟩) ?_
  · intro a w hk
    have s1 : a.tmps.getD 1 undef = .slice A 8 c := hk.was 1 (by kernel_rfl) rfl
    exact step_move rfl rfl s1 rfl
  · intro a w hk
    have s25 := hk.eq_ 0 25 (by kernel_rfl) rfl
    exact step_call rfl rfl (by simp only [List.map_toArray, List.map_cons, List.map_nil, Act.eval, s25] <;> rfl) cf19 (numbers_any A 4 c b w (HR.out.later hk.ext) (by omega)) (fun e w1 h => ⟨_, h.1, h.2.2, _, rfl, by have := HG8.out; have := Below.size hk.ext; omega, blk_of_own h.2.1⟩)
  · intro a w hk
    obtain ⟨b26, s26, h26, g26⟩ := hk.val 1 26 (by kernel_rfl) rfl
    have e := run_arrayAt (P := Try.prog) w 57 3 4 (some ⟨b26, 0, none⟩) 4 4 Try.underlying57 (Nat.le_refl _)
    refine step_val (v := .pointer (some ⟨b26, 0, none⟩)) (w' := w) rfl ?_ (Ext.refl w) ⟨b26, rfl, Nat.zero_le _, g26⟩
    simp only [execOp, Act.eval, s26, Sem.run_bind, e, Sem.run_pure, Result.andThen]
  · intro a w hk
    obtain ⟨b27, s27, h27, g27⟩ := hk.val 2 27 (by kernel_rfl) rfl
    refine step_val (v := .agg (inF b).cells) (w' := w) rfl ?_ (Ext.refl w) rfl
    exact exec_load57c rfl s27 g27
  · intro a w hk
    have s8 : a.tmps.getD 8 undef = .pointer (some ⟨g8, 0, none⟩) := hk.was 8 (by kernel_rfl) rfl
    refine step_val (v := .slice (some ⟨g8, 0, none⟩) 52 52) (w' := w) rfl ?_ (Ext.refl w) rfl
    have e := arr53_all g8 w
    simp only [execOp, Act.eval, Option.map_none, s8, Sem.run_bind, e, Sem.run_pure, Result.andThen]
  · intro a w hk
    have s28 := hk.eq_ 3 28 (by kernel_rfl) rfl
    have s29 := hk.eq_ 4 29 (by kernel_rfl) rfl
    exact step_call rfl rfl (by simp only [List.map_toArray, List.map_cons, List.map_nil, Act.eval, s28, s29] <;> rfl) cf26 (pass_any (inF b) g8 0 52 kk w (inF_ok b) ((Blk.kat HK8.out).later hk.ext) HL.out (by omega) (by omega)) (fun e w1 h => retX e w1 h)
  · intro a w hk
    exact step_move rfl rfl rfl rfl
  · intro a w2 hf
    have s25 := hf.eq_ 0 25 (by kernel_rfl) rfl
    obtain ⟨b26, s26, h26, g26⟩ := hf.val 1 26 (by kernel_rfl) rfl
    obtain ⟨b27, s27, h27, g27⟩ := hf.val 2 27 (by kernel_rfl) rfl
    have s28 := hf.eq_ 3 28 (by kernel_rfl) rfl
    have s29 := hf.eq_ 4 29 (by kernel_rfl) rfl
    have s30 := hf.eq_ 5 30 (by kernel_rfl) rfl
    have s31 := hf.eq_ 6 31 (by kernel_rfl) rfl
    have hx := hf.ext
    have e := hf.frame
    clear hf
    simp only [regFrame, Act.put, List.setIfInBounds_toArray, List.set_cons_zero, List.set_cons_succ, s25, s26, s27, s28, s29, s30, s31] at e
    clear s25 s26 s27 s28 s29 s30 s31
    subst e
    have HO := hid (HO0.out.kept hx)
    have HX := hid (HX0.out.trans hx)
    have hB := Nat.le_trans HB0.out (Below.size hx)
    have HL4 := hid (passF_ok kk (inF b))
    have HFIN := hid (show outK (passF kk (inF b)) 4 = outL (passF kk (inF b)) from rfl)
    obtain ⟨y, hy⟩ : ∃ y, passF kk (inF b) = y := ⟨_, rfl⟩
    have HY := hid hy
    rw [hy] at HFIN HL4
    rw [hy]
    clear hx hy g27 h27 g26 h26
    go_wp2_with fail
    go_loopw [9, 31] (fun v i wr => ∃ j : Nat, j ≤ 4 ∧ i = .int .i64 j ∧ Own wr g8 v (outK y j) ∧ Below g8 w2 wr) (fun _ i _ => 4 - (intOf i).toNat)
    case atStart => exact ⟨0, by omega, rfl, HO.out, Below.mono (Ext.refl _) hB⟩
    case round =>
      obtain ⟨j, hj, rfl, hown, hb⟩ := hrel
      by_cases hlt : j < 4
      · have hn := nth_lt HL4.out j
        have HS := hid (show outK y (j + 1) = outK y j ++ two (y.nth j) from rfl)
        have hix := fun w => run_index57 y j w hlt
        obtain ⟨n, hne⟩ : ∃ n, y.nth j = n := ⟨_, rfl⟩
        rw [hne] at hn HS hix
        have HI := hid hix
        have hw1 := byte_hi hn
        have hw2 := byte_lo n
        obtain ⟨p1, hp1⟩ : ∃ p : Nat, (UInt8.ofNat (n / 256)).toNat = p := ⟨_, rfl⟩
        obtain ⟨p2, hp2⟩ : ∃ p : Nat, (UInt8.ofNat n).toNat = p := ⟨_, rfl⟩
        have hcs : (#[.int .u8 (p1 : Int), .int .u8 (p2 : Int)] : Array Value).toList = cellsOf (two n) := by rw [← hp1, ← hp2]; rfl
        rw [hp1] at hw1
        rw [hp2] at hw2
        have hlit := Own.lit wr (two n) #[.int .u8 (p1 : Int), .int .u8 (p2 : Int)] 2 wr.heap.size hcs rfl (by unfold maxLen; omega) (Nat.le_refl _)
        obtain ⟨A9, c9, e9, hr9, _⟩ := hlit.rdn (n := 2) rfl
        cases e9
        have hown2 := hown.kept (Ext.alloc wr (.cells #[.int .u8 (p1 : Int), .int .u8 (p2 : Int)] 5))
        have hz := Below.size hb
        have hl := outK_length y j
        have HB2 := hid (hb.trans (Below.mono (Ext.alloc wr (.cells #[.int .u8 (p1 : Int), .int .u8 (p2 : Int)] 5)) (Nat.le_trans hB hz)))
        clear hix hne hp1 hp2 hcs hlit hown hb
        go_wp2_with (first
          | (rw [HI.out]; simp only [Result.andThen]; rw [Oper.upon_value])
          | (at_builtin; refine wpL_append _ rfl (.tmp 34) (.tmp 40) 22 rfl Try.underlying22 Try.info5 g8 _ (outK y j) rfl hown2 _ _ 2 2 (two n) rfl hr9 (by omega) (by simp; omega) ?_; intro v3 w3 hown3 hb3))
        rw [← HS.out] at hown3
        have HB3 := hid (HB2.out.trans hb3)
        have HO3 := hid hown3
        clear hown3 hb3 hown2
        go_roundw
        case rel => exact ⟨j + 1, by omega, by go_num, HO3.out, HB3.out⟩
        case measure => simp [intOf]; omega
      · obtain rfl : j = 4 := by omega
        rw [HFIN.out] at hown
        obtain ⟨A9, c9, e9, hc9, hr9, _⟩ := hown.rdc (n := 8) (outL_length _)
        cases e9
        have HH := hid (And.intro hr9 (Below.trans HX.out (by rw [HG.out]; exact hb)))
        clear hr9 hown hb
        go_wp2_with fail
        go_ret2
        exact ⟨_, _, rfl, hc9, by rw [HKK.out, HY.out]; exact HH.out.1, HH.out.2⟩

set_option maxRecDepth 100000 in
set_option maxHeartbeats 8000000 in
theorem block_back (A : Option Addr) (p c : Nat) (b : List UInt8) (k : Nat → Nat) (w : World) (hd : IsIdea w p k) (hl : ∀ i, k i < 65536) (h : Rd w w.heap.size A 8 b) :
    Calls Try.prog 18 #[.pointer (some ⟨p, 0, none⟩), .slice A 8 c, .bool true] w (BlkRet w (outL (passF (undF k) (inF b)))) := by
  have HR0 := hid h
  have HRG := hid (hd.there)
  have HS := hid (s53 k)
  have HRU := hid (show ((w.alloc (.cells #[.int .i64 0, .int .i64 0, .int .i64 0, .int .i64 0, .int .i64 0, .int .i64 0, .int .i64 0, .int .i64 0, .int .i64 0, .int .i64 0, .int .i64 0, .int .i64 0, .int .i64 0, .int .i64 0, .int .i64 0, .int .i64 0, .int .i64 0, .int .i64 0, .int .i64 0, .int .i64 0, .int .i64 0, .int .i64 0, .int .i64 0, .int .i64 0, .int .i64 0, .int .i64 0, .int .i64 0, .int .i64 0, .int .i64 0, .int .i64 0, .int .i64 0, .int .i64 0, .int .i64 0, .int .i64 0, .int .i64 0, .int .i64 0, .int .i64 0, .int .i64 0, .int .i64 0, .int .i64 0, .int .i64 0, .int .i64 0, .int .i64 0, .int .i64 0, .int .i64 0, .int .i64 0, .int .i64 0, .int .i64 0, .int .i64 0, .int .i64 0, .int .i64 0, .int .i64 0] 53)).setRow w.heap.size (cN .i64 (tabN k 52)).toArray).rangeAt p 52 (cN .i64 (tabN (undF k) 52)) from
    fun j v hv => by
      rw [cell_setRow_ne (by show p ≠ w.heap.size; have := hd.lt; omega)]
      exact cell_later (Ext.alloc w _) (hd.back j v hv))
  have HSU := hid (s53 (undF k))
  have HB0 := hid (show Blk ((w.alloc (.cells #[.int .i64 0, .int .i64 0, .int .i64 0, .int .i64 0, .int .i64 0, .int .i64 0, .int .i64 0, .int .i64 0, .int .i64 0, .int .i64 0, .int .i64 0, .int .i64 0, .int .i64 0, .int .i64 0, .int .i64 0, .int .i64 0, .int .i64 0, .int .i64 0, .int .i64 0, .int .i64 0, .int .i64 0, .int .i64 0, .int .i64 0, .int .i64 0, .int .i64 0, .int .i64 0, .int .i64 0, .int .i64 0, .int .i64 0, .int .i64 0, .int .i64 0, .int .i64 0, .int .i64 0, .int .i64 0, .int .i64 0, .int .i64 0, .int .i64 0, .int .i64 0, .int .i64 0, .int .i64 0, .int .i64 0, .int .i64 0, .int .i64 0, .int .i64 0, .int .i64 0, .int .i64 0, .int .i64 0, .int .i64 0, .int .i64 0, .int .i64 0, .int .i64 0, .int .i64 0] 53)).setRow w.heap.size (cN .i64 (tabN k 52)).toArray) w.heap.size 53 (tabN k 52) from setRow_heap _ _ _ _ _ _ (heap_alloc_new w (.cells #[.int .i64 0, .int .i64 0, .int .i64 0, .int .i64 0, .int .i64 0, .int .i64 0, .int .i64 0, .int .i64 0, .int .i64 0, .int .i64 0, .int .i64 0, .int .i64 0, .int .i64 0, .int .i64 0, .int .i64 0, .int .i64 0, .int .i64 0, .int .i64 0, .int .i64 0, .int .i64 0, .int .i64 0, .int .i64 0, .int .i64 0, .int .i64 0, .int .i64 0, .int .i64 0, .int .i64 0, .int .i64 0, .int .i64 0, .int .i64 0, .int .i64 0, .int .i64 0, .int .i64 0, .int .i64 0, .int .i64 0, .int .i64 0, .int .i64 0, .int .i64 0, .int .i64 0, .int .i64 0, .int .i64 0, .int .i64 0, .int .i64 0, .int .i64 0, .int .i64 0, .int .i64 0, .int .i64 0, .int .i64 0, .int .i64 0, .int .i64 0, .int .i64 0, .int .i64 0] 53)))
  have HL := hid (undF_lt hl)
  clear hd h hl
  go_enter Try.func18, Try.ntmps18
  go_wp2_with (first
    | (refine wpList_load_mid rfl 53 (.tmp 17) rfl p 0 rfl (cN .i64 (tabN k 52)) _ HRG.out Try.underlying53 rfl (by rw [HS.out]; simp) ?_)
    | (refine wpList_store_row rfl 53 (.tmp 8) (.tmp 18) rfl w.heap.size (cN .i64 (tabN k 52)).toArray rfl rfl 53 _ (heap_alloc_new _ _) HS.out (by rw [cN_size, tabN_length]; rfl) (cN_all _) ?_)
    | (refine wpList_load_mid rfl 53 (.tmp 22) rfl p 52 rfl (cN .i64 (tabN (undF k) 52)) _ HRU.out Try.underlying53 rfl (by rw [HSU.out]; simp) ?_)
    | (refine wpList_store_row rfl 53 (.tmp 8) (.tmp 23) rfl w.heap.size (cN .i64 (tabN (undF k) 52)).toArray rfl rfl 53 _ HB0.out HSU.out (sizes _ _ (by rw [tabN_length, tabN_length])) (cN_all _) ?_)
    | (at_make; refine wpList_make_own _ rfl (.const (.int .i64 0)) (.const (.int .i64 8)) 22 rfl w.heap.size 5 _ _ 1 Try.underlying22 rfl rfl rfl .i64 .i64 _ 8 rfl rfl rfl (by decide) (by unfold maxLen; omega) (by simp) ?_; intro w1 hown1 hg1))
  obtain ⟨Wn, hWn⟩ : ∃ Wn, ((w.alloc (.cells #[.int .i64 0, .int .i64 0, .int .i64 0, .int .i64 0, .int .i64 0, .int .i64 0, .int .i64 0, .int .i64 0, .int .i64 0, .int .i64 0, .int .i64 0, .int .i64 0, .int .i64 0, .int .i64 0, .int .i64 0, .int .i64 0, .int .i64 0, .int .i64 0, .int .i64 0, .int .i64 0, .int .i64 0, .int .i64 0, .int .i64 0, .int .i64 0, .int .i64 0, .int .i64 0, .int .i64 0, .int .i64 0, .int .i64 0, .int .i64 0, .int .i64 0, .int .i64 0, .int .i64 0, .int .i64 0, .int .i64 0, .int .i64 0, .int .i64 0, .int .i64 0, .int .i64 0, .int .i64 0, .int .i64 0, .int .i64 0, .int .i64 0, .int .i64 0, .int .i64 0, .int .i64 0, .int .i64 0, .int .i64 0, .int .i64 0, .int .i64 0, .int .i64 0, .int .i64 0] 53)).setRow w.heap.size (cN .i64 (tabN k 52)).toArray).setRow w.heap.size (cN .i64 (tabN (undF k) 52)).toArray = Wn := ⟨_, rfl⟩
  rw [hWn] at hown1 hg1
  have hx1 : Ext Wn w1 := (Below.refl _ _).grown hg1 (Nat.le_refl _) (fun q hq => by cases hq)
  have hb0 : Blk Wn w.heap.size 53 (tabN (undF k) 52) := by rw [← hWn]; exact Blk.put HB0.out _
  have hx0 : Ext w Wn := by rw [← hWn]; exact Below.setRow_ (Below.setRow_ (Ext.alloc w _) (Nat.le_refl _) _) (Nat.le_refl _) _
  have hz0 : Wn.heap.size = w.heap.size + 1 := by rw [← hWn]; exact (setRow_size _ _ _).trans ((setRow_size _ _ _).trans (alloc_size w _))
  clear hWn
  have HK8 := hid (hb0.later hx1)
  have HX0 := hid (hx0.trans hx1)
  have HR := hid (HR0.out.later HX0.out)
  rw [hz0] at hown1
  have HO0 := hid (show Own w1 w.heap.size (.slice (some ⟨w.heap.size + 1, 0, none⟩) 0 8) [] from hown1)
  have HB0 := hid (Below.size HX0.out)
  have HG8 := hid HK8.out.lt
  obtain ⟨kk, hkk⟩ : ∃ kk, (undF k) = kk := ⟨_, rfl⟩
  rw [hkk] at HK8 HL ⊢
  obtain ⟨g8, hg8⟩ : ∃ g, w.heap.size = g := ⟨_, rfl⟩
  have HG := hid hg8
  have HKK := hid hkk
  rw [hg8] at HK8 HO0 HB0 HG8 ⊢
  clear hz0 hx1 hb0 hx0 hown1 hg1 HRG HS HR0 hkk hg8
  refine region_inv mixed rfl (by kernel_rfl) (kV (blkKs A c g8 b kk)) (kV_keep _) (forall_ops ⟨?_, ?_, ?_, ?_, ?_, ?_, ?_, trivial⟩) ?_
  · intro a w hk
    have s1 : a.tmps.getD 1 undef = .slice A 8 c := hk.was 1 (by kernel_rfl) rfl
    exact step_move rfl rfl s1 rfl
  · intro a w hk
    have s25 := hk.eq_ 0 25 (by kernel_rfl) rfl
    exact step_call rfl rfl (by simp only [List.map_toArray, List.map_cons, List.map_nil, Act.eval, s25] <;> rfl) cf19 (numbers_any A 4 c b w (HR.out.later hk.ext) (by omega)) (fun e w1 h => ⟨_, h.1, h.2.2, _, rfl, by have := HG8.out; have := Below.size hk.ext; omega, blk_of_own h.2.1⟩)
  · intro a w hk
    obtain ⟨b26, s26, h26, g26⟩ := hk.val 1 26 (by kernel_rfl) rfl
    have e := run_arrayAt (P := Try.prog) w 57 3 4 (some ⟨b26, 0, none⟩) 4 4 Try.underlying57 (Nat.le_refl _)
    refine step_val (v := .pointer (some ⟨b26, 0, none⟩)) (w' := w) rfl ?_ (Ext.refl w) ⟨b26, rfl, Nat.zero_le _, g26⟩
    simp only [execOp, Act.eval, s26, Sem.run_bind, e, Sem.run_pure, Result.andThen]
  · intro a w hk
    obtain ⟨b27, s27, h27, g27⟩ := hk.val 2 27 (by kernel_rfl) rfl
    refine step_val (v := .agg (inF b).cells) (w' := w) rfl ?_ (Ext.refl w) rfl
    exact exec_load57c rfl s27 g27
  · intro a w hk
    have s8 : a.tmps.getD 8 undef = .pointer (some ⟨g8, 0, none⟩) := hk.was 8 (by kernel_rfl) rfl
    refine step_val (v := .slice (some ⟨g8, 0, none⟩) 52 52) (w' := w) rfl ?_ (Ext.refl w) rfl
    have e := arr53_all g8 w
    simp only [execOp, Act.eval, Option.map_none, s8, Sem.run_bind, e, Sem.run_pure, Result.andThen]
  · intro a w hk
    have s28 := hk.eq_ 3 28 (by kernel_rfl) rfl
    have s29 := hk.eq_ 4 29 (by kernel_rfl) rfl
    exact step_call rfl rfl (by simp only [List.map_toArray, List.map_cons, List.map_nil, Act.eval, s28, s29] <;> rfl) cf26 (pass_any (inF b) g8 0 52 kk w (inF_ok b) ((Blk.kat HK8.out).later hk.ext) HL.out (by omega) (by omega)) (fun e w1 h => retX e w1 h)
  · intro a w hk
    exact step_move rfl rfl rfl rfl
  · intro a w2 hf
    have s25 := hf.eq_ 0 25 (by kernel_rfl) rfl
    obtain ⟨b26, s26, h26, g26⟩ := hf.val 1 26 (by kernel_rfl) rfl
    obtain ⟨b27, s27, h27, g27⟩ := hf.val 2 27 (by kernel_rfl) rfl
    have s28 := hf.eq_ 3 28 (by kernel_rfl) rfl
    have s29 := hf.eq_ 4 29 (by kernel_rfl) rfl
    have s30 := hf.eq_ 5 30 (by kernel_rfl) rfl
    have s31 := hf.eq_ 6 31 (by kernel_rfl) rfl
    have hx := hf.ext
    have e := hf.frame
    clear hf
    simp only [regFrame, Act.put, List.setIfInBounds_toArray, List.set_cons_zero, List.set_cons_succ, s25, s26, s27, s28, s29, s30, s31] at e
    clear s25 s26 s27 s28 s29 s30 s31
    subst e
    have HO := hid (HO0.out.kept hx)
    have HX := hid (HX0.out.trans hx)
    have hB := Nat.le_trans HB0.out (Below.size hx)
    have HL4 := hid (passF_ok kk (inF b))
    have HFIN := hid (show outK (passF kk (inF b)) 4 = outL (passF kk (inF b)) from rfl)
    obtain ⟨y, hy⟩ : ∃ y, passF kk (inF b) = y := ⟨_, rfl⟩
    have HY := hid hy
    rw [hy] at HFIN HL4
    rw [hy]
    clear hx hy g27 h27 g26 h26
    go_wp2_with fail
    go_loopw [9, 31] (fun v i wr => ∃ j : Nat, j ≤ 4 ∧ i = .int .i64 j ∧ Own wr g8 v (outK y j) ∧ Below g8 w2 wr) (fun _ i _ => 4 - (intOf i).toNat)
    case atStart => exact ⟨0, by omega, rfl, HO.out, Below.mono (Ext.refl _) hB⟩
    case round =>
      obtain ⟨j, hj, rfl, hown, hb⟩ := hrel
      by_cases hlt : j < 4
      · have hn := nth_lt HL4.out j
        have HS := hid (show outK y (j + 1) = outK y j ++ two (y.nth j) from rfl)
        have hix := fun w => run_index57 y j w hlt
        obtain ⟨n, hne⟩ : ∃ n, y.nth j = n := ⟨_, rfl⟩
        rw [hne] at hn HS hix
        have HI := hid hix
        have hw1 := byte_hi hn
        have hw2 := byte_lo n
        obtain ⟨p1, hp1⟩ : ∃ p : Nat, (UInt8.ofNat (n / 256)).toNat = p := ⟨_, rfl⟩
        obtain ⟨p2, hp2⟩ : ∃ p : Nat, (UInt8.ofNat n).toNat = p := ⟨_, rfl⟩
        have hcs : (#[.int .u8 (p1 : Int), .int .u8 (p2 : Int)] : Array Value).toList = cellsOf (two n) := by rw [← hp1, ← hp2]; rfl
        rw [hp1] at hw1
        rw [hp2] at hw2
        have hlit := Own.lit wr (two n) #[.int .u8 (p1 : Int), .int .u8 (p2 : Int)] 2 wr.heap.size hcs rfl (by unfold maxLen; omega) (Nat.le_refl _)
        obtain ⟨A9, c9, e9, hr9, _⟩ := hlit.rdn (n := 2) rfl
        cases e9
        have hown2 := hown.kept (Ext.alloc wr (.cells #[.int .u8 (p1 : Int), .int .u8 (p2 : Int)] 5))
        have hz := Below.size hb
        have hl := outK_length y j
        have HB2 := hid (hb.trans (Below.mono (Ext.alloc wr (.cells #[.int .u8 (p1 : Int), .int .u8 (p2 : Int)] 5)) (Nat.le_trans hB hz)))
        clear hix hne hp1 hp2 hcs hlit hown hb
        go_wp2_with (first
          | (rw [HI.out]; simp only [Result.andThen]; rw [Oper.upon_value])
          | (at_builtin; refine wpL_append _ rfl (.tmp 34) (.tmp 40) 22 rfl Try.underlying22 Try.info5 g8 _ (outK y j) rfl hown2 _ _ 2 2 (two n) rfl hr9 (by omega) (by simp; omega) ?_; intro v3 w3 hown3 hb3))
        rw [← HS.out] at hown3
        have HB3 := hid (HB2.out.trans hb3)
        have HO3 := hid hown3
        clear hown3 hb3 hown2
        go_roundw
        case rel => exact ⟨j + 1, by omega, by go_num, HO3.out, HB3.out⟩
        case measure => simp [intOf]; omega
      · obtain rfl : j = 4 := by omega
        rw [HFIN.out] at hown
        obtain ⟨A9, c9, e9, hc9, hr9, _⟩ := hown.rdc (n := 8) (outL_length _)
        cases e9
        have HH := hid (And.intro hr9 (Below.trans HX.out (by rw [HG.out]; exact hb)))
        clear hr9 hown hb
        go_wp2_with fail
        go_ret2
        exact ⟨_, _, rfl, hc9, by rw [HKK.out, HY.out]; exact HH.out.1, HH.out.2⟩

theorem block_any (A : Option Addr) (p c : Nat) (b : List UInt8) (k : Nat → Nat) (back : Bool) (w : World) (hd : IsIdea w p k) (hl : ∀ i, k i < 65536) (h : Rd w w.heap.size A 8 b) :
    Calls Try.prog 18 #[.pointer (some ⟨p, 0, none⟩), .slice A 8 c, .bool back] w (BlkRet w (blockL k back b)) := by
  cases back
  · exact block_there A p c b k w hd hl h
  · exact block_back A p c b k w hd hl h
end Go.Proofs.Ytamolgbdpnpemaa
