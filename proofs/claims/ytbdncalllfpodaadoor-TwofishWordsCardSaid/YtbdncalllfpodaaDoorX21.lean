/- Walk over New of the program; own lemmas of the verifier, no statement is proved here. -/
import Derived.Test.YtbdncalllfpodaaDoorX20
import Derived.Deep.MidRow
import Derived.Laws.Tables
namespace Go.Proofs.YtbdncalllfpodaaDoor
open Go.RowKit
/-- Forty words, as cells. -/
def rowF (f : Nat → UInt32) : List Value := (List.range 40).map fun j => Value.int .u32 ((f j).toNat : Nat)
theorem rowF_length (f : Nat → UInt32) : (rowF f).length = 40 := by simp [rowF]
theorem rowF_get (f : Nat → UInt32) {j : Nat} (hj : j < 40) : (rowF f)[j]? = some (.int .u32 ((f j).toNat : Nat)) := by simp [rowF, hj]
theorem build76 (f : Nat → UInt32) (A : Option Addr) (n c : Nat) (w : World) : (Instr.build 76 #[(0, .agg (rowF f).toArray), (1, .slice A n c)]).run Tryd.prog w = .ok (.agg (rowF f ++ [Value.slice A n c]).toArray) w := by kernel_rfl
theorem wpList_build76 {ops : Array Oper} {rest : List Oper} {o : Oper} {a : Act} {w : World} {Q : Exit → Act → World → Prop} (hg : o.guard = none) (x y : Operand) (f : Nat → UInt32) (row : List Value) (hrow : rowF f = row) (A : Option Addr) (n c : Nat)
    (ho : o.op = .build 76 #[(0, x), (1, y)]) (hx : a.eval x = .agg row.toArray) (hy : a.eval y = .slice A n c)
    (h : wpList Tryd.prog ops Q rest (a.put o.dst (.agg (row ++ [Value.slice A n c]).toArray)) w) : wpList Tryd.prog ops Q (o :: rest) a w := by
  refine wpList_plain hg fun K hK => ?_
  have e := build76 f A n c w
  rw [hrow] at e
  unfold Oper.wp execOp
  simp only [ho, List.map_toArray, List.map_cons, List.map_nil, hx, hy, Sem.run_bind, e, Sem.run_pure, Result.andThen]
  exact hK _ _ h
theorem s74 : (Tryd.prog.info? 74).map (·.size) = some 40 := by kernel_rfl
theorem two_of {w : World} {p n c : Nat} {ks ss : List UInt32} {A : Option Addr} (h : w.heap[p]? = some (.cells (rowF (fun j => ks.getD j 0) ++ [Value.slice A n c]).toArray 76 (0, 0))) (hr : RdN .u32 w w.heap.size A n (nW ss)) (h2 : 2 ≤ n) (h4 : n ≤ 4) : TwoAt w p ks ss A n c where
  key := fun j hj => by
    rw [cell_of_row w p j _ _ _ h, List.getElem?_toArray, List.getElem?_append_left (by rw [rowF_length]; exact hj), rowF_get _ hj]
  row := by
    rw [cell_of_row w p 40 _ _ _ h, List.getElem?_toArray, List.getElem?_append_right (by rw [rowF_length]; exact Nat.le_refl _), rowF_length]
    rfl
  rd := hr
  two := h2
  four := h4
theorem keysL_length (key : List UInt8) : (keysL key).length = 40 := by unfold keysL; rw [kL_length]
theorem sL_length (key : List UInt8) : (sL key).length = key.length / 8 := by simp [sL, sU]
/-- What New hands back. -/
def NewRet (w : World) (key : List UInt8) (e : Ending) (w' : World) : Prop :=
  ∃ p, e = .returned (.tuple #[.pointer (some ⟨p, 0, none⟩), .int .i64 0]) ∧ IsTwo w' p (keysL key) (sL key) ∧ w.heap.size ≤ p ∧ Ext w w'
set_option maxHeartbeats 400000 in
theorem new_bad (A : Option Addr) (n c : Nat) (w : World) (h16 : n ≠ 16) (h24 : n ≠ 24) (h32 : n ≠ 32) :
    Calls Tryd.prog 18 #[.slice A n c] w fun e w' => e = .returned (.tuple #[.pointer none, .int .i64 4]) ∧ Ext w w' := by
  go_enter Tryd.func18, Tryd.ntmps18
  go_wp2_with fail
  refine (keys_bad A n c _ h16 h24 h32).mono ?_
  rintro e w1 ⟨rfl, hx1⟩
  have HX1 := hid hx1
  clear hx1
  go_wp2_with fail
  go_ret2
  exact ⟨rfl, HX1.out⟩
set_option maxRecDepth 100000 in
set_option maxHeartbeats 4000000 in
theorem new_any (A : Option Addr) (n c : Nat) (key : List UInt8) (w : World) (hG : GT w) (hr : Rd w w.heap.size A n key) (hn : n = 16 ∨ n = 24 ∨ n = 32) (hc : n ≤ c) :
    Calls Tryd.prog 18 #[.slice A n c] w (NewRet w key) := by
  have HK := hid (keys_any A n c key w hG hr hn hc)
  have hsl := sL_length key
  rw [hr.len] at hsl
  have HSL := hid (show 2 ≤ (sL key).length ∧ (sL key).length ≤ 4 by omega)
  have HKL := hid (keysL_length key)
  clear hG hr hn hc hsl
  obtain ⟨ks, hks⟩ : ∃ ks, keysL key = ks := ⟨_, rfl⟩
  obtain ⟨ss, hss⟩ : ∃ ss, sL key = ss := ⟨_, rfl⟩
  have HEQ := hid (And.intro hks hss)
  rw [hks] at HK HKL
  rw [hss] at HK HSL
  clear hks hss
  go_enter Tryd.func18, Tryd.ntmps18
  go_wp2_with fail
  refine HK.out.mono ?_
  rintro e w1 ⟨v1, v2, rfl, o1, o2, hx1⟩
  obtain ⟨A2, c2, rfl, hr2, _⟩ := OwnN.rdn o2 (show (nW ss).length = ss.length by simp [nW])
  obtain ⟨g, c1, rfl, hc1, hg1, hg2⟩ := OwnN.head (n := 40) o1 (by simp [nW]; exact HKL.out) (by omega)
  have hra : w1.rangeAt g 0 (rowF (fun j => ks.getD j 0)) := fun j v hv => by
    have hj : j < 40 := by
      rcases Nat.lt_or_ge j 40 with h1 | h1
      · exact h1
      · rw [List.getElem?_eq_none (by rw [rowF_length]; exact h1)] at hv; cases hv
    rw [rowF_get _ hj] at hv
    cases hv
    rw [Nat.zero_add, OwnN.celln o1 (by simp [nW]; exact HKL.out) j hj, nW_get _ _ (by rw [HKL.out]; exact hj)]
  have HRA := hid hra
  have HR2 := hid hr2
  have HX1 := hid hx1
  have HAT := hid (fun w => run_arrayAt (P := Tryd.prog) w 74 37 40 (some ⟨g, 0, none⟩) 40 c1 Tryd.underlying74 (Nat.le_refl _))
  have HS74 := hid s74
  obtain ⟨row, hrow⟩ : ∃ row, rowF (fun j => ks.getD j 0) = row := ⟨_, rfl⟩
  have hrl : row.length = 40 := by rw [← hrow]; exact rowF_length _
  have HRW := hid hrow
  have HRL := hid hrl
  rw [hrow] at HRA
  clear hra hr2 hx1 o1 o2 hg1 hg2 hc1 hrow hrl
  go_wp2_with (first
    | (rw [HAT.out]; simp only [Result.andThen]; rw [Oper.upon_value])
    | (refine wpList_load_mid rfl 74 (.tmp 17) rfl g 0 rfl row _ HRA.out Tryd.underlying74 rfl (by rw [HS74.out, HRL.out]) ?_)
    | (refine wpList_build76 rfl (.tmp 18) (.tmp 19) _ row HRW.out A2 ss.length c2 rfl rfl rfl ?_))
  have hh := heap_alloc_new w1 (.cells (row ++ [Value.slice A2 ss.length c2]).toArray 76)
  have hx9 : Ext w1 (w1.alloc (.cells (row ++ [Value.slice A2 ss.length c2]).toArray 76)) := Ext.alloc _ _
  go_ret2
  have hsz := Below.size HX1.out
  have hr9 := HRW.out
  subst hr9
  refine ⟨w1.heap.size, rfl, ?_, hsz, ?_⟩
  · rw [HEQ.out.1, HEQ.out.2]
    exact ⟨A2, ss.length, c2, two_of hh (HR2.out.later hx9) HSL.out.1 HSL.out.2⟩
  · exact Ext.trans HX1.out hx9
end Go.Proofs.YtbdncalllfpodaaDoor
