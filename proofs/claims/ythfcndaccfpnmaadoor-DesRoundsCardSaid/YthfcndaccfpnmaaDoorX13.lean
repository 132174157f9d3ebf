/- Walk over New of the program; own lemmas of the verifier, no statement is proved here. -/
import Derived.Test.YthfcndaccfpnmaaDoorX7
import Derived.Test.YthfcndaccfpnmaaDoorX12
namespace Go.Proofs.YthfcndaccfpnmaaDoor
open Go.RowKit
theorem Tryd.info24 : (Tryd.prog.info? 24).map (fun i => (i.zero, i.size, i.bytes)) = some (some (.slice none 0 0), 1, 24) := by kernel_rfl
theorem Own.typedG {e : TypeId} {w w' : World} {base g : Nat} {r : Value} {bs : List UInt8} {cur : Array Value} {f : Nat × Nat} (h : Own w base r bs) (hg : w.grownBy w' (some g)) (hh : w.heap[g]? = some (.cells cur e f)) (hne : 5 ≠ e) : Own w' base r bs := by
  refine ⟨h.1, ?_⟩
  rcases h.2 with hn | ⟨b, cap, cur2, rfl, hbg, h2, rr⟩
  · exact .inl hn
  · refine .inr ⟨b, cap, cur2, rfl, hbg, ?_, rr⟩
    rw [hg.block b (Array.getElem?_eq_some_iff.1 h2).1 (fun e1 => by cases e1; rw [h2] at hh; cases hh; exact hne rfl)]
    exact h2
theorem OwnV.typedG {e e2 : TypeId} {w w' : World} {base g : Nat} {r : Value} {rs : List Value} {cur : Array Value} {f : Nat × Nat} (h : OwnV e2 w base r rs) (hg : w.grownBy w' (some g)) (hh : w.heap[g]? = some (.cells cur e f)) (hne : e2 ≠ e) : OwnV e2 w' base r rs := by
  refine ⟨h.1, ?_⟩
  rcases h.2 with hn | ⟨b, cap, cur2, rfl, hbg, h2, rr⟩
  · exact .inl hn
  · refine .inr ⟨b, cap, cur2, rfl, hbg, ?_, rr⟩
    rw [hg.block b (Array.getElem?_eq_some_iff.1 h2).1 (fun e1 => by cases e1; rw [h2] at hh; cases hh; exact hne rfl)]
    exact h2
theorem KO.typedG {e : TypeId} {w w' : World} {b g : Nat} {kf : Nat → List UInt8} {cur : Array Value} {f : Nat × Nat} (h : KO w b kf) (hg : w.grownBy w' (some g)) (hh : w.heap[g]? = some (.cells cur e f)) (h5 : 5 ≠ e) (h22 : 22 ≠ e) : KO w' b kf := by
  obtain ⟨c, rs, h1, h2, h3⟩ := h
  exact ⟨c, rs, h1, h2.typedG hg hh h22, fun i hi => by
    obtain ⟨h4, y, h6, h7⟩ := h3 i hi
    exact ⟨h4, y, h6, h7.typedG hg hh h5⟩⟩
theorem OwnV.headn {e : TypeId} {w : World} {base n : Nat} {v : Value} {vs : List Value} (h : OwnV e w base v vs) (hn : vs.length = n + 1) : ∃ g c, v = .slice (some ⟨g, 0, none⟩) (n + 1) c ∧ n + 1 ≤ c := by
  rcases h.2 with ⟨_, h0⟩ | ⟨g, cap, cur, e1, _, _, hnc, _⟩
  · omega
  · exact ⟨g, cap, by rw [e1, hn], by omega⟩
theorem OwnV.head {e : TypeId} {w : World} {base : Nat} {v : Value} {vs : List Value} (h : OwnV e w base v vs) (h0 : 0 < vs.length) : ∃ g c, v = .slice (some ⟨g, 0, none⟩) vs.length c ∧ vs.length ≤ c := by
  rcases h.2 with ⟨_, hn⟩ | ⟨g, cap, cur, e1, _, _, hnc, _⟩
  · omega
  · exact ⟨g, cap, e1, hnc⟩
theorem heap_set_one {w : World} {p : Nat} {v x : Value} {e : TypeId} (h : w.heap[p]? = some (.cells #[v] e (0, 0))) : (w.setCell ⟨p, 0, none⟩ x).heap[p]? = some (.cells #[x] e (0, 0)) := by
  have hlt : p < w.heap.size := (Array.getElem?_eq_some_iff.1 h).1
  have hv : w.heap[p] = .cells #[v] e (0, 0) := (Array.getElem?_eq_some_iff.1 h).2
  have hlt2 : p < (w.setCell ⟨p, 0, none⟩ x).heap.size := by simpa using hlt
  rw [Array.getElem?_eq_getElem hlt2]
  simp [World.setCell, Array.getElem_modify, hv]
theorem frozen_one {w : World} {p : Nat} {v : Value} {e : TypeId} (h : w.heap[p]? = some (.cells #[v] e (0, 0))) : w.frozen? ⟨p, 0, none⟩ = false := by
  simp [World.frozen?, h]
/-- The program's Des, with m schedules. -/
def IsDes (w : World) (p m : Nat) (kf : Nat → Nat → List UInt8) : Prop :=
  ∃ b c, w.cell? ⟨p, 0, none⟩ = some (.slice (some ⟨b, 0, none⟩) m c) ∧ m ≤ c ∧ ∀ j, j < m → ∃ bk ck, w.cell? ⟨b, j, none⟩ = some (.slice (some ⟨bk, 0, none⟩) 16 ck) ∧ 16 ≤ ck ∧ KR w bk 0 (kf j)
theorem IsDes.later {w w' : World} {p m : Nat} {kf : Nat → Nat → List UInt8} (h : IsDes w p m kf) (hx : Ext w w') : IsDes w' p m kf := by
  obtain ⟨b, c, h1, hc, h2⟩ := h
  refine ⟨b, c, (Below.cell hx (p := ⟨p, 0, none⟩) (World.block_lt_of_cell? w _ h1)).trans h1, hc, fun j hj => ?_⟩
  obtain ⟨bk, ck, h3, h4, h5⟩ := h2 j hj
  exact ⟨bk, ck, (Below.cell hx (p := ⟨b, j, none⟩) (World.block_lt_of_cell? w _ h3)).trans h3, h4, h5.later hx⟩
/-- The key that New goes by. -/
def key3 (key : List UInt8) : List UInt8 := if key.length = 16 then key ++ key.take 8 else key
def kfOf (key : List UInt8) (j : Nat) : Nat → List UInt8 := keyF (((key3 key).drop (8 * j)).take 8)
def isLen3 (n : Nat) : Bool := decide (n = 8 ∨ n = 16 ∨ n = 24)
def manyOf (n : Nat) : Nat := if n = 8 then 1 else 3
set_option maxHeartbeats 400000 in
theorem new_bad (A : Option Addr) (n c : Nat) (w : World) (h : ¬ (n = 8 ∨ n = 16 ∨ n = 24)) :
    Calls Tryd.prog 18 #[.slice A n c] w fun e w' => e = .returned (.tuple #[.pointer none, .int .i64 4]) ∧ Ext w w' := by
  have g1 : ((n : Int) == 8) = false := by simp; omega
  have g2 : ((n : Int) == 16) = false := by simp; omega
  have g3 : ((n : Int) == 24) = false := by simp; omega
  go_enter Tryd.func18, Tryd.ntmps18
  go_wp2
  go_ret2
  exact ⟨rfl, Ext.refl _⟩
/-- What New hands back. -/
def NewRet (w : World) (key : List UInt8) (e : Ending) (w' : World) : Prop :=
  ∃ p, e = .returned (.tuple #[.pointer (some ⟨p, 0, none⟩), .int .i64 0]) ∧ IsDes w' p (manyOf key.length) (kfOf key) ∧ Ext w w'
set_option maxRecDepth 100000 in
set_option maxHeartbeats 4000000 in
theorem new8_any (A : Option Addr) (c : Nat) (key : List UInt8) (w : World) (h : Rd w w.heap.size A 8 key) (hc : 8 ≤ c) :
    Calls Tryd.prog 18 #[.slice A 8 c] w (NewRet w key) := by
  have hl := h.len
  obtain ⟨b0, o0, rfl, _, _⟩ := h.at_ (by omega)
  have hx0 := Ext.alloc w (.cells #[Value.slice none 0 0] 74)
  have HX0 := hid hx0
  have HRW := hid h
  have HR0 := hid (h.later hx0)
  have hp0 := heap_alloc_new w (.cells #[Value.slice none 0 0] 74)
  go_enter Tryd.func18, Tryd.ntmps18
  go_wp2_with fail
  obtain ⟨W0, hW0⟩ : ∃ W0, w.alloc (.cells #[Value.slice none 0 0] 74) = W0 := ⟨_, rfl⟩
  obtain ⟨p, hp⟩ : ∃ p, w.heap.size = p := ⟨_, rfl⟩
  have hpw := hid (show w.heap.size ≤ p by omega)
  rw [hW0] at HX0 HR0 hp0 ⊢
  rw [hp] at hp0 ⊢
  have HP0 := hid hp0
  have hkey3 : key3 key = key := by unfold key3; rw [if_neg (by omega)]
  have hm : manyOf key.length = 1 := by unfold manyOf; rw [if_pos hl]
  have hres : ∀ q w', IsDes w' q 1 (fun j => keyF ((key.drop (8 * j)).take 8)) → IsDes w' q (manyOf key.length) (kfOf key) := fun q w' h => by
    rw [hm]; unfold kfOf; rw [hkey3]; exact h
  have HRES := hid hres
  clear hx0 hp0 h hW0 hkey3 hm hres hl hp
  go_loopw [5] (fun i wr => ∃ (k : Nat) (v : Value) (vs : List Value), k ≤ 1 ∧ i = .int .i64 ((8 * k : Nat) : Int) ∧ wr.heap[p]? = some (.cells #[v] 74 (0, 0)) ∧ OwnV 24 wr (p + 1) v vs ∧ vs.length = k ∧
      (∀ j, j < k → ∃ bk ck, vs[j]? = some (.slice (some ⟨bk, 0, none⟩) 16 ck) ∧ 16 ≤ ck ∧ KO wr bk (keyF ((key.drop (8 * j)).take 8))) ∧ Below w.heap.size w wr ∧ Rd wr wr.heap.size (some ⟨b0, o0, none⟩) 8 key) (fun i _ => 8 - (intOf i).toNat)
  case atStart => exact ⟨0, _, [], by omega, rfl, HP0.out, World.ownsRow_nil _ _ _ _, rfl, fun j hj => absurd hj (by omega), HX0.out, HR0.out⟩
  case round =>
    clear HP0 HX0 HR0
    obtain ⟨k, v, vs, hk, rfl, hpc, hov, hvl, hrows, hb, hrd⟩ := hrel
    by_cases hlt : k < 1
    · have HPC := hid hpc
      have HOV := hid hov
      have HROWS := hid hrows
      have HB := hid hb
      have HRD := hid hrd
      have HK := hid (hrd.part (8 * k) 8 (by omega))
      have hq1 : ((8 * k : Nat) : Int) < 8 := by omega
      clear hpc hov hrows hb hrd
      go_wp2_with fail
      refine (keys_any _ _ _ _ HK.out).mono ?_
      rintro e w2 ⟨bk, ck, rfl, hck, hko, hx2⟩
      have HX2 := hid hx2
      have HKO := hid hko
      have hpl := (Array.getElem?_eq_some_iff.1 HPC.out).1
      have hpc2 : w2.heap[p]? = some (.cells #[v] 74 (0, 0)) := (Below.block hx2 p hpl).trans HPC.out
      have hcp2 : w2.cell? ⟨p, 0, none⟩ = some v := by rw [cell_of_heap hpc2]; rfl
      have hx3 : Ext w2 (w2.alloc (.cells #[.slice (some ⟨bk, 0, none⟩) 16 ck] 24)) := Ext.alloc _ _
      have hov3 := (HOV.out.kept hx2).kept hx3
      have hcell3 := cell_lit w2 [.slice (some ⟨bk, 0, none⟩) 16 ck] 24 0 (.slice (some ⟨bk, 0, none⟩) 16 ck) rfl
      rw [Nat.zero_add] at hcell3
      have hz2 := Below.size hx2
      have hpl2 : p + 1 ≤ (w2.alloc (.cells #[.slice (some ⟨bk, 0, none⟩) 16 ck] 24)).heap.size := by simp; omega
      have hpc3 : (w2.alloc (.cells #[.slice (some ⟨bk, 0, none⟩) 16 ck] 24)).heap[p]? = some (.cells #[v] 74 (0, 0)) := (Below.block hx3 p (by omega)).trans hpc2
      have HX3 := hid (Ext.trans hx2 hx3)
      have hl9 : (vs ++ [Value.slice (some ⟨bk, 0, none⟩) 16 ck]).length = k + 1 := by simp [hvl]
      have HKO3 := hid (hko.later hx3)
      have HPC3 := hid hpc3
      clear hx2 hko hx3 hpc2 hpc3
      go_wp2_with (at_builtin; refine wpL_appendV _ rfl (.tmp 41) (.tmp 43) 72 24 rfl Tryd.underlying72 Tryd.info24 (p + 1) _ vs rfl hov3 _ 1 (.slice (some ⟨bk, 0, none⟩) 16 ck) rfl hcell3 rfl (by omega) hpl2 ?_; intro v9 w9 hown9 hg9; obtain ⟨b9, c9, rfl, hc9⟩ := hown9.headn hl9; have hpc9 := (hg9.block p (by omega) (hov3.block_ne HPC3.out (by decide))).trans HPC3.out; have hcp9 : w9.cell? ⟨p, 0, none⟩ = some v := (by rw [cell_of_heap hpc9]; rfl); have hfr9 := frozen_one hpc9)
      have HH := hid (show (w9.setCell ⟨p, 0, none⟩ (.slice (some ⟨b9, 0, none⟩) (k + 1) c9)).heap[p]? = some (.cells #[.slice (some ⟨b9, 0, none⟩) (k + 1) c9] 74 (0, 0)) ∧
          OwnV 24 (w9.setCell ⟨p, 0, none⟩ (.slice (some ⟨b9, 0, none⟩) (k + 1) c9)) (p + 1) (.slice (some ⟨b9, 0, none⟩) (k + 1) c9) (vs ++ [Value.slice (some ⟨bk, 0, none⟩) 16 ck]) ∧
          (∀ j, j < k + 1 → ∃ bk2 ck2, (vs ++ [Value.slice (some ⟨bk, 0, none⟩) 16 ck])[j]? = some (.slice (some ⟨bk2, 0, none⟩) 16 ck2) ∧ 16 ≤ ck2 ∧ KO (w9.setCell ⟨p, 0, none⟩ (.slice (some ⟨b9, 0, none⟩) (k + 1) c9)) bk2 (keyF ((key.drop (8 * j)).take 8))) ∧
          Below w.heap.size w (w9.setCell ⟨p, 0, none⟩ (.slice (some ⟨b9, 0, none⟩) (k + 1) c9)) from by
        refine ⟨heap_set_one hpc9, hown9.typedG (grown_set _ _ _ _) hpc9 (by decide), fun j hj => ?_, ?_⟩
        · by_cases hjk : j = k
          · subst hjk
            exact ⟨bk, ck, by simp [hvl], hck, (HKO3.out.typed hov3 (by decide) (by decide) hg9).typedG (grown_set _ _ _ _) hpc9 (by decide) (by decide)⟩
          · obtain ⟨bk2, ck2, h1, h2, h3⟩ := HROWS.out j (by omega)
            exact ⟨bk2, ck2, by rw [List.getElem?_append_left (by omega)]; exact h1, h2, ((h3.later HX3.out).typed hov3 (by decide) (by decide) hg9).typedG (grown_set _ _ _ _) hpc9 (by decide) (by decide)⟩
        · have hp1 := hpw.out
          have hb3 := (HB.out.trans (Below.mono HX3.out HB.out.size))
          have hz3 := hb3.size
          exact (hb3.grown hg9 hz3 (fun q hq => by have := (World.ownsRow.lt hov3 q hq).1; omega)).setCell (by simp; omega) _)
      have HRD9 := hid (show Rd (w9.setCell ⟨p, 0, none⟩ (.slice (some ⟨b9, 0, none⟩) (k + 1) c9)) (w9.setCell ⟨p, 0, none⟩ (.slice (some ⟨b9, 0, none⟩) (k + 1) c9)).heap.size (some ⟨b0, o0, none⟩) 8 key from (HRW.out.below HH.out.2.2.2 (Nat.le_refl _)).more (Below.size HH.out.2.2.2))
      clear hown9 hg9 hov3 hcell3 hpc9 hcp9 hfr9
      go_wp2_with fail
      go_roundw
      case rel => exact ⟨k + 1, _, _, by omega, by rw [show ((8 * (k + 1) : Nat) : Int) = 8 * (k : Int) + 8 by omega], HH.out.1, HH.out.2.1, hl9, HH.out.2.2.1, HH.out.2.2.2, HRD9.out⟩
      case measure => simp [intOf]; omega
    · obtain rfl : k = 1 := by omega
      rw [show ((8 * 1 : Nat) : Int) = 8 from rfl]
      have hdes : IsDes wr p 1 (fun j => keyF ((key.drop (8 * j)).take 8)) := by
        rcases hov.2 with ⟨_, hn⟩ | ⟨g, cap, cur, rfl, hbg, hh, hnc, r⟩
        · omega
        · refine ⟨g, cap, by rw [cell_of_heap hpc, hvl]; rfl, by omega, fun j hj => ?_⟩
          obtain ⟨bk, ck, h1, h2, h3⟩ := hrows j hj
          refine ⟨bk, ck, ?_, h2, h3.kr⟩
          rw [OwnV.celln (c := cap) (n := vs.length) ⟨hov.1, .inr ⟨g, cap, cur, rfl, hbg, hh, hnc, r⟩⟩ rfl j (by omega)]
          exact h1
      have HH := hid (And.intro (HRES.out p wr hdes) (show Ext w wr from hb))
      clear hdes hb hrd hrows hov hpc
      go_wp2_with fail
      go_ret2
      exact ⟨p, rfl, HH.out.1, HH.out.2⟩
set_option maxRecDepth 100000 in
set_option maxHeartbeats 4000000 in
theorem new24_any (A : Option Addr) (c : Nat) (key : List UInt8) (w : World) (h : Rd w w.heap.size A 24 key) (hc : 24 ≤ c) :
    Calls Tryd.prog 18 #[.slice A 24 c] w (NewRet w key) := by
  have hl := h.len
  obtain ⟨b0, o0, rfl, _, _⟩ := h.at_ (by omega)
  have hx0 := Ext.alloc w (.cells #[Value.slice none 0 0] 74)
  have HX0 := hid hx0
  have HRW := hid h
  have HR0 := hid (h.later hx0)
  have hp0 := heap_alloc_new w (.cells #[Value.slice none 0 0] 74)
  go_enter Tryd.func18, Tryd.ntmps18
  go_wp2_with fail
  obtain ⟨W0, hW0⟩ : ∃ W0, w.alloc (.cells #[Value.slice none 0 0] 74) = W0 := ⟨_, rfl⟩
  obtain ⟨p, hp⟩ : ∃ p, w.heap.size = p := ⟨_, rfl⟩
  have hpw := hid (show w.heap.size ≤ p by omega)
  rw [hW0] at HX0 HR0 hp0 ⊢
  rw [hp] at hp0 ⊢
  have HP0 := hid hp0
  have hkey3 : key3 key = key := by unfold key3; rw [if_neg (by omega)]
  have hm : manyOf key.length = 3 := by unfold manyOf; rw [if_neg (by omega)]
  have hres : ∀ q w', IsDes w' q 3 (fun j => keyF ((key.drop (8 * j)).take 8)) → IsDes w' q (manyOf key.length) (kfOf key) := fun q w' h => by
    rw [hm]; unfold kfOf; rw [hkey3]; exact h
  have HRES := hid hres
  clear hx0 hp0 h hW0 hkey3 hm hres hl hp
  go_loopw [5] (fun i wr => ∃ (k : Nat) (v : Value) (vs : List Value), k ≤ 3 ∧ i = .int .i64 ((8 * k : Nat) : Int) ∧ wr.heap[p]? = some (.cells #[v] 74 (0, 0)) ∧ OwnV 24 wr (p + 1) v vs ∧ vs.length = k ∧
      (∀ j, j < k → ∃ bk ck, vs[j]? = some (.slice (some ⟨bk, 0, none⟩) 16 ck) ∧ 16 ≤ ck ∧ KO wr bk (keyF ((key.drop (8 * j)).take 8))) ∧ Below w.heap.size w wr ∧ Rd wr wr.heap.size (some ⟨b0, o0, none⟩) 24 key) (fun i _ => 24 - (intOf i).toNat)
  case atStart => exact ⟨0, _, [], by omega, rfl, HP0.out, World.ownsRow_nil _ _ _ _, rfl, fun j hj => absurd hj (by omega), HX0.out, HR0.out⟩
  case round =>
    clear HP0 HX0 HR0
    obtain ⟨k, v, vs, hk, rfl, hpc, hov, hvl, hrows, hb, hrd⟩ := hrel
    by_cases hlt : k < 3
    · have HPC := hid hpc
      have HOV := hid hov
      have HROWS := hid hrows
      have HB := hid hb
      have HRD := hid hrd
      have HK := hid (hrd.part (8 * k) 8 (by omega))
      have hq1 : ((8 * k : Nat) : Int) < 24 := by omega
      clear hpc hov hrows hb hrd
      go_wp2_with fail
      refine (keys_any _ _ _ _ HK.out).mono ?_
      rintro e w2 ⟨bk, ck, rfl, hck, hko, hx2⟩
      have HX2 := hid hx2
      have HKO := hid hko
      have hpl := (Array.getElem?_eq_some_iff.1 HPC.out).1
      have hpc2 : w2.heap[p]? = some (.cells #[v] 74 (0, 0)) := (Below.block hx2 p hpl).trans HPC.out
      have hcp2 : w2.cell? ⟨p, 0, none⟩ = some v := by rw [cell_of_heap hpc2]; rfl
      have hx3 : Ext w2 (w2.alloc (.cells #[.slice (some ⟨bk, 0, none⟩) 16 ck] 24)) := Ext.alloc _ _
      have hov3 := (HOV.out.kept hx2).kept hx3
      have hcell3 := cell_lit w2 [.slice (some ⟨bk, 0, none⟩) 16 ck] 24 0 (.slice (some ⟨bk, 0, none⟩) 16 ck) rfl
      rw [Nat.zero_add] at hcell3
      have hz2 := Below.size hx2
      have hpl2 : p + 1 ≤ (w2.alloc (.cells #[.slice (some ⟨bk, 0, none⟩) 16 ck] 24)).heap.size := by simp; omega
      have hpc3 : (w2.alloc (.cells #[.slice (some ⟨bk, 0, none⟩) 16 ck] 24)).heap[p]? = some (.cells #[v] 74 (0, 0)) := (Below.block hx3 p (by omega)).trans hpc2
      have HX3 := hid (Ext.trans hx2 hx3)
      have hl9 : (vs ++ [Value.slice (some ⟨bk, 0, none⟩) 16 ck]).length = k + 1 := by simp [hvl]
      have HKO3 := hid (hko.later hx3)
      have HPC3 := hid hpc3
      clear hx2 hko hx3 hpc2 hpc3
      go_wp2_with (at_builtin; refine wpL_appendV _ rfl (.tmp 41) (.tmp 43) 72 24 rfl Tryd.underlying72 Tryd.info24 (p + 1) _ vs rfl hov3 _ 1 (.slice (some ⟨bk, 0, none⟩) 16 ck) rfl hcell3 rfl (by omega) hpl2 ?_; intro v9 w9 hown9 hg9; obtain ⟨b9, c9, rfl, hc9⟩ := hown9.headn hl9; have hpc9 := (hg9.block p (by omega) (hov3.block_ne HPC3.out (by decide))).trans HPC3.out; have hcp9 : w9.cell? ⟨p, 0, none⟩ = some v := (by rw [cell_of_heap hpc9]; rfl); have hfr9 := frozen_one hpc9)
      have HH := hid (show (w9.setCell ⟨p, 0, none⟩ (.slice (some ⟨b9, 0, none⟩) (k + 1) c9)).heap[p]? = some (.cells #[.slice (some ⟨b9, 0, none⟩) (k + 1) c9] 74 (0, 0)) ∧
          OwnV 24 (w9.setCell ⟨p, 0, none⟩ (.slice (some ⟨b9, 0, none⟩) (k + 1) c9)) (p + 1) (.slice (some ⟨b9, 0, none⟩) (k + 1) c9) (vs ++ [Value.slice (some ⟨bk, 0, none⟩) 16 ck]) ∧
          (∀ j, j < k + 1 → ∃ bk2 ck2, (vs ++ [Value.slice (some ⟨bk, 0, none⟩) 16 ck])[j]? = some (.slice (some ⟨bk2, 0, none⟩) 16 ck2) ∧ 16 ≤ ck2 ∧ KO (w9.setCell ⟨p, 0, none⟩ (.slice (some ⟨b9, 0, none⟩) (k + 1) c9)) bk2 (keyF ((key.drop (8 * j)).take 8))) ∧
          Below w.heap.size w (w9.setCell ⟨p, 0, none⟩ (.slice (some ⟨b9, 0, none⟩) (k + 1) c9)) from by
        refine ⟨heap_set_one hpc9, hown9.typedG (grown_set _ _ _ _) hpc9 (by decide), fun j hj => ?_, ?_⟩
        · by_cases hjk : j = k
          · subst hjk
            exact ⟨bk, ck, by simp [hvl], hck, (HKO3.out.typed hov3 (by decide) (by decide) hg9).typedG (grown_set _ _ _ _) hpc9 (by decide) (by decide)⟩
          · obtain ⟨bk2, ck2, h1, h2, h3⟩ := HROWS.out j (by omega)
            exact ⟨bk2, ck2, by rw [List.getElem?_append_left (by omega)]; exact h1, h2, ((h3.later HX3.out).typed hov3 (by decide) (by decide) hg9).typedG (grown_set _ _ _ _) hpc9 (by decide) (by decide)⟩
        · have hp1 := hpw.out
          have hb3 := (HB.out.trans (Below.mono HX3.out HB.out.size))
          have hz3 := hb3.size
          exact (hb3.grown hg9 hz3 (fun q hq => by have := (World.ownsRow.lt hov3 q hq).1; omega)).setCell (by simp; omega) _)
      have HRD9 := hid (show Rd (w9.setCell ⟨p, 0, none⟩ (.slice (some ⟨b9, 0, none⟩) (k + 1) c9)) (w9.setCell ⟨p, 0, none⟩ (.slice (some ⟨b9, 0, none⟩) (k + 1) c9)).heap.size (some ⟨b0, o0, none⟩) 24 key from (HRW.out.below HH.out.2.2.2 (Nat.le_refl _)).more (Below.size HH.out.2.2.2))
      clear hown9 hg9 hov3 hcell3 hpc9 hcp9 hfr9
      go_wp2_with fail
      go_roundw
      case rel => exact ⟨k + 1, _, _, by omega, by rw [show ((8 * (k + 1) : Nat) : Int) = 8 * (k : Int) + 8 by omega], HH.out.1, HH.out.2.1, hl9, HH.out.2.2.1, HH.out.2.2.2, HRD9.out⟩
      case measure => simp [intOf]; omega
    · obtain rfl : k = 3 := by omega
      rw [show ((8 * 3 : Nat) : Int) = 24 from rfl]
      have hdes : IsDes wr p 3 (fun j => keyF ((key.drop (8 * j)).take 8)) := by
        rcases hov.2 with ⟨_, hn⟩ | ⟨g, cap, cur, rfl, hbg, hh, hnc, r⟩
        · omega
        · refine ⟨g, cap, by rw [cell_of_heap hpc, hvl]; rfl, by omega, fun j hj => ?_⟩
          obtain ⟨bk, ck, h1, h2, h3⟩ := hrows j hj
          refine ⟨bk, ck, ?_, h2, h3.kr⟩
          rw [OwnV.celln (c := cap) (n := vs.length) ⟨hov.1, .inr ⟨g, cap, cur, rfl, hbg, hh, hnc, r⟩⟩ rfl j (by omega)]
          exact h1
      have HH := hid (And.intro (HRES.out p wr hdes) (show Ext w wr from hb))
      clear hdes hb hrd hrows hov hpc
      go_wp2_with fail
      go_ret2
      exact ⟨p, rfl, HH.out.1, HH.out.2⟩
set_option maxRecDepth 100000 in
set_option maxHeartbeats 4000000 in
theorem new16_any (A : Option Addr) (c : Nat) (key : List UInt8) (w : World) (h : Rd w w.heap.size A 16 key) (hc : 16 ≤ c) :
    Calls Tryd.prog 18 #[.slice A 16 c] w (NewRet w key) := by
  have hl := h.len
  obtain ⟨b0, o0, rfl, _, _⟩ := h.at_ (by omega)
  have hrow := RowsB.two w (some ⟨b0, o0, none⟩) (some ⟨b0, o0, none⟩) 16 8 c c 22 _ _ h (h.cuthi 8 (by omega))
  have hal : Ext w (w.alloc (.cells #[.slice (some ⟨b0, o0, none⟩) 16 c, .slice (some ⟨b0, o0, none⟩) 8 c] 22)) := Ext.alloc _ _
  have hfl : ([key, key.take 8] : List (List UInt8)).flatten = key ++ key.take 8 := by simp
  have hfll : (key ++ key.take 8).length = 24 := by simp; omega
  have hkey3 : key3 key = key ++ key.take 8 := by unfold key3; rw [if_pos hl]
  have hm : manyOf key.length = 3 := by unfold manyOf; rw [if_neg (by omega)]
  obtain ⟨K3, hK3⟩ : ∃ K3, key ++ key.take 8 = K3 := ⟨_, rfl⟩
  rw [hK3] at hfl hfll hkey3
  have hres : ∀ q w', IsDes w' q 3 (fun j => keyF ((K3.drop (8 * j)).take 8)) → IsDes w' q (manyOf key.length) (kfOf key) := fun q w' h => by
    rw [hm]; unfold kfOf; rw [hkey3]; exact h
  have HRES := hid hres
  have HROW := hid hrow
  have HAL := hid hal
  have HFL := hid hfl
  have HFLL := hid hfll
  clear hrow hal hfl hfll hkey3 hm hres hl h hK3
  go_enter Tryd.func18, Tryd.ntmps18
  go_wp2_with fail
  refine (concatB_any _ 0 2 2 _ _ rfl HROW.out (by rw [HFL.out, HFLL.out]; omega) (by rw [HFL.out, HFLL.out]; omega) (by omega)).mono ?_
  rw [HFL.out]
  rintro e w1 ⟨v1, rfl, ho1, hx1⟩
  obtain ⟨A1, c1, rfl, hc1, hr1, _⟩ := ho1.rdc HFLL.out
  obtain ⟨b1, o1, rfl, _, _⟩ := hr1.at_ (by omega)
  have HX1 := hid (Ext.trans HAL.out hx1)
  have HRW := hid hr1
  have hx0 := Ext.alloc w1 (.cells #[Value.slice none 0 0] 74)
  have HX0 := hid hx0
  have HR0 := hid (hr1.later hx0)
  have hp0 := heap_alloc_new w1 (.cells #[Value.slice none 0 0] 74)
  clear ho1 hr1 hx1 HROW HAL HFL HFLL hx0
  go_wp2_with fail
  obtain ⟨W0, hW0⟩ : ∃ W0, w1.alloc (.cells #[Value.slice none 0 0] 74) = W0 := ⟨_, rfl⟩
  obtain ⟨p, hp⟩ : ∃ p, w1.heap.size = p := ⟨_, rfl⟩
  have hpw := hid (show w1.heap.size ≤ p by omega)
  rw [hW0] at HX0 HR0 hp0 ⊢
  rw [hp] at hp0 ⊢
  have HP0 := hid hp0
  clear hp0 hW0 hp
  go_loopw [5] (fun i wr => ∃ (k : Nat) (v : Value) (vs : List Value), k ≤ 3 ∧ i = .int .i64 ((8 * k : Nat) : Int) ∧ wr.heap[p]? = some (.cells #[v] 74 (0, 0)) ∧ OwnV 24 wr (p + 1) v vs ∧ vs.length = k ∧
      (∀ j, j < k → ∃ bk ck, vs[j]? = some (.slice (some ⟨bk, 0, none⟩) 16 ck) ∧ 16 ≤ ck ∧ KO wr bk (keyF ((K3.drop (8 * j)).take 8))) ∧ Below w1.heap.size w1 wr ∧ Rd wr wr.heap.size (some ⟨b1, o1, none⟩) 24 K3) (fun i _ => 24 - (intOf i).toNat)
  case atStart => exact ⟨0, _, [], by omega, rfl, HP0.out, World.ownsRow_nil _ _ _ _, rfl, fun j hj => absurd hj (by omega), HX0.out, HR0.out⟩
  case round =>
    clear HP0 HX0 HR0
    obtain ⟨k, v, vs, hk, rfl, hpc, hov, hvl, hrows, hb, hrd⟩ := hrel
    by_cases hlt : k < 3
    · have HPC := hid hpc
      have HOV := hid hov
      have HROWS := hid hrows
      have HB := hid hb
      have HRD := hid hrd
      have HK := hid (hrd.part (8 * k) 8 (by omega))
      have hq1 : ((8 * k : Nat) : Int) < 24 := by omega
      clear hpc hov hrows hb hrd
      go_wp2_with fail
      refine (keys_any _ _ _ _ HK.out).mono ?_
      rintro e w2 ⟨bk, ck, rfl, hck, hko, hx2⟩
      have HX2 := hid hx2
      have HKO := hid hko
      have hpl := (Array.getElem?_eq_some_iff.1 HPC.out).1
      have hpc2 : w2.heap[p]? = some (.cells #[v] 74 (0, 0)) := (Below.block hx2 p hpl).trans HPC.out
      have hcp2 : w2.cell? ⟨p, 0, none⟩ = some v := by rw [cell_of_heap hpc2]; rfl
      have hx3 : Ext w2 (w2.alloc (.cells #[.slice (some ⟨bk, 0, none⟩) 16 ck] 24)) := Ext.alloc _ _
      have hov3 := (HOV.out.kept hx2).kept hx3
      have hcell3 := cell_lit w2 [.slice (some ⟨bk, 0, none⟩) 16 ck] 24 0 (.slice (some ⟨bk, 0, none⟩) 16 ck) rfl
      rw [Nat.zero_add] at hcell3
      have hz2 := Below.size hx2
      have hpl2 : p + 1 ≤ (w2.alloc (.cells #[.slice (some ⟨bk, 0, none⟩) 16 ck] 24)).heap.size := by simp; omega
      have hpc3 : (w2.alloc (.cells #[.slice (some ⟨bk, 0, none⟩) 16 ck] 24)).heap[p]? = some (.cells #[v] 74 (0, 0)) := (Below.block hx3 p (by omega)).trans hpc2
      have HX3 := hid (Ext.trans hx2 hx3)
      have hl9 : (vs ++ [Value.slice (some ⟨bk, 0, none⟩) 16 ck]).length = k + 1 := by simp [hvl]
      have HKO3 := hid (hko.later hx3)
      have HPC3 := hid hpc3
      clear hx2 hko hx3 hpc2 hpc3
      go_wp2_with (at_builtin; refine wpL_appendV _ rfl (.tmp 41) (.tmp 43) 72 24 rfl Tryd.underlying72 Tryd.info24 (p + 1) _ vs rfl hov3 _ 1 (.slice (some ⟨bk, 0, none⟩) 16 ck) rfl hcell3 rfl (by omega) hpl2 ?_; intro v9 w9 hown9 hg9; obtain ⟨b9, c9, rfl, hc9⟩ := hown9.headn hl9; have hpc9 := (hg9.block p (by omega) (hov3.block_ne HPC3.out (by decide))).trans HPC3.out; have hcp9 : w9.cell? ⟨p, 0, none⟩ = some v := (by rw [cell_of_heap hpc9]; rfl); have hfr9 := frozen_one hpc9)
      have HH := hid (show (w9.setCell ⟨p, 0, none⟩ (.slice (some ⟨b9, 0, none⟩) (k + 1) c9)).heap[p]? = some (.cells #[.slice (some ⟨b9, 0, none⟩) (k + 1) c9] 74 (0, 0)) ∧
          OwnV 24 (w9.setCell ⟨p, 0, none⟩ (.slice (some ⟨b9, 0, none⟩) (k + 1) c9)) (p + 1) (.slice (some ⟨b9, 0, none⟩) (k + 1) c9) (vs ++ [Value.slice (some ⟨bk, 0, none⟩) 16 ck]) ∧
          (∀ j, j < k + 1 → ∃ bk2 ck2, (vs ++ [Value.slice (some ⟨bk, 0, none⟩) 16 ck])[j]? = some (.slice (some ⟨bk2, 0, none⟩) 16 ck2) ∧ 16 ≤ ck2 ∧ KO (w9.setCell ⟨p, 0, none⟩ (.slice (some ⟨b9, 0, none⟩) (k + 1) c9)) bk2 (keyF ((K3.drop (8 * j)).take 8))) ∧
          Below w1.heap.size w1 (w9.setCell ⟨p, 0, none⟩ (.slice (some ⟨b9, 0, none⟩) (k + 1) c9)) from by
        refine ⟨heap_set_one hpc9, hown9.typedG (grown_set _ _ _ _) hpc9 (by decide), fun j hj => ?_, ?_⟩
        · by_cases hjk : j = k
          · subst hjk
            exact ⟨bk, ck, by simp [hvl], hck, (HKO3.out.typed hov3 (by decide) (by decide) hg9).typedG (grown_set _ _ _ _) hpc9 (by decide) (by decide)⟩
          · obtain ⟨bk2, ck2, h1, h2, h3⟩ := HROWS.out j (by omega)
            exact ⟨bk2, ck2, by rw [List.getElem?_append_left (by omega)]; exact h1, h2, ((h3.later HX3.out).typed hov3 (by decide) (by decide) hg9).typedG (grown_set _ _ _ _) hpc9 (by decide) (by decide)⟩
        · have hp1 := hpw.out
          have hb3 := (HB.out.trans (Below.mono HX3.out HB.out.size))
          have hz3 := hb3.size
          exact (hb3.grown hg9 hz3 (fun q hq => by have := (World.ownsRow.lt hov3 q hq).1; omega)).setCell (by simp; omega) _)
      have HRD9 := hid (show Rd (w9.setCell ⟨p, 0, none⟩ (.slice (some ⟨b9, 0, none⟩) (k + 1) c9)) (w9.setCell ⟨p, 0, none⟩ (.slice (some ⟨b9, 0, none⟩) (k + 1) c9)).heap.size (some ⟨b1, o1, none⟩) 24 K3 from (HRW.out.below HH.out.2.2.2 (Nat.le_refl _)).more (Below.size HH.out.2.2.2))
      clear hown9 hg9 hov3 hcell3 hpc9 hcp9 hfr9
      go_wp2_with fail
      go_roundw
      case rel => exact ⟨k + 1, _, _, by omega, by rw [show ((8 * (k + 1) : Nat) : Int) = 8 * (k : Int) + 8 by omega], HH.out.1, HH.out.2.1, hl9, HH.out.2.2.1, HH.out.2.2.2, HRD9.out⟩
      case measure => simp [intOf]; omega
    · obtain rfl : k = 3 := by omega
      rw [show ((8 * 3 : Nat) : Int) = 24 from rfl]
      have hdes : IsDes wr p 3 (fun j => keyF ((K3.drop (8 * j)).take 8)) := by
        rcases hov.2 with ⟨_, hn⟩ | ⟨g, cap, cur, rfl, hbg, hh, hnc, r⟩
        · omega
        · refine ⟨g, cap, by rw [cell_of_heap hpc, hvl]; rfl, by omega, fun j hj => ?_⟩
          obtain ⟨bk, ck, h1, h2, h3⟩ := hrows j hj
          refine ⟨bk, ck, ?_, h2, h3.kr⟩
          rw [OwnV.celln (c := cap) (n := vs.length) ⟨hov.1, .inr ⟨g, cap, cur, rfl, hbg, hh, hnc, r⟩⟩ rfl j (by omega)]
          exact h1
      have HH := hid (And.intro (HRES.out p wr hdes) (Ext.trans HX1.out (show Ext w1 wr from hb)))
      clear hdes hb hrd hrows hov hpc
      go_wp2_with fail
      go_ret2
      exact ⟨p, rfl, HH.out.1, HH.out.2⟩
end Go.Proofs.YthfcndaccfpnmaaDoor
