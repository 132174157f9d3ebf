/- Walks over Permute; own lemmas of the verifier, no statement is proved here. -/
import Derived.Test.YthfcndaccfpnmaaDoorB2
import Derived.StillTailTactics
import Derived.Deep.RegionWith
import Derived.Deep.RegionLaw
namespace Go.Proofs.YthfcndaccfpnmaaDoor
open Go.RowKit
/-- The bit that a table takes q-th (from 0). -/
def tb (bs : List UInt8) (ts : List Int) (q : Nat) : Nat := if q < ts.length then bitN bs (ts.getD q 0) else 0
theorem tb_le (bs : List UInt8) (ts : List Int) (q : Nat) : tb bs ts q ≤ 1 := by
  unfold tb; split
  · exact bitN_le _ _
  · omega
/-- The first j bits of the p-th eight. -/
def acc (g : Nat → Nat) (p : Nat) : Nat → Nat
  | 0 => 0
  | j + 1 => 2 * acc g p j + g (8 * p + j)
theorem acc_lt (g : Nat → Nat) (hg : ∀ q, g q ≤ 1) (p : Nat) : ∀ j, acc g p j < 2 ^ j
  | 0 => by simp [acc]
  | j + 1 => by
    have := acc_lt g hg p j
    have h2 := hg (8 * p + j)
    rw [acc, Nat.pow_succ]; omega
theorem acc_lt256 (g : Nat → Nat) (hg : ∀ q, g q ≤ 1) (p j : Nat) (hj : j ≤ 8) : acc g p j < 256 :=
  Nat.lt_of_lt_of_le (acc_lt g hg p j) (Nat.le_trans (Nat.pow_le_pow_right (by omega) hj) (by omega))
def okT (n : Nat) (ts : List Int) : Bool := ts.all fun t => hasN n t
def permF (bs : List UInt8) (ts : List Int) (p : Nat) : UInt8 := UInt8.ofNat (acc (tb bs ts) p 8)
def permL (bs : List UInt8) (ts : List Int) : List UInt8 := (List.range ((ts.length + 7) / 8)).map (permF bs ts)
theorem permL_length (bs : List UInt8) (ts : List Int) : (permL bs ts).length = (ts.length + 7) / 8 := by simp [permL]
def permR (bs : List UInt8) (ts : List Int) : Option (List UInt8) := if okT bs.length ts then some (permL bs ts) else none
/-- What Permute hands back. -/
def PermRet (w : World) (r : Option (List UInt8)) (e : Ending) (w' : World) : Prop :=
  match r with
  | none => e = .returned (.tuple #[.slice none 0 0, .bool false]) ∧ Below w.heap.size w w'
  | some out => ∃ v, e = .returned (.tuple #[v, .bool true]) ∧ Own w' w.heap.size v out ∧ Below w.heap.size w w'
theorem okT_bad {n m k : Nat} {ts : List Int} (hl : ts.length = m) (hk : k < m) (h : hasN n (ts.getD k 0) = false) : okT n ts = false := by
  unfold okT
  rw [List.all_eq_false]
  refine ⟨ts.getD k 0, ?_, by rw [h]; simp⟩
  have : k < ts.length := by omega
  simp [List.getD, List.getElem?_eq_getElem this]
theorem okT_good {n m : Nat} {ts : List Int} (hl : ts.length = m) (h : ∀ j, j < m → hasN n (ts.getD j 0) = true) : okT n ts = true := by
  unfold okT
  rw [List.all_eq_true]
  intro t ht
  obtain ⟨k, hk, rfl⟩ := List.mem_iff_getElem.1 ht
  have := h k (by omega)
  simpa [List.getD, List.getElem?_eq_getElem hk] using this
theorem Tryd.info5 : (Tryd.prog.info? 5).map (fun i => (i.zero, i.size, i.bytes)) = some (some (.int .u8 0), 1, 1) := by kernel_rfl
theorem Rd.drew {w : World} {B n : Nat} {A : Option Addr} {bs : List UInt8} (h : Rd w B A n bs) : Rd w.drew B A n bs := ⟨h.len, h.at_⟩
theorem cell_ne {w : World} {g o : Nat} {v : Value} {a : Addr} (h : ¬ g = a.block) : (w.setCell ⟨g, o, none⟩ v).cell? a = w.cell? a := by
  apply World.cell?_setCell_other
  intro e
  exact h (by rw [← e])
theorem stillSame {P : Program} {f : FuncId} {args : Array Value} {w : World} {v : Value}
    (h : Calls P f args w fun e w' => e = .returned v ∧ w = w') : Calls P f args w fun e w'' => e = .returned v ∧ w'' = w :=
  h.mono fun _ _ ⟨he, hm⟩ => ⟨he, hm.symm⟩
theorem eight_cells {w : World} {Z k p : Nat} {ts : List Int} (hl : ts.length = k)
    (h : w.heap[Z]? = some (.cells (splice (List.replicate 8 (Value.int .i64 0)) 0 (cN .i64 ((ts.drop (8 * p)).take 8))).toArray 81 (0, 0))) :
    ∀ j, j < 8 → w.cell? ⟨Z, j, none⟩ = some (.int .i64 (ts.getD (8 * p + j) 0)) := by
  intro j hj
  have e : (splice (List.replicate 8 (Value.int .i64 0)) 0 (cN .i64 ((ts.drop (8 * p)).take 8)))[j]? = some (.int .i64 (ts.getD (8 * p + j) 0)) := by
    unfold splice
    rw [List.take_zero, List.nil_append, Nat.zero_add, cN_length]
    rcases Nat.lt_or_ge (8 * p + j) k with h1 | h1
    · have hlen : j < (cN .i64 ((ts.drop (8 * p)).take 8)).length := by
        rw [cN_length, List.length_take, List.length_drop]; omega
      rw [List.getElem?_append_left hlen, cN_get _ _ _ (by rw [cN_length] at hlen; exact hlen)]
      simp [List.getD, hj]
    · have hlen : (cN .i64 ((ts.drop (8 * p)).take 8)).length ≤ j := by
        rw [cN_length, List.length_take, List.length_drop]; omega
      rw [List.getElem?_append_right hlen, List.getElem?_drop, List.getElem?_replicate]
      rw [cN_length] at hlen ⊢
      rw [if_pos (by omega)]
      simp [List.getD, List.getElem?_eq_none (show ts.length ≤ 8 * p + j by omega)]
  generalize splice (List.replicate 8 (Value.int .i64 0)) 0 (cN .i64 ((ts.drop (8 * p)).take 8)) = L at h e
  simp [World.cell?, h, e]
theorem Own.at_block {w w' : World} {base g n c : Nat} {bs : List UInt8} (h : Own w base (.slice (some ⟨g, 0, none⟩) n c) bs) (hb : w'.heap[g]? = w.heap[g]?) : Own w' base (.slice (some ⟨g, 0, none⟩) n c) bs := by
  refine ⟨h.1, ?_⟩
  rcases h.2 with ⟨h', _⟩ | ⟨g', cap, cur, e0, hbg, hh, r⟩
  · cases h'
  · refine .inr ⟨g', cap, cur, e0, hbg, ?_, r⟩
    simp only [Value.slice.injEq, Option.some.injEq, Addr.mk.injEq, and_true] at e0
    rw [← e0.1, hb, e0.1]; exact hh
theorem tb_bit (bs : List UInt8) (ts : List Int) (q : Nat) : bitN bs (ts.getD q 0) = tb bs ts q := by
  unfold tb
  split
  · rfl
  · rename_i h
    rw [show ts.getD q 0 = 0 by simp [List.getD, List.getElem?_eq_none (show ts.length ≤ q by omega)]]
    exact bitN_out (by unfold hasN; simp)
theorem or_bit (x b : Nat) (hb : b ≤ 1) : (2 * x) ||| b = 2 * x + b := by
  have := Nat.two_pow_add_eq_or_of_lt (i := 1) (b := b) (by omega) x
  rw [Nat.pow_one] at this
  exact this.symm
theorem acc_step (x b : Nat) (hx : x < 128) (hb : b ≤ 1) : bits .or .u8 ((x : Int) * 2) (b : Int) = ((2 * x + b : Nat) : Int) := by
  have e : (x : Int) * 2 = ((2 * x : Nat) : Int) := by omega
  rw [e, u8_or_nat _ _ (by omega) (by omega), or_bit x b hb]
theorem u8_nat (x : Nat) (h : x < 256) : ((UInt8.ofNat x).toNat : Int) = x := by
  rw [UInt8.toNat_ofNat']; omega
theorem fillTo_at (f : Nat → UInt8) (n k : Nat) : (fillTo f n k).set k 0 = fillTo f n k := by
  apply List.ext_getElem
  · simp
  · intro i h1 h2
    rw [List.getElem_set]
    split
    · rename_i h; subst h; simp [fillTo]
    · rfl
set_option maxHeartbeats 4000000 in
theorem perm_any (A A' : Option Addr) (n m c c' : Nat) (bs : List UInt8) (ts : List Int) (w : World) (h : Rd w w.heap.size A n bs) (h' : RdN .i64 w w.heap.size A' m ts)
    (hm : m ≤ 1000000) (hc' : m ≤ c') (hx : ∀ j, j < m → (Lit.int .i64 (ts.getD j 0)).wf = true) :
    Calls Tryd.prog 27 #[.slice A n c, .slice A' m c'] w (PermRet w (permR bs ts)) := by
  have hl := hid h.len
  have hl' := hid h'.len
  go_enter Tryd.func27, Tryd.ntmps27
  go_wp2_with fail
  go_loopw [14] (fun i wr => ∃ (k : Nat), k ≤ m ∧ i = .int .i64 k ∧ Below w.heap.size w wr ∧ ∀ j, j < k → hasN n (ts.getD j 0) = true) (fun i _ => m - (intOf i).toNat)
  case atStart => exact ⟨0, Nat.zero_le _, rfl, Below.refl _ _, fun j hj => absurd hj (by omega)⟩
  case round =>
    obtain ⟨k, hk, rfl, hb, hall⟩ := hrel
    by_cases hlt : k < m
    · obtain ⟨b1, o1, rfl, hb1', hc1⟩ := (h'.below hb (Nat.le_refl _)).at_ (by omega)
      have hck1 := hc1 k hlt
      have hwf := wf_i64 (hx k hlt)
      cases hh : hasN n (ts.getD k 0) with
      | false =>
        have HF := hid (okT_bad (n := n) hl'.out hlt hh)
        obtain ⟨x, hxx⟩ : ∃ x, ts.getD k 0 = x := ⟨_, rfl⟩
        rw [hxx] at hck1 hwf hh
        obtain ⟨hlo, hhi⟩ := hwf
        have HB := hid hb
        clear hxx hall hb h h' hc1 hx
        go_wp2_with (go_at_call 50; refine (has_any _ _ _ _ _ hlo hhi).mono ?_; rintro e w' ⟨rfl, rfl⟩; rw [hh])
        go_ret2
        unfold permR
        rw [hl.out, HF.out]
        exact ⟨rfl, HB.out⟩
      | true =>
        have HH := hid (show ∀ j, j < k + 1 → hasN n (ts.getD j 0) = true from fun j hj => by
          rcases Nat.lt_or_ge j k with h1 | h1
          · exact hall j h1
          · obtain rfl : j = k := by omega
            exact hh)
        obtain ⟨x, hxx⟩ : ∃ x, ts.getD k 0 = x := ⟨_, rfl⟩
        rw [hxx] at hck1 hwf hh
        obtain ⟨hlo, hhi⟩ := hwf
        have HB := hid hb
        clear hxx hall hb h h' hc1 hx
        go_wp2_with (go_at_call 50; refine (has_any _ _ _ _ _ hlo hhi).mono ?_; rintro e w' ⟨rfl, rfl⟩; rw [hh])
        go_roundw
        case rel => exact ⟨k + 1, by omega, by go_num, HB.out, HH.out⟩
        case measure => simp [intOf]; omega
    · obtain rfl : k = m := by omega
      have HF := hid (okT_good (n := n) hl'.out hall)
      have HALL := hid hall
      have hr := h.below hb (Nat.le_refl _)
      have hr' := h'.below hb (Nat.le_refl _)
      have HB0 := hid hb
      have hsz := hb.size
      have HXF := hid hx
      clear hall hb h h' hx
      go_wp2_with (at_make; refine wpL_make rfl (.tmp 26) (.tmp 26) 22 rfl Tryd.underlying22 Tryd.info5 .i64 _ ((k + 7) / 8) rfl rfl (by omega) (by omega) w.heap.size hsz ?_; intro w1 hown1 hb1 _)
      obtain ⟨M, hM⟩ : ∃ M, (k + 7) / 8 = M := ⟨_, rfl⟩
      rw [hM] at hown1
      rw [hM]
      obtain ⟨G, hG⟩ : ∃ G, wr.heap.size = G := ⟨_, rfl⟩
      rw [hG] at hown1 hb1 hsz
      rw [hG]
      have hr1 := hr.below hb1 (by omega)
      have hr1' := hr'.below hb1 (by omega)
      have HB1 := hid (HB0.out.trans (Below.mono hb1 hsz))
      have hM2 : 8 * M ≤ k + 7 := by omega
      have hM3 : k ≤ 8 * M := by omega
      have hM4 := hid hM
      have hG1 := hown1.base_le
      clear hr hr' hb1 HB0 hM
      go_wp2_with fail
      go_loopw [30] (fun i wr => ∃ (p : Nat), p ≤ M ∧ i = .int .i64 p ∧ Own wr w.heap.size (.slice (some ⟨G, 0, none⟩) M M) (fillTo (permF bs ts) M p) ∧ Below w.heap.size w wr ∧ Rd wr w.heap.size A n bs ∧ RdN .i64 wr w.heap.size A' k ts ∧ G < wr.heap.size) (fun i _ => M - (intOf i).toNat)
      case atStart => exact ⟨0, Nat.zero_le _, rfl, by rw [fillTo_zero]; exact hown1, HB1.out, hr1, hr1', hG1.2⟩
      case round =>
        clear hown1 hr1 hr1' HB1
        obtain ⟨p, hp, rfl, hown, hb, hr, hr', hGz⟩ := hrel
        by_cases hpt : p < M
        · have hpk : 8 * p < k := by omega
          obtain ⟨b1, o1, rfl, hb1', hc1⟩ := hr'.at_ (by omega)
          have hzz := hb.size
          obtain ⟨Z, hZ⟩ : ∃ Z, wr.heap.size = Z := ⟨_, rfl⟩
          obtain ⟨W2, hW2⟩ : ∃ W2, wr.alloc (.cells #[.int .i64 0, .int .i64 0, .int .i64 0, .int .i64 0, .int .i64 0, .int .i64 0, .int .i64 0, .int .i64 0] 81) = W2 := ⟨_, rfl⟩
          have hx2 : Ext wr W2 := by rw [← hW2]; exact Ext.alloc _ _
          have hz2 : W2.heap[Z]? = some (.cells (List.replicate 8 (Value.int .i64 0)).toArray 81 (0, 0)) := by rw [← hW2, ← hZ]; exact (heap_alloc_new _ _)
          have hc2 : ∀ j, j < k → W2.cell? ⟨b1, o1 + j, none⟩ = some (.int .i64 (ts.getD j 0)) := fun j hj => (Below.cell hx2 (p := ⟨b1, o1 + j, none⟩) (by show b1 < wr.heap.size; omega)).trans (hc1 j hj)
          have hown2 := hown.kept hx2
          have hb2 := hb.trans (Below.mono hx2 hzz)
          have hr2 := hr.below hx2 hzz
          have hr2' := hr'.below hx2 hzz
          have hcs : (cN .i64 ((ts.drop (8 * p)).take 8)).length = Nat.min (k - 8 * p) 8 := by
            rw [cN_length, List.length_take, List.length_drop, hl'.out]; exact Nat.min_comm _ _
          have hsr : ∀ j v, (cN .i64 ((ts.drop (8 * p)).take 8))[j]? = some v → W2.cell? ((⟨b1, o1 + 8 * p, none⟩ : Addr).add j) = some v := by
            intro j v hv
            rw [add_off]
            have hj : j < Nat.min (k - 8 * p) 8 := by
              rcases Nat.lt_or_ge j (Nat.min (k - 8 * p) 8) with h1 | h1
              · exact h1
              · rw [List.getElem?_eq_none (by omega)] at hv; cases hv
            have hj1 : j < k - 8 * p := Nat.lt_of_lt_of_le hj (Nat.min_le_left _ _)
            have hj2 : j < 8 := Nat.lt_of_lt_of_le hj (Nat.min_le_right _ _)
            rw [cN_get _ _ _ (by rw [cN_length] at hcs; omega)] at hv
            cases hv
            have := hc2 (8 * p + j) (by omega)
            rw [← Nat.add_assoc] at this
            rw [this]
            simp [List.getD, hj2]
          have HF8 := hid (show 0 + (cN .i64 ((ts.drop (8 * p)).take 8)).length ≤ (List.replicate 8 (Value.int .i64 0)).length by rw [hcs, List.length_replicate, Nat.zero_add]; exact Nat.min_le_right _ _)
          have HC := hid hcs
          have HS := hid hsr
          have HZ2 := hid hz2
          have HX2 := hid (And.intro hown2 (And.intro hb2 (And.intro hr2 hr2')))
          have hcp : ¬ c' = 8 * p := by omega
          have hz1 : G < Z := by omega
          have hz3 : Z < W2.heap.size := (Array.getElem?_eq_some_iff.1 hz2).1
          have HW := hid hW2
          clear hcs hsr hz2 hown2 hb2 hr2 hr2' hown hb hr hr' hc1 hc2 hx2 hW2 hGz hzz
          go_wp2_with fail
          rw [HW.out]
          clear HW
          have q1 : IntKind.i64.wrap (8 * (p : Int)) = 8 * (p : Int) := by rw [IntWalk.i64_in _ (by omega)]
          have q2 : (0 : Int) ≤ 8 * (p : Int) := by omega
          have q3 : 8 * (p : Int) ≤ (k : Int) := by omega
          have q4 : (8 * (p : Int)).toNat = 8 * p := by omega
          go_region_law (refine step_copy_splice rfl (.tmp 33) (.tmp 37) 46 46 rfl 3 rfl (by kernel_rfl) (some ⟨Z, 0, none⟩) (some ⟨b1, o1 + 8 * p, none⟩) 8 8 (k - 8 * p) (c' - 8 * p) (by simp [Act.eval, Act.put]) (by simp [Act.eval, Act.put]) Z 0 (List.replicate 8 (Value.int .i64 0)) 81 HZ2.out (cN .i64 ((ts.drop (8 * p)).take 8)) HC.out (fun _ => ⟨rfl, _, rfl, HS.out⟩) HF8.out (cN_one _ _) Z W2 (Below.refl _ _).drew (Nat.le_refl _) ?_; intro W3 hz3' hx3)
          have HE := hid (eight_cells hl'.out hz3'.out)
          have hZ3 : Z < W3.heap.size := (Array.getElem?_eq_some_iff.1 hz3'.out).1
          have hbase : w.heap.size ≤ Z := by omega
          have hown3 : Own W3 w.heap.size (.slice (some ⟨G, 0, none⟩) M M) ((fillTo (permF bs ts) M p).set p (UInt8.ofNat (acc (tb bs ts) p 0))) := by
            have h1 : Own W3 w.heap.size (.slice (some ⟨G, 0, none⟩) M M) (fillTo (permF bs ts) M p) := HX2.out.1.at_block (hx3.block G hz1)
            have e0 : (fillTo (permF bs ts) M p).set p (UInt8.ofNat (acc (tb bs ts) p 0)) = fillTo (permF bs ts) M p := fillTo_at _ _ _
            rw [e0]; exact h1
          have hb3 := hid (HX2.out.2.1.trans (Below.mono hx3 hbase))
          have hr3 := hid (HX2.out.2.2.1.below (Below.mono hx3 hbase) (Nat.le_refl _))
          have hr3' := hid (HX2.out.2.2.2.below (Below.mono hx3 hbase) (Nat.le_refl _))
          clear hx3 hz3' HX2 HZ2 HS HC HF8 q1 q2 q3 q4 hcp hz3 hZ
          go_wp2_with fail
          go_loopw [39] (fun i wr => ∃ (j : Nat), j ≤ 8 ∧ i = .int .i64 j ∧ Own wr w.heap.size (.slice (some ⟨G, 0, none⟩) M M) ((fillTo (permF bs ts) M p).set p (UInt8.ofNat (acc (tb bs ts) p j))) ∧ Below w.heap.size w wr ∧ Rd wr w.heap.size A n bs ∧ RdN .i64 wr w.heap.size (some ⟨b1, o1, none⟩) k ts ∧ Z < wr.heap.size ∧ (∀ j, j < 8 → wr.cell? ⟨Z, j, none⟩ = some (.int .i64 (ts.getD (8 * p + j) 0)))) (fun i _ => 8 - (intOf i).toNat)
          case atStart => exact ⟨0, by omega, rfl, hown3, hb3.out, hr3.out, hr3'.out, hZ3, HE.out⟩
          case round =>
            clear hb3 hr3 hr3' HE hZ3 hown3
            obtain ⟨j, hj, rfl, hown, hb, hr, hr', hZ3, hE⟩ := hrel
            by_cases hjt : j < 8
            · have hcE := hE j hjt
              have hal := acc_lt (tb bs ts) (tb_le bs ts) p j
              have hal2 : acc (tb bs ts) p j < 128 := Nat.lt_of_lt_of_le hal (Nat.le_trans (Nat.pow_le_pow_right (by omega) (show j ≤ 7 by omega)) (by omega))
              have hstep := acc_step _ _ hal2 (tb_le bs ts (8 * p + j))
              obtain ⟨x, hx⟩ : ∃ x, ts.getD (8 * p + j) 0 = x := ⟨_, rfl⟩
              have hxb : -9223372036854775808 ≤ x ∧ x ≤ 9223372036854775807 := by
                rw [← hx]
                rcases Nat.lt_or_ge (8 * p + j) k with h1 | h1
                · exact wf_i64 (HXF.out _ h1)
                · rw [show ts.getD (8 * p + j) 0 = 0 by simp [List.getD, List.getElem?_eq_none (show ts.length ≤ 8 * p + j by rw [hl'.out]; exact h1)]]
                  omega
              obtain ⟨hxlo, hxhi⟩ := hxb
              have htb := tb_bit bs ts (8 * p + j)
              rw [hx] at htb hcE
              rw [← htb] at hstep
              have hob : (bitN bs x : Int) ≤ 1 := by have := bitN_le bs x; omega
              obtain ⟨cur, hcur⟩ : ∃ cur, (fillTo (permF bs ts) M p).set p (UInt8.ofNat (acc (tb bs ts) p j)) = cur := ⟨_, rfl⟩
              rw [hcur] at hown
              have hcl : cur.length = M := by rw [← hcur, List.length_set]; exact fillTo_length _ _ _
              have hown0 : Own wr w.heap.size (.slice (some ⟨G, 0, none⟩) cur.length M) cur := by rw [hcl]; exact hown
              have hcell := hown0.cell p (by omega)
              have hfree := hown0.free p
              have hset := hown0.set_ p (UInt8.ofNat (acc (tb bs ts) p (j + 1)))
              have hbyte : byteAt cur p = (acc (tb bs ts) p j : Nat) := by
                unfold byteAt
                rw [← hcur]
                have : ((fillTo (permF bs ts) M p).set p (UInt8.ofNat (acc (tb bs ts) p j))).getD p 0 = UInt8.ofNat (acc (tb bs ts) p j) := by
                  simp [List.getD, fillTo_length, hpt]
                rw [this]; exact u8_nat _ (by omega)
              rw [hbyte] at hcell
              rw [u8_nat _ (acc_lt256 _ (tb_le bs ts) p (j + 1) (by omega)), hcl] at hset
              have hcs : cur.set p (UInt8.ofNat (acc (tb bs ts) p (j + 1))) = (fillTo (permF bs ts) M p).set p (UInt8.ofNat (acc (tb bs ts) p (j + 1))) := by
                rw [← hcur, List.set_set]
              rw [hcs] at hset
              have hacc : acc (tb bs ts) p (j + 1) = 2 * acc (tb bs ts) p j + bitN bs x := by rw [acc, htb]
              rw [← hacc] at hstep
              obtain ⟨Y, hY⟩ : ∃ Y, acc (tb bs ts) p j = Y := ⟨_, rfl⟩
              obtain ⟨Y2, hY2⟩ : ∃ Y2, acc (tb bs ts) p (j + 1) = Y2 := ⟨_, rfl⟩
              rw [hY] at hcell hstep hal2
              rw [hY2] at hstep
              have hset2 := hset
              rw [hY2] at hset2
              have HH := hid hset2
              have HY2 := hid hY2
              have hzr := hb.size
              have HB := hid hb
              have HR := hid hr
              have HR' := hid hr'
              have HE := hid hE
              have HS := hid hstep
              have hGZ : ¬ G = Z := by omega
              clear hset hset2 hcs hacc hbyte hown0 hown hcl hcur hb hr hr' hE hY hY2 htb hx hal hstep
              go_wp2_with fail
              refine wp_region_still_tail 15 (by kernel_rfl) (by kernel_rfl) ?_
              simp only [List.take_succ_cons, List.take_zero, List.drop_succ_cons, List.drop_zero]
              repeat still_step
              still_call (stillSame (bit_any _ _ _ _ _ _ (HR.out.more hzr).drew hxlo hxhi))
              repeat still_step
              refine wpStill_nil ?_
              have HSo := HS.out
              change wpList _ _ _ _ _ wr.drew
              go_wp2_with fail
              go_roundw
              case rel => exact ⟨j + 1, by omega, by go_num, by rw [HY2.out]; exact HH.out, (HB.out.setCell (by simp; omega) _).drew, (HR.out.keep fun q hq => cell_ne (by omega)).drew, (HR'.out.keep fun q hq => cell_ne (by omega)).drew, by simpa [World.drew] using hZ3, fun i hi => (cell_ne (a := ⟨Z, i, none⟩) (by show ¬ G = Z; exact hGZ)).trans (HE.out i hi)⟩
              case measure => simp [intOf]; omega
            · obtain rfl : j = 8 := by omega
              have e8 : (fillTo (permF bs ts) M p).set p (UInt8.ofNat (acc (tb bs ts) p 8)) = fillTo (permF bs ts) M (p + 1) := fillTo_set _ _ _ _ rfl
              rw [e8] at hown
              have hzr := hb.size
              have HO := hid hown
              have HB := hid hb
              have HR := hid hr
              have HR' := hid hr'
              clear hown hb hr hr' hE e8
              go_wp2_with fail
              go_roundw
              case rel => exact ⟨p + 1, by omega, by go_num, HO.out, HB.out, HR.out, HR'.out, by omega⟩
              case measure => simp [intOf]; omega
        · obtain rfl : p = M := by omega
          have e8 : fillTo (permF bs ts) p p = permL bs ts := by
            rw [fillTo_full]; unfold permL; rw [hl'.out, hM4.out]
          rw [e8] at hown
          have HO := hid hown
          have HB := hid hb
          clear hown hb hr hr' e8
          go_wp2_with fail
          go_ret2
          unfold permR
          rw [hl.out, HF.out]
          exact ⟨_, rfl, HO.out, HB.out⟩
end Go.Proofs.YthfcndaccfpnmaaDoor
