/- The law on carrying, walked; own text of the verifier. -/
import Derived.Test.YtllkbfhkpnncgaaCf
namespace Go.Proofs.Ytllkbfhkpnncgaa
open Go.RowKit
def carryB (a : Int) (k : Nat) : List UInt8 := [u8 a] ++ List.replicate k 255
def carryX (a : Int) (k : Nat) : List UInt8 := [u8 a + 1] ++ List.replicate k 0
theorem carryX_length (a : Int) (k : Nat) : (carryX a k).length = k + 1 := by simp [carryX]
theorem carryB_length (a : Int) (k : Nat) : (carryB a k).length = k + 1 := by simp [carryB]
theorem carryB_succ (a : Int) (k : Nat) : carryB a k ++ [255] = carryB a (k + 1) := by
  simp [carryB, List.replicate_succ']
theorem carry_inc (a : Int) (k : Nat) : incB (carryB a k) = carryX a k := by
  induction k with
  | zero =>
    have := incB_snoc [] (u8 a)
    simp only [List.nil_append] at this
    show incB [u8 a] = [u8 a + 1]
    rw [this]
    split
    · rename_i h; rw [h]; rfl
    · rfl
  | succ k ih =>
    rw [← carryB_succ, incB_snoc, if_pos (by decide), ih]
    simp [carryX, List.replicate_succ']
theorem carry_b0 (a : Int) (k : Nat) : byteAt (carryX a k) 0 = (a + 1) % 256 := by
  show ((u8 a + 1).toNat : Int) = _
  have := u8_toNat a
  rw [UInt8.toNat_add]
  simp
  omega
theorem carry_bi (a : Int) (k i : Nat) (h0 : 0 < i) (h : i ≤ k) : byteAt (carryX a k) i = 0 := by
  obtain ⟨j, rfl⟩ : ∃ j, i = j + 1 := ⟨i - 1, by omega⟩
  unfold byteAt carryX
  have : ([u8 a + 1] ++ List.replicate k (0 : UInt8)).getD (j + 1) 0 = 0 := by
    simp [List.getD, List.getElem?_replicate]; split <;> rfl
  rw [this]; rfl
theorem lit_own1 (w : World) (c : Int) (base : Nat) (h0 : 0 ≤ c) (h1 : c < 256) (hb : base ≤ w.heap.size) : Own (w.alloc (.cells ⟨[.int .u8 c]⟩ 5)) base (.slice (some ⟨w.heap.size, 0, none⟩) 1 1) [u8 c] := by
  have e : (#[Value.int .u8 c] : Array Value).toList = cellsOf [u8 c] := by
    have := u8_toNat c
    simp only [cellsOf, List.map_cons, List.map_nil]
    rw [this, Int.emod_eq_of_lt h0 h1]
  exact Own.lit w [u8 c] #[.int .u8 c] 1 base e rfl (by unfold maxLen; omega) hb
def carryKs (a0 : Int) (k : Nat) : List K := [.byt (k+1) (carryX a0 k), .eq (.int .i64 ((k : Int) + 1)), .eq (.int .i64 k), .eq (.int .i64 ((k : Int) + 1)), .eq (.bool false), .eq (.bool false), .byt (k+1) (carryX a0 k), .ptr (.int .u8 (byteAt (carryX a0 k) 0)), .eq (.int .u8 (byteAt (carryX a0 k) 0)), .eq (.int .u8 a0), .eq (.int .u8 ((a0 + 1) % 256)), .eq (.bool false), .eq (.bool false), .eq (.bool false), .byt (k+1) (carryX a0 k), .eq (.string (str (carryX a0 k))), .byt (k+1) (carryB a0 k), .byt (k+1) (carryX a0 k), .eq (.string (str (carryX a0 k))), .eq (.bool false), .eq (.bool false)]
set_option maxHeartbeats 2000000 in
theorem carry_walk (a0 : Int) (a1 : Int) (w0 : (Lit.int .u8 a0).wf = true) (_w1 : (Lit.int .i64 a1).wf = true) (w : World) :
    Calls Try.prog 13 #[.int .u8 a0, .int .i64 a1] w fun e w' => e = .returned (.bool true) ∧ Below w.heap.size w w' := by
  obtain ⟨p0, p1⟩ := wf_u8' w0
  clear w0
  go_enter Try.func13, Try.ntmps13
  go_wp2_with fail
  refine (known_any _).mono ?_
  rintro e w1 ⟨rfl, hb1⟩
  go_wp2_with fail
  refine (within_any _ _ _ (by omega) (by omega)).mono ?_
  rintro e w2 ⟨rfl, rfl⟩
  obtain ⟨k, hk⟩ : ∃ k : Nat, a1 % 40 = k := ⟨(a1 % 40).toNat, by omega⟩
  have hk40 : k < 40 := by omega
  rw [hk]
  clear hk
  have hO := lit_own1 w1 a0 w1.heap.size p0 p1 (Nat.le_refl _)
  go_wp2_with fail
  go_loopw [6, 7] (fun v i wr => ∃ j : Nat, j ≤ k ∧ i = .int .i64 j ∧ Own wr w1.heap.size v (carryB a0 j) ∧ Below w1.heap.size w1 wr) (fun _ i _ => k - (intOf i).toNat)
  case atStart => exact ⟨0, Nat.zero_le _, rfl, hO, (Below.refl _ _).alloc (Nat.le_refl _) _⟩
  case round =>
    obtain ⟨j, hj, rfl, hown, hb⟩ := hrel
    clear hO
    by_cases hlt : j < k
    · have hle := hb.size
      have hl := carryB_length a0 j
      have HL := hid hl
      clear hl
      have hO2 := hown.kept (Ext.alloc wr (.cells ⟨[.int .u8 255]⟩ 5))
      have hR := lit_rd wr [255] #[.int .u8 255] 1 rfl rfl (by unfold maxLen; omega)
      have hb2 : Below w1.heap.size w1 (wr.alloc (.cells ⟨[.int .u8 255]⟩ 5)) := hb.alloc hle _
      have hle2 := hb2.size
      have HB2 := hid hb2
      clear hown hb hb2
      go_wp2_with (at_builtin; refine wpL_append _ rfl (.tmp 21) (.tmp 22) 22 rfl Try.underlying22 Try.info5 w1.heap.size _ _ rfl hO2 _ _ 1 1 _ rfl hR (by rw [HL.out]; omega) hle2 ?_; intro v3 w3 hown3 hb3; rw [carryB_succ] at hown3; have HO := hid (And.intro hown3 hb3); clear hown3 hb3 hO2 hR)
      go_roundw
      case rel => exact ⟨j + 1, by omega, by go_num, HO.out.1, HB2.out.trans HO.out.2⟩
      case measure => simp [intOf]; omega
    · obtain rfl : k = j := by omega
      obtain ⟨Ab, cb, rfl, hrd, _⟩ := hown.rdn (n := k + 1) (carryB_length a0 k)
      have hle := hb.size
      clear hown
      go_wp2_with fail
      refine (inc_any _ _ _ _ _ hrd (by omega)).mono ?_
      rintro e w4 ⟨x, rfl, hx, hb4⟩
      rw [carry_inc] at hx
      obtain ⟨Ax, cx, rfl, hx4, _⟩ := hx.rdn (n := k + 1) (carryX_length a0 k)
      have HD := hid (hrd.later hb4)
      have HX := hid hx4
      have HB := hid (Ext.trans hb1 (Ext.trans hb hb4))
      clear hrd hb4 hx hx4 hb hb1 hlt hj
      go_wp2_with fail
      refine region_inv mixed rfl (by kernel_rfl) (kV (carryKs a0 k)) (kV_keep _) (forall_ops ⟨?_, ?_, ?_, ?_, ?_, ?_, ?_, ?_, ?_, ?_, ?_, ?_, ?_, ?_, ?_, ?_, ?_, ?_, ?_, ?_, ?_, trivial⟩) ?_
      · intro a w hk
        have s8 : a.tmps.getD 8 undef = .slice Ax (k + 1) cx := hk.was 8 (by kernel_rfl) rfl
        have r8 := (HX.out).later hk.ext
        exact step_move rfl rfl s8 ⟨_, _, rfl, r8⟩
      · intro a w hk
        obtain ⟨A26, c26, s26, r26⟩ := hk.byt_ 0 26 (by kernel_rfl) rfl
        refine step_val (v := .int .i64 ((k : Int) + 1)) (w' := w) rfl ?_ (Ext.refl w) rfl
        go_simp
      · intro a w hk
        have s5 : a.tmps.getD 5 undef = .int .i64 k := hk.was 5 (by kernel_rfl) rfl
        exact step_move rfl rfl s5 rfl
      · intro a w hk
        have s28 := hk.eq_ 2 28 (by kernel_rfl) rfl
        refine step_val (v := .int .i64 ((k : Int) + 1)) (w' := w) rfl ?_ (Ext.refl w) rfl
        go_simp; rw [IntWalk.i64_in _ (by omega)]
      · intro a w hk
        have s27 := hk.eq_ 1 27 (by kernel_rfl) rfl
        have s29 := hk.eq_ 3 29 (by kernel_rfl) rfl
        refine step_val (v := .bool false) (w' := w) rfl ?_ (Ext.refl w) rfl
        go_simp
      · intro a w hk
        have s30 := hk.eq_ 4 30 (by kernel_rfl) rfl
        exact step_move rfl rfl s30 rfl
      · intro a w hk
        refine hk.run 5 31 false false rfl (by kernel_rfl) rfl fun hw => ?_
        have s8 : a.tmps.getD 8 undef = .slice Ax (k + 1) cx := hk.was 8 (by kernel_rfl) rfl
        have r8 := (HX.out).later hk.ext
        exact step_move hw rfl s8 ⟨_, _, rfl, r8⟩
      · intro a w hk
        refine hk.run 5 31 false false rfl (by kernel_rfl) rfl fun hw => ?_
        obtain ⟨A32, c32, s32, r32⟩ := hk.byt_ 6 32 (by kernel_rfl) rfl
        obtain ⟨b, o, rfl, hb, hc⟩ := r32.at_ (by omega)
        have hc1 := hc 0 (by omega)
        rw [Nat.add_zero] at hc1
        refine step_val (v := .pointer (some ⟨b, o, none⟩)) (w' := w) hw ?_ (Ext.refl w) ⟨_, rfl, hb, hc1⟩
        go_simp
      · intro a w hk
        refine hk.run 5 31 false false rfl (by kernel_rfl) rfl fun hw => ?_
        obtain ⟨p33, s33, h33, g33⟩ := hk.val 7 33 (by kernel_rfl) rfl
        refine step_val (v := .int .u8 (byteAt (carryX a0 k) 0)) (w' := w) hw ?_ (Ext.refl w) rfl
        go_simp
      · intro a w hk
        refine hk.run 5 31 false false rfl (by kernel_rfl) rfl fun hw => ?_
        have s0 : a.tmps.getD 0 undef = .int .u8 a0 := hk.was 0 (by kernel_rfl) rfl
        exact step_move hw rfl s0 rfl
      · intro a w hk
        refine hk.run 5 31 false false rfl (by kernel_rfl) rfl fun hw => ?_
        have s35 := hk.eq_ 9 35 (by kernel_rfl) rfl
        refine step_val (v := .int .u8 ((a0 + 1) % 256)) (w' := w) hw ?_ (Ext.refl w) rfl
        go_simp; rw [IntKind.wrap_u8']
      · intro a w hk
        refine hk.run 5 31 false false rfl (by kernel_rfl) rfl fun hw => ?_
        have s34 := hk.eq_ 8 34 (by kernel_rfl) rfl
        have s36 := hk.eq_ 10 36 (by kernel_rfl) rfl
        refine step_val (v := .bool false) (w' := w) hw ?_ (Ext.refl w) rfl
        rw [carry_b0] at s34; go_simp
      · intro a w hk
        have s31 := hk.eq_ 5 31 (by kernel_rfl) rfl
        have s37 := hk.eq_ 11 37 (by kernel_rfl) rfl
        exact step_pick (b := false) rfl rfl s31 s37 rfl
      · intro a w hk
        have s38 := hk.eq_ 12 38 (by kernel_rfl) rfl
        exact step_move rfl rfl s38 rfl
      · intro a w hk
        refine hk.run 13 39 false false rfl (by kernel_rfl) rfl fun hw => ?_
        have s8 : a.tmps.getD 8 undef = .slice Ax (k + 1) cx := hk.was 8 (by kernel_rfl) rfl
        have r8 := (HX.out).later hk.ext
        exact step_move hw rfl s8 ⟨_, _, rfl, r8⟩
      · intro a w hk
        refine hk.run 13 39 false false rfl (by kernel_rfl) rfl fun hw => ?_
        obtain ⟨A40, c40, s40, r40⟩ := hk.byt_ 14 40 (by kernel_rfl) rfl
        exact step_conv hw rfl s40 (strq r40) rfl
      · intro a w hk
        refine hk.run 13 39 false false rfl (by kernel_rfl) rfl fun hw => ?_
        have s6 : a.tmps.getD 6 undef = .slice Ab (k + 1) cb := hk.was 6 (by kernel_rfl) rfl
        have r6 := (HD.out).later hk.ext
        exact step_move hw rfl s6 ⟨_, _, rfl, r6⟩
      · intro a w hk
        refine hk.run 13 39 false false rfl (by kernel_rfl) rfl fun hw => ?_
        obtain ⟨A42, c42, s42, r42⟩ := hk.byt_ 16 42 (by kernel_rfl) rfl
        exact step_call hw rfl (by simp only [List.map_toArray, List.map_cons, List.map_nil, Act.eval, s42] <;> rfl) cf37 (rinc_any _ _ _ _ w r42 (by omega)) (fun e w' h => RetB.k (carryX_length a0 k) e w' ((carry_inc a0 k) ▸ h))
      · intro a w hk
        refine hk.run 13 39 false false rfl (by kernel_rfl) rfl fun hw => ?_
        obtain ⟨A43, c43, s43, r43⟩ := hk.byt_ 17 43 (by kernel_rfl) rfl
        exact step_conv hw rfl s43 (strq r43) rfl
      · intro a w hk
        refine hk.run 13 39 false false rfl (by kernel_rfl) rfl fun hw => ?_
        have s41 := hk.eq_ 15 41 (by kernel_rfl) rfl
        have s44 := hk.eq_ 18 44 (by kernel_rfl) rfl
        refine step_val (v := .bool false) (w' := w) hw ?_ (Ext.refl w) rfl
        go_simp
      · intro a w hk
        have s39 := hk.eq_ 13 39 (by kernel_rfl) rfl
        have s45 := hk.eq_ 19 45 (by kernel_rfl) rfl
        exact step_pick (b := false) rfl rfl s39 s45 rfl
      · intro a w1 hf
        obtain ⟨A26, c26, s26, r26⟩ := hf.val 0 26 (by kernel_rfl) rfl
        have s27 := hf.eq_ 1 27 (by kernel_rfl) rfl
        have s28 := hf.eq_ 2 28 (by kernel_rfl) rfl
        have s29 := hf.eq_ 3 29 (by kernel_rfl) rfl
        have s30 := hf.eq_ 4 30 (by kernel_rfl) rfl
        have s31 := hf.eq_ 5 31 (by kernel_rfl) rfl
        obtain ⟨A32, c32, s32, r32⟩ := hf.val 6 32 (by kernel_rfl) rfl
        have s34 := hf.eq_ 8 34 (by kernel_rfl) rfl
        have s35 := hf.eq_ 9 35 (by kernel_rfl) rfl
        have s36 := hf.eq_ 10 36 (by kernel_rfl) rfl
        have s37 := hf.eq_ 11 37 (by kernel_rfl) rfl
        have s38 := hf.eq_ 12 38 (by kernel_rfl) rfl
        have s39 := hf.eq_ 13 39 (by kernel_rfl) rfl
        obtain ⟨A40, c40, s40, r40⟩ := hf.val 14 40 (by kernel_rfl) rfl
        have s41 := hf.eq_ 15 41 (by kernel_rfl) rfl
        obtain ⟨A42, c42, s42, r42⟩ := hf.val 16 42 (by kernel_rfl) rfl
        obtain ⟨A43, c43, s43, r43⟩ := hf.val 17 43 (by kernel_rfl) rfl
        have s44 := hf.eq_ 18 44 (by kernel_rfl) rfl
        have s45 := hf.eq_ 19 45 (by kernel_rfl) rfl
        have s46 := hf.eq_ 20 46 (by kernel_rfl) rfl
        have hx := hf.ext
        have e := hf.frame
        clear hf
        simp only [regFrame, Act.put, List.setIfInBounds_toArray, List.set_cons_zero, List.set_cons_succ, s26, s27, s28, s29, s30, s31, s32, s34, s35, s36, s37, s38, s39, s40, s41, s42, s43, s44, s45, s46] at e
        generalize a.tmps.getD 33 undef = u33 at e
        clear s26 s27 s28 s29 s30 s31 s32 s34 s35 s36 s37 s38 s39 s40 s41 s42 s43 s44 s45 s46
        subst e
        have HB2 := hid (Ext.trans HB.out hx)
        have HX2 := hid (HX.out.later hx)
        clear hx HB HX HD r26 r32 r40 r42 r43
        rename_i hK
        apply hK
        go_wp2_with fail
        go_loop [9] (fun i => ∃ j : Nat, 1 ≤ j ∧ j ≤ k + 1 ∧ i = .int .i64 j) (fun i => k + 1 - (intOf i).toNat)
        case atStart => exact ⟨1, Nat.le_refl _, by omega, rfl⟩
        case round =>
          obtain ⟨j, hj1, hj2, rfl⟩ := hrel
          by_cases hlt : j ≤ k
          · obtain ⟨b, o, rfl, _, hc⟩ := HX2.out.at_ (by omega)
            have hcj := hc j (by omega)
            rw [carry_bi a0 k j (by omega) hlt] at hcj
            clear hc
            go_wp2_with fail
            go_round
            case rel => exact ⟨j + 1, by omega, by omega, by go_num⟩
            case measure => simp [intOf]; omega
          · go_wp2_with fail
            go_ret
            exact ⟨rfl, HB2.out⟩
end Go.Proofs.Ytllkbfhkpnncgaa
