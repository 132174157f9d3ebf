/- The law on one more, round and round, walked; own text of the verifier. -/
import Derived.Test.YtllkbfhkpnncgaaCf
namespace Go.Proofs.Ytllkbfhkpnncgaa
open Go.RowKit
def incs : Nat → List UInt8 → List UInt8
  | 0, l => l
  | k + 1, l => incB (incs k l)
theorem incs_length (k : Nat) (l : List UInt8) : (incs k l).length = l.length := by
  induction k with
  | zero => rfl
  | succ k ih => rw [incs, incB_length, ih]
theorem inc_cut {n : Nat} {bs : List UInt8} {w : World} {v : Value} (h4 : 4 ≤ n) (h : K.holds (.byt (n - (n - 4)) bs) w v) : K.holds (.byt 4 bs) w v := by
  rwa [show n - (n - 4) = 4 by omega] at h
/-- The last four bytes as a word. -/
def lastW (l : List UInt8) : Int := be (l.drop (l.length - 4)) 4
theorem lastW_four (pre : List UInt8) (x0 x1 x2 x3 : UInt8) : lastW (pre ++ [x0] ++ [x1] ++ [x2] ++ [x3]) = (x0.toNat : Int) * 16777216 + x1.toNat * 65536 + x2.toNat * 256 + x3.toNat := by
  unfold lastW
  have e : (pre ++ [x0] ++ [x1] ++ [x2] ++ [x3]).drop ((pre ++ [x0] ++ [x1] ++ [x2] ++ [x3]).length - 4) = [x0, x1, x2, x3] := by simp
  rw [e, be4]
  rfl
theorem u8_over (x : UInt8) (h : x + 1 = 0) : x.toNat = 255 := by
  have h1 := congrArg UInt8.toNat h
  rw [UInt8.toNat_add] at h1
  have := x.toNat_lt
  simp at h1
  omega
theorem u8_next (x : UInt8) (h : ¬ x + 1 = 0) : (x + 1).toNat = x.toNat + 1 := by
  have h1 : ¬ x.toNat = 255 := fun h2 => h (by apply UInt8.toNat_inj.1; simp [UInt8.toNat_add, h2])
  have := x.toNat_lt
  rw [UInt8.toNat_add]
  simp
  omega
theorem four_split (l : List UInt8) (h : 4 ≤ l.length) : ∃ pre x0 x1 x2 x3, l = pre ++ [x0] ++ [x1] ++ [x2] ++ [x3] := by
  have hd : (l.drop (l.length - 4)).length = 4 := by rw [List.length_drop]; omega
  match hm : l.drop (l.length - 4), hd with
  | [x0, x1, x2, x3], _ =>
    refine ⟨l.take (l.length - 4), x0, x1, x2, x3, ?_⟩
    rw [← List.take_append_drop (l.length - 4) l, hm]
    simp
theorem lastW_inc (l : List UInt8) (h : 4 ≤ l.length) : lastW (incB l) = (lastW l + 1) % 4294967296 := by
  obtain ⟨pre, x0, x1, x2, x3, rfl⟩ := four_split l h
  have b0 := x0.toNat_lt; have b1 := x1.toNat_lt; have b2 := x2.toNat_lt; have b3 := x3.toNat_lt
  rw [lastW_four, incB_snoc]
  have z : ((0 : UInt8).toNat : Int) = 0 := rfl
  by_cases h3 : x3 + 1 = 0
  · have v3 := u8_over x3 h3
    rw [if_pos h3, incB_snoc]
    by_cases h2 : x2 + 1 = 0
    · have v2 := u8_over x2 h2
      rw [if_pos h2, incB_snoc]
      by_cases h1 : x1 + 1 = 0
      · have v1 := u8_over x1 h1
        rw [if_pos h1, incB_snoc]
        by_cases h0 : x0 + 1 = 0
        · have v0 := u8_over x0 h0
          rw [if_pos h0, lastW_four, v0, v1, v2, v3, z]; omega
        · rw [if_neg h0, lastW_four, u8_next x0 h0, v1, v2, v3, z]
          have : ¬ x0.toNat = 255 := fun h2 => h0 (by apply UInt8.toNat_inj.1; simp [UInt8.toNat_add, h2])
          omega
      · rw [if_neg h1, lastW_four, u8_next x1 h1, v2, v3, z]
        have : ¬ x1.toNat = 255 := fun h2 => h1 (by apply UInt8.toNat_inj.1; simp [UInt8.toNat_add, h2])
        omega
    · rw [if_neg h2, lastW_four, u8_next x2 h2, v3, z]
      have : ¬ x2.toNat = 255 := fun h4 => h2 (by apply UInt8.toNat_inj.1; simp [UInt8.toNat_add, h4])
      omega
  · rw [if_neg h3, lastW_four, u8_next x3 h3]
    have : ¬ x3.toNat = 255 := fun h4 => h3 (by apply UInt8.toNat_inj.1; simp [UInt8.toNat_add, h4])
    omega
theorem lastW_incs (k : Nat) (l : List UInt8) (h : 4 ≤ l.length) : lastW (incs k l) = (lastW l + k) % 4294967296 := by
  induction k with
  | zero =>
    have := be4_range (l.drop (l.length - 4))
    simp only [incs, lastW]
    omega
  | succ k ih =>
    rw [incs, lastW_inc _ (by rw [incs_length]; exact h), ih]
    omega
def incKs (n i : Nat) (bs : List UInt8) : List K := [.byt n (incs (i + 1) bs), .eq (.string (str (incs (i + 1) bs))), .byt n (incs i bs), .byt n (incs (i + 1) bs), .eq (.string (str (incs (i + 1) bs))), .eq (.bool false), .eq (.bool false), .byt n (incs (i + 1) bs), .eq (.int .i64 n), .byt n (bs), .eq (.int .i64 n), .eq (.bool false), .eq (.bool false)]
def incKs2 (n k : Nat) (bs : List UInt8) : List K := [.byc n (bs), .byc n (bs), .eq (.int .i64 n), .eq (.int .i64 ((n - 4 : Nat) : Int)), .byt 4 (bs.drop (n - 4)), .byc n (incs k bs), .byc n (incs k bs), .eq (.int .i64 n), .eq (.int .i64 ((n - 4 : Nat) : Int)), .byt 4 ((incs k bs).drop (n - 4)), .byt 4 (bs.drop (n - 4)), .byt 4 ((incs k bs).drop (n - 4))]
set_option maxHeartbeats 4000000 in
theorem inclaw_walk (a0 : Option Addr) (n c0 : Nat) (z0 : List Int) (a1 : Int) (w : World) (w0 : IsRow .u8 w a0 n c0 z0) (_w1 : (Lit.int .i64 a1).wf = true) :
    Calls Try.prog 8 #[.slice a0 n c0, .int .i64 a1] w fun e w' => e = .returned (.bool true) ∧ Below w.heap.size w w' := by
  obtain ⟨bs, hrd, hmax, hcap⟩ := w0.rdc
  unfold maxLen at hmax
  clear w0
  go_enter Try.func8, Try.ntmps8
  go_wp2_with fail
  refine (known_any _).mono ?_
  rintro e w1 ⟨rfl, hb1⟩
  have hrd1 := hrd.later hb1
  clear hrd
  by_cases h60 : 60 < n
  · go_wp2_with fail
    go_ret
    exact ⟨rfl, hb1⟩
  · have HL := hid hrd1.len
    have hO := Own.lit w1 [] #[] 0 w1.heap.size rfl rfl (by unfold maxLen; omega) (Nat.le_refl _)
    have hr2 := hrd1.later (Ext.alloc w1 (.cells #[] 5))
    go_wp2_with (at_builtin; refine wpL_append _ rfl (.tmp 20) (.tmp 21) 22 rfl Try.underlying22 Try.info5 w1.heap.size (.slice (some ⟨w1.heap.size, 0, none⟩) 0 0) [] rfl hO _ a0 n c0 bs rfl hr2 (by simp; omega) (by simp) ?_; intro v2 w2 hown2 hb2)
    have hb2' : Ext w1 w2 := ((Below.refl _ _).alloc (Nat.le_refl _) _).trans hb2
    have hown2' : Own w2 w1.heap.size v2 bs := by simpa using hown2
    clear hown2 hb2 hr2 hO
    refine (within_any _ _ _ (by omega) (by omega)).mono ?_
    rintro e w3 ⟨rfl, rfl⟩
    obtain ⟨k, hk⟩ : ∃ k : Nat, a1 % 600 = k := ⟨(a1 % 600).toNat, by omega⟩
    have hk6 : k < 600 := by omega
    rw [hk]
    clear hk
    obtain ⟨A5, c5, rfl, hc5, hr5, _⟩ := hown2'.rdc HL.out
    have HA1 := hid hrd1
    have HB1 := hid hb1
    clear hown2' hrd1 hb1
    go_wp2_with fail
    go_loopw [5, 7] (fun v i wr => ∃ (j : Nat) (A : Option Addr) (c : Nat), j ≤ k ∧ i = .int .i64 j ∧ v = .slice A n c ∧ n ≤ c ∧ Rd wr wr.heap.size A n (incs j bs) ∧ Ext w1 wr) (fun _ i _ => k - (intOf i).toNat)
    case atStart => exact ⟨0, A5, c5, Nat.zero_le _, rfl, rfl, hc5, hr5, hb2'⟩
    case round =>
      clear hr5 hb2' hc5
      obtain ⟨i, A5, c5, hi, rfl, rfl, hc5, hr5, hx5⟩ := hrel
      have HX := hid hr5
      have HE := hid hx5
      clear hx5
      by_cases hlt : i < k
      · go_wp2_with fail
        refine (inc_any _ _ _ _ _ hr5 (by omega)).mono ?_
        rintro e w4 ⟨y, rfl, hy, hb4⟩
        obtain ⟨A8, c8, rfl, hc8, hr8, _⟩ := hy.rdc (n := n) (by rw [incB_length, incs_length]; exact HL.out)
        have HY := hid hr8
        have HX4 := hid (HX.out.later hb4)
        have HE4 := hid (Ext.trans HE.out hb4)
        have HA := hid (HA1.out.later HE4.out)
        clear hy hr8 hr5 HX HE hb4
        go_wp2_with fail
        refine region_inv mixed rfl (by kernel_rfl) (kV (incKs n i bs)) (kV_keep _) (forall_ops ⟨?_, ?_, ?_, ?_, ?_, ?_, ?_, ?_, ?_, ?_, ?_, ?_, ?_, trivial⟩) ?_
        · intro a w hk
          have s8 : a.tmps.getD 8 undef = .slice A8 n c8 := hk.was 8 (by kernel_rfl) rfl
          have r8 := (HY.out).later hk.ext
          exact step_move rfl rfl s8 ⟨_, _, rfl, r8⟩
        · intro a w hk
          obtain ⟨A32, c32, s32, r32⟩ := hk.byt_ 0 32 (by kernel_rfl) rfl
          exact step_conv rfl rfl s32 (strq r32) rfl
        · intro a w hk
          have s5 : a.tmps.getD 5 undef = .slice A5 n c5 := hk.was 5 (by kernel_rfl) rfl
          have r5 := (HX4.out).later hk.ext
          exact step_move rfl rfl s5 ⟨_, _, rfl, r5⟩
        · intro a w hk
          obtain ⟨A34, c34, s34, r34⟩ := hk.byt_ 2 34 (by kernel_rfl) rfl
          exact step_call rfl rfl (by simp only [List.map_toArray, List.map_cons, List.map_nil, Act.eval, s34] <;> rfl) cf37 (rinc_any _ _ _ _ w r34 (by omega)) (fun e w' h => RetB.k (by rw [incs_length]; exact HL.out) e w' h)
        · intro a w hk
          obtain ⟨A35, c35, s35, r35⟩ := hk.byt_ 3 35 (by kernel_rfl) rfl
          exact step_conv rfl rfl s35 (strq r35) rfl
        · intro a w hk
          have s33 := hk.eq_ 1 33 (by kernel_rfl) rfl
          have s36 := hk.eq_ 4 36 (by kernel_rfl) rfl
          refine step_val (v := .bool false) (w' := w) rfl ?_ (Ext.refl w) rfl
          go_simp
        · intro a w hk
          have s37 := hk.eq_ 5 37 (by kernel_rfl) rfl
          exact step_move rfl rfl s37 rfl
        · intro a w hk
          refine hk.run 6 38 false false rfl (by kernel_rfl) rfl fun hw => ?_
          have s8 : a.tmps.getD 8 undef = .slice A8 n c8 := hk.was 8 (by kernel_rfl) rfl
          have r8 := (HY.out).later hk.ext
          exact step_move hw rfl s8 ⟨_, _, rfl, r8⟩
        · intro a w hk
          refine hk.run 6 38 false false rfl (by kernel_rfl) rfl fun hw => ?_
          obtain ⟨A39, c39, s39, r39⟩ := hk.byt_ 7 39 (by kernel_rfl) rfl
          refine step_val (v := .int .i64 n) (w' := w) hw ?_ (Ext.refl w) rfl
          go_simp
        · intro a w hk
          refine hk.run 6 38 false false rfl (by kernel_rfl) rfl fun hw => ?_
          have s0 : a.tmps.getD 0 undef = .slice a0 n c0 := hk.was 0 (by kernel_rfl) rfl
          have r0 := (HA.out).later hk.ext
          exact step_move hw rfl s0 ⟨_, _, rfl, r0⟩
        · intro a w hk
          refine hk.run 6 38 false false rfl (by kernel_rfl) rfl fun hw => ?_
          obtain ⟨A41, c41, s41, r41⟩ := hk.byt_ 9 41 (by kernel_rfl) rfl
          refine step_val (v := .int .i64 n) (w' := w) hw ?_ (Ext.refl w) rfl
          go_simp
        · intro a w hk
          refine hk.run 6 38 false false rfl (by kernel_rfl) rfl fun hw => ?_
          have s40 := hk.eq_ 8 40 (by kernel_rfl) rfl
          have s42 := hk.eq_ 10 42 (by kernel_rfl) rfl
          refine step_val (v := .bool false) (w' := w) hw ?_ (Ext.refl w) rfl
          go_simp
        · intro a w hk
          have s38 := hk.eq_ 6 38 (by kernel_rfl) rfl
          have s43 := hk.eq_ 11 43 (by kernel_rfl) rfl
          exact step_pick (b := false) rfl rfl s38 s43 rfl
        · intro a w1 hf
          obtain ⟨A32, c32, s32, r32⟩ := hf.val 0 32 (by kernel_rfl) rfl
          have s33 := hf.eq_ 1 33 (by kernel_rfl) rfl
          obtain ⟨A34, c34, s34, r34⟩ := hf.val 2 34 (by kernel_rfl) rfl
          obtain ⟨A35, c35, s35, r35⟩ := hf.val 3 35 (by kernel_rfl) rfl
          have s36 := hf.eq_ 4 36 (by kernel_rfl) rfl
          have s37 := hf.eq_ 5 37 (by kernel_rfl) rfl
          have s38 := hf.eq_ 6 38 (by kernel_rfl) rfl
          obtain ⟨A39, c39, s39, r39⟩ := hf.val 7 39 (by kernel_rfl) rfl
          have s40 := hf.eq_ 8 40 (by kernel_rfl) rfl
          obtain ⟨A41, c41, s41, r41⟩ := hf.val 9 41 (by kernel_rfl) rfl
          have s42 := hf.eq_ 10 42 (by kernel_rfl) rfl
          have s43 := hf.eq_ 11 43 (by kernel_rfl) rfl
          have s44 := hf.eq_ 12 44 (by kernel_rfl) rfl
          have hx := hf.ext
          have e := hf.frame
          clear hf
          simp only [regFrame, Act.put, List.setIfInBounds_toArray, List.set_cons_zero, List.set_cons_succ, s32, s33, s34, s35, s36, s37, s38, s39, s40, s41, s42, s43, s44] at e
          clear s32 s33 s34 s35 s36 s37 s38 s39 s40 s41 s42 s43 s44
          subst e
          have HY2 := hid (HY.out.later hx)
          have HE2 := hid (Ext.trans HE4.out hx)
          clear hx HY HE4 HA HX4 r32 r34 r35 r39 r41
          rename_i hK
          apply hK
          go_wp2_with fail
          go_roundw
          case rel => exact ⟨i + 1, A8, c8, by omega, by go_num, rfl, hc8, HY2.out, HE2.out⟩
          case measure => simp [intOf]; omega
      · obtain rfl : k = i := by omega
        clear hr5
        by_cases h4 : n < 4
        · go_wp2_with fail
          go_ret
          exact ⟨rfl, Ext.trans HB1.out HE.out⟩
        · have h4 : 4 ≤ n := by omega
          have HX2 := hid HX.out
          have HA2 := hid (HA1.out.later HE.out)
          have hcap5 := hc5
          go_wp2_with fail
          refine region_inv mixed rfl (by kernel_rfl) (kV (incKs2 n k bs)) (kV_keep _) (forall_ops ⟨?_, ?_, ?_, ?_, ?_, ?_, ?_, ?_, ?_, ?_, ?_, ?_, trivial⟩) ?_
          · intro a w hk
            have s0 : a.tmps.getD 0 undef = .slice a0 n c0 := hk.was 0 (by kernel_rfl) rfl
            have k0 := hcap
            have r0 := (HA2.out).later hk.ext
            exact step_move rfl rfl s0 ⟨_, _, rfl, k0, r0⟩
          · intro a w hk
            have s0 : a.tmps.getD 0 undef = .slice a0 n c0 := hk.was 0 (by kernel_rfl) rfl
            have k0 := hcap
            have r0 := (HA2.out).later hk.ext
            exact step_move rfl rfl s0 ⟨_, _, rfl, k0, r0⟩
          · intro a w hk
            obtain ⟨A50, c50, s50, k50, r50⟩ := hk.val 1 50 (by kernel_rfl) rfl
            refine step_val (v := .int .i64 n) (w' := w) rfl ?_ (Ext.refl w) rfl
            go_simp
          · intro a w hk
            have s51 := hk.eq_ 2 51 (by kernel_rfl) rfl
            refine step_val (v := .int .i64 ((n - 4 : Nat) : Int)) (w' := w) rfl ?_ (Ext.refl w) rfl
            go_simp; rw [IntWalk.i64_in _ (by omega)]; omega
          · intro a w hk
            obtain ⟨A49, c49, s49, k49, r49⟩ := hk.val 0 49 (by kernel_rfl) rfl
            have s52 := hk.eq_ 3 52 (by kernel_rfl) rfl
            exact step_slice_lo (l := n - 4) rfl rfl s49 (s52) elem22 size22 (by omega) k49 r49 (fun _ h => inc_cut h4 h)
          · intro a w hk
            have s5 : a.tmps.getD 5 undef = .slice A5 n c5 := hk.was 5 (by kernel_rfl) rfl
            have k5 := hcap5
            have r5 := (HX2.out).later hk.ext
            exact step_move rfl rfl s5 ⟨_, _, rfl, k5, r5⟩
          · intro a w hk
            have s5 : a.tmps.getD 5 undef = .slice A5 n c5 := hk.was 5 (by kernel_rfl) rfl
            have k5 := hcap5
            have r5 := (HX2.out).later hk.ext
            exact step_move rfl rfl s5 ⟨_, _, rfl, k5, r5⟩
          · intro a w hk
            obtain ⟨A55, c55, s55, k55, r55⟩ := hk.val 6 55 (by kernel_rfl) rfl
            refine step_val (v := .int .i64 n) (w' := w) rfl ?_ (Ext.refl w) rfl
            go_simp
          · intro a w hk
            have s56 := hk.eq_ 7 56 (by kernel_rfl) rfl
            refine step_val (v := .int .i64 ((n - 4 : Nat) : Int)) (w' := w) rfl ?_ (Ext.refl w) rfl
            go_simp; rw [IntWalk.i64_in _ (by omega)]; omega
          · intro a w hk
            obtain ⟨A54, c54, s54, k54, r54⟩ := hk.val 5 54 (by kernel_rfl) rfl
            have s57 := hk.eq_ 8 57 (by kernel_rfl) rfl
            exact step_slice_lo (l := n - 4) rfl rfl s54 (s57) elem22 size22 (by omega) k54 r54 (fun _ h => inc_cut h4 h)
          · intro a w hk
            obtain ⟨A53, c53, s53, r53⟩ := hk.byt_ 4 53 (by kernel_rfl) rfl
            exact step_assign rfl rfl s53 ⟨_, _, rfl, r53⟩
          · intro a w hk
            obtain ⟨A58, c58, s58, r58⟩ := hk.byt_ 9 58 (by kernel_rfl) rfl
            exact step_assign rfl rfl s58 ⟨_, _, rfl, r58⟩
          · intro a w1 hf
            obtain ⟨A49, c49, s49, k49, r49⟩ := hf.val 0 49 (by kernel_rfl) rfl
            obtain ⟨A50, c50, s50, k50, r50⟩ := hf.val 1 50 (by kernel_rfl) rfl
            have s51 := hf.eq_ 2 51 (by kernel_rfl) rfl
            have s52 := hf.eq_ 3 52 (by kernel_rfl) rfl
            obtain ⟨A53, c53, s53, r53⟩ := hf.val 4 53 (by kernel_rfl) rfl
            obtain ⟨A54, c54, s54, k54, r54⟩ := hf.val 5 54 (by kernel_rfl) rfl
            obtain ⟨A55, c55, s55, k55, r55⟩ := hf.val 6 55 (by kernel_rfl) rfl
            have s56 := hf.eq_ 7 56 (by kernel_rfl) rfl
            have s57 := hf.eq_ 8 57 (by kernel_rfl) rfl
            obtain ⟨A58, c58, s58, r58⟩ := hf.val 9 58 (by kernel_rfl) rfl
            obtain ⟨A9, c9, s9, r9⟩ := hf.val 10 9 (by kernel_rfl) rfl
            obtain ⟨A10, c10, s10, r10⟩ := hf.val 11 10 (by kernel_rfl) rfl
            have hx := hf.ext
            have e := hf.frame
            clear hf
            simp only [regFrame, Act.put, List.setIfInBounds_toArray, List.set_cons_zero, List.set_cons_succ, s49, s50, s51, s52, s53, s54, s55, s56, s57, s58, s9, s10] at e
            clear s49 s50 s51 s52 s53 s54 s55 s56 s57 s58 s9 s10
            subst e
            have HE2 := hid (Ext.trans HB1.out (Ext.trans HE.out hx))
            clear hx
            rename_i hK
            apply hK
            go_wp2_with fail
            refine (be32_any _ _ _ _ _ _ r9 (by omega)).mono ?_
            rintro e w4 ⟨rfl, rfl⟩
            have hL1 : be32N (bs.drop (n - 4)) 4 = lastW bs := by unfold be32N lastW; rw [if_pos rfl, HL.out]
            have hL2 : be32N ((incs k bs).drop (n - 4)) 4 = lastW (incs k bs) := by unfold be32N lastW; rw [if_pos rfl, incs_length, HL.out]
            have hP := be4_range (bs.drop (bs.length - 4))
            rw [hL1]
            have hL3 := lastW_incs k bs (by rw [HL.out]; exact h4)
            rw [hL3] at hL2
            have hP2 : 0 ≤ lastW bs ∧ lastW bs < 4294967296 := hP
            obtain ⟨p, hp⟩ : ∃ p, lastW bs = p := ⟨_, rfl⟩
            rw [hp] at hP2 hL2 ⊢
            obtain ⟨hP3, hP4⟩ := hP2
            have HQ := hid hL2
            clear hL1 hL2 hL3 hP hp
            go_wp2_with fail
            refine (be32_any _ _ _ _ _ _ r10 (by omega)).mono ?_
            rintro e w4 ⟨rfl, rfl⟩
            rw [HQ.out]
            go_wp2_with fail
            go_ret
            exact ⟨rfl, HE2.out⟩
end Go.Proofs.Ytllkbfhkpnncgaa
