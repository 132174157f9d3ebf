/- The law on turning by two numbers, walked; own text of the verifier. -/
import Derived.Test.YtllkbfhkpnncgaaCf
import Derived.Test.YtllkbfhkpnncgaaBit
namespace Go.Proofs.Ytllkbfhkpnncgaa
open Go.RowKit
theorem ar1 (a i j : Int) (h0 : 0 ≤ a) (h1 : a < 4294967296) : rol32 (rol32 a (i % 32).toNat) (j % 32).toNat = rol32 a ((i + j) % 32).toNat := by
  obtain ⟨x, rfl⟩ := Int.eq_ofNat_of_zero_le h0
  have hx : x < 2 ^ 32 := by omega
  have hi : (i % 32).toNat < 32 := by omega
  have hj : (j % 32).toNat < 32 := by omega
  have hl := rolN_lt 32 x (i % 32).toNat hx
  rw [rol32_nat x _ (by omega) hi, rol32_nat _ _ (by omega) hj, rol32_nat x _ (by omega) (by omega), rolN_rolN 32 x _ _ hx hi hj]
  have e : ((i % 32).toNat + (j % 32).toNat) % 32 = ((i + j) % 32).toNat := by omega
  rw [e]
theorem ar2 (a i j : Int) (h0 : 0 ≤ a) (h1 : a < 256) : rol8 (rol8 a (i % 8).toNat) (j % 8).toNat = rol8 a ((i + j) % 8).toNat := by
  obtain ⟨x, rfl⟩ := Int.eq_ofNat_of_zero_le h0
  have hx : x < 2 ^ 8 := by omega
  have hi : (i % 8).toNat < 8 := by omega
  have hj : (j % 8).toNat < 8 := by omega
  have hl := rolN_lt 8 x (i % 8).toNat hx
  rw [rol8_nat x _ (by omega) hi, rol8_nat _ _ (by omega) hj, rol8_nat x _ (by omega) (by omega), rolN_rolN 8 x _ _ hx hi hj]
  have e : ((i % 8).toNat + (j % 8).toNat) % 8 = ((i + j) % 8).toNat := by omega
  rw [e]
theorem ar4 (a : Int) (h0 : 0 ≤ a) (h1 : a < 4294967296) : rol32 a (32 % 32 : Int).toNat = a := by
  obtain ⟨x, rfl⟩ := Int.eq_ofNat_of_zero_le h0
  rw [show (32 % 32 : Int).toNat = 0 from rfl, rol32_nat x 0 (by omega) (by omega), rolN_zero 32 x (by omega)]
theorem ar5 (a : Int) (h0 : 0 ≤ a) (h1 : a < 256) : rol8 a (-8 % 8 : Int).toNat = a := by
  obtain ⟨x, rfl⟩ := Int.eq_ofNat_of_zero_le h0
  rw [show (-8 % 8 : Int).toNat = 0 from rfl, rol8_nat x 0 (by omega) (by omega), rolN_zero 8 x (by omega)]
theorem tt_eq (t : Int) (n : Nat) (hn : 0 < n) : ((8 * tf t n + ts t : Nat) : Int) = t % (8 * (n : Int)) := by
  have h1 := Int.emod_nonneg (t / 8) (show (n : Int) ≠ 0 by omega)
  have := turn_k t n hn
  unfold tf ts
  omega
theorem ts_lt (t : Int) : ts t < 8 := by unfold ts; omega
theorem ar3 (bs : List UInt8) (n : Nat) (i j : Int) (hl : bs.length = n) : turnL (turnL bs n (tf i n) (ts i)) n (tf j n) (ts j) = turnL bs n (tf (i + j) n) (ts (i + j)) := by
  rcases Nat.eq_zero_or_pos n with rfl | hn
  · rfl
  refine bytes_ext _ _ n (turnL_length _ _ _ _) (turnL_length _ _ _ _) fun p hp => ?_
  have hm : ∀ q : Nat, q % (8 * n) < 8 * n := fun q => Nat.mod_lt _ (by omega)
  rw [turn_bit _ _ _ _ _ (ts_lt j) hp, turn_bit _ _ _ _ _ (ts_lt i) (hm _), turn_bit _ _ _ _ _ (ts_lt (i + j)) hp]
  congr 1
  have t1 := tt_eq i n hn
  have t2 := tt_eq j n hn
  have t3 := tt_eq (i + j) n hn
  obtain ⟨X, hX⟩ : ∃ X, 8 * tf i n + ts i = X := ⟨_, rfl⟩
  obtain ⟨Y, hY⟩ : ∃ Y, 8 * tf j n + ts j = Y := ⟨_, rfl⟩
  obtain ⟨Z, hZ⟩ : ∃ Z, 8 * tf (i + j) n + ts (i + j) = Z := ⟨_, rfl⟩
  rw [hX] at t1 ⊢
  rw [hY] at t2 ⊢
  rw [hZ] at t3 ⊢
  apply Int.ofNat.inj
  show ((((p + Y) % (8 * n) + X) % (8 * n) : Nat) : Int) = (((p + Z) % (8 * n) : Nat) : Int)
  have e8 : ((8 * n : Nat) : Int) = 8 * (n : Int) := by omega
  rw [Int.natCast_emod, Int.natCast_add, Int.natCast_emod, Int.natCast_add, Int.natCast_emod, Int.natCast_add, t1, t2, t3, e8]
  simp only [Int.emod_add_emod, Int.add_emod_emod]
  congr 1; omega
theorem turn0 (bs : List UInt8) (n : Nat) (t : Int) (hl : bs.length = n) (ht : t % (8 * (n : Int)) = 0) : turnL bs n (tf t n) (ts t) = bs := by
  rcases Nat.eq_zero_or_pos n with rfl | hn
  · exact (List.eq_nil_of_length_eq_zero hl).symm
  refine bytes_ext _ _ n (turnL_length _ _ _ _) hl fun p hp => ?_
  have := tt_eq t n hn
  rw [turn_bit _ _ _ _ _ (ts_lt t) hp, show 8 * tf t n + ts t = 0 by omega, Nat.add_zero, Nat.mod_eq_of_lt hp]
theorem ar6 (bs : List UInt8) (n : Nat) (hl : bs.length = n) : turnL bs n (tf (8 * (n : Int)) n) (ts (8 * (n : Int))) = bs := turn0 bs n _ hl (Int.emod_self)
theorem ar7 (bs : List UInt8) (n : Nat) (i : Int) (hl : bs.length = n) : turnL (turnL bs n (tf i n) (ts i)) n (tf (-i) n) (ts (-i)) = bs := by
  rw [ar3 bs n i (-i) hl, show i + -i = 0 by omega]
  exact turn0 bs n 0 hl (Int.zero_emod _)
def aroundKs (a0 a1 i j : Int) (n : Nat) (bs : List UInt8) : List K := [.eq (.int .u32 a0), .eq (.int .i64 i), .eq (.int .u32 (rol32 a0 (i % 32).toNat)), .eq (.int .i64 j), .eq (.int .u32 (rol32 a0 ((i + j) % 32).toNat)), .eq (.int .u32 a0), .eq (.int .i64 i), .eq (.int .i64 j), .eq (.int .i64 (i + j)), .eq (.int .u32 (rol32 a0 ((i + j) % 32).toNat)), .eq (.bool true), .eq (.bool true), .eq (.int .u8 a1), .eq (.int .i64 i), .eq (.int .u8 (rol8 a1 (i % 8).toNat)), .eq (.int .i64 j), .eq (.int .u8 (rol8 a1 ((i + j) % 8).toNat)), .eq (.int .u8 a1), .eq (.int .i64 i), .eq (.int .i64 j), .eq (.int .i64 (i + j)), .eq (.int .u8 (rol8 a1 ((i + j) % 8).toNat)), .eq (.bool true), .eq (.bool true), .eq (.bool true), .byt n (bs), .eq (.int .i64 i), .byt n (turnL bs n (tf i n) (ts i)), .eq (.int .i64 j), .byt n (turnL bs n (tf (i + j) n) (ts (i + j))), .eq (.string (str (turnL bs n (tf (i + j) n) (ts (i + j))))), .byt n (bs), .eq (.int .i64 i), .eq (.int .i64 j), .eq (.int .i64 (i + j)), .byt n (turnL bs n (tf (i + j) n) (ts (i + j))), .eq (.string (str (turnL bs n (tf (i + j) n) (ts (i + j))))), .eq (.bool true), .eq (.bool true), .eq (.bool true), .eq (.int .u32 a0), .eq (.int .u32 (a0)), .eq (.int .u32 a0), .eq (.bool true), .eq (.bool true), .eq (.bool true), .eq (.int .u8 a1), .eq (.int .u8 (a1)), .eq (.int .u8 a1), .eq (.bool true), .eq (.bool true), .eq (.bool true), .byt n (bs), .eq (.int .i64 (8 * (n : Int))), .byt n (bs), .eq (.string (str (bs))), .byt n (bs), .eq (.string (str (bs))), .eq (.bool true), .eq (.bool true), .eq (.bool true), .byt n (bs), .eq (.int .i64 i), .byt n (turnL bs n (tf i n) (ts i)), .eq (.int .i64 i), .eq (.int .i64 (-i)), .byt n (bs), .eq (.string (str (bs))), .byt n (bs), .eq (.string (str (bs))), .eq (.bool true), .eq (.bool true), .eq (.bool true)]
set_option maxRecDepth 100000 in
set_option maxHeartbeats 4000000 in
theorem around_walk (a0 : Int) (a1 : Int) (a2 : Option Addr) (n c2 : Nat) (z2 : List Int) (a3 : Int) (a4 : Int) (w : World) (w0 : (Lit.int .u32 a0).wf = true) (w1 : (Lit.int .u8 a1).wf = true) (w2 : IsRow .u8 w a2 n c2 z2) (_w3 : (Lit.int .i64 a3).wf = true) (_w4 : (Lit.int .i64 a4).wf = true) :
    Calls Try.prog 6 #[.int .u32 a0, .int .u8 a1, .slice a2 n c2, .int .i64 a3, .int .i64 a4] w fun e w' => e = .returned (.bool true) ∧ Below w.heap.size w w' := by
  obtain ⟨bs, hrd, hmax, hcap⟩ := w2.rdc
  obtain ⟨p0, p1⟩ := wf_u32 w0
  obtain ⟨q0, q1⟩ := wf_u8' w1
  unfold maxLen at hmax
  clear w0 w1 w2
  go_enter Try.func6, Try.ntmps6
  go_wp2_with fail
  refine (known_any _).mono ?_
  rintro e w1 ⟨rfl, hb1⟩
  have hrd1 := hrd.later hb1
  clear hrd
  by_cases h60 : 60 < n
  · go_wp2_with fail
    go_ret
    exact ⟨rfl, hb1⟩
  · have HL := hid hrd1.len
    have HA := hid hrd1
    have HB := hid hb1
    clear hrd1 hb1
    go_wp2_with fail
    refine (within_any _ _ _ (by omega) (by omega)).mono ?_
    rintro e w3 ⟨rfl, rfl⟩
    have m1 : 0 ≤ a3 % 2000 := by omega
    have m2 : a3 % 2000 < 2000 := by omega
    go_wp2_with fail
    refine (within_any _ _ _ (by omega) (by omega)).mono ?_
    rintro e w3 ⟨rfl, rfl⟩
    have m3 : 0 ≤ a4 % 2000 := by omega
    have m4 : a4 % 2000 < 2000 := by omega
    go_wp2_with fail
    obtain ⟨i, hi⟩ : ∃ i, a3 % 2000 - 1000 = i := ⟨_, rfl⟩
    obtain ⟨j, hj⟩ : ∃ j, a4 % 2000 - 1000 = j := ⟨_, rfl⟩
    have i1 : -1000 ≤ i := by omega
    have i2 : i ≤ 999 := by omega
    have j1 : -1000 ≤ j := by omega
    have j2 : j ≤ 999 := by omega
    rw [hi, hj]
    clear hi hj m1 m2 m3 m4
    refine region_inv mixed rfl (by kernel_rfl) (kV (aroundKs a0 a1 i j n bs)) (kV_keep _) (forall_ops ⟨?_, ?_, ?_, ?_, ?_, ?_, ?_, ?_, ?_, ?_, ?_, ?_, ?_, ?_, ?_, ?_, ?_, ?_, ?_, ?_, ?_, ?_, ?_, ?_, ?_, ?_, ?_, ?_, ?_, ?_, ?_, ?_, ?_, ?_, ?_, ?_, ?_, ?_, ?_, ?_, ?_, ?_, ?_, ?_, ?_, ?_, ?_, ?_, ?_, ?_, ?_, ?_, ?_, ?_, ?_, ?_, ?_, ?_, ?_, ?_, ?_, ?_, ?_, ?_, ?_, ?_, ?_, ?_, ?_, ?_, ?_, ?_, ?_, trivial⟩) ?_
    · intro a w hk
      have s0 : a.tmps.getD 0 undef = .int .u32 a0 := hk.was 0 (by kernel_rfl) rfl
      exact step_move rfl rfl s0 rfl
    · intro a w hk
      have s11 : a.tmps.getD 11 undef = .int .i64 i := hk.was 11 (by kernel_rfl) rfl
      exact step_move rfl rfl s11 rfl
    · intro a w hk
      have s28 := hk.eq_ 0 28 (by kernel_rfl) rfl
      have s29 := hk.eq_ 1 29 (by kernel_rfl) rfl
      exact step_call rfl rfl (by simp only [List.map_toArray, List.map_cons, List.map_nil, Act.eval, s28, s29] <;> rfl) cf28 (rl32 a0 i w) (retE)
    · intro a w hk
      have s12 : a.tmps.getD 12 undef = .int .i64 j := hk.was 12 (by kernel_rfl) rfl
      exact step_move rfl rfl s12 rfl
    · intro a w hk
      have s30 := hk.eq_ 2 30 (by kernel_rfl) rfl
      have s31 := hk.eq_ 3 31 (by kernel_rfl) rfl
      exact step_call rfl rfl (by simp only [List.map_toArray, List.map_cons, List.map_nil, Act.eval, s30, s31] <;> rfl) cf28 (rl32 _ j w) (fun e w' h => retE e w' ⟨h.1.trans (by rw [ar1 a0 i j p0 p1]), h.2⟩)
    · intro a w hk
      have s0 : a.tmps.getD 0 undef = .int .u32 a0 := hk.was 0 (by kernel_rfl) rfl
      exact step_move rfl rfl s0 rfl
    · intro a w hk
      have s11 : a.tmps.getD 11 undef = .int .i64 i := hk.was 11 (by kernel_rfl) rfl
      exact step_move rfl rfl s11 rfl
    · intro a w hk
      have s12 : a.tmps.getD 12 undef = .int .i64 j := hk.was 12 (by kernel_rfl) rfl
      exact step_move rfl rfl s12 rfl
    · intro a w hk
      have s34 := hk.eq_ 6 34 (by kernel_rfl) rfl
      have s35 := hk.eq_ 7 35 (by kernel_rfl) rfl
      refine step_val (v := .int .i64 (i + j)) (w' := w) rfl ?_ (Ext.refl w) rfl
      go_simp; rw [IntWalk.i64_in _ (by omega)]
    · intro a w hk
      have s33 := hk.eq_ 5 33 (by kernel_rfl) rfl
      have s36 := hk.eq_ 8 36 (by kernel_rfl) rfl
      exact step_call rfl rfl (by simp only [List.map_toArray, List.map_cons, List.map_nil, Act.eval, s33, s36] <;> rfl) cf28 (rl32 a0 (i + j) w) (retE)
    · intro a w hk
      have s32 := hk.eq_ 4 32 (by kernel_rfl) rfl
      have s37 := hk.eq_ 9 37 (by kernel_rfl) rfl
      refine step_val (v := .bool true) (w' := w) rfl ?_ (Ext.refl w) rfl
      go_simp
    · intro a w hk
      have s38 := hk.eq_ 10 38 (by kernel_rfl) rfl
      exact step_move rfl rfl s38 rfl
    · intro a w hk
      refine hk.run 11 39 true true rfl (by kernel_rfl) rfl fun hw => ?_
      have s1 : a.tmps.getD 1 undef = .int .u8 a1 := hk.was 1 (by kernel_rfl) rfl
      exact step_move hw rfl s1 rfl
    · intro a w hk
      refine hk.run 11 39 true true rfl (by kernel_rfl) rfl fun hw => ?_
      have s11 : a.tmps.getD 11 undef = .int .i64 i := hk.was 11 (by kernel_rfl) rfl
      exact step_move hw rfl s11 rfl
    · intro a w hk
      refine hk.run 11 39 true true rfl (by kernel_rfl) rfl fun hw => ?_
      have s40 := hk.eq_ 12 40 (by kernel_rfl) rfl
      have s41 := hk.eq_ 13 41 (by kernel_rfl) rfl
      exact step_call hw rfl (by simp only [List.map_toArray, List.map_cons, List.map_nil, Act.eval, s40, s41] <;> rfl) cf30 (rl8 a1 i w) (retE)
    · intro a w hk
      refine hk.run 11 39 true true rfl (by kernel_rfl) rfl fun hw => ?_
      have s12 : a.tmps.getD 12 undef = .int .i64 j := hk.was 12 (by kernel_rfl) rfl
      exact step_move hw rfl s12 rfl
    · intro a w hk
      refine hk.run 11 39 true true rfl (by kernel_rfl) rfl fun hw => ?_
      have s42 := hk.eq_ 14 42 (by kernel_rfl) rfl
      have s43 := hk.eq_ 15 43 (by kernel_rfl) rfl
      exact step_call hw rfl (by simp only [List.map_toArray, List.map_cons, List.map_nil, Act.eval, s42, s43] <;> rfl) cf30 (rl8 _ j w) (fun e w' h => retE e w' ⟨h.1.trans (by rw [ar2 a1 i j q0 q1]), h.2⟩)
    · intro a w hk
      refine hk.run 11 39 true true rfl (by kernel_rfl) rfl fun hw => ?_
      have s1 : a.tmps.getD 1 undef = .int .u8 a1 := hk.was 1 (by kernel_rfl) rfl
      exact step_move hw rfl s1 rfl
    · intro a w hk
      refine hk.run 11 39 true true rfl (by kernel_rfl) rfl fun hw => ?_
      have s11 : a.tmps.getD 11 undef = .int .i64 i := hk.was 11 (by kernel_rfl) rfl
      exact step_move hw rfl s11 rfl
    · intro a w hk
      refine hk.run 11 39 true true rfl (by kernel_rfl) rfl fun hw => ?_
      have s12 : a.tmps.getD 12 undef = .int .i64 j := hk.was 12 (by kernel_rfl) rfl
      exact step_move hw rfl s12 rfl
    · intro a w hk
      refine hk.run 11 39 true true rfl (by kernel_rfl) rfl fun hw => ?_
      have s46 := hk.eq_ 18 46 (by kernel_rfl) rfl
      have s47 := hk.eq_ 19 47 (by kernel_rfl) rfl
      refine step_val (v := .int .i64 (i + j)) (w' := w) hw ?_ (Ext.refl w) rfl
      go_simp; rw [IntWalk.i64_in _ (by omega)]
    · intro a w hk
      refine hk.run 11 39 true true rfl (by kernel_rfl) rfl fun hw => ?_
      have s45 := hk.eq_ 17 45 (by kernel_rfl) rfl
      have s48 := hk.eq_ 20 48 (by kernel_rfl) rfl
      exact step_call hw rfl (by simp only [List.map_toArray, List.map_cons, List.map_nil, Act.eval, s45, s48] <;> rfl) cf30 (rl8 a1 (i + j) w) (retE)
    · intro a w hk
      refine hk.run 11 39 true true rfl (by kernel_rfl) rfl fun hw => ?_
      have s44 := hk.eq_ 16 44 (by kernel_rfl) rfl
      have s49 := hk.eq_ 21 49 (by kernel_rfl) rfl
      refine step_val (v := .bool true) (w' := w) hw ?_ (Ext.refl w) rfl
      go_simp
    · intro a w hk
      have s39 := hk.eq_ 11 39 (by kernel_rfl) rfl
      have s50 := hk.eq_ 22 50 (by kernel_rfl) rfl
      exact step_pick (b := true) rfl rfl s39 s50 rfl
    · intro a w hk
      have s51 := hk.eq_ 23 51 (by kernel_rfl) rfl
      exact step_move rfl rfl s51 rfl
    · intro a w hk
      refine hk.run 24 52 true true rfl (by kernel_rfl) rfl fun hw => ?_
      have s2 : a.tmps.getD 2 undef = .slice a2 n c2 := hk.was 2 (by kernel_rfl) rfl
      have r2 := (HA.out).later hk.ext
      exact step_move hw rfl s2 ⟨_, _, rfl, r2⟩
    · intro a w hk
      refine hk.run 24 52 true true rfl (by kernel_rfl) rfl fun hw => ?_
      have s11 : a.tmps.getD 11 undef = .int .i64 i := hk.was 11 (by kernel_rfl) rfl
      exact step_move hw rfl s11 rfl
    · intro a w hk
      refine hk.run 24 52 true true rfl (by kernel_rfl) rfl fun hw => ?_
      obtain ⟨A53, c53, s53, r53⟩ := hk.byt_ 25 53 (by kernel_rfl) rfl
      have s54 := hk.eq_ 26 54 (by kernel_rfl) rfl
      exact step_call hw rfl (by simp only [List.map_toArray, List.map_cons, List.map_nil, Act.eval, s53, s54] <;> rfl) cf32 (turn_all _ _ _ i _ w r53 (by omega)) (RetB.k (turnL_length _ _ _ _))
    · intro a w hk
      refine hk.run 24 52 true true rfl (by kernel_rfl) rfl fun hw => ?_
      have s12 : a.tmps.getD 12 undef = .int .i64 j := hk.was 12 (by kernel_rfl) rfl
      exact step_move hw rfl s12 rfl
    · intro a w hk
      refine hk.run 24 52 true true rfl (by kernel_rfl) rfl fun hw => ?_
      obtain ⟨A55, c55, s55, r55⟩ := hk.byt_ 27 55 (by kernel_rfl) rfl
      have s56 := hk.eq_ 28 56 (by kernel_rfl) rfl
      exact step_call hw rfl (by simp only [List.map_toArray, List.map_cons, List.map_nil, Act.eval, s55, s56] <;> rfl) cf32 (turn_all _ _ _ j _ w r55 (by omega)) (fun e w' h => RetB.k (turnL_length _ _ _ _) e w' (RetB.mono_eq (ar3 bs n i j HL.out) h))
    · intro a w hk
      refine hk.run 24 52 true true rfl (by kernel_rfl) rfl fun hw => ?_
      obtain ⟨A57, c57, s57, r57⟩ := hk.byt_ 29 57 (by kernel_rfl) rfl
      exact step_conv hw rfl s57 (strq r57) rfl
    · intro a w hk
      refine hk.run 24 52 true true rfl (by kernel_rfl) rfl fun hw => ?_
      have s2 : a.tmps.getD 2 undef = .slice a2 n c2 := hk.was 2 (by kernel_rfl) rfl
      have r2 := (HA.out).later hk.ext
      exact step_move hw rfl s2 ⟨_, _, rfl, r2⟩
    · intro a w hk
      refine hk.run 24 52 true true rfl (by kernel_rfl) rfl fun hw => ?_
      have s11 : a.tmps.getD 11 undef = .int .i64 i := hk.was 11 (by kernel_rfl) rfl
      exact step_move hw rfl s11 rfl
    · intro a w hk
      refine hk.run 24 52 true true rfl (by kernel_rfl) rfl fun hw => ?_
      have s12 : a.tmps.getD 12 undef = .int .i64 j := hk.was 12 (by kernel_rfl) rfl
      exact step_move hw rfl s12 rfl
    · intro a w hk
      refine hk.run 24 52 true true rfl (by kernel_rfl) rfl fun hw => ?_
      have s60 := hk.eq_ 32 60 (by kernel_rfl) rfl
      have s61 := hk.eq_ 33 61 (by kernel_rfl) rfl
      refine step_val (v := .int .i64 (i + j)) (w' := w) hw ?_ (Ext.refl w) rfl
      go_simp; rw [IntWalk.i64_in _ (by omega)]
    · intro a w hk
      refine hk.run 24 52 true true rfl (by kernel_rfl) rfl fun hw => ?_
      obtain ⟨A59, c59, s59, r59⟩ := hk.byt_ 31 59 (by kernel_rfl) rfl
      have s62 := hk.eq_ 34 62 (by kernel_rfl) rfl
      exact step_call hw rfl (by simp only [List.map_toArray, List.map_cons, List.map_nil, Act.eval, s59, s62] <;> rfl) cf32 (turn_all _ _ _ (i + j) _ w r59 (by omega)) (RetB.k (turnL_length _ _ _ _))
    · intro a w hk
      refine hk.run 24 52 true true rfl (by kernel_rfl) rfl fun hw => ?_
      obtain ⟨A63, c63, s63, r63⟩ := hk.byt_ 35 63 (by kernel_rfl) rfl
      exact step_conv hw rfl s63 (strq r63) rfl
    · intro a w hk
      refine hk.run 24 52 true true rfl (by kernel_rfl) rfl fun hw => ?_
      have s58 := hk.eq_ 30 58 (by kernel_rfl) rfl
      have s64 := hk.eq_ 36 64 (by kernel_rfl) rfl
      refine step_val (v := .bool true) (w' := w) hw ?_ (Ext.refl w) rfl
      go_simp
    · intro a w hk
      have s52 := hk.eq_ 24 52 (by kernel_rfl) rfl
      have s65 := hk.eq_ 37 65 (by kernel_rfl) rfl
      exact step_pick (b := true) rfl rfl s52 s65 rfl
    · intro a w hk
      have s66 := hk.eq_ 38 66 (by kernel_rfl) rfl
      exact step_move rfl rfl s66 rfl
    · intro a w hk
      refine hk.run 39 67 true true rfl (by kernel_rfl) rfl fun hw => ?_
      have s0 : a.tmps.getD 0 undef = .int .u32 a0 := hk.was 0 (by kernel_rfl) rfl
      exact step_move hw rfl s0 rfl
    · intro a w hk
      refine hk.run 39 67 true true rfl (by kernel_rfl) rfl fun hw => ?_
      have s68 := hk.eq_ 40 68 (by kernel_rfl) rfl
      exact step_call hw rfl (by simp only [List.map_toArray, List.map_cons, List.map_nil, Act.eval, s68] <;> rfl) cf28 (rl32 a0 32 w) (fun e w' h => retE e w' ⟨h.1.trans (by rw [ar4 a0 p0 p1]), h.2⟩)
    · intro a w hk
      refine hk.run 39 67 true true rfl (by kernel_rfl) rfl fun hw => ?_
      have s0 : a.tmps.getD 0 undef = .int .u32 a0 := hk.was 0 (by kernel_rfl) rfl
      exact step_move hw rfl s0 rfl
    · intro a w hk
      refine hk.run 39 67 true true rfl (by kernel_rfl) rfl fun hw => ?_
      have s69 := hk.eq_ 41 69 (by kernel_rfl) rfl
      have s70 := hk.eq_ 42 70 (by kernel_rfl) rfl
      refine step_val (v := .bool true) (w' := w) hw ?_ (Ext.refl w) rfl
      go_simp
    · intro a w hk
      have s67 := hk.eq_ 39 67 (by kernel_rfl) rfl
      have s71 := hk.eq_ 43 71 (by kernel_rfl) rfl
      exact step_pick (b := true) rfl rfl s67 s71 rfl
    · intro a w hk
      have s72 := hk.eq_ 44 72 (by kernel_rfl) rfl
      exact step_move rfl rfl s72 rfl
    · intro a w hk
      refine hk.run 45 73 true true rfl (by kernel_rfl) rfl fun hw => ?_
      have s1 : a.tmps.getD 1 undef = .int .u8 a1 := hk.was 1 (by kernel_rfl) rfl
      exact step_move hw rfl s1 rfl
    · intro a w hk
      refine hk.run 45 73 true true rfl (by kernel_rfl) rfl fun hw => ?_
      have s74 := hk.eq_ 46 74 (by kernel_rfl) rfl
      exact step_call hw rfl (by simp only [List.map_toArray, List.map_cons, List.map_nil, Act.eval, s74] <;> rfl) cf30 (rl8 a1 (-8) w) (fun e w' h => retE e w' ⟨h.1.trans (by rw [ar5 a1 q0 q1]), h.2⟩)
    · intro a w hk
      refine hk.run 45 73 true true rfl (by kernel_rfl) rfl fun hw => ?_
      have s1 : a.tmps.getD 1 undef = .int .u8 a1 := hk.was 1 (by kernel_rfl) rfl
      exact step_move hw rfl s1 rfl
    · intro a w hk
      refine hk.run 45 73 true true rfl (by kernel_rfl) rfl fun hw => ?_
      have s75 := hk.eq_ 47 75 (by kernel_rfl) rfl
      have s76 := hk.eq_ 48 76 (by kernel_rfl) rfl
      refine step_val (v := .bool true) (w' := w) hw ?_ (Ext.refl w) rfl
      go_simp
    · intro a w hk
      have s73 := hk.eq_ 45 73 (by kernel_rfl) rfl
      have s77 := hk.eq_ 49 77 (by kernel_rfl) rfl
      exact step_pick (b := true) rfl rfl s73 s77 rfl
    · intro a w hk
      have s78 := hk.eq_ 50 78 (by kernel_rfl) rfl
      exact step_move rfl rfl s78 rfl
    · intro a w hk
      refine hk.run 51 79 true true rfl (by kernel_rfl) rfl fun hw => ?_
      have s2 : a.tmps.getD 2 undef = .slice a2 n c2 := hk.was 2 (by kernel_rfl) rfl
      have r2 := (HA.out).later hk.ext
      exact step_move hw rfl s2 ⟨_, _, rfl, r2⟩
    · intro a w hk
      refine hk.run 51 79 true true rfl (by kernel_rfl) rfl fun hw => ?_
      have s13 : a.tmps.getD 13 undef = .int .i64 (8 * (n : Int)) := hk.was 13 (by kernel_rfl) rfl
      exact step_move hw rfl s13 rfl
    · intro a w hk
      refine hk.run 51 79 true true rfl (by kernel_rfl) rfl fun hw => ?_
      obtain ⟨A80, c80, s80, r80⟩ := hk.byt_ 52 80 (by kernel_rfl) rfl
      have s81 := hk.eq_ 53 81 (by kernel_rfl) rfl
      exact step_call hw rfl (by simp only [List.map_toArray, List.map_cons, List.map_nil, Act.eval, s80, s81] <;> rfl) cf32 (turn_all _ _ _ (8 * (n : Int)) _ w r80 (by omega)) (fun e w' h => RetB.k HL.out e w' (RetB.mono_eq (ar6 bs n HL.out) h))
    · intro a w hk
      refine hk.run 51 79 true true rfl (by kernel_rfl) rfl fun hw => ?_
      obtain ⟨A82, c82, s82, r82⟩ := hk.byt_ 54 82 (by kernel_rfl) rfl
      exact step_conv hw rfl s82 (strq r82) rfl
    · intro a w hk
      refine hk.run 51 79 true true rfl (by kernel_rfl) rfl fun hw => ?_
      have s2 : a.tmps.getD 2 undef = .slice a2 n c2 := hk.was 2 (by kernel_rfl) rfl
      have r2 := (HA.out).later hk.ext
      exact step_move hw rfl s2 ⟨_, _, rfl, r2⟩
    · intro a w hk
      refine hk.run 51 79 true true rfl (by kernel_rfl) rfl fun hw => ?_
      obtain ⟨A84, c84, s84, r84⟩ := hk.byt_ 56 84 (by kernel_rfl) rfl
      exact step_conv hw rfl s84 (strq r84) rfl
    · intro a w hk
      refine hk.run 51 79 true true rfl (by kernel_rfl) rfl fun hw => ?_
      have s83 := hk.eq_ 55 83 (by kernel_rfl) rfl
      have s85 := hk.eq_ 57 85 (by kernel_rfl) rfl
      refine step_val (v := .bool true) (w' := w) hw ?_ (Ext.refl w) rfl
      go_simp
    · intro a w hk
      have s79 := hk.eq_ 51 79 (by kernel_rfl) rfl
      have s86 := hk.eq_ 58 86 (by kernel_rfl) rfl
      exact step_pick (b := true) rfl rfl s79 s86 rfl
    · intro a w hk
      have s87 := hk.eq_ 59 87 (by kernel_rfl) rfl
      exact step_move rfl rfl s87 rfl
    · intro a w hk
      refine hk.run 60 88 true true rfl (by kernel_rfl) rfl fun hw => ?_
      have s2 : a.tmps.getD 2 undef = .slice a2 n c2 := hk.was 2 (by kernel_rfl) rfl
      have r2 := (HA.out).later hk.ext
      exact step_move hw rfl s2 ⟨_, _, rfl, r2⟩
    · intro a w hk
      refine hk.run 60 88 true true rfl (by kernel_rfl) rfl fun hw => ?_
      have s11 : a.tmps.getD 11 undef = .int .i64 i := hk.was 11 (by kernel_rfl) rfl
      exact step_move hw rfl s11 rfl
    · intro a w hk
      refine hk.run 60 88 true true rfl (by kernel_rfl) rfl fun hw => ?_
      obtain ⟨A89, c89, s89, r89⟩ := hk.byt_ 61 89 (by kernel_rfl) rfl
      have s90 := hk.eq_ 62 90 (by kernel_rfl) rfl
      exact step_call hw rfl (by simp only [List.map_toArray, List.map_cons, List.map_nil, Act.eval, s89, s90] <;> rfl) cf32 (turn_all _ _ _ i _ w r89 (by omega)) (RetB.k (turnL_length _ _ _ _))
    · intro a w hk
      refine hk.run 60 88 true true rfl (by kernel_rfl) rfl fun hw => ?_
      have s11 : a.tmps.getD 11 undef = .int .i64 i := hk.was 11 (by kernel_rfl) rfl
      exact step_move hw rfl s11 rfl
    · intro a w hk
      refine hk.run 60 88 true true rfl (by kernel_rfl) rfl fun hw => ?_
      have s92 := hk.eq_ 64 92 (by kernel_rfl) rfl
      refine step_val (v := .int .i64 (-i)) (w' := w) hw ?_ (Ext.refl w) rfl
      go_simp; rw [IntWalk.i64_in _ (by omega)]
    · intro a w hk
      refine hk.run 60 88 true true rfl (by kernel_rfl) rfl fun hw => ?_
      obtain ⟨A91, c91, s91, r91⟩ := hk.byt_ 63 91 (by kernel_rfl) rfl
      have s93 := hk.eq_ 65 93 (by kernel_rfl) rfl
      exact step_call hw rfl (by simp only [List.map_toArray, List.map_cons, List.map_nil, Act.eval, s91, s93] <;> rfl) cf32 (turn_all _ _ _ (-i) _ w r91 (by omega)) (fun e w' h => RetB.k HL.out e w' (RetB.mono_eq (ar7 bs n i HL.out) h))
    · intro a w hk
      refine hk.run 60 88 true true rfl (by kernel_rfl) rfl fun hw => ?_
      obtain ⟨A94, c94, s94, r94⟩ := hk.byt_ 66 94 (by kernel_rfl) rfl
      exact step_conv hw rfl s94 (strq r94) rfl
    · intro a w hk
      refine hk.run 60 88 true true rfl (by kernel_rfl) rfl fun hw => ?_
      have s2 : a.tmps.getD 2 undef = .slice a2 n c2 := hk.was 2 (by kernel_rfl) rfl
      have r2 := (HA.out).later hk.ext
      exact step_move hw rfl s2 ⟨_, _, rfl, r2⟩
    · intro a w hk
      refine hk.run 60 88 true true rfl (by kernel_rfl) rfl fun hw => ?_
      obtain ⟨A96, c96, s96, r96⟩ := hk.byt_ 68 96 (by kernel_rfl) rfl
      exact step_conv hw rfl s96 (strq r96) rfl
    · intro a w hk
      refine hk.run 60 88 true true rfl (by kernel_rfl) rfl fun hw => ?_
      have s95 := hk.eq_ 67 95 (by kernel_rfl) rfl
      have s97 := hk.eq_ 69 97 (by kernel_rfl) rfl
      refine step_val (v := .bool true) (w' := w) hw ?_ (Ext.refl w) rfl
      go_simp
    · intro a w hk
      have s88 := hk.eq_ 60 88 (by kernel_rfl) rfl
      have s98 := hk.eq_ 70 98 (by kernel_rfl) rfl
      exact step_pick (b := true) rfl rfl s88 s98 rfl
    · intro a w hk
      have s99 := hk.eq_ 71 99 (by kernel_rfl) rfl
      exact step_assign rfl rfl s99 rfl
    · intro a w hf
      rename_i hK
      exact hK _ _ (wp_ret_tmp rfl hf.defers (hf.eq_ 72 10 (by kernel_rfl) rfl) ⟨rfl, Ext.trans HB.out hf.ext⟩)
end Go.Proofs.Ytllkbfhkpnncgaa
