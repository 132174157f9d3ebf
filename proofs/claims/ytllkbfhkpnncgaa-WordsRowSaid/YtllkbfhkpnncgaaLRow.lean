/- The law on rows of bits as words, walked; own text of the verifier. -/
import Derived.Test.YtllkbfhkpnncgaaCf
import Derived.Test.YtllkbfhkpnncgaaBit
namespace Go.Proofs.Ytllkbfhkpnncgaa
open Go.RowKit
theorem put32_get (x i : Nat) (hi : i < 4) : ((put32 (x : Int)).getD i 0).toNat = x / 2 ^ (8 * (3 - i)) % 2 ^ 8 := by
  have e (y : Nat) : (u8 (y : Int)).toNat = y % 256 := by
    have := u8_toNat (y : Int); omega
  match i, hi with
  | 0, _ => show (u8 ((x : Int) / 16777216)).toNat = _; rw [show (x : Int) / 16777216 = ((x / 16777216 : Nat) : Int) by omega, e]
  | 1, _ => show (u8 ((x : Int) / 65536)).toNat = _; rw [show (x : Int) / 65536 = ((x / 65536 : Nat) : Int) by omega, e]
  | 2, _ => show (u8 ((x : Int) / 256)).toNat = _; rw [show (x : Int) / 256 = ((x / 256 : Nat) : Int) by omega, e]
  | 3, _ => show (u8 (x : Int)).toNat = _; rw [e]; simp
theorem put32_bit (x p : Nat) (hp : p < 32) : bitOf (put32 (x : Int)) p = x.testBit (31 - p) := by
  unfold bitOf
  rw [put32_get x (p / 8) (by omega), Nat.testBit_mod_two_pow, Nat.testBit_div_two_pow]
  have e1 : 7 - p % 8 < 8 := by omega
  have e2 : 7 - p % 8 + 8 * (3 - p / 8) = 31 - p := by omega
  simp [e1, e2]
theorem row_word (a k : Int) (h0 : 0 ≤ a) (h1 : a < 4294967296) : turnL (put32 a) 4 (tf k 4) (ts k) = put32 (rol32 a (k % 32).toNat) := by
  obtain ⟨x, rfl⟩ := Int.eq_ofNat_of_zero_le h0
  have hx : x < 4294967296 := by omega
  have hr : (k % 32).toNat < 32 := by omega
  have hT : 8 * tf k 4 + ts k = (k % 32).toNat := by
    unfold tf ts
    have := turn_k k 4 (by omega)
    omega
  rw [rol32_nat x _ hx hr]
  refine bytes_ext _ _ 4 (turnL_length _ _ _ _) rfl fun p hp => ?_
  have hp' : p < 32 := by omega
  rw [turn_bit _ _ _ _ _ (by unfold ts; omega) hp, hT, show 8 * 4 = 32 from rfl, put32_bit _ _ (Nat.mod_lt _ (by omega)), put32_bit _ _ hp', rolN_bit 32 x _ _ hx hr (by omega)]
  congr 1
  omega
theorem row_byte (c k : Int) (h0 : 0 ≤ c) (h1 : c < 256) : turnL [u8 c] 1 (tf k 1) (ts k) = [u8 (rol8 c (k % 8).toNat)] := by
  have e : byteAt [u8 c] 0 = c := by
    have := u8_toNat c
    show ((u8 c).toNat : Int) = c
    omega
  show [turnF [u8 c] 1 (tf k 1) (ts k) 0] = _
  unfold turnF
  rw [Nat.mod_one, Nat.mod_one, e]
  rfl
theorem row_b0 (c k : Int) : byteAt [u8 (rol8 c k.toNat)] 0 = rol8 c k.toNat := by
  show ((u8 (rol8 c k.toNat)).toNat : Int) = _
  have := u8_toNat (rol8 c k.toNat)
  have h : 0 ≤ rol8 c k.toNat ∧ rol8 c k.toNat < 256 := bits_u8_range _ _ _
  omega
theorem rol32_range (a : Int) (s : Nat) : 0 ≤ rol32 a s ∧ rol32 a s < 4294967296 := by
  unfold rol32 bits
  simp [IntKind.wrap, IntKind.bits, IntKind.signed]
  omega
theorem lit_rd' (w : World) (c : Int) (h0 : 0 ≤ c) (h1 : c < 256) : Rd (w.alloc (.cells #[.int .u8 c] 5)) (w.alloc (.cells #[.int .u8 c] 5)).heap.size (some ⟨w.heap.size, 0, none⟩) 1 [u8 c] := by
  have e : (#[Value.int .u8 c] : Array Value).toList = cellsOf [u8 c] := by
    have := u8_toNat c
    simp only [cellsOf, List.map_cons, List.map_nil]
    rw [this, Int.emod_eq_of_lt h0 h1]
  simpa using lit_rd w [u8 c] #[.int .u8 c] 1 e rfl (by unfold maxLen; omega)
def rowKs (a0 a1 k : Int) : List K := [.byt 4 (put32 (rol32 a0 (k % 32).toNat)), .eq (.string (str (put32 (rol32 a0 (k % 32).toNat)))), .eq (.int .u32 a0), .eq (.int .i64 k), .eq (.int .u32 (rol32 a0 (k % 32).toNat)), .byt 4 (put32 (rol32 a0 (k % 32).toNat)), .eq (.string (str (put32 (rol32 a0 (k % 32).toNat)))), .eq (.bool true), .eq (.bool true), .byt 1 ([u8 (rol8 a1 (k % 8).toNat)]), .eq (.int .i64 1), .eq (.bool true), .eq (.bool true), .eq (.bool true), .byt 1 ([u8 (rol8 a1 (k % 8).toNat)]), .ptr (.int .u8 (byteAt ([u8 (rol8 a1 (k % 8).toNat)]) 0)), .eq (.int .u8 (byteAt ([u8 (rol8 a1 (k % 8).toNat)]) 0)), .eq (.int .u8 a1), .eq (.int .i64 k), .eq (.int .u8 (rol8 a1 (k % 8).toNat)), .eq (.bool true), .eq (.bool true), .eq (.bool true), .eq (.int .i64 k), .eq (.slice none 0 0), .eq (.int .i64 0), .eq (.bool true), .eq (.bool true), .eq (.bool true)]
set_option maxHeartbeats 2000000 in
theorem row_walk (a0 : Int) (a1 : Int) (a2 : Int) (w0 : (Lit.int .u32 a0).wf = true) (w1 : (Lit.int .u8 a1).wf = true) (_w2 : (Lit.int .i64 a2).wf = true) (w : World) :
    Calls Try.prog 11 #[.int .u32 a0, .int .u8 a1, .int .i64 a2] w fun e w' => e = .returned (.bool true) ∧ Below w.heap.size w w' := by
  obtain ⟨p0, p1⟩ := wf_u32 w0
  obtain ⟨q0, q1⟩ := wf_u8' w1
  clear w0 w1
  go_enter Try.func11, Try.ntmps11
  go_wp2_with fail
  refine (known_any _).mono ?_
  rintro e w1 ⟨rfl, hb1⟩
  go_wp2_with fail
  refine (within_any _ _ _ (by omega) (by omega)).mono ?_
  rintro e w2 ⟨rfl, rfl⟩
  have m1 : 0 ≤ a2 % 500 := by omega
  have m2 : a2 % 500 < 500 := by omega
  go_wp2_with fail
  obtain ⟨k, hk⟩ : ∃ k, a2 % 500 - 250 = k := ⟨_, rfl⟩
  rw [hk]
  clear hk m1 m2
  refine (putBe32_any _ _ p0 p1).mono ?_
  rintro e w2 ⟨x, rfl, hx, hb2⟩
  obtain ⟨Ax, cx, rfl, hx2, _⟩ := hx.rdn (n := 4) rfl
  clear hx
  go_wp2_with fail
  refine (turn_all _ _ _ _ _ _ hx2 (by omega)).mono ?_
  rintro e w3 ⟨y, rfl, hy, hb3⟩
  rw [row_word a0 k p0 p1] at hy
  obtain ⟨Ay, cy, rfl, hy3, _⟩ := hy.rdn (n := 4) rfl
  have hb' : Below w1.heap.size w1 w3 := Ext.trans hb2 hb3
  have hb : Below w.heap.size w w3 := Ext.trans hb1 hb'
  clear hy hx2 hb1 hb' hb2 hb3
  go_wp2_with fail
  refine (turn_all _ 1 _ _ [u8 a1] _ (lit_rd' w3 a1 q0 q1) (by omega)).mono ?_
  rintro e w4 ⟨z, rfl, hz, hb4⟩
  rw [row_byte a1 k q0 q1] at hz
  obtain ⟨Az, cz, rfl, hz4, _⟩ := hz.rdn (n := 1) rfl
  have hb5 : Ext w3 w4 := Ext.trans (Ext.alloc _ _) hb4
  have HX := hid (hy3.later hb5)
  have HY := hid hz4
  have HB := hid (Ext.trans hb hb5)
  clear hz hb4 hb5 hy3 hz4 hb
  go_wp2_with fail
  have hr := rol32_range a0 (k % 32).toNat
  refine region_inv mixed rfl (by kernel_rfl) (kV (rowKs a0 a1 k)) (kV_keep _) (forall_ops ⟨?_, ?_, ?_, ?_, ?_, ?_, ?_, ?_, ?_, ?_, ?_, ?_, ?_, ?_, ?_, ?_, ?_, ?_, ?_, ?_, ?_, ?_, ?_, ?_, ?_, ?_, ?_, ?_, ?_, trivial⟩) ?_
  · intro a w hk
    have s8 : a.tmps.getD 8 undef = .slice Ay 4 cy := hk.was 8 (by kernel_rfl) rfl
    have r8 := (HX.out).later hk.ext
    exact step_move rfl rfl s8 ⟨_, _, rfl, r8⟩
  · intro a w hk
    obtain ⟨A23, c23, s23, r23⟩ := hk.byt_ 0 23 (by kernel_rfl) rfl
    exact step_conv rfl rfl s23 (strq r23) rfl
  · intro a w hk
    have s0 : a.tmps.getD 0 undef = .int .u32 a0 := hk.was 0 (by kernel_rfl) rfl
    exact step_move rfl rfl s0 rfl
  · intro a w hk
    have s7 : a.tmps.getD 7 undef = .int .i64 k := hk.was 7 (by kernel_rfl) rfl
    exact step_move rfl rfl s7 rfl
  · intro a w hk
    have s25 := hk.eq_ 2 25 (by kernel_rfl) rfl
    have s26 := hk.eq_ 3 26 (by kernel_rfl) rfl
    exact step_call rfl rfl (by simp only [List.map_toArray, List.map_cons, List.map_nil, Act.eval, s25, s26] <;> rfl) cf28 (rl32 a0 k w) (retE)
  · intro a w hk
    have s27 := hk.eq_ 4 27 (by kernel_rfl) rfl
    exact step_call rfl rfl (by simp only [List.map_toArray, List.map_cons, List.map_nil, Act.eval, s27] <;> rfl) cf21 (putBe32_any _ w hr.1 hr.2) (RetB.k rfl)
  · intro a w hk
    obtain ⟨A28, c28, s28, r28⟩ := hk.byt_ 5 28 (by kernel_rfl) rfl
    exact step_conv rfl rfl s28 (strq r28) rfl
  · intro a w hk
    have s24 := hk.eq_ 1 24 (by kernel_rfl) rfl
    have s29 := hk.eq_ 6 29 (by kernel_rfl) rfl
    refine step_val (v := .bool true) (w' := w) rfl ?_ (Ext.refl w) rfl
    go_simp
  · intro a w hk
    have s30 := hk.eq_ 7 30 (by kernel_rfl) rfl
    exact step_move rfl rfl s30 rfl
  · intro a w hk
    refine hk.run 8 31 true true rfl (by kernel_rfl) rfl fun hw => ?_
    have s9 : a.tmps.getD 9 undef = .slice Az 1 cz := hk.was 9 (by kernel_rfl) rfl
    have r9 := (HY.out).later hk.ext
    exact step_move hw rfl s9 ⟨_, _, rfl, r9⟩
  · intro a w hk
    refine hk.run 8 31 true true rfl (by kernel_rfl) rfl fun hw => ?_
    obtain ⟨A32, c32, s32, r32⟩ := hk.byt_ 9 32 (by kernel_rfl) rfl
    refine step_val (v := .int .i64 1) (w' := w) hw ?_ (Ext.refl w) rfl
    go_simp
  · intro a w hk
    refine hk.run 8 31 true true rfl (by kernel_rfl) rfl fun hw => ?_
    have s33 := hk.eq_ 10 33 (by kernel_rfl) rfl
    refine step_val (v := .bool true) (w' := w) hw ?_ (Ext.refl w) rfl
    go_simp
  · intro a w hk
    have s31 := hk.eq_ 8 31 (by kernel_rfl) rfl
    have s34 := hk.eq_ 11 34 (by kernel_rfl) rfl
    exact step_pick (b := true) rfl rfl s31 s34 rfl
  · intro a w hk
    have s35 := hk.eq_ 12 35 (by kernel_rfl) rfl
    exact step_move rfl rfl s35 rfl
  · intro a w hk
    refine hk.run 13 36 true true rfl (by kernel_rfl) rfl fun hw => ?_
    have s9 : a.tmps.getD 9 undef = .slice Az 1 cz := hk.was 9 (by kernel_rfl) rfl
    have r9 := (HY.out).later hk.ext
    exact step_move hw rfl s9 ⟨_, _, rfl, r9⟩
  · intro a w hk
    refine hk.run 13 36 true true rfl (by kernel_rfl) rfl fun hw => ?_
    obtain ⟨A37, c37, s37, r37⟩ := hk.byt_ 14 37 (by kernel_rfl) rfl
    obtain ⟨b, o, rfl, hb, hc⟩ := r37.at_ (by omega)
    have hc1 := hc 0 (by omega)
    rw [Nat.add_zero] at hc1
    refine step_val (v := .pointer (some ⟨b, o, none⟩)) (w' := w) hw ?_ (Ext.refl w) ⟨_, rfl, hb, hc1⟩
    go_simp
  · intro a w hk
    refine hk.run 13 36 true true rfl (by kernel_rfl) rfl fun hw => ?_
    obtain ⟨p38, s38, h38, g38⟩ := hk.val 15 38 (by kernel_rfl) rfl
    refine step_val (v := .int .u8 (byteAt ([u8 (rol8 a1 (k % 8).toNat)]) 0)) (w' := w) hw ?_ (Ext.refl w) rfl
    go_simp
  · intro a w hk
    refine hk.run 13 36 true true rfl (by kernel_rfl) rfl fun hw => ?_
    have s1 : a.tmps.getD 1 undef = .int .u8 a1 := hk.was 1 (by kernel_rfl) rfl
    exact step_move hw rfl s1 rfl
  · intro a w hk
    refine hk.run 13 36 true true rfl (by kernel_rfl) rfl fun hw => ?_
    have s7 : a.tmps.getD 7 undef = .int .i64 k := hk.was 7 (by kernel_rfl) rfl
    exact step_move hw rfl s7 rfl
  · intro a w hk
    refine hk.run 13 36 true true rfl (by kernel_rfl) rfl fun hw => ?_
    have s40 := hk.eq_ 17 40 (by kernel_rfl) rfl
    have s41 := hk.eq_ 18 41 (by kernel_rfl) rfl
    exact step_call hw rfl (by simp only [List.map_toArray, List.map_cons, List.map_nil, Act.eval, s40, s41] <;> rfl) cf30 (rl8 a1 k w) (retE)
  · intro a w hk
    refine hk.run 13 36 true true rfl (by kernel_rfl) rfl fun hw => ?_
    have s39 := hk.eq_ 16 39 (by kernel_rfl) rfl
    have s42 := hk.eq_ 19 42 (by kernel_rfl) rfl
    refine step_val (v := .bool true) (w' := w) hw ?_ (Ext.refl w) rfl
    rw [row_b0] at s39; go_simp
  · intro a w hk
    have s36 := hk.eq_ 13 36 (by kernel_rfl) rfl
    have s43 := hk.eq_ 20 43 (by kernel_rfl) rfl
    exact step_pick (b := true) rfl rfl s36 s43 rfl
  · intro a w hk
    have s44 := hk.eq_ 21 44 (by kernel_rfl) rfl
    exact step_move rfl rfl s44 rfl
  · intro a w hk
    refine hk.run 22 45 true true rfl (by kernel_rfl) rfl fun hw => ?_
    have s7 : a.tmps.getD 7 undef = .int .i64 k := hk.was 7 (by kernel_rfl) rfl
    exact step_move hw rfl s7 rfl
  · intro a w hk
    refine hk.run 22 45 true true rfl (by kernel_rfl) rfl fun hw => ?_
    have s46 := hk.eq_ 23 46 (by kernel_rfl) rfl
    exact step_call hw rfl (by simp only [List.map_toArray, List.map_cons, List.map_nil, Act.eval, s46] <;> rfl) cf32 (turn_nil none 0 k w) (retE)
  · intro a w hk
    refine hk.run 22 45 true true rfl (by kernel_rfl) rfl fun hw => ?_
    have s47 := hk.eq_ 24 47 (by kernel_rfl) rfl
    refine step_val (v := .int .i64 0) (w' := w) hw ?_ (Ext.refl w) rfl
    go_simp
  · intro a w hk
    refine hk.run 22 45 true true rfl (by kernel_rfl) rfl fun hw => ?_
    have s48 := hk.eq_ 25 48 (by kernel_rfl) rfl
    refine step_val (v := .bool true) (w' := w) hw ?_ (Ext.refl w) rfl
    go_simp
  · intro a w hk
    have s45 := hk.eq_ 22 45 (by kernel_rfl) rfl
    have s49 := hk.eq_ 26 49 (by kernel_rfl) rfl
    exact step_pick (b := true) rfl rfl s45 s49 rfl
  · intro a w hk
    have s50 := hk.eq_ 27 50 (by kernel_rfl) rfl
    exact step_assign rfl rfl s50 rfl
  · intro a w hf
    rename_i hK
    exact hK _ _ (wp_ret_tmp rfl hf.defers (hf.eq_ 28 6 (by kernel_rfl) rfl) ⟨rfl, Ext.trans HB.out hf.ext⟩)
end Go.Proofs.Ytllkbfhkpnncgaa
