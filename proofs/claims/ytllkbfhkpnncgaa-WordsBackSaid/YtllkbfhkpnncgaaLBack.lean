/- The law on words written and read, walked; own text of the verifier. -/
import Derived.Test.YtllkbfhkpnncgaaW5
import Derived.Test.YtllkbfhkpnncgaaRow
import Derived.Test.YtllkbfhkpnncgaaReg
namespace Go.Proofs.Ytllkbfhkpnncgaa
open Go.RowKit
theorem be_put (v : Int) (h0 : 0 ≤ v) (h1 : v < 4294967296) : be32N (put32 v) 4 = v := by
  unfold be32N
  rw [if_pos rfl, be4]
  have e0 : byteAt (put32 v) 0 = v / 16777216 % 256 := u8_toNat _
  have e1 : byteAt (put32 v) 1 = v / 65536 % 256 := u8_toNat _
  have e2 : byteAt (put32 v) 2 = v / 256 % 256 := u8_toNat _
  have e3 : byteAt (put32 v) 3 = v % 256 := u8_toNat _
  rw [e0, e1, e2, e3]; omega
theorem le_put (v : Int) (h0 : 0 ≤ v) (h1 : v < 4294967296) : le32N (putL32 v) 4 = v := by
  unfold le32N
  rw [if_pos rfl, le4]
  have e0 : byteAt (putL32 v) 3 = v / 16777216 % 256 := u8_toNat _
  have e1 : byteAt (putL32 v) 2 = v / 65536 % 256 := u8_toNat _
  have e2 : byteAt (putL32 v) 1 = v / 256 % 256 := u8_toNat _
  have e3 : byteAt (putL32 v) 0 = v % 256 := u8_toNat _
  rw [e0, e1, e2, e3]; omega
theorem be8_put (v : Int) (h0 : 0 ≤ v) (h1 : v < 18446744073709551616) : be64N (spreadL v 8) 8 = v := by
  unfold be64N
  rw [if_pos rfl, be8]
  have e (i : Nat) (hi : i < 8) : byteAt (spreadL v 8) i = v / 2 ^ (8 * (8 - 1 - i)) % 256 := by
    unfold byteAt
    have : (spreadL v 8).getD i 0 = spreadF v 8 i := by simp [spreadL, List.getD, hi]
    rw [this]; exact u8_toNat _
  rw [e 0 (by omega), e 1 (by omega), e 2 (by omega), e 3 (by omega), e 4 (by omega), e 5 (by omega), e 6 (by omega), e 7 (by omega)]
  simp only [Nat.reduceSub, Nat.reduceMul]
  omega
theorem mixed : Try.prog.follows .mixedOrders = true := by kernel_rfl
theorem cf24 (vs : Array Value) (w : World) : (callFunc 24 vs).run Try.prog w = .ok (.enter 24 vs) w := by go_simp
theorem cf25 (vs : Array Value) (w : World) : (callFunc 25 vs).run Try.prog w = .ok (.enter 25 vs) w := by go_simp
theorem cf26 (vs : Array Value) (w : World) : (callFunc 26 vs).run Try.prog w = .ok (.enter 26 vs) w := by go_simp
def backKs (a0 a1 : Int) : List K := [.byt 4 (put32 a0), .eq (.string (str (put32 a0))), .eq (.int .u32 a0), .byt 4 (put32 a0), .eq (.string (str (put32 a0))), .eq (.bool true), .eq (.bool true), .byt 4 (putL32 a0), .eq (.string (str (putL32 a0))), .eq (.int .u32 a0), .byt 4 (putL32 a0), .eq (.string (str (putL32 a0))), .eq (.bool true), .eq (.bool true), .eq (.bool true), .byt 8 (spreadL a1 8), .eq (.string (str (spreadL a1 8))), .eq (.int .u64 a1), .byt 8 (spreadL a1 8), .eq (.string (str (spreadL a1 8))), .eq (.bool true), .eq (.bool true), .eq (.bool true), .eq (.bool true), .eq (.bool true), .eq (.bool true), .eq (.bool true), .eq (.bool true), .eq (.bool true), .eq (.bool true), .eq (.bool true), .eq (.bool true), .eq (.int .u32 a0), .eq (.int .u32 a0), .eq (.bool true), .eq (.bool true), .eq (.bool true), .eq (.int .u32 a0), .eq (.int .u32 a0), .eq (.bool true), .eq (.bool true), .eq (.bool true), .eq (.int .u64 a1), .eq (.int .u64 a1), .eq (.bool true), .eq (.bool true), .eq (.bool true)]
set_option maxHeartbeats 2000000 in
theorem back_walk (a0 : Int) (a1 : Int) (w0 : (Lit.int .u32 a0).wf = true) (w1 : (Lit.int .u64 a1).wf = true) (w : World) :
    Calls Try.prog 4 #[.int .u32 a0, .int .u64 a1] w fun e w' => e = .returned (.bool true) ∧ Below w.heap.size w w' := by
  obtain ⟨p0, p1⟩ := wf_u32 w0
  obtain ⟨q0, q1⟩ := wf_u64 w1
  clear w0 w1
  go_enter Try.func4, Try.ntmps4
  go_wp2_with fail
  refine (known_any _).mono ?_
  rintro e w1 ⟨rfl, hb1⟩
  go_wp2_with fail
  refine (putBe32_any _ _ p0 p1).mono ?_
  rintro e w2 ⟨x, rfl, hx, hb2⟩
  obtain ⟨Ax, cx, rfl, hx2, _⟩ := hx.rdn (n := 4) rfl
  go_wp2_with fail
  refine (putLe32_any _ _ p0 p1).mono ?_
  rintro e w3 ⟨y, rfl, hy, hb3⟩
  obtain ⟨Ay, cy, rfl, hy3, _⟩ := hy.rdn (n := 4) rfl
  have hx3 := hx2.later hb3
  go_wp2_with fail
  refine (putBe64_any _ _).mono ?_
  rintro e w4 ⟨z, rfl, hz, hb4⟩
  obtain ⟨Az, cz, rfl, hz4, _⟩ := hz.rdn (n := 8) rfl
  have hx4 := hx3.later hb4
  have hy4 := hy3.later hb4
  have hb : Below w.heap.size w w4 := ((hb1.trans (hb2.mono hb1.size)).trans (hb3.mono (Nat.le_trans hb1.size hb2.size))).trans (hb4.mono (Nat.le_trans (Nat.le_trans hb1.size hb2.size) hb3.size))
  clear hx hy hz hx2 hx3 hy3 hb1 hb2 hb3 hb4
  go_wp2_with fail
  refine (be32_any _ _ _ _ _ _ hx4 (by omega)).mono ?_
  rintro e w5 ⟨rfl, rfl⟩
  rw [be_put _ p0 p1]
  go_wp2_with fail
  refine (le32_any _ _ _ _ _ _ hy4 (by omega)).mono ?_
  rintro e w5 ⟨rfl, rfl⟩
  rw [le_put _ p0 p1]
  go_wp2_with fail
  refine (be64_any _ _ _ _ _ _ hz4 (by omega)).mono ?_
  rintro e w5 ⟨rfl, rfl⟩
  rw [be8_put _ q0 q1]
  rw [show isLen 4 4 = true from rfl, show isLen 8 8 = true from rfl]
  go_wp2_with fail
  have HB := hid hb
  have HX := hid hx4
  have HY := hid hy4
  have HZ := hid hz4
  clear hx4 hy4 hz4 hb
  refine region_inv mixed rfl (by kernel_rfl) (kV (backKs a0 a1)) (kV_keep _) (forall_ops ⟨?_, ?_, ?_, ?_, ?_, ?_, ?_, ?_, ?_, ?_, ?_, ?_, ?_, ?_, ?_, ?_, ?_, ?_, ?_, ?_, ?_, ?_, ?_, ?_, ?_, ?_, ?_, ?_, ?_, ?_, ?_, ?_, ?_, ?_, ?_, ?_, ?_, ?_, ?_, ?_, ?_, ?_, ?_, ?_, ?_, ?_, ?_, trivial⟩) ?_
  · intro a w hk
    have s5 : a.tmps.getD 5 undef = .slice Ax 4 cx := hk.was 5 (by kernel_rfl) rfl
    have r5 := (HX.out).later hk.ext
    exact step_move rfl rfl s5 ⟨_, _, rfl, r5⟩
  · intro a w hk
    obtain ⟨A37, c37, s37, r37⟩ := hk.byt_ 0 37 (by kernel_rfl) rfl
    exact step_conv rfl rfl s37 (strq r37) rfl
  · intro a w hk
    have s0 : a.tmps.getD 0 undef = .int .u32 a0 := hk.was 0 (by kernel_rfl) rfl
    exact step_move rfl rfl s0 rfl
  · intro a w hk
    have s39 := hk.eq_ 2 39 (by kernel_rfl) rfl
    exact step_call rfl rfl (by simp only [List.map_toArray, List.map_cons, List.map_nil, Act.eval, s39]) cf24 (rput32_any a0 w) (RetB.k rfl)
  · intro a w hk
    obtain ⟨A40, c40, s40, r40⟩ := hk.byt_ 3 40 (by kernel_rfl) rfl
    exact step_conv rfl rfl s40 (strq r40) rfl
  · intro a w hk
    have s38 := hk.eq_ 1 38 (by kernel_rfl) rfl
    have s41 := hk.eq_ 4 41 (by kernel_rfl) rfl
    refine step_val (v := .bool true) (w' := w) rfl ?_ (Ext.refl w) rfl
    go_simp
  · intro a w hk
    have s42 := hk.eq_ 5 42 (by kernel_rfl) rfl
    exact step_move rfl rfl s42 rfl
  · intro a w hk
    refine hk.run 6 43 true true rfl (by kernel_rfl) rfl fun hw => ?_
    have s6 : a.tmps.getD 6 undef = .slice Ay 4 cy := hk.was 6 (by kernel_rfl) rfl
    have r6 := (HY.out).later hk.ext
    exact step_move hw rfl s6 ⟨_, _, rfl, r6⟩
  · intro a w hk
    refine hk.run 6 43 true true rfl (by kernel_rfl) rfl fun hw => ?_
    obtain ⟨A44, c44, s44, r44⟩ := hk.byt_ 7 44 (by kernel_rfl) rfl
    exact step_conv hw rfl s44 (strq r44) rfl
  · intro a w hk
    refine hk.run 6 43 true true rfl (by kernel_rfl) rfl fun hw => ?_
    have s0 : a.tmps.getD 0 undef = .int .u32 a0 := hk.was 0 (by kernel_rfl) rfl
    exact step_move hw rfl s0 rfl
  · intro a w hk
    refine hk.run 6 43 true true rfl (by kernel_rfl) rfl fun hw => ?_
    have s46 := hk.eq_ 9 46 (by kernel_rfl) rfl
    exact step_call hw rfl (by simp only [List.map_toArray, List.map_cons, List.map_nil, Act.eval, s46]) cf25 (rputL32_any a0 w) (RetB.k rfl)
  · intro a w hk
    refine hk.run 6 43 true true rfl (by kernel_rfl) rfl fun hw => ?_
    obtain ⟨A47, c47, s47, r47⟩ := hk.byt_ 10 47 (by kernel_rfl) rfl
    exact step_conv hw rfl s47 (strq r47) rfl
  · intro a w hk
    refine hk.run 6 43 true true rfl (by kernel_rfl) rfl fun hw => ?_
    have s45 := hk.eq_ 8 45 (by kernel_rfl) rfl
    have s48 := hk.eq_ 11 48 (by kernel_rfl) rfl
    refine step_val (v := .bool true) (w' := w) hw ?_ (Ext.refl w) rfl
    go_simp
  · intro a w hk
    have s43 := hk.eq_ 6 43 (by kernel_rfl) rfl
    have s49 := hk.eq_ 12 49 (by kernel_rfl) rfl
    exact step_pick (b := true) rfl rfl s43 s49 rfl
  · intro a w hk
    have s50 := hk.eq_ 13 50 (by kernel_rfl) rfl
    exact step_move rfl rfl s50 rfl
  · intro a w hk
    refine hk.run 14 51 true true rfl (by kernel_rfl) rfl fun hw => ?_
    have s7 : a.tmps.getD 7 undef = .slice Az 8 cz := hk.was 7 (by kernel_rfl) rfl
    have r7 := (HZ.out).later hk.ext
    exact step_move hw rfl s7 ⟨_, _, rfl, r7⟩
  · intro a w hk
    refine hk.run 14 51 true true rfl (by kernel_rfl) rfl fun hw => ?_
    obtain ⟨A52, c52, s52, r52⟩ := hk.byt_ 15 52 (by kernel_rfl) rfl
    exact step_conv hw rfl s52 (strq r52) rfl
  · intro a w hk
    refine hk.run 14 51 true true rfl (by kernel_rfl) rfl fun hw => ?_
    have s1 : a.tmps.getD 1 undef = .int .u64 a1 := hk.was 1 (by kernel_rfl) rfl
    exact step_move hw rfl s1 rfl
  · intro a w hk
    refine hk.run 14 51 true true rfl (by kernel_rfl) rfl fun hw => ?_
    have s54 := hk.eq_ 17 54 (by kernel_rfl) rfl
    exact step_call hw rfl (by simp only [List.map_toArray, List.map_cons, List.map_nil, Act.eval, s54]) cf26 (rput64_any a1 w) (RetB.k rfl)
  · intro a w hk
    refine hk.run 14 51 true true rfl (by kernel_rfl) rfl fun hw => ?_
    obtain ⟨A55, c55, s55, r55⟩ := hk.byt_ 18 55 (by kernel_rfl) rfl
    exact step_conv hw rfl s55 (strq r55) rfl
  · intro a w hk
    refine hk.run 14 51 true true rfl (by kernel_rfl) rfl fun hw => ?_
    have s53 := hk.eq_ 16 53 (by kernel_rfl) rfl
    have s56 := hk.eq_ 19 56 (by kernel_rfl) rfl
    refine step_val (v := .bool true) (w' := w) hw ?_ (Ext.refl w) rfl
    go_simp
  · intro a w hk
    have s51 := hk.eq_ 14 51 (by kernel_rfl) rfl
    have s57 := hk.eq_ 20 57 (by kernel_rfl) rfl
    exact step_pick (b := true) rfl rfl s51 s57 rfl
  · intro a w hk
    have s58 := hk.eq_ 21 58 (by kernel_rfl) rfl
    exact step_move rfl rfl s58 rfl
  · intro a w hk
    refine hk.run 22 59 true true rfl (by kernel_rfl) rfl fun hw => ?_
    have s9 : a.tmps.getD 9 undef = .bool true := hk.was 9 (by kernel_rfl) rfl
    exact step_move hw rfl s9 rfl
  · intro a w hk
    have s59 := hk.eq_ 22 59 (by kernel_rfl) rfl
    have s60 := hk.eq_ 23 60 (by kernel_rfl) rfl
    exact step_pick (b := true) rfl rfl s59 s60 rfl
  · intro a w hk
    have s61 := hk.eq_ 24 61 (by kernel_rfl) rfl
    exact step_move rfl rfl s61 rfl
  · intro a w hk
    refine hk.run 25 62 true true rfl (by kernel_rfl) rfl fun hw => ?_
    have s11 : a.tmps.getD 11 undef = .bool true := hk.was 11 (by kernel_rfl) rfl
    exact step_move hw rfl s11 rfl
  · intro a w hk
    have s62 := hk.eq_ 25 62 (by kernel_rfl) rfl
    have s63 := hk.eq_ 26 63 (by kernel_rfl) rfl
    exact step_pick (b := true) rfl rfl s62 s63 rfl
  · intro a w hk
    have s64 := hk.eq_ 27 64 (by kernel_rfl) rfl
    exact step_move rfl rfl s64 rfl
  · intro a w hk
    refine hk.run 28 65 true true rfl (by kernel_rfl) rfl fun hw => ?_
    have s13 : a.tmps.getD 13 undef = .bool true := hk.was 13 (by kernel_rfl) rfl
    exact step_move hw rfl s13 rfl
  · intro a w hk
    have s65 := hk.eq_ 28 65 (by kernel_rfl) rfl
    have s66 := hk.eq_ 29 66 (by kernel_rfl) rfl
    exact step_pick (b := true) rfl rfl s65 s66 rfl
  · intro a w hk
    have s67 := hk.eq_ 30 67 (by kernel_rfl) rfl
    exact step_move rfl rfl s67 rfl
  · intro a w hk
    refine hk.run 31 68 true true rfl (by kernel_rfl) rfl fun hw => ?_
    have s8 : a.tmps.getD 8 undef = .int .u32 a0 := hk.was 8 (by kernel_rfl) rfl
    exact step_move hw rfl s8 rfl
  · intro a w hk
    refine hk.run 31 68 true true rfl (by kernel_rfl) rfl fun hw => ?_
    have s0 : a.tmps.getD 0 undef = .int .u32 a0 := hk.was 0 (by kernel_rfl) rfl
    exact step_move hw rfl s0 rfl
  · intro a w hk
    refine hk.run 31 68 true true rfl (by kernel_rfl) rfl fun hw => ?_
    have s69 := hk.eq_ 32 69 (by kernel_rfl) rfl
    have s70 := hk.eq_ 33 70 (by kernel_rfl) rfl
    refine step_val (v := .bool true) (w' := w) hw ?_ (Ext.refl w) rfl
    go_simp
  · intro a w hk
    have s68 := hk.eq_ 31 68 (by kernel_rfl) rfl
    have s71 := hk.eq_ 34 71 (by kernel_rfl) rfl
    exact step_pick (b := true) rfl rfl s68 s71 rfl
  · intro a w hk
    have s72 := hk.eq_ 35 72 (by kernel_rfl) rfl
    exact step_move rfl rfl s72 rfl
  · intro a w hk
    refine hk.run 36 73 true true rfl (by kernel_rfl) rfl fun hw => ?_
    have s10 : a.tmps.getD 10 undef = .int .u32 a0 := hk.was 10 (by kernel_rfl) rfl
    exact step_move hw rfl s10 rfl
  · intro a w hk
    refine hk.run 36 73 true true rfl (by kernel_rfl) rfl fun hw => ?_
    have s0 : a.tmps.getD 0 undef = .int .u32 a0 := hk.was 0 (by kernel_rfl) rfl
    exact step_move hw rfl s0 rfl
  · intro a w hk
    refine hk.run 36 73 true true rfl (by kernel_rfl) rfl fun hw => ?_
    have s74 := hk.eq_ 37 74 (by kernel_rfl) rfl
    have s75 := hk.eq_ 38 75 (by kernel_rfl) rfl
    refine step_val (v := .bool true) (w' := w) hw ?_ (Ext.refl w) rfl
    go_simp
  · intro a w hk
    have s73 := hk.eq_ 36 73 (by kernel_rfl) rfl
    have s76 := hk.eq_ 39 76 (by kernel_rfl) rfl
    exact step_pick (b := true) rfl rfl s73 s76 rfl
  · intro a w hk
    have s77 := hk.eq_ 40 77 (by kernel_rfl) rfl
    exact step_move rfl rfl s77 rfl
  · intro a w hk
    refine hk.run 41 78 true true rfl (by kernel_rfl) rfl fun hw => ?_
    have s12 : a.tmps.getD 12 undef = .int .u64 a1 := hk.was 12 (by kernel_rfl) rfl
    exact step_move hw rfl s12 rfl
  · intro a w hk
    refine hk.run 41 78 true true rfl (by kernel_rfl) rfl fun hw => ?_
    have s1 : a.tmps.getD 1 undef = .int .u64 a1 := hk.was 1 (by kernel_rfl) rfl
    exact step_move hw rfl s1 rfl
  · intro a w hk
    refine hk.run 41 78 true true rfl (by kernel_rfl) rfl fun hw => ?_
    have s79 := hk.eq_ 42 79 (by kernel_rfl) rfl
    have s80 := hk.eq_ 43 80 (by kernel_rfl) rfl
    refine step_val (v := .bool true) (w' := w) hw ?_ (Ext.refl w) rfl
    go_simp
  · intro a w hk
    have s78 := hk.eq_ 41 78 (by kernel_rfl) rfl
    have s81 := hk.eq_ 44 81 (by kernel_rfl) rfl
    exact step_pick (b := true) rfl rfl s78 s81 rfl
  · intro a w hk
    have s82 := hk.eq_ 45 82 (by kernel_rfl) rfl
    exact step_assign rfl rfl s82 rfl
  · intro a w hf
    rename_i hK
    exact hK _ _ (wp_ret_tmp rfl hf.defers (hf.eq_ 46 4 (by kernel_rfl) rfl) ⟨rfl, Ext.trans HB.out hf.ext⟩)
end Go.Proofs.Ytllkbfhkpnncgaa
