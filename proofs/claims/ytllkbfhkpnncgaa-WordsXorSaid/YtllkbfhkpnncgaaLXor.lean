/- The law on Xor, walked; own text of the verifier. -/
import Derived.Test.YtllkbfhkpnncgaaCf
namespace Go.Proofs.Ytllkbfhkpnncgaa
open Go.RowKit
theorem wpL_min {P : Program} {w : World} {ops : Array Oper} {rest : List Oper} {o : Oper} {a : Act} {Q : Exit → Act → World → Prop} (hgd : o.guard = none) (x y : Operand) (ts : Array TypeId)
    (ho : o.op = .call { callee := .builtin .min, args := #[x, y], argTypes := ts }) (p q m : Int) (hx : a.eval x = .int .i64 p) (hy : a.eval y = .int .i64 q) (hm : (if q < p then q else p) = m)
    (h : wpList P ops Q rest (a.put o.dst (.int .i64 m)) w) : wpList P ops Q (o :: rest) a w := by
  refine wpList_plain hgd fun K hK => ?_
  have hrun := run_min_int2 (P := P) (w := w) ts o.type .i64 .i64 p q
  rw [hm] at hrun
  unfold Oper.wp execOp
  simp only [ho, resolve, invoke, builtin, Sem.run_bind, Sem.run_pure, Result.andThen_ok, List.map_toArray, List.map_cons, List.map_nil, hx, hy, hrun]
  exact hK _ _ h
theorem xorPost {w : World} {n : Nat} {xs ys : List UInt8} (hn : (xorL xs ys n).length = n := by simp [xorL]) (e : Ending) (w' : World) (h : ∃ v, e = .returned (.tuple #[v, .bool true]) ∧ Own w' w.heap.size v (xorL xs ys n) ∧ Below w.heap.size w w') :
    ∃ v, e = .returned v ∧ Ext w w' ∧ K.holds (.bytb n (xorL xs ys n) true) w' v := by
  obtain ⟨v, rfl, ho, hb⟩ := h
  obtain ⟨A, c, rfl, hr, _⟩ := ho.rdn hn
  exact ⟨_, rfl, hb, A, c, rfl, hr⟩
def xorB (xs ys : List UInt8) (la lb : Nat) : List UInt8 := if la = lb then xorL xs ys la else []
theorem xor_any (A A' : Option Addr) (la lb c c' : Nat) (xs ys : List UInt8) (w : World) (h : Rd w w.heap.size A la xs) (h' : Rd w w.heap.size A' lb ys) (hn : la ≤ 140737488355328) :
    Calls Try.prog 34 #[.slice A la c, .slice A' lb c'] w fun e w' => ∃ v, e = .returned (.tuple #[v, .bool (isLen la lb)]) ∧ Own w' w.heap.size v (xorB xs ys la lb) ∧ Below w.heap.size w w' := by
  by_cases he : la = lb
  · subst he
    refine (xor_eq A A' la c c' xs ys w h h' hn).mono ?_
    rintro e w' ⟨v, rfl, ho, hb⟩
    exact ⟨v, by simp [isLen], by unfold xorB; rw [if_pos rfl]; exact ho, hb⟩
  · refine (xor_ne A A' la lb c c' w he).mono ?_
    rintro e w' ⟨rfl, rfl⟩
    exact ⟨.slice none 0 0, by simp [isLen, Ne.symm he], by unfold xorB; rw [if_neg he]; exact World.ownsRow_nil _ _ _ _, Below.refl _ _⟩
theorem rxor_any (A A' : Option Addr) (la lb c c' : Nat) (xs ys : List UInt8) (w : World) (h : Rd w w.heap.size A la xs) (h' : Rd w w.heap.size A' lb ys) (hn : la ≤ 140737488355328) :
    Calls Try.prog 35 #[.slice A la c, .slice A' lb c'] w fun e w' => ∃ v, e = .returned (.tuple #[v, .bool (isLen la lb)]) ∧ Own w' w.heap.size v (xorB xs ys la lb) ∧ Below w.heap.size w w' := by
  by_cases he : la = lb
  · subst he
    refine (rxor_eq A A' la c c' xs ys w h h' hn).mono ?_
    rintro e w' ⟨v, rfl, ho, hb⟩
    exact ⟨v, by simp [isLen], by unfold xorB; rw [if_pos rfl]; exact ho, hb⟩
  · refine (rxor_ne A A' la lb c c' w he).mono ?_
    rintro e w' ⟨rfl, rfl⟩
    exact ⟨.slice none 0 0, by simp [isLen, Ne.symm he], by unfold xorB; rw [if_neg he]; exact World.ownsRow_nil _ _ _ _, Below.refl _ _⟩
theorem xor_at (xs ys : List UInt8) (n i : Nat) (hi : i < n) : byteAt (xorL (xs.take n) (ys.take n) n) i = bits .xor .u8 (byteAt xs i) (byteAt ys i) := by
  have e1 : byteAt (xs.take n) i = byteAt xs i := by unfold byteAt; simp [List.getD, hi]
  have e2 : byteAt (ys.take n) i = byteAt ys i := by unfold byteAt; simp [List.getD, hi]
  rw [← e1, ← e2, ← xorF_val]
  unfold byteAt xorL
  simp [List.getD, hi]
theorem xor_twice (xs ys : List UInt8) (n : Nat) (hx : xs.length = n) : xorL (xorL xs ys n) ys n = xs := by
  apply List.ext_getElem
  · simp [xorL, hx]
  · intro i h1 h2
    have hi : i < n := by simpa [xorL] using h1
    simp [xorL, xorF, List.getD, hi, h2, UInt8.xor_assoc]
def xorKs6 (n la lb : Nat) (xs ys : List UInt8) : List K := [.byc la (xs), .eq (.int .i64 (n : Int)), .byt n (xs.take n), .byc lb (ys), .eq (.int .i64 (n : Int)), .byt n (ys.take n), .bytb n (xorL (xs.take n) (ys.take n) n) true, .bytb n (xorL (xs.take n) (ys.take n) n) true, .byt n (xorL (xs.take n) (ys.take n) n), .eq (.bool true), .byt n (xorL (xs.take n) (ys.take n) n), .eq (.bool true)]
def xorKs14 (n la lb i : Nat) (xs ys : List UInt8) : List K := [.byt n (xorL (xs.take n) (ys.take n) n), .eq (.int .i64 i), .ptr (.int .u8 (byteAt (xorL (xs.take n) (ys.take n) n) i)), .eq (.int .u8 (byteAt (xorL (xs.take n) (ys.take n) n) i)), .byt la (xs), .eq (.int .i64 i), .ptr (.int .u8 (byteAt (xs) i)), .eq (.int .u8 (byteAt (xs) i)), .byt lb (ys), .eq (.int .i64 i), .ptr (.int .u8 (byteAt (ys) i)), .eq (.int .u8 (byteAt (ys) i)), .eq (.int .u8 (byteAt (xorL (xs.take n) (ys.take n) n) i)), .eq (.bool false)]
def xorKs17 (n la : Nat) (xs : List UInt8) : List K := [.eq (.bool true), .eq (.bool true), .byt n (xs.take n), .eq (.string (str (xs.take n))), .byc la (xs), .eq (.int .i64 (n : Int)), .byt n (xs.take n), .eq (.string (str (xs.take n))), .eq (.bool true), .eq (.bool true), .eq (.bool true)]
set_option maxRecDepth 100000 in
set_option maxHeartbeats 4000000 in
theorem xorlaw_walk (a0 : Option Addr) (la ca : Nat) (z0 : List Int) (a1 : Option Addr) (lb cb : Nat) (z1 : List Int) (w : World) (w0 : IsRow .u8 w a0 la ca z0) (w1 : IsRow .u8 w a1 lb cb z1) :
    Calls Try.prog 7 #[.slice a0 la ca, .slice a1 lb cb] w fun e w' => e = .returned (.bool true) ∧ Below w.heap.size w w' := by
  obtain ⟨xs, hxs, hma, hca⟩ := w0.rdc
  obtain ⟨ys, hys, hmb, hcb⟩ := w1.rdc
  unfold maxLen at hma hmb
  clear w0 w1
  go_enter Try.func7, Try.ntmps7
  go_wp2_with fail
  refine (known_any _).mono ?_
  rintro e w1 ⟨rfl, hb1⟩
  have hxs1 := hxs.later hb1
  have hys1 := hys.later hb1
  clear hxs hys
  by_cases h200 : 200 < la
  · go_wp2_with fail
    go_ret
    exact ⟨rfl, hb1⟩
  by_cases h201 : 200 < lb
  · go_wp2_with fail
    go_ret
    exact ⟨rfl, hb1⟩
  · have HLa := hid hxs1.len
    have HLb := hid hys1.len
    have HA := hid hxs1
    have HB := hid hys1
    have HE := hid hb1
    clear hxs1 hys1 hb1
    obtain ⟨n, hn1, hn2, hmin⟩ : ∃ n : Nat, n ≤ la ∧ n ≤ lb ∧ (if (lb : Int) < (la : Int) then (lb : Int) else (la : Int)) = (n : Int) := ⟨min la lb, by omega, by omega, by split <;> omega⟩
    have HM := hid hmin
    clear hmin
    go_wp2_with (with_reducible refine wpL_min rfl (.tmp 26) (.tmp 28) _ rfl la lb n rfl rfl HM.out ?_)
    have hn3 : n ≤ 200 := by omega
    refine region_inv mixed rfl (by kernel_rfl) (kV (xorKs6 n la lb xs ys)) (kV_keep _) (forall_ops ⟨?_, ?_, ?_, ?_, ?_, ?_, ?_, ?_, ?_, ?_, ?_, ?_, trivial⟩) ?_
    · intro a w hk
      have s0 : a.tmps.getD 0 undef = .slice a0 la ca := hk.was 0 (by kernel_rfl) rfl
      have k0 := hca
      have r0 := (HA.out).later hk.ext
      exact step_move rfl rfl s0 ⟨_, _, rfl, k0, r0⟩
    · intro a w hk
      have s5 : a.tmps.getD 5 undef = .int .i64 (n : Int) := hk.was 5 (by kernel_rfl) rfl
      exact step_move rfl rfl s5 rfl
    · intro a w hk
      obtain ⟨A31, c31, s31, k31, r31⟩ := hk.val 0 31 (by kernel_rfl) rfl
      have s32 := hk.eq_ 1 32 (by kernel_rfl) rfl
      exact step_slice_hi (l := n) rfl rfl s31 (s32) elem22 size22 (by omega) k31 r31 (fun _ h =>  h)
    · intro a w hk
      have s1 : a.tmps.getD 1 undef = .slice a1 lb cb := hk.was 1 (by kernel_rfl) rfl
      have k1 := hcb
      have r1 := (HB.out).later hk.ext
      exact step_move rfl rfl s1 ⟨_, _, rfl, k1, r1⟩
    · intro a w hk
      have s5 : a.tmps.getD 5 undef = .int .i64 (n : Int) := hk.was 5 (by kernel_rfl) rfl
      exact step_move rfl rfl s5 rfl
    · intro a w hk
      obtain ⟨A34, c34, s34, k34, r34⟩ := hk.val 3 34 (by kernel_rfl) rfl
      have s35 := hk.eq_ 4 35 (by kernel_rfl) rfl
      exact step_slice_hi (l := n) rfl rfl s34 (s35) elem22 size22 (by omega) k34 r34 (fun _ h =>  h)
    · intro a w hk
      obtain ⟨A33, c33, s33, r33⟩ := hk.byt_ 2 33 (by kernel_rfl) rfl
      obtain ⟨A36, c36, s36, r36⟩ := hk.byt_ 5 36 (by kernel_rfl) rfl
      exact step_call rfl rfl (by simp only [List.map_toArray, List.map_cons, List.map_nil, Act.eval, s33, s36] <;> rfl) cf34 (xor_eq _ _ _ _ _ _ _ w r33 r36 (by omega)) (xorPost)
    · intro a w hk
      obtain ⟨A37, c37, s37, r37⟩ := hk.val 6 37 (by kernel_rfl) rfl
      exact step_move rfl rfl s37 ⟨_, _, rfl, r37⟩
    · intro a w hk
      obtain ⟨A30, c30, s30, r30⟩ := hk.val 7 30 (by kernel_rfl) rfl
      exact step_extract rfl rfl s30 rfl ⟨_, _, rfl, r30⟩
    · intro a w hk
      obtain ⟨A30, c30, s30, r30⟩ := hk.val 7 30 (by kernel_rfl) rfl
      exact step_extract rfl rfl s30 rfl rfl
    · intro a w hk
      obtain ⟨A38, c38, s38, r38⟩ := hk.byt_ 8 38 (by kernel_rfl) rfl
      exact step_assign rfl rfl s38 ⟨_, _, rfl, r38⟩
    · intro a w hk
      have s39 := hk.eq_ 9 39 (by kernel_rfl) rfl
      exact step_assign rfl rfl s39 rfl
    · intro a w2 hf
      obtain ⟨A31, c31, s31, k31, r31⟩ := hf.val 0 31 (by kernel_rfl) rfl
      have s32 := hf.eq_ 1 32 (by kernel_rfl) rfl
      obtain ⟨A33, c33, s33, r33⟩ := hf.val 2 33 (by kernel_rfl) rfl
      obtain ⟨A34, c34, s34, k34, r34⟩ := hf.val 3 34 (by kernel_rfl) rfl
      have s35 := hf.eq_ 4 35 (by kernel_rfl) rfl
      obtain ⟨A36, c36, s36, r36⟩ := hf.val 5 36 (by kernel_rfl) rfl
      obtain ⟨A37, c37, s37, r37⟩ := hf.val 6 37 (by kernel_rfl) rfl
      obtain ⟨A30, c30, s30, r30⟩ := hf.val 7 30 (by kernel_rfl) rfl
      obtain ⟨A38, c38, s38, r38⟩ := hf.val 8 38 (by kernel_rfl) rfl
      have s39 := hf.eq_ 9 39 (by kernel_rfl) rfl
      obtain ⟨A6, c6, s6, r6⟩ := hf.val 10 6 (by kernel_rfl) rfl
      have s7 := hf.eq_ 11 7 (by kernel_rfl) rfl
      have hx := hf.ext
      have e := hf.frame
      clear hf
      simp only [regFrame, Act.put, List.setIfInBounds_toArray, List.set_cons_zero, List.set_cons_succ, s31, s32, s33, s34, s35, s36, s37, s30, s38, s39, s6, s7] at e
      clear s31 s32 s33 s34 s35 s36 s37 s30 s38 s39 s6 s7
      subst e
      have HX1 := hid r6
      have HA1 := hid (HA.out.later hx)
      have HB1 := hid (HB.out.later hx)
      have HE1 := hid (Ext.trans HE.out hx)
      clear hx HA HB HE r31 r33 r34 r36 r38 r6
      rename_i hK
      apply hK
      go_wp2_with fail
      refine (xor_any _ _ _ _ _ _ _ _ _ HA1.out HB1.out (by omega)).mono ?_
      rintro e w3 ⟨y, rfl, hy, hb3⟩
      have HA2 := hid (HA1.out.later hb3)
      have HB2 := hid (HB1.out.later hb3)
      have HX2 := hid (HX1.out.later hb3)
      have HE2 := hid (Ext.trans HE1.out hb3)
      have HY := hid hy
      clear hb3 hy HA1 HB1 HX1 HE1
      go_wp2_with fail
      refine (rxor_any _ _ _ _ _ _ _ _ _ HA2.out HB2.out (by omega)).mono ?_
      rintro e w4 ⟨z, rfl, hz, hb4⟩
      have hy4 := HY.out.kept hb4
      obtain ⟨Ay, cy, ey, hy5, _⟩ := hy4.rdn rfl
      obtain ⟨Az, cz, ez, hz5, _⟩ := hz.rdn rfl
      subst ey
      subst ez
      have sy := strq (c := cy) hy5
      have sz := strq (c := cz) hz5
      have HA3 := hid (HA2.out.later hb4)
      have HB3 := hid (HB2.out.later hb4)
      have HX3 := hid (HX2.out.later hb4)
      have HE3 := hid (Ext.trans HE2.out hb4)
      clear hb4 hz hy5 hz5 hy4 HY HA2 HB2 HX2 HE2
      obtain ⟨B, hB⟩ : ∃ B, isLen la lb = B := ⟨_, rfl⟩
      have hBe : ((la : Int) == (lb : Int)) = B := by
        rw [← hB]; unfold isLen
        by_cases h : la = lb
        · subst h; simp
        · rw [beq_eq_false_iff_ne.2 (by omega), decide_eq_false (fun h' => h h'.symm)]
      rw [hB]
      clear hB
      go_wp2_with fail
      clear sy sz
      go_loopw [12] (fun v wr => ∃ i : Nat, i ≤ n ∧ v = .int .i64 i ∧ Ext w4 wr) (fun v _ => n - (intOf v).toNat)
      case atStart => exact ⟨0, Nat.zero_le _, rfl, Ext.refl _⟩
      case round =>
        obtain ⟨i, hi, rfl, hxr⟩ := hrel
        have HA3r := hid (HA3.out.later hxr)
        have HB3r := hid (HB3.out.later hxr)
        have HX3r := hid (HX3.out.later hxr)
        have HEr := hid (Ext.trans HE3.out hxr)
        have HXr := hid hxr
        clear hxr
        by_cases hlt : i < n
        · go_wp2_with fail
          refine region_inv mixed rfl (by kernel_rfl) (kV (xorKs14 n la lb i xs ys)) (kV_keep _) (forall_ops ⟨?_, ?_, ?_, ?_, ?_, ?_, ?_, ?_, ?_, ?_, ?_, ?_, ?_, ?_, trivial⟩) ?_
          · intro a w hk
            have s6 : a.tmps.getD 6 undef = .slice A6 n c6 := hk.was 6 (by kernel_rfl) rfl
            have r6 := (HX3r.out).later hk.ext
            exact step_move rfl rfl s6 ⟨_, _, rfl, r6⟩
          · intro a w hk
            have s12 : a.tmps.getD 12 undef = .int .i64 i := hk.was 12 (by kernel_rfl) rfl
            exact step_move rfl rfl s12 rfl
          · intro a w hk
            obtain ⟨A86, c86, s86, r86⟩ := hk.byt_ 0 86 (by kernel_rfl) rfl
            have s87 := hk.eq_ 1 87 (by kernel_rfl) rfl
            have q1 : (0 : Int) ≤ (i : Int) := by omega
            have q2 : (i : Int) < (n : Int) := by omega
            obtain ⟨b, o, rfl, hb, hc⟩ := r86.at_ (by omega)
            have hc1 := hc i (by omega)
            refine step_val (v := .pointer (some ⟨b, o + i, none⟩)) (w' := w) rfl ?_ (Ext.refl w) ⟨_, rfl, hb, hc1⟩
            go_simp
          · intro a w hk
            obtain ⟨p88, s88, h88, g88⟩ := hk.val 2 88 (by kernel_rfl) rfl
            refine step_val (v := .int .u8 (byteAt (xorL (xs.take n) (ys.take n) n) i)) (w' := w) rfl ?_ (Ext.refl w) rfl
            go_simp
          · intro a w hk
            have s0 : a.tmps.getD 0 undef = .slice a0 la ca := hk.was 0 (by kernel_rfl) rfl
            have r0 := (HA3r.out).later hk.ext
            exact step_move rfl rfl s0 ⟨_, _, rfl, r0⟩
          · intro a w hk
            have s12 : a.tmps.getD 12 undef = .int .i64 i := hk.was 12 (by kernel_rfl) rfl
            exact step_move rfl rfl s12 rfl
          · intro a w hk
            obtain ⟨A90, c90, s90, r90⟩ := hk.byt_ 4 90 (by kernel_rfl) rfl
            have s91 := hk.eq_ 5 91 (by kernel_rfl) rfl
            have q1 : (0 : Int) ≤ (i : Int) := by omega
            have q2 : (i : Int) < (la : Int) := by omega
            obtain ⟨b, o, rfl, hb, hc⟩ := r90.at_ (by omega)
            have hc1 := hc i (by omega)
            refine step_val (v := .pointer (some ⟨b, o + i, none⟩)) (w' := w) rfl ?_ (Ext.refl w) ⟨_, rfl, hb, hc1⟩
            go_simp
          · intro a w hk
            obtain ⟨p92, s92, h92, g92⟩ := hk.val 6 92 (by kernel_rfl) rfl
            refine step_val (v := .int .u8 (byteAt (xs) i)) (w' := w) rfl ?_ (Ext.refl w) rfl
            go_simp
          · intro a w hk
            have s1 : a.tmps.getD 1 undef = .slice a1 lb cb := hk.was 1 (by kernel_rfl) rfl
            have r1 := (HB3r.out).later hk.ext
            exact step_move rfl rfl s1 ⟨_, _, rfl, r1⟩
          · intro a w hk
            have s12 : a.tmps.getD 12 undef = .int .i64 i := hk.was 12 (by kernel_rfl) rfl
            exact step_move rfl rfl s12 rfl
          · intro a w hk
            obtain ⟨A94, c94, s94, r94⟩ := hk.byt_ 8 94 (by kernel_rfl) rfl
            have s95 := hk.eq_ 9 95 (by kernel_rfl) rfl
            have q1 : (0 : Int) ≤ (i : Int) := by omega
            have q2 : (i : Int) < (lb : Int) := by omega
            obtain ⟨b, o, rfl, hb, hc⟩ := r94.at_ (by omega)
            have hc1 := hc i (by omega)
            refine step_val (v := .pointer (some ⟨b, o + i, none⟩)) (w' := w) rfl ?_ (Ext.refl w) ⟨_, rfl, hb, hc1⟩
            go_simp
          · intro a w hk
            obtain ⟨p96, s96, h96, g96⟩ := hk.val 10 96 (by kernel_rfl) rfl
            refine step_val (v := .int .u8 (byteAt (ys) i)) (w' := w) rfl ?_ (Ext.refl w) rfl
            go_simp
          · intro a w hk
            have s93 := hk.eq_ 7 93 (by kernel_rfl) rfl
            have s97 := hk.eq_ 11 97 (by kernel_rfl) rfl
            refine step_val (v := .int .u8 (byteAt (xorL (xs.take n) (ys.take n) n) i)) (w' := w) rfl ?_ (Ext.refl w) rfl
            have hv := xor_at xs ys n i (by omega)
            rw [hv]
            have r1 := byteAt_lo xs i; have r2 := byteAt_hi xs i; have r3 := byteAt_lo ys i; have r4 := byteAt_hi ys i
            go_simp
          · intro a w hk
            have s89 := hk.eq_ 3 89 (by kernel_rfl) rfl
            have s98 := hk.eq_ 12 98 (by kernel_rfl) rfl
            refine step_val (v := .bool false) (w' := w) rfl ?_ (Ext.refl w) rfl
            go_simp
          · intro a w5 hf
            obtain ⟨A86, c86, s86, r86⟩ := hf.val 0 86 (by kernel_rfl) rfl
            have s87 := hf.eq_ 1 87 (by kernel_rfl) rfl
            have s89 := hf.eq_ 3 89 (by kernel_rfl) rfl
            obtain ⟨A90, c90, s90, r90⟩ := hf.val 4 90 (by kernel_rfl) rfl
            have s91 := hf.eq_ 5 91 (by kernel_rfl) rfl
            have s93 := hf.eq_ 7 93 (by kernel_rfl) rfl
            obtain ⟨A94, c94, s94, r94⟩ := hf.val 8 94 (by kernel_rfl) rfl
            have s95 := hf.eq_ 9 95 (by kernel_rfl) rfl
            have s97 := hf.eq_ 11 97 (by kernel_rfl) rfl
            have s98 := hf.eq_ 12 98 (by kernel_rfl) rfl
            have s99 := hf.eq_ 13 99 (by kernel_rfl) rfl
            have hx := hf.ext
            have e := hf.frame
            clear hf
            simp only [regFrame, Act.put, List.setIfInBounds_toArray, List.set_cons_zero, List.set_cons_succ, s86, s87, s89, s90, s91, s93, s94, s95, s97, s98, s99] at e
            generalize a.tmps.getD 88 undef = u88 at e
            generalize a.tmps.getD 92 undef = u92 at e
            generalize a.tmps.getD 96 undef = u96 at e
            clear s86 s87 s89 s90 s91 s93 s94 s95 s97 s98 s99
            subst e
            have HXr2 := hid (Ext.trans HXr.out hx)
            clear hx r86 r90 r94
            rename_i hK
            apply hK
            go_wp2_with fail
            go_roundw
            case rel => exact ⟨i + 1, by omega, by go_num, HXr2.out⟩
            case measure => simp [intOf]; omega
        · obtain rfl : n = i := by omega
          have hyn := HB3r.out.cuthi n hn2
          go_wp2_with fail
          refine (xor_eq _ _ _ _ _ _ _ _ HX3r.out hyn (by omega)).mono ?_
          rintro e w6 ⟨v, rfl, hv, hb6⟩
          rw [xor_twice _ _ _ (by rw [List.length_take, HLa.out]; omega)] at hv
          obtain ⟨A13, c13, rfl, hv6, _⟩ := hv.rdn (n := n) (by rw [List.length_take, HLa.out]; omega)
          have HW := hid hv6
          have HA4 := hid (HA3r.out.later hb6)
          have HE4 := hid (Ext.trans HEr.out hb6)
          clear hv hv6 hb6 hyn HA3r HB3r HX3r HEr HXr r37 r30
          go_wp2_with fail
          refine region_inv mixed rfl (by kernel_rfl) (kV (xorKs17 n la xs)) (kV_keep _) (forall_ops ⟨?_, ?_, ?_, ?_, ?_, ?_, ?_, ?_, ?_, ?_, ?_, trivial⟩) ?_
          · intro a w hk
            have s14 : a.tmps.getD 14 undef = .bool true := hk.was 14 (by kernel_rfl) rfl
            exact step_move rfl rfl s14 rfl
          · intro a w hk
            have s108 := hk.eq_ 0 108 (by kernel_rfl) rfl
            exact step_move rfl rfl s108 rfl
          · intro a w hk
            refine hk.run 1 109 true true rfl (by kernel_rfl) rfl fun hw => ?_
            have s13 : a.tmps.getD 13 undef = .slice A13 n c13 := hk.was 13 (by kernel_rfl) rfl
            have r13 := (HW.out).later hk.ext
            exact step_move hw rfl s13 ⟨_, _, rfl, r13⟩
          · intro a w hk
            refine hk.run 1 109 true true rfl (by kernel_rfl) rfl fun hw => ?_
            obtain ⟨A110, c110, s110, r110⟩ := hk.byt_ 2 110 (by kernel_rfl) rfl
            exact step_conv hw rfl s110 (strq r110) rfl
          · intro a w hk
            refine hk.run 1 109 true true rfl (by kernel_rfl) rfl fun hw => ?_
            have s0 : a.tmps.getD 0 undef = .slice a0 la ca := hk.was 0 (by kernel_rfl) rfl
            have k0 := hca
            have r0 := (HA4.out).later hk.ext
            exact step_move hw rfl s0 ⟨_, _, rfl, k0, r0⟩
          · intro a w hk
            refine hk.run 1 109 true true rfl (by kernel_rfl) rfl fun hw => ?_
            have s5 : a.tmps.getD 5 undef = .int .i64 (n : Int) := hk.was 5 (by kernel_rfl) rfl
            exact step_move hw rfl s5 rfl
          · intro a w hk
            refine hk.run 1 109 true true rfl (by kernel_rfl) rfl fun hw => ?_
            obtain ⟨A112, c112, s112, k112, r112⟩ := hk.val 4 112 (by kernel_rfl) rfl
            have s113 := hk.eq_ 5 113 (by kernel_rfl) rfl
            exact step_slice_hi (l := n) hw rfl s112 (s113) elem22 size22 (by omega) k112 r112 (fun _ h =>  h)
          · intro a w hk
            refine hk.run 1 109 true true rfl (by kernel_rfl) rfl fun hw => ?_
            obtain ⟨A114, c114, s114, r114⟩ := hk.byt_ 6 114 (by kernel_rfl) rfl
            exact step_conv hw rfl s114 (strq r114) rfl
          · intro a w hk
            refine hk.run 1 109 true true rfl (by kernel_rfl) rfl fun hw => ?_
            have s111 := hk.eq_ 3 111 (by kernel_rfl) rfl
            have s115 := hk.eq_ 7 115 (by kernel_rfl) rfl
            refine step_val (v := .bool true) (w' := w) hw ?_ (Ext.refl w) rfl
            go_simp
          · intro a w hk
            have s109 := hk.eq_ 1 109 (by kernel_rfl) rfl
            have s116 := hk.eq_ 8 116 (by kernel_rfl) rfl
            exact step_pick (b := true) rfl rfl s109 s116 rfl
          · intro a w hk
            have s117 := hk.eq_ 9 117 (by kernel_rfl) rfl
            exact step_assign rfl rfl s117 rfl
          · intro a w hf
            rename_i hK
            exact hK _ _ (wp_ret_tmp rfl hf.defers (hf.eq_ 10 4 (by kernel_rfl) rfl) ⟨rfl, Ext.trans HE4.out hf.ext⟩)
end Go.Proofs.Ytllkbfhkpnncgaa
