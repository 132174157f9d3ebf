/- The law on what is told being new, walked; own text of the verifier. -/
import Derived.Test.YtllkbfhkpnncgaaCf
import Derived.Test.YtllkbfhkpnncgaaBit
namespace Go.Proofs.Ytllkbfhkpnncgaa
open Go.RowKit
theorem turn00 (bs : List UInt8) (n : Nat) (hl : bs.length = n) : turnL bs n (tf 0 n) (ts 0) = bs := by
  refine bytes_ext _ _ n (turnL_length _ _ _ _) hl fun p hp => ?_
  have e1 : tf 0 n = 0 := by simp [tf]
  have e2 : ts 0 = 0 := rfl
  rw [e1, e2, turn_bit _ _ _ _ _ (by omega) hp, Nat.mul_zero, Nat.add_zero, Nat.mod_eq_of_lt hp]
def ownKs (n : Nat) (bs : List UInt8) : List K := [.byt n (bs), .eq (.string (str (bs))), .byt n (bs), .eq (.string (str (bs))), .eq (.bool true), .eq (.bool true), .byt n (bs), .byt n (bs), .eq (.string (str (bs))), .byt n (bs), .eq (.string (str (bs))), .eq (.bool true), .eq (.bool true), .eq (.bool true)]
set_option maxHeartbeats 4000000 in
theorem ownlaw_walk (a0 : Option Addr) (n c0 : Nat) (z0 : List Int) (a1 : Int) (w : World) (w0 : IsRow .u8 w a0 n c0 z0) (w1 : (Lit.int .u8 a1).wf = true) :
    Calls Try.prog 9 #[.slice a0 n c0, .int .u8 a1] w fun e w' => e = .returned (.bool true) ∧ Below w.heap.size w w' := by
  obtain ⟨bs, hrd, hmax, hcap⟩ := w0.rdc
  obtain ⟨q0, q1⟩ := wf_u8' w1
  unfold maxLen at hmax
  clear w0 w1
  go_enter Try.func9, Try.ntmps9
  go_wp2_with fail
  refine (known_any _).mono ?_
  rintro e w1 ⟨rfl, hb1⟩
  have hrd1 := hrd.later hb1
  clear hrd
  by_cases h60 : 60 < n
  · go_wp2_with fail
    go_ret
    exact ⟨rfl, hb1⟩
  by_cases hn0 : n = 0
  · subst hn0
    go_wp2_with fail
    go_ret
    exact ⟨rfl, hb1⟩
  · have hne : ((n : Int) == 0) = false := by simp; omega
    have hnp : 0 < n := by omega
    clear hn0
    have HL := hid hrd1.len
    have hO := Own.lit w1 [] #[] 0 w1.heap.size rfl rfl (by unfold maxLen; omega) (Nat.le_refl _)
    have hr2 := hrd1.later (Ext.alloc w1 (.cells #[] 5))
    go_wp2_with (at_builtin; refine wpL_append _ rfl (.tmp 20) (.tmp 21) 22 rfl Try.underlying22 Try.info5 w1.heap.size (.slice (some ⟨w1.heap.size, 0, none⟩) 0 0) [] rfl hO _ a0 n c0 bs rfl hr2 (by simp; omega) (by simp) ?_; intro v2 w2 hown2 hb2; obtain ⟨A5, c5, rfl, hc5, hr5, _⟩ := hown2.rdc (n := n) (by simpa using HL.out))
    have hr5' : Rd w2 w2.heap.size A5 n bs := by simpa using hr5
    have hx2 : Ext w1 w2 := ((Below.refl _ _).alloc (Nat.le_refl _) _).trans hb2
    have HA0 := hid (hrd1.later hx2)
    have HE2 := hid (Ext.trans hb1 hx2)
    clear hb2 hx2 hr2 hO hown2 hr5 hrd1 hb1
    refine (inc_any _ _ _ _ _ hr5' (by omega)).mono ?_
    rintro e w3 ⟨x, rfl, hx, hb3⟩
    have hxl : (incB bs).length = n := by rw [incB_length]; exact HL.out
    obtain ⟨gx, cx, rfl⟩ := hx.form (by omega)
    have hgx := hx.base_le
    rw [hxl] at hx ⊢
    have hr3 := hr5'.later hb3
    go_wp2_with fail
    refine (turn_all _ _ _ 0 _ _ hr3 (by omega)).mono ?_
    rintro e w4 ⟨y, rfl, hy, hb4⟩
    have hyl : (turnL bs n (tf 0 n) (ts 0)).length = n := turnL_length _ _ _ _
    obtain ⟨gy, cy, rfl⟩ := hy.form (by omega)
    have hgy := hy.base_le
    rw [hyl] at hy ⊢
    have hx4 := hx.kept hb4
    have hr4 := hr3.later hb4
    clear hr3 hx
    go_wp2_with (at_make; refine wpL_make rfl (.tmp 30) (.tmp 30) 22 rfl Try.underlying22 Try.info5 .i64 n n rfl rfl rfl (by omega) w4.heap.size (Nat.le_refl _) ?_; intro w5 hown5 hb5 _)
    obtain ⟨A31, c31, e31, hc31, hr31, _⟩ := hown5.rdc (n := n) (by simp)
    simp only [Value.slice.injEq] at e31
    obtain ⟨rfl, _, rfl⟩ := e31
    refine (xor_eq _ _ _ _ _ _ _ _ (hr4.later hb5) hr31 (by omega)).mono ?_
    rintro e w6 ⟨z, rfl, hz, hb6⟩
    have hzl : (xorL bs (List.replicate n 0) n).length = n := by simp [xorL]
    obtain ⟨gz, cz, rfl⟩ := hz.form (by omega)
    have hgz := hz.base_le
    rw [hzl] at hz ⊢
    have hx6 := (hx4.kept hb5).kept hb6
    have hy6 := (hy.kept hb5).kept hb6
    have hsz4 := hb4.size
    have hsz5 := hb5.size
    have hsz6 := hb6.size
    have hsz3 := hb3.size
    have hE6 : Ext w2 w6 := Ext.trans hb3 (Ext.trans hb4 (Ext.trans hb5 hb6))
    have HRa := hid hr5'
    clear hr4 hx4 hy hown5 hr31 hc31
    have hX0 : Own w6 w2.heap.size (.slice (some ⟨gx, 0, none⟩) (incB bs).length cx) (incB bs) := by rw [hxl]; exact hx6
    have hY0 : Own w6 w3.heap.size (.slice (some ⟨gy, 0, none⟩) (turnL bs n (tf 0 n) (ts 0)).length cy) (turnL bs n (tf 0 n) (ts 0)) := by rw [hyl]; exact hy6
    have hZ0 : Own w6 w5.heap.size (.slice (some ⟨gz, 0, none⟩) (xorL bs (List.replicate n 0) n).length cz) (xorL bs (List.replicate n 0) n) := by rw [hzl]; exact hz
    have kx := hX0.cell 0 (by omega)
    have ky := hY0.cell 0 (by omega)
    have kz := hZ0.cell 0 (by omega)
    have fx := hX0.free 0
    have fy := hY0.free 0
    have fz := hZ0.free 0
    have n1 : gx ≠ gy := by omega
    have n2 : gx ≠ gz := by omega
    have n3 : gy ≠ gz := by omega
    have bx1 := byteAt_lo (incB bs) 0
    have bx2 := byteAt_hi (incB bs) 0
    have by1 := byteAt_lo (turnL bs n (tf 0 n) (ts 0)) 0
    have by2 := byteAt_hi (turnL bs n (tf 0 n) (ts 0)) 0
    have bz1 := byteAt_lo (xorL bs (List.replicate n 0) n) 0
    have bz2 := byteAt_hi (xorL bs (List.replicate n 0) n) 0
    obtain ⟨X, hX⟩ : ∃ X, byteAt (incB bs) 0 = X := ⟨_, rfl⟩
    obtain ⟨Y, hY⟩ : ∃ Y, byteAt (turnL bs n (tf 0 n) (ts 0)) 0 = Y := ⟨_, rfl⟩
    obtain ⟨Z, hZ⟩ : ∃ Z, byteAt (xorL bs (List.replicate n 0) n) 0 = Z := ⟨_, rfl⟩
    rw [hX] at kx bx1 bx2
    rw [hY] at ky by1 by2
    rw [hZ] at kz bz1 bz2
    have HN := hid (And.intro hgx (And.intro hgy hgz))
    have HS := hid (And.intro hsz3 (And.intro hsz4 (And.intro hsz5 hsz6)))
    have HE6 := hid hE6
    clear hX hY hZ hX0 hY0 hZ0 hx6 hy6 hz hxl hyl hzl hgx hgy hgz hsz3 hsz4 hsz5 hsz6 hb3 hb4 hb5 hb6 hE6 hr5'
    have p0 : (0 : Int) < n := by omega
    go_wp2_with fail
    go_region
    go_wp2_with fail
    obtain ⟨W, hW, hE⟩ : ∃ W, W = (((w6.setCell ⟨gx, 0, none⟩ (.int .u8 ((X + a1) % 256))).setCell ⟨gy, 0, none⟩ (.int .u8 ((Y + a1) % 256))).setCell ⟨gz, 0, none⟩ (.int .u8 ((Z + a1) % 256))).drew ∧ Ext w2 W := by
      refine ⟨_, rfl, ?_⟩
      have k1 := HN.out.1.1
      have k2 := HN.out.2.1.1
      have k3 := HN.out.2.2.1
      have k4 := HS.out.1
      have k5 := HS.out.2.1
      have k6 := HS.out.2.2.1
      exact (((HE6.out.setCell (by show _ ≤ gx; omega) _).setCell (by show _ ≤ gy; omega) _).setCell (by show _ ≤ gz; omega) _).drew
    rw [← hW]
    clear hW
    have HA := hid (HA0.out.later hE)
    have HX := hid (HRa.out.later hE)
    have HB := hid (Ext.trans HE2.out hE)
    clear hE kx ky kz fx fy fz
    refine region_inv mixed rfl (by kernel_rfl) (kV (ownKs n bs)) (kV_keep _) (forall_ops ⟨?_, ?_, ?_, ?_, ?_, ?_, ?_, ?_, ?_, ?_, ?_, ?_, ?_, ?_, trivial⟩) ?_
    · intro a w hk
      have s5 : a.tmps.getD 5 undef = .slice A5 n c5 := hk.was 5 (by kernel_rfl) rfl
      have r5 := (HX.out).later hk.ext
      exact step_move rfl rfl s5 ⟨_, _, rfl, r5⟩
    · intro a w hk
      obtain ⟨A75, c75, s75, r75⟩ := hk.byt_ 0 75 (by kernel_rfl) rfl
      exact step_conv rfl rfl s75 (strq r75) rfl
    · intro a w hk
      have s0 : a.tmps.getD 0 undef = .slice a0 n c0 := hk.was 0 (by kernel_rfl) rfl
      have r0 := (HA.out).later hk.ext
      exact step_move rfl rfl s0 ⟨_, _, rfl, r0⟩
    · intro a w hk
      obtain ⟨A77, c77, s77, r77⟩ := hk.byt_ 2 77 (by kernel_rfl) rfl
      exact step_conv rfl rfl s77 (strq r77) rfl
    · intro a w hk
      have s76 := hk.eq_ 1 76 (by kernel_rfl) rfl
      have s78 := hk.eq_ 3 78 (by kernel_rfl) rfl
      refine step_val (v := .bool true) (w' := w) rfl ?_ (Ext.refl w) rfl
      go_simp
    · intro a w hk
      have s79 := hk.eq_ 4 79 (by kernel_rfl) rfl
      exact step_move rfl rfl s79 rfl
    · intro a w hk
      refine hk.run 5 80 true true rfl (by kernel_rfl) rfl fun hw => ?_
      have s5 : a.tmps.getD 5 undef = .slice A5 n c5 := hk.was 5 (by kernel_rfl) rfl
      have r5 := (HX.out).later hk.ext
      exact step_move hw rfl s5 ⟨_, _, rfl, r5⟩
    · intro a w hk
      refine hk.run 5 80 true true rfl (by kernel_rfl) rfl fun hw => ?_
      obtain ⟨A81, c81, s81, r81⟩ := hk.byt_ 6 81 (by kernel_rfl) rfl
      exact step_call hw rfl (by simp only [List.map_toArray, List.map_cons, List.map_nil, Act.eval, s81] <;> rfl) cf32 (turn_all _ _ _ 0 _ w r81 (by omega)) (fun e w' h => RetB.k HL.out e w' (RetB.mono_eq (turn00 bs n HL.out) h))
    · intro a w hk
      refine hk.run 5 80 true true rfl (by kernel_rfl) rfl fun hw => ?_
      obtain ⟨A82, c82, s82, r82⟩ := hk.byt_ 7 82 (by kernel_rfl) rfl
      exact step_conv hw rfl s82 (strq r82) rfl
    · intro a w hk
      refine hk.run 5 80 true true rfl (by kernel_rfl) rfl fun hw => ?_
      have s0 : a.tmps.getD 0 undef = .slice a0 n c0 := hk.was 0 (by kernel_rfl) rfl
      have r0 := (HA.out).later hk.ext
      exact step_move hw rfl s0 ⟨_, _, rfl, r0⟩
    · intro a w hk
      refine hk.run 5 80 true true rfl (by kernel_rfl) rfl fun hw => ?_
      obtain ⟨A84, c84, s84, r84⟩ := hk.byt_ 9 84 (by kernel_rfl) rfl
      exact step_conv hw rfl s84 (strq r84) rfl
    · intro a w hk
      refine hk.run 5 80 true true rfl (by kernel_rfl) rfl fun hw => ?_
      have s83 := hk.eq_ 8 83 (by kernel_rfl) rfl
      have s85 := hk.eq_ 10 85 (by kernel_rfl) rfl
      refine step_val (v := .bool true) (w' := w) hw ?_ (Ext.refl w) rfl
      go_simp
    · intro a w hk
      have s80 := hk.eq_ 5 80 (by kernel_rfl) rfl
      have s86 := hk.eq_ 11 86 (by kernel_rfl) rfl
      exact step_pick (b := true) rfl rfl s80 s86 rfl
    · intro a w hk
      have s87 := hk.eq_ 12 87 (by kernel_rfl) rfl
      exact step_assign rfl rfl s87 rfl
    · intro a w hf
      rename_i hK
      exact hK _ _ (wp_ret_tmp rfl hf.defers (hf.eq_ 13 4 (by kernel_rfl) rfl) ⟨rfl, Ext.trans HB.out hf.ext⟩)
end Go.Proofs.Ytllkbfhkpnncgaa
