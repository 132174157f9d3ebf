/- The law on eight bytes as two words, walked; own text of the verifier. -/
import Derived.Test.YtllkbfhkpnncgaaCf
namespace Go.Proofs.Ytllkbfhkpnncgaa
open Go.RowKit
theorem put32_val (v : Int) (h0 : 0 ≤ v) (h1 : v < 4294967296) (xs : List UInt8) :
    byteAt (put32 v ++ xs) 0 * 16777216 + byteAt (put32 v ++ xs) 1 * 65536 + byteAt (put32 v ++ xs) 2 * 256 + byteAt (put32 v ++ xs) 3 = v := by
  have e0 : byteAt (put32 v ++ xs) 0 = v / 16777216 % 256 := u8_toNat _
  have e1 : byteAt (put32 v ++ xs) 1 = v / 65536 % 256 := u8_toNat _
  have e2 : byteAt (put32 v ++ xs) 2 = v / 256 % 256 := u8_toNat _
  have e3 : byteAt (put32 v ++ xs) 3 = v % 256 := u8_toNat _
  rw [e0, e1, e2, e3]; omega
theorem halves_val (a b : Int) (h0 : 0 ≤ a) (h1 : a < 4294967296) (k0 : 0 ≤ b) (k1 : b < 4294967296) : be64N (put32 a ++ put32 b) 8 = a * 4294967296 + b := by
  unfold be64N
  rw [if_pos rfl, be8]
  have ha := put32_val a h0 h1 (put32 b)
  have hb := put32_val b k0 k1 []
  have e4 : byteAt (put32 a ++ put32 b) 4 = byteAt (put32 b ++ []) 0 := rfl
  have e5 : byteAt (put32 a ++ put32 b) 5 = byteAt (put32 b ++ []) 1 := rfl
  have e6 : byteAt (put32 a ++ put32 b) 6 = byteAt (put32 b ++ []) 2 := rfl
  have e7 : byteAt (put32 a ++ put32 b) 7 = byteAt (put32 b ++ []) 3 := rfl
  rw [e4, e5, e6, e7]
  omega
theorem or64_join (a b : Int) (h0 : 0 ≤ a) (h1 : a < 4294967296) (k0 : 0 ≤ b) (k1 : b < 4294967296) : bits .or .u64 (a * 4294967296) b = a * 4294967296 + b := by
  obtain ⟨x, rfl⟩ := Int.eq_ofNat_of_zero_le h0
  obtain ⟨y, rfl⟩ := Int.eq_ofNat_of_zero_le k0
  rw [show (x : Int) * 4294967296 = ((x * 4294967296 : Nat) : Int) by omega, u64_or_nat _ _ (by omega) (by omega), nat_join 32 _ _ (by omega) (by omega)]
  omega
theorem halves_bytes (a b : Int) (_h0 : 0 ≤ a) (_h1 : a < 4294967296) (k0 : 0 ≤ b) (k1 : b < 4294967296) : spreadL (a * 4294967296 + b) 8 = put32 a ++ put32 b := by
  rw [spread8, show (a * 4294967296 + b) / 4294967296 = a by omega, show (a * 4294967296 + b) % 4294967296 = b by omega]
theorem halves_cells (v : Int) : (#[Value.int .u8 (byteAt (put32 v) 3), .int .u8 (byteAt (put32 v) 2), .int .u8 (byteAt (put32 v) 1), .int .u8 (byteAt (put32 v) 0)] : Array Value).toList = cellsOf (putL32 v) := rfl
def halves8 (a0 : Int) : List K := [.byt 4 (put32 a0), .ptr (.int .u8 (byteAt (put32 a0) 3)), .eq (.int .u8 (byteAt (put32 a0) 3)), .byt 4 (put32 a0), .ptr (.int .u8 (byteAt (put32 a0) 2)), .eq (.int .u8 (byteAt (put32 a0) 2)), .byt 4 (put32 a0), .ptr (.int .u8 (byteAt (put32 a0) 1)), .eq (.int .u8 (byteAt (put32 a0) 1)), .byt 4 (put32 a0), .ptr (.int .u8 (byteAt (put32 a0) 0)), .eq (.int .u8 (byteAt (put32 a0) 0)), .byt 4 (putL32 a0), .eq (.tuple #[.int .u32 a0, .bool true]), .eq (.tuple #[.int .u32 a0, .bool true]), .eq (.int .u32 a0), .eq (.bool true), .eq (.int .u32 a0), .eq (.bool true)]
def halves9 (a0 a1 : Int) : List K := [.eq (.bool true), .eq (.bool true), .eq (.int .u64 (a0 * 4294967296 + a1)), .eq (.int .u32 a0), .eq (.int .u64 a0), .eq (.int .u64 (a0 * 4294967296)), .eq (.int .u32 a1), .eq (.int .u64 a1), .eq (.int .u64 (a0 * 4294967296 + a1)), .eq (.bool true), .eq (.bool true), .eq (.bool true), .eq (.bool true), .eq (.bool true), .eq (.bool true), .eq (.int .u32 a0), .eq (.int .u32 a0), .eq (.bool true), .eq (.bool true), .eq (.bool true), .eq (.int .u64 (a0 * 4294967296 + a1)), .byt 8 (put32 a0 ++ put32 a1), .eq (.string (str (put32 a0 ++ put32 a1))), .byt 8 (put32 a0 ++ put32 a1), .eq (.string (str (put32 a0 ++ put32 a1))), .eq (.bool true), .eq (.bool true), .eq (.bool true)]
set_option maxHeartbeats 2000000 in
theorem halves_walk (a0 : Int) (a1 : Int) (w0 : (Lit.int .u32 a0).wf = true) (w1 : (Lit.int .u32 a1).wf = true) (w : World) :
    Calls Try.prog 10 #[.int .u32 a0, .int .u32 a1] w fun e w' => e = .returned (.bool true) ∧ Below w.heap.size w w' := by
  obtain ⟨p0, p1⟩ := wf_u32 w0
  obtain ⟨q0, q1⟩ := wf_u32 w1
  clear w0 w1
  go_enter Try.func10, Try.ntmps10
  go_wp2_with fail
  refine (known_any _).mono ?_
  rintro e w1 ⟨rfl, hb1⟩
  go_wp2_with fail
  refine (putBe32_any _ _ p0 p1).mono ?_
  rintro e w2 ⟨x, rfl, hx, hb2⟩
  obtain ⟨Ax, cx, rfl, hx2, _⟩ := hx.rdn (n := 4) rfl
  have hb2' : Below w1.heap.size w1 w2 := ((Below.refl _ _).alloc (Nat.le_refl _) _).trans (hb2.mono (by simp))
  have hO : Own (w1.alloc (.cells ⟨[]⟩ 5)) w1.heap.size (.slice (some ⟨w1.heap.size, 0, none⟩) 0 0) [] := Own.lit w1 [] _ 0 _ rfl rfl (by unfold maxLen; omega) (Nat.le_refl _)
  have hO2 := hO.kept hb2
  have hle : w1.heap.size ≤ w2.heap.size := hb2'.size
  clear hO hx hb2
  go_wp2_with (at_builtin; refine wpL_append _ rfl (.tmp 13) (.tmp 15) 22 rfl Try.underlying22 Try.info5 w1.heap.size _ [] rfl hO2 w2.heap.size Ax 4 cx _ rfl hx2 (by simp) hle ?_; intro v3 w3 hown3 hb3)
  have hb3' : Below w1.heap.size w1 w3 := hb2'.trans hb3
  refine (putBe32_any _ _ q0 q1).mono ?_
  rintro e w4 ⟨y, rfl, hy, hb4⟩
  obtain ⟨Ay, cy, rfl, hy4, _⟩ := hy.rdn (n := 4) rfl
  have hO4 := hown3.kept hb4
  have hle4 : w1.heap.size ≤ w4.heap.size := Nat.le_trans hb3'.size hb4.size
  have hb4' : Below w1.heap.size w1 w4 := hb3'.trans (hb4.mono hb3'.size)
  clear hb4 hb3 hown3 hy hO2 hx2 hb2' hb3'
  go_wp2_with (at_builtin; refine wpL_append _ rfl (.tmp 16) (.tmp 18) 22 rfl Try.underlying22 Try.info5 w1.heap.size v3 _ rfl hO4 w4.heap.size Ay 4 cy _ rfl hy4 (by simp [put32]) hle4 ?_; intro v5 w5 hown5 hb5; obtain ⟨Az, cz, rfl, hz5, _⟩ := hown5.rdn (n := 8) rfl)
  have hz6 : Rd w5 w5.heap.size Az 8 (put32 a0 ++ put32 a1) := by simpa using hz5
  have hb5' : Below w1.heap.size w1 w5 := hb4'.trans hb5
  clear hb5 hb4' hO4 hown5 hz5 hle4 hy4 hle
  refine (be64_any _ _ _ _ _ _ hz6 (by omega)).mono ?_
  rintro e w6 ⟨rfl, rfl⟩
  rw [halves_val a0 a1 p0 p1 q0 q1, show isLen 8 8 = true from rfl]
  go_wp2_with fail
  refine (putBe32_any _ _ p0 p1).mono ?_
  rintro e w7 ⟨y, rfl, hy, hb7⟩
  obtain ⟨Ay, cy, rfl, hy7, _⟩ := hy.rdn (n := 4) rfl
  have HY := hid hy7
  have HX := hid (hz6.later hb7)
  have HB := hid ((hb1.trans (hb5'.mono hb1.size)).trans (hb7.mono (Nat.le_trans hb1.size hb5'.size)))
  clear hy hb7 hy7 hz6 hb5' hb1
  go_wp2_with fail
  refine region_inv mixed rfl (by kernel_rfl) (kV (halves8 a0)) (kV_keep _) (forall_ops ⟨?_, ?_, ?_, ?_, ?_, ?_, ?_, ?_, ?_, ?_, ?_, ?_, ?_, ?_, ?_, ?_, ?_, ?_, ?_, trivial⟩) ?_
  · intro a w hk
    have s8 : a.tmps.getD 8 undef = .slice Ay 4 cy := hk.was 8 (by kernel_rfl) rfl
    have r8 := (HY.out).later hk.ext
    exact step_move rfl rfl s8 ⟨_, _, rfl, r8⟩
  · intro a w hk
    obtain ⟨A31, c31, s31, r31⟩ := hk.byt_ 0 31 (by kernel_rfl) rfl
    obtain ⟨b, o, rfl, hb, hc⟩ := r31.at_ (by omega)
    have hc1 := hc 3 (by omega)
    refine step_val (v := .pointer (some ⟨b, o + 3, none⟩)) (w' := w) rfl ?_ (Ext.refl w) ⟨_, rfl, hb, hc1⟩
    go_simp
  · intro a w hk
    obtain ⟨p32, s32, h32, g32⟩ := hk.val 1 32 (by kernel_rfl) rfl
    refine step_val (v := .int .u8 (byteAt (put32 a0) 3)) (w' := w) rfl ?_ (Ext.refl w) rfl
    go_simp
  · intro a w hk
    have s8 : a.tmps.getD 8 undef = .slice Ay 4 cy := hk.was 8 (by kernel_rfl) rfl
    have r8 := (HY.out).later hk.ext
    exact step_move rfl rfl s8 ⟨_, _, rfl, r8⟩
  · intro a w hk
    obtain ⟨A34, c34, s34, r34⟩ := hk.byt_ 3 34 (by kernel_rfl) rfl
    obtain ⟨b, o, rfl, hb, hc⟩ := r34.at_ (by omega)
    have hc1 := hc 2 (by omega)
    refine step_val (v := .pointer (some ⟨b, o + 2, none⟩)) (w' := w) rfl ?_ (Ext.refl w) ⟨_, rfl, hb, hc1⟩
    go_simp
  · intro a w hk
    obtain ⟨p35, s35, h35, g35⟩ := hk.val 4 35 (by kernel_rfl) rfl
    refine step_val (v := .int .u8 (byteAt (put32 a0) 2)) (w' := w) rfl ?_ (Ext.refl w) rfl
    go_simp
  · intro a w hk
    have s8 : a.tmps.getD 8 undef = .slice Ay 4 cy := hk.was 8 (by kernel_rfl) rfl
    have r8 := (HY.out).later hk.ext
    exact step_move rfl rfl s8 ⟨_, _, rfl, r8⟩
  · intro a w hk
    obtain ⟨A37, c37, s37, r37⟩ := hk.byt_ 6 37 (by kernel_rfl) rfl
    obtain ⟨b, o, rfl, hb, hc⟩ := r37.at_ (by omega)
    have hc1 := hc 1 (by omega)
    refine step_val (v := .pointer (some ⟨b, o + 1, none⟩)) (w' := w) rfl ?_ (Ext.refl w) ⟨_, rfl, hb, hc1⟩
    go_simp
  · intro a w hk
    obtain ⟨p38, s38, h38, g38⟩ := hk.val 7 38 (by kernel_rfl) rfl
    refine step_val (v := .int .u8 (byteAt (put32 a0) 1)) (w' := w) rfl ?_ (Ext.refl w) rfl
    go_simp
  · intro a w hk
    have s8 : a.tmps.getD 8 undef = .slice Ay 4 cy := hk.was 8 (by kernel_rfl) rfl
    have r8 := (HY.out).later hk.ext
    exact step_move rfl rfl s8 ⟨_, _, rfl, r8⟩
  · intro a w hk
    obtain ⟨A40, c40, s40, r40⟩ := hk.byt_ 9 40 (by kernel_rfl) rfl
    obtain ⟨b, o, rfl, hb, hc⟩ := r40.at_ (by omega)
    have hc1 := hc 0 (by omega)
    rw [Nat.add_zero] at hc1
    refine step_val (v := .pointer (some ⟨b, o, none⟩)) (w' := w) rfl ?_ (Ext.refl w) ⟨_, rfl, hb, hc1⟩
    go_simp
  · intro a w hk
    obtain ⟨p41, s41, h41, g41⟩ := hk.val 10 41 (by kernel_rfl) rfl
    refine step_val (v := .int .u8 (byteAt (put32 a0) 0)) (w' := w) rfl ?_ (Ext.refl w) rfl
    go_simp
  · intro a w hk
    have s33 := hk.eq_ 2 33 (by kernel_rfl) rfl
    have s36 := hk.eq_ 5 36 (by kernel_rfl) rfl
    have s39 := hk.eq_ 8 39 (by kernel_rfl) rfl
    have s42 := hk.eq_ 11 42 (by kernel_rfl) rfl
    refine step_build (n := 4) (cs := #[Value.int .u8 (byteAt (put32 a0) 3), .int .u8 (byteAt (put32 a0) 2), .int .u8 (byteAt (put32 a0) 1), .int .u8 (byteAt (put32 a0) 0)]) rfl rfl (by simp only [List.map_toArray, List.map_cons, List.map_nil, Act.eval, s33, s36, s39, s42] <;> rfl) ?_ (halves_cells a0) rfl (by unfold maxLen; omega) (fun _ _ h => h)
    go_simp
  · intro a w hk
    obtain ⟨A43, c43, s43, r43⟩ := hk.byt_ 12 43 (by kernel_rfl) rfl
    exact step_call rfl rfl (by simp only [List.map_toArray, List.map_cons, List.map_nil, Act.eval, s43] <;> rfl) cf17 (le32_any _ _ _ _ _ _ r43 (by omega)) (fun e w' h => ⟨_, h.1, h.2 ▸ Ext.refl _, by rw [le_put a0 p0 p1]; rfl⟩)
  · intro a w hk
    have s44 := hk.eq_ 13 44 (by kernel_rfl) rfl
    exact step_move rfl rfl s44 rfl
  · intro a w hk
    have s30 := hk.eq_ 14 30 (by kernel_rfl) rfl
    exact step_extract rfl rfl s30 rfl rfl
  · intro a w hk
    have s30 := hk.eq_ 14 30 (by kernel_rfl) rfl
    exact step_extract rfl rfl s30 rfl rfl
  · intro a w hk
    have s45 := hk.eq_ 15 45 (by kernel_rfl) rfl
    exact step_assign rfl rfl s45 rfl
  · intro a w hk
    have s46 := hk.eq_ 16 46 (by kernel_rfl) rfl
    exact step_assign rfl rfl s46 rfl
  · intro a w1 hf
    obtain ⟨A31, c31, s31, r31⟩ := hf.val 0 31 (by kernel_rfl) rfl
    have s33 := hf.eq_ 2 33 (by kernel_rfl) rfl
    obtain ⟨A34, c34, s34, r34⟩ := hf.val 3 34 (by kernel_rfl) rfl
    have s36 := hf.eq_ 5 36 (by kernel_rfl) rfl
    obtain ⟨A37, c37, s37, r37⟩ := hf.val 6 37 (by kernel_rfl) rfl
    have s39 := hf.eq_ 8 39 (by kernel_rfl) rfl
    obtain ⟨A40, c40, s40, r40⟩ := hf.val 9 40 (by kernel_rfl) rfl
    have s42 := hf.eq_ 11 42 (by kernel_rfl) rfl
    obtain ⟨A43, c43, s43, r43⟩ := hf.val 12 43 (by kernel_rfl) rfl
    have s44 := hf.eq_ 13 44 (by kernel_rfl) rfl
    have s30 := hf.eq_ 14 30 (by kernel_rfl) rfl
    have s45 := hf.eq_ 15 45 (by kernel_rfl) rfl
    have s46 := hf.eq_ 16 46 (by kernel_rfl) rfl
    have s9 := hf.eq_ 17 9 (by kernel_rfl) rfl
    have s10 := hf.eq_ 18 10 (by kernel_rfl) rfl
    have hx := hf.ext
    have e := hf.frame
    clear hf
    simp only [regFrame, Act.put, List.setIfInBounds_toArray, List.set_cons_zero, List.set_cons_succ, s31, s33, s34, s36, s37, s39, s40, s42, s43, s44, s30, s45, s46, s9, s10] at e
    generalize a.tmps.getD 32 undef = u32 at e
    generalize a.tmps.getD 35 undef = u35 at e
    generalize a.tmps.getD 38 undef = u38 at e
    generalize a.tmps.getD 41 undef = u41 at e
    clear s31 s33 s34 s36 s37 s39 s40 s42 s43 s44 s30 s45 s46 s9 s10
    subst e
    have HB2 := hid (Ext.trans HB.out hx)
    have HX2 := hid (HX.out.later hx)
    clear hx HB HX HY r31 r34 r37 r40 r43
    rename_i hK
    apply hK
    go_wp2_with fail
    refine region_inv mixed rfl (by kernel_rfl) (kV (halves9 a0 a1)) (kV_keep _) (forall_ops ⟨?_, ?_, ?_, ?_, ?_, ?_, ?_, ?_, ?_, ?_, ?_, ?_, ?_, ?_, ?_, ?_, ?_, ?_, ?_, ?_, ?_, ?_, ?_, ?_, ?_, ?_, ?_, ?_, trivial⟩) ?_
    · intro a w hk
      have s7 : a.tmps.getD 7 undef = .bool true := hk.was 7 (by kernel_rfl) rfl
      exact step_move rfl rfl s7 rfl
    · intro a w hk
      have s47 := hk.eq_ 0 47 (by kernel_rfl) rfl
      exact step_move rfl rfl s47 rfl
    · intro a w hk
      refine hk.run 1 48 true true rfl (by kernel_rfl) rfl fun hw => ?_
      have s6 : a.tmps.getD 6 undef = .int .u64 (a0 * 4294967296 + a1) := hk.was 6 (by kernel_rfl) rfl
      exact step_move hw rfl s6 rfl
    · intro a w hk
      refine hk.run 1 48 true true rfl (by kernel_rfl) rfl fun hw => ?_
      have s0 : a.tmps.getD 0 undef = .int .u32 a0 := hk.was 0 (by kernel_rfl) rfl
      exact step_move hw rfl s0 rfl
    · intro a w hk
      refine hk.run 1 48 true true rfl (by kernel_rfl) rfl fun hw => ?_
      have s50 := hk.eq_ 3 50 (by kernel_rfl) rfl
      refine step_val (v := .int .u64 a0) (w' := w) hw ?_ (Ext.refl w) rfl
      go_simp; exact wrap64_u32 _ p0 p1
    · intro a w hk
      refine hk.run 1 48 true true rfl (by kernel_rfl) rfl fun hw => ?_
      have s51 := hk.eq_ 4 51 (by kernel_rfl) rfl
      refine step_val (v := .int .u64 (a0 * 4294967296)) (w' := w) hw ?_ (Ext.refl w) rfl
      go_simp; rw [IntKind.wrap_u64]; omega
    · intro a w hk
      refine hk.run 1 48 true true rfl (by kernel_rfl) rfl fun hw => ?_
      have s1 : a.tmps.getD 1 undef = .int .u32 a1 := hk.was 1 (by kernel_rfl) rfl
      exact step_move hw rfl s1 rfl
    · intro a w hk
      refine hk.run 1 48 true true rfl (by kernel_rfl) rfl fun hw => ?_
      have s53 := hk.eq_ 6 53 (by kernel_rfl) rfl
      refine step_val (v := .int .u64 a1) (w' := w) hw ?_ (Ext.refl w) rfl
      go_simp; exact wrap64_u32 _ q0 q1
    · intro a w hk
      refine hk.run 1 48 true true rfl (by kernel_rfl) rfl fun hw => ?_
      have s52 := hk.eq_ 5 52 (by kernel_rfl) rfl
      have s54 := hk.eq_ 7 54 (by kernel_rfl) rfl
      refine step_val (v := .int .u64 (a0 * 4294967296 + a1)) (w' := w) hw ?_ (Ext.refl w) rfl
      go_simp; exact or64_join _ _ p0 p1 q0 q1
    · intro a w hk
      refine hk.run 1 48 true true rfl (by kernel_rfl) rfl fun hw => ?_
      have s49 := hk.eq_ 2 49 (by kernel_rfl) rfl
      have s55 := hk.eq_ 8 55 (by kernel_rfl) rfl
      refine step_val (v := .bool true) (w' := w) hw ?_ (Ext.refl w) rfl
      go_simp
    · intro a w hk
      have s48 := hk.eq_ 1 48 (by kernel_rfl) rfl
      have s56 := hk.eq_ 9 56 (by kernel_rfl) rfl
      exact step_pick (b := true) rfl rfl s48 s56 rfl
    · intro a w hk
      have s57 := hk.eq_ 10 57 (by kernel_rfl) rfl
      exact step_move rfl rfl s57 rfl
    · intro a w hk
      refine hk.run 11 58 true true rfl (by kernel_rfl) rfl fun hw => ?_
      have s10 : a.tmps.getD 10 undef = .bool true := hk.was 10 (by kernel_rfl) rfl
      exact step_move hw rfl s10 rfl
    · intro a w hk
      have s58 := hk.eq_ 11 58 (by kernel_rfl) rfl
      have s59 := hk.eq_ 12 59 (by kernel_rfl) rfl
      exact step_pick (b := true) rfl rfl s58 s59 rfl
    · intro a w hk
      have s60 := hk.eq_ 13 60 (by kernel_rfl) rfl
      exact step_move rfl rfl s60 rfl
    · intro a w hk
      refine hk.run 14 61 true true rfl (by kernel_rfl) rfl fun hw => ?_
      have s9 : a.tmps.getD 9 undef = .int .u32 a0 := hk.was 9 (by kernel_rfl) rfl
      exact step_move hw rfl s9 rfl
    · intro a w hk
      refine hk.run 14 61 true true rfl (by kernel_rfl) rfl fun hw => ?_
      have s0 : a.tmps.getD 0 undef = .int .u32 a0 := hk.was 0 (by kernel_rfl) rfl
      exact step_move hw rfl s0 rfl
    · intro a w hk
      refine hk.run 14 61 true true rfl (by kernel_rfl) rfl fun hw => ?_
      have s62 := hk.eq_ 15 62 (by kernel_rfl) rfl
      have s63 := hk.eq_ 16 63 (by kernel_rfl) rfl
      refine step_val (v := .bool true) (w' := w) hw ?_ (Ext.refl w) rfl
      go_simp
    · intro a w hk
      have s61 := hk.eq_ 14 61 (by kernel_rfl) rfl
      have s64 := hk.eq_ 17 64 (by kernel_rfl) rfl
      exact step_pick (b := true) rfl rfl s61 s64 rfl
    · intro a w hk
      have s65 := hk.eq_ 18 65 (by kernel_rfl) rfl
      exact step_move rfl rfl s65 rfl
    · intro a w hk
      refine hk.run 19 66 true true rfl (by kernel_rfl) rfl fun hw => ?_
      have s6 : a.tmps.getD 6 undef = .int .u64 (a0 * 4294967296 + a1) := hk.was 6 (by kernel_rfl) rfl
      exact step_move hw rfl s6 rfl
    · intro a w hk
      refine hk.run 19 66 true true rfl (by kernel_rfl) rfl fun hw => ?_
      have s67 := hk.eq_ 20 67 (by kernel_rfl) rfl
      exact step_call hw rfl (by simp only [List.map_toArray, List.map_cons, List.map_nil, Act.eval, s67] <;> rfl) cf23 (putBe64_any _ w) (fun e w' h => RetB.k rfl e w' ((halves_bytes a0 a1 p0 p1 q0 q1) ▸ h))
    · intro a w hk
      refine hk.run 19 66 true true rfl (by kernel_rfl) rfl fun hw => ?_
      obtain ⟨A68, c68, s68, r68⟩ := hk.byt_ 21 68 (by kernel_rfl) rfl
      exact step_conv hw rfl s68 (strq r68) rfl
    · intro a w hk
      refine hk.run 19 66 true true rfl (by kernel_rfl) rfl fun hw => ?_
      have s5 : a.tmps.getD 5 undef = .slice Az 8 cz := hk.was 5 (by kernel_rfl) rfl
      have r5 := (HX2.out).later hk.ext
      exact step_move hw rfl s5 ⟨_, _, rfl, r5⟩
    · intro a w hk
      refine hk.run 19 66 true true rfl (by kernel_rfl) rfl fun hw => ?_
      obtain ⟨A70, c70, s70, r70⟩ := hk.byt_ 23 70 (by kernel_rfl) rfl
      exact step_conv hw rfl s70 (strq r70) rfl
    · intro a w hk
      refine hk.run 19 66 true true rfl (by kernel_rfl) rfl fun hw => ?_
      have s69 := hk.eq_ 22 69 (by kernel_rfl) rfl
      have s71 := hk.eq_ 24 71 (by kernel_rfl) rfl
      refine step_val (v := .bool true) (w' := w) hw ?_ (Ext.refl w) rfl
      go_simp
    · intro a w hk
      have s66 := hk.eq_ 19 66 (by kernel_rfl) rfl
      have s72 := hk.eq_ 25 72 (by kernel_rfl) rfl
      exact step_pick (b := true) rfl rfl s66 s72 rfl
    · intro a w hk
      have s73 := hk.eq_ 26 73 (by kernel_rfl) rfl
      exact step_assign rfl rfl s73 rfl
    · intro a w hf
      rename_i hK
      exact hK _ _ (wp_ret_tmp rfl hf.defers (hf.eq_ 27 4 (by kernel_rfl) rfl) ⟨rfl, Ext.trans HB2.out hf.ext⟩)
end Go.Proofs.Ytllkbfhkpnncgaa
