/- The law on the rounds, walked; own text of the verifier. -/
import Derived.Test.YtbdncalllfpodaaDoorX23
namespace Go.Proofs.YtbdncalllfpodaaDoor
open Go.RowKit
theorem W4.size44 (x : W4) : (Tryd.prog.info? 44).map (·.size) = some x.cells.size := by
  have h : (Tryd.prog.info? 44).map (·.size) = some 4 := by kernel_rfl
  rw [h]; rfl
/-- Four words in a block of the law's own type. -/
def L4 (w : World) (g : Nat) (x : W4) : Prop := w.heap[g]? = some (.cells x.cells 44 (0, 0))
section
variable {w w' : World} {g : Nat} {x : W4}
theorem L4.lt (h : L4 w g x) : g < w.heap.size := (Array.getElem?_eq_some_iff.1 h).1
theorem L4.later (h : L4 w g x) (hx : Ext w w') : L4 w' g x := (hx.block g h.lt).trans h
theorem L4.at_ (h : L4 w g x) (j : Nat) (hj : j < 4) : w.cell? ⟨g, j, none⟩ = some (.int .u32 ((x.at j).toNat : Nat)) := by
  rw [cell_of_row _ _ _ _ _ _ h]
  rcases (show j = 0 ∨ j = 1 ∨ j = 2 ∨ j = 3 by omega) with rfl | rfl | rfl | rfl <;> rfl
theorem L4.frozen (h : L4 w g x) (k : Nat) : w.frozen? ⟨g, k, none⟩ = false := frozen_of_row w g k _ 44 h
theorem L4.put (h : L4 w g x) (y : W4) : L4 (w.setRow g y.cells) g y := setRow_heap w g _ _ 44 (0, 0) h
end
/-- The first j words laid. -/
def W4.fillN (r : W4) (j : Nat) : W4 := ⟨if 0 < j then r.a else 0, if 1 < j then r.b else 0, if 2 < j then r.c else 0, if 3 < j then r.d else 0⟩
theorem W4.fillN_set (r : W4) (j : Nat) (hj : j < 4) : (r.fillN j).cells.setIfInBounds j (.int .u32 ((r.at j).toNat : Nat)) = (r.fillN (j + 1)).cells := by
  rcases (show j = 0 ∨ j = 1 ∨ j = 2 ∨ j = 3 by omega) with rfl | rfl | rfl | rfl <;> rfl
theorem in_at (m : List UInt8) (k : List UInt32) (j : Nat) (hj : j < 4) : ((inW m).xor k 0).at j = wdL m (4 * j) ^^^ k.getD j 0 := by
  rcases (show j = 0 ∨ j = 1 ∨ j = 2 ∨ j = 3 by omega) with rfl | rfl | rfl | rfl <;> rfl
theorem wrap32 {n : Int} (h0 : 0 ≤ n) (h1 : n < 4294967296) : IntKind.u32.wrap n = n := by
  simp [IntKind.wrap, IntKind.bits, IntKind.signed]; omega
theorem wrapU (n : Int) : IntKind.u32.wrap n = n % 4294967296 := by simp [IntKind.wrap, IntKind.bits, IntKind.signed]
theorem wrap64 {n : Int} (h0 : 0 ≤ n) (h1 : n < 9223372036854775808) : IntKind.i64.wrap n = n := by
  simp [IntKind.wrap, IntKind.bits, IntKind.signed]; omega
theorem cf20 (vs : Array Value) (w : World) : (callFunc 20 vs).run Tryd.prog w = .ok (.enter 20 vs) w := by go_simp
theorem cf21 (vs : Array Value) (w : World) : (callFunc 21 vs).run Tryd.prog w = .ok (.enter 21 vs) w := by go_simp
theorem cf23 (vs : Array Value) (w : World) : (callFunc 23 vs).run Tryd.prog w = .ok (.enter 23 vs) w := by go_simp
theorem cut16 (b o c j : Nat) (hj : j < 4) (hc : 16 ≤ c) (w : World) : (Instr.sliceAt 22 (.slice (some ⟨b, o, none⟩) 16 c) (some (.int .i64 (4 * (j : Int)))) (some (.int .i64 (4 * (j : Int) + 4))) none).run Tryd.prog w = .ok (.slice (some ⟨b, o + 4 * j, none⟩) 4 (c - 4 * j)) w := by
  show (Instr.slice 22 (.slice (some ⟨b, o, none⟩) 16 c) (some (.int .i64 (4 * (j : Int)))) (some (.int .i64 (4 * (j : Int) + 4))) none).run Tryd.prog w = _
  rw [run_slice_lh w 22 (some ⟨b, o, none⟩) 16 c (by kernel_rfl) .i64 .i64 (4 * (j : Int)) (4 * (j : Int) + 4) (by omega) (by omega) (by omega)]
  rw [show (sizeOf (Tryd.prog.elem 22)).run Tryd.prog w = .ok 1 w by kernel_rfl]
  simp only [Result.andThen, sliced, show (4 * (j : Int)).toNat = 4 * j by omega, show (4 * (j : Int) + 4).toNat = 4 * j + 4 by omega]
  rw [if_neg (by omega), show 4 * j + 4 - 4 * j = 4 by omega]
  simp [add_off]
theorem rol31 (x : UInt32) : rolI x 31 = rolI x (-1) := rfl
def lr12 (b o c12 G g9 c9 j : Nat) (z1 z2 z3 : UInt32) : List K := [.eq (.int .i64 (j : Nat)), .eq (.slice (some ⟨b, o, none⟩) 16 c12), .eq (.int .i64 (j : Nat)), .eq (.int .i64 (4 * (j : Int))), .eq (.int .i64 (j : Nat)), .eq (.int .i64 (4 * (j : Int))), .eq (.int .i64 (4 * (j : Int) + 4)), .eq (.slice (some ⟨b, o + 4 * j, none⟩) 4 (c12 - 4 * j)), .eq (.int .u64 ((z1).toNat : Nat)), .eq (.int .u32 ((z1).toNat : Nat)), .eq (.slice (some ⟨g9, 0, none⟩) 40 c9), .eq (.int .i64 (j : Nat)), .eq (.pointer (some ⟨g9, j, none⟩)), .eq (.int .u32 ((z2).toNat : Nat)), .eq (.int .u32 ((z3).toNat : Nat)), .eq (.pointer (some ⟨G, j, none⟩)), .any]
def lr16 (G n10 c10 : Nat) (A10 : Option Addr) (y : W4) (h1 h2 yr : UInt32) : List K := [.eq (.pointer (some ⟨G, 0, none⟩)), .eq (.int .u32 ((y.a).toNat : Nat)), .eq (.slice A10 n10 c10), .eq (.int .u32 ((h1).toNat : Nat)), .eq (.pointer (some ⟨G, 1, none⟩)), .eq (.int .u32 ((y.b).toNat : Nat)), .eq (.int .u32 ((yr).toNat : Nat)), .eq (.slice A10 n10 c10), .eq (.int .u32 ((h2).toNat : Nat)), .eq (.int .u32 ((h1).toNat : Nat)), .eq (.int .u32 ((h2).toNat : Nat))]
def lr17 (G g9 c9 i : Nat) (y : W4) (h1 h2 s1 k0 f n1 n2 : UInt32) : List K := [.eq (.pointer (some ⟨G, 2, none⟩)), .eq (.int .u32 ((y.c).toNat : Nat)), .eq (.int .u32 (h1.toNat : Nat)), .eq (.int .u32 (h2.toNat : Nat)), .eq (.int .u32 ((s1).toNat : Nat)), .eq (.slice (some ⟨g9, 0, none⟩) 40 c9), .eq (.int .i64 (i : Nat)), .eq (.int .i64 (2 * (i : Int))), .eq (.int .i64 (2 * (i : Int) + 8)), .eq (.pointer (some ⟨g9, 8 + 2 * i, none⟩)), .eq (.int .u32 ((k0).toNat : Nat)), .eq (.int .u32 ((f).toNat : Nat)), .eq (.int .u32 ((n1).toNat : Nat)), .eq (.int .u32 ((n2).toNat : Nat)), .eq (.int .u32 ((n2).toNat : Nat))]
def lr18 (G g9 c9 i : Nat) (y : W4) (h1 h2 d2 s2 k1 gg n3 n4 : UInt32) : List K := [.eq (.pointer (some ⟨G, 3, none⟩)), .eq (.int .u32 ((y.d).toNat : Nat)), .eq (.int .u32 ((n3).toNat : Nat)), .eq (.int .u32 (h1.toNat : Nat)), .eq (.int .u32 (h2.toNat : Nat)), .eq (.int .u32 ((d2).toNat : Nat)), .eq (.int .u32 ((s2).toNat : Nat)), .eq (.slice (some ⟨g9, 0, none⟩) 40 c9), .eq (.int .i64 (i : Nat)), .eq (.int .i64 (2 * (i : Int))), .eq (.int .i64 (2 * (i : Int) + 9)), .eq (.pointer (some ⟨g9, 9 + 2 * i, none⟩)), .eq (.int .u32 ((k1).toNat : Nat)), .eq (.int .u32 ((gg).toNat : Nat)), .eq (.int .u32 ((n4).toNat : Nat)), .eq (.int .u32 ((n4).toNat : Nat))]
theorem retB4 {w : World} {z : UInt32} (e : Ending) (w' : World) (h : RetB w (outB z) e w') : ∃ u, e = .returned u ∧ Ext w w' ∧ K.holds (.byt 4 (outB z)) w' u := by
  obtain ⟨v, rfl, ho, hb⟩ := h
  obtain ⟨A, c, rfl, hr, _⟩ := ho.rdn (outB_length z)
  exact ⟨_, rfl, hb, A, c, rfl, hr⟩
theorem str_cat (a b : List UInt8) : (str a ++ str b) = str (a ++ b) := by
  apply ByteArray.ext
  simp [str, ByteArray.data_append]
theorem str_size (a : List UInt8) : (str a).size = a.length := by simp [str, ByteArray.size]
theorem z_at (y : W4) (k : List UInt32) (j : Nat) (hj : j < 4) : (y.cross.xor k 4).at j = y.at ((j + 2) % 4) ^^^ k.getD (4 + j) 0 := by
  rcases (show j = 0 ∨ j = 1 ∨ j = 2 ∨ j = 3 by omega) with rfl | rfl | rfl | rfl <;> rfl
def lr25 (G g9 c9 j : Nat) (Z : W4) (y1 y2 z : UInt32) : List K := [.eq (.string (str (outP Z j))), .eq (.int .i64 (j : Nat)), .eq (.int .i64 ((j : Int) + 2)), .eq (.int .i64 (((j + 2) % 4 : Nat))), .eq (.pointer (some ⟨G, (j + 2) % 4, none⟩)), .eq (.int .u32 ((y1).toNat : Nat)), .eq (.slice (some ⟨g9, 0, none⟩) 40 c9), .eq (.int .i64 (j : Nat)), .eq (.int .i64 ((j : Int) + 4)), .eq (.pointer (some ⟨g9, 4 + j, none⟩)), .eq (.int .u32 ((y2).toNat : Nat)), .eq (.int .u32 ((z).toNat : Nat)), .byt 4 (outB z), .eq (.string (str (outB z))), .eq (.string (str (outP Z j ++ outB z))), .eq (.string (str (outP Z j ++ outB z)))]
set_option maxRecDepth 100000 in
set_option maxHeartbeats 8000000 in
theorem rounds_walk (a0 : Option Addr) (len0 cap0 : Nat) (z0 : List Int) (a1 : Int) (a2 : Option Addr) (len2 cap2 : Nat) (z2 : List Int) (w : World) (w0 : IsRow .u8 w a0 len0 cap0 z0) (_w1 : (Lit.int .i64 a1).wf = true) (w2 : IsRow .u8 w a2 len2 cap2 z2) (hG : GT w) :
    Calls Tryd.prog 6 #[.slice a0 len0 cap0, .int .i64 a1, .slice a2 len2 cap2] w fun e w' => e = .returned (.bool true) ∧ Below w.heap.size w w' := by
  obtain ⟨bs0, h0, hm0⟩ := w0.rd
  obtain ⟨bs2, h2, hm2⟩ := w2.rd
  unfold maxLen at hm0 hm2
  have H0 := hid h0
  have H2 := hid h2
  have HG := hid hG
  have HL0 := hid hm0
  have HL2 := hid hm2
  have HKEY := hid (fun w h => key_any a0 len0 cap0 a1 bs0 w h HL0.out)
  have hok := kLen_ok a1
  have hkl : (byL (kLen a1) bs0).length = kLen a1 := byL_len _ _
  obtain ⟨n, hn⟩ : ∃ n, kLen a1 = n := ⟨_, rfl⟩
  rw [hn] at HKEY hok hkl
  obtain ⟨K, hK⟩ : ∃ K, byL n bs0 = K := ⟨_, rfl⟩
  rw [hK] at HKEY hkl
  have HN := hid (fun w A c hG h hc => new_any A n c K w hG h hok hc)
  have HKS := hid (fun w A c hG h hc => keys_any A n c K w hG h hok hc)
  have hkk := keysL_length K
  have hss := sL_length K
  rw [hkl] at hss
  unfold NewRet at HN
  obtain ⟨ks, hks⟩ : ∃ ks, keysL K = ks := ⟨_, rfl⟩
  obtain ⟨ss, hse⟩ : ∃ ss, sL K = ss := ⟨_, rfl⟩
  rw [hks] at HN HKS hkk
  rw [hse] at HN HKS hss
  have HSS := hid (show 2 ≤ ss.length ∧ ss.length ≤ 4 by omega)
  have HKK := hid hkk
  have HM := hid (fun w h => by_rd a2 16 len2 cap2 bs2 w h (by omega) HL2.out)
  have hml : (byL 16 bs2).length = 16 := byL_len _ _
  obtain ⟨m, hme⟩ : ∃ m, byL 16 bs2 = m := ⟨_, rfl⟩
  rw [hme] at HM hml
  clear w0 w2 h0 h2 hm0 hm2 hG hok hkl hn hK hkk hss hks hse hme
  go_enter Tryd.func6, Tryd.ntmps6
  go_wp2_with fail
  refine (known_any _ HG.out).mono ?_
  rintro e w1 ⟨rfl, hx1⟩
  have HX1 := hid hx1
  clear hx1
  go_wp2_with fail
  refine (HKEY.out _ (H0.out.later HX1.out)).mono ?_
  rintro e w2 ⟨Ak, ck, rfl, hck, hrk, hx2⟩
  have HX2 := hid (Ext.trans HX1.out hx2)
  have HRK := hid hrk
  have HCK := hid hck
  clear hx2 hrk hck HX1
  go_wp2_with fail
  refine (HN.out _ _ _ (HG.out.later HX2.out) HRK.out HCK.out).mono ?_
  rintro e w3 ⟨p, rfl, h3, _, hx3⟩
  have HX3 := hid (Ext.trans HX2.out hx3)
  have HT3 := hid h3
  clear hx3 h3 HX2 HRK HCK
  go_wp2_with fail
  refine (HKEY.out _ (H0.out.later HX3.out)).mono ?_
  rintro e w4 ⟨Ak2, ck2, rfl, hck, hrk, hx4⟩
  have HX4 := hid (Ext.trans HX3.out hx4)
  have HT4 := hid (HT3.out.later hx4)
  have HRK := hid hrk
  have HCK := hid hck
  clear hx4 hrk hck HX3 HT3
  go_wp2_with fail
  refine (HKS.out _ _ _ (HG.out.later HX4.out) HRK.out HCK.out).mono ?_
  rintro e w5 ⟨v1, v2, rfl, o1, o2, hx5⟩
  have HX5 := hid (Ext.trans HX4.out hx5)
  have HT5 := hid (HT4.out.later hx5)
  obtain ⟨g9, c9, rfl, hc9, hg1, hg2⟩ := OwnN.head (n := 40) o1 (by rw [nW_length]; exact HKK.out) (by omega)
  obtain ⟨A10, c10, rfl, r10, _⟩ := OwnN.rdn o2 (nW_length ss)
  have hkc : ∀ j, j < 40 → w5.cell? ⟨g9, j, none⟩ = some (.int .u32 ((ks.getD j 0).toNat : Nat)) := fun j hj => by
    rw [OwnN.celln o1 (by rw [nW_length]; exact HKK.out) j hj, nW_get _ _ (by rw [HKK.out]; exact hj)]
  have HKC := hid hkc
  have HR10 := hid r10
  obtain ⟨n10, hn10⟩ : ∃ n10, ss.length = n10 := ⟨_, rfl⟩
  rw [hn10] at HR10 HSS ⊢
  have h2n : ¬ (n10 : Int) < 2 := by have := HSS.out; omega
  clear hx5 o1 o2 r10 hg1 hg2 hkc HX4 HT4 HRK HCK hn10
  go_wp2_with fail
  refine (HM.out _ (H2.out.later HX5.out)).mono ?_
  rintro e w6 ⟨A12, c12, rfl, hc12, hr12, hx6⟩
  obtain ⟨b, o, rfl, _, _⟩ := hr12.at_ (by omega)
  have HX6 := hid (Ext.trans HX5.out hx6)
  have HT6 := hid (HT5.out.later hx6)
  have HK6 := hid (fun j hj => cell_at hx6 (HKC.out j hj))
  have HR6 := hid (HR10.out.later hx6)
  have HM6 := hid hr12
  have HC12 := hid hc12
  clear hx6 hr12 hc12 HX5 HT5 HKC HR10 hml h2n
  go_wp2_with fail
  have h1 := heap_alloc_new w6 (.cells #[.int .u32 0, .int .u32 0, .int .u32 0, .int .u32 0] 44)
  have hx7 := Ext.alloc w6 (.cells #[.int .u32 0, .int .u32 0, .int .u32 0, .int .u32 0] 44)
  obtain ⟨W7, hW7⟩ : ∃ W7, w6.alloc (.cells #[.int .u32 0, .int .u32 0, .int .u32 0, .int .u32 0] 44) = W7 := ⟨_, rfl⟩
  rw [hW7] at h1 hx7 ⊢
  obtain ⟨G, hGe⟩ : ∃ G, w6.heap.size = G := ⟨_, rfl⟩
  rw [hGe] at h1 ⊢
  obtain ⟨r, hr⟩ : ∃ r, (inW m).xor ks 0 = r := ⟨_, rfl⟩
  have HRE := hid hr
  have HGE := hid hGe
  have HB := hid (show L4 W7 G (r.fillN 0) from h1)
  have HX7 := hid hx7
  clear h1 hx7 hW7 hr hGe
  go_loopw [14] (fun i wr => ∃ j : Nat, j ≤ 4 ∧ i = .int .i64 j ∧ L4 wr G (r.fillN j) ∧ Below G w6 wr) (fun i _ => 4 - (intOf i).toNat)
  case atStart => exact ⟨0, by omega, rfl, HB.out, by have := HGE.out; subst this; exact HX7.out⟩
  case round =>
    clear HB HX7
    obtain ⟨j, hj, rfl, hb, hx⟩ := hrel
    by_cases hlt : j < 4
    · have hck := cell_at (by have := HGE.out; subst this; exact hx : Ext w6 wr) (HK6.out j (by omega))
      have hra : r.at j = wdL m (4 * j) ^^^ ks.getD j 0 := by rw [← HRE.out]; exact in_at m ks j hlt
      have HLE := hid (fun W (hW : Ext w6 W) => le_word (c := c12 - 4 * j) (HM6.out.later hW) (show 4 * j + 4 ≤ 16 by omega))
      have hset := W4.fillN_set r j hlt
      obtain ⟨z1, hz1⟩ : ∃ z, wdL m (4 * j) = z := ⟨_, rfl⟩
      obtain ⟨z2, hz2⟩ : ∃ z, ks.getD j 0 = z := ⟨_, rfl⟩
      rw [hz1, hz2] at hra
      rw [hz1] at HLE
      rw [hz2] at hck
      have hxz := w_xor z1 z2
      obtain ⟨z3, hz3⟩ : ∃ z, z1 ^^^ z2 = z := ⟨_, rfl⟩
      rw [hra, hz3] at hset
      rw [hz3] at hxz
      have hcut := fun w => cut16 b o c12 j hlt HC12.out w
      have HCUT := hid hcut
      have HCK := hid hck
      have HXZ := hid hxz
      have HSET := hid hset
      have HJ4 := hid hlt
      have HB := hid hb
      have HX := hid (show Ext w6 wr by have := HGE.out; subst this; exact hx)
      clear hck hra hset hxz hz1 hz2 hz3 hb hx hcut
      go_wp2_with fail
      refine region_upto 16 mixed rfl (by kernel_rfl) (by kernel_rfl) (by kernel_rfl) (kV (lr12 b o c12 G g9 c9 j z1 z2 z3)) (kV_keep _) (forall_ops ⟨?_, ?_, ?_, ?_, ?_, ?_, ?_, ?_, ?_, ?_, ?_, ?_, ?_, ?_, ?_, ?_, trivial⟩) ?_
      · intro a w hk
        have s14 : a.tmps.getD 14 undef = .int .i64 (j : Nat) := hk.was 14 (by kernel_rfl) rfl
        exact step_move rfl rfl s14 rfl
      · intro a w hk
        have s12 : a.tmps.getD 12 undef = .slice (some ⟨b, o, none⟩) 16 c12 := hk.was 12 (by kernel_rfl) rfl
        exact step_move rfl rfl s12 rfl
      · intro a w hk
        have s14 : a.tmps.getD 14 undef = .int .i64 (j : Nat) := hk.was 14 (by kernel_rfl) rfl
        exact step_move rfl rfl s14 rfl
      · intro a w hk
        have s69 := hk.eq_ 2 69 (by kernel_rfl) rfl
        refine step_val (v := .int .i64 (4 * (j : Int))) (w' := w) rfl ?_ (Ext.refl w) rfl
        have hj4 : (j : Int) < 4 := by have := HJ4.out; omega
        go_simp
        exact wrap64 (by omega) (by omega)
      · intro a w hk
        have s14 : a.tmps.getD 14 undef = .int .i64 (j : Nat) := hk.was 14 (by kernel_rfl) rfl
        exact step_move rfl rfl s14 rfl
      · intro a w hk
        have s71 := hk.eq_ 4 71 (by kernel_rfl) rfl
        refine step_val (v := .int .i64 (4 * (j : Int))) (w' := w) rfl ?_ (Ext.refl w) rfl
        have hj4 : (j : Int) < 4 := by have := HJ4.out; omega
        go_simp
        exact wrap64 (by omega) (by omega)
      · intro a w hk
        have s72 := hk.eq_ 5 72 (by kernel_rfl) rfl
        refine step_val (v := .int .i64 (4 * (j : Int) + 4)) (w' := w) rfl ?_ (Ext.refl w) rfl
        have hj4 : (j : Int) < 4 := by have := HJ4.out; omega
        go_simp
        exact wrap64 (by omega) (by omega)
      · intro a w hk
        have s68 := hk.eq_ 1 68 (by kernel_rfl) rfl
        have s70 := hk.eq_ 3 70 (by kernel_rfl) rfl
        have s73 := hk.eq_ 6 73 (by kernel_rfl) rfl
        refine step_val (v := .slice (some ⟨b, o + 4 * j, none⟩) 4 (c12 - 4 * j)) (w' := w) rfl ?_ (Ext.refl w) rfl
        have e := HCUT.out w
        simp only [execOp, Act.eval, Option.map_some, Option.map_none, s68, s70, s73, Sem.run_bind, e, Sem.run_pure, Result.andThen]
      · intro a w hk
        have s74 := hk.eq_ 7 74 (by kernel_rfl) rfl
        exact step_call rfl rfl (by simp only [List.map_toArray, List.map_cons, List.map_nil, Act.eval, s74] <;> rfl) cf20 (HLE.out w (Ext.trans HX.out hk.ext)) (fun e w1 h => retE e w1 h)
      · intro a w hk
        have s75 := hk.eq_ 8 75 (by kernel_rfl) rfl
        refine step_val (v := .int .u32 ((z1).toNat : Nat)) (w' := w) rfl ?_ (Ext.refl w) rfl
        have := wlt z1
        go_simp
        exact wrap32 (by omega) (by omega)
      · intro a w hk
        have s9 : a.tmps.getD 9 undef = .slice (some ⟨g9, 0, none⟩) 40 c9 := hk.was 9 (by kernel_rfl) rfl
        exact step_move rfl rfl s9 rfl
      · intro a w hk
        have s14 : a.tmps.getD 14 undef = .int .i64 (j : Nat) := hk.was 14 (by kernel_rfl) rfl
        exact step_move rfl rfl s14 rfl
      · intro a w hk
        have s77 := hk.eq_ 10 77 (by kernel_rfl) rfl
        have s78 := hk.eq_ 11 78 (by kernel_rfl) rfl
        refine step_val (v := .pointer (some ⟨g9, j, none⟩)) (w' := w) rfl ?_ (Ext.refl w) rfl
        have hj4 : (j : Int) < 4 := by have := HJ4.out; omega
        have hj40 : (j : Int) < 40 := by omega
        go_simp
      · intro a w hk
        have s79 := hk.eq_ 12 79 (by kernel_rfl) rfl
        refine step_val (v := .int .u32 ((z2).toNat : Nat)) (w' := w) rfl ?_ (Ext.refl w) rfl
        have hc := cell_at hk.ext HCK.out
        go_simp
      · intro a w hk
        have s76 := hk.eq_ 9 76 (by kernel_rfl) rfl
        have s80 := hk.eq_ 13 80 (by kernel_rfl) rfl
        refine step_val (v := .int .u32 ((z3).toNat : Nat)) (w' := w) rfl ?_ (Ext.refl w) rfl
        have hz := HXZ.out
        go_simp
      · intro a w hk
        have s13 : a.tmps.getD 13 undef = .pointer (some ⟨G, 0, none⟩) := hk.was 13 (by kernel_rfl) rfl
        have s67 := hk.eq_ 0 67 (by kernel_rfl) rfl
        refine step_val (v := .pointer (some ⟨G, j, none⟩)) (w' := w) rfl ?_ (Ext.refl w) rfl
        have hj4 : (j : Int) < 4 := by have := HJ4.out; omega
        go_simp
      · intro a w1 hf
        have s67 := hf.eq_ 0 67 (by kernel_rfl) rfl
        have s68 := hf.eq_ 1 68 (by kernel_rfl) rfl
        have s69 := hf.eq_ 2 69 (by kernel_rfl) rfl
        have s70 := hf.eq_ 3 70 (by kernel_rfl) rfl
        have s71 := hf.eq_ 4 71 (by kernel_rfl) rfl
        have s72 := hf.eq_ 5 72 (by kernel_rfl) rfl
        have s73 := hf.eq_ 6 73 (by kernel_rfl) rfl
        have s74 := hf.eq_ 7 74 (by kernel_rfl) rfl
        have s75 := hf.eq_ 8 75 (by kernel_rfl) rfl
        have s76 := hf.eq_ 9 76 (by kernel_rfl) rfl
        have s77 := hf.eq_ 10 77 (by kernel_rfl) rfl
        have s78 := hf.eq_ 11 78 (by kernel_rfl) rfl
        have s79 := hf.eq_ 12 79 (by kernel_rfl) rfl
        have s80 := hf.eq_ 13 80 (by kernel_rfl) rfl
        have s81 := hf.eq_ 14 81 (by kernel_rfl) rfl
        have s82 := hf.eq_ 15 82 (by kernel_rfl) rfl
        have hx := hf.ext
        have e := hf.frame
        clear hf
        simp only [List.take_succ_cons, List.take_zero, regFrame, Act.put, List.setIfInBounds_toArray, List.set_cons_zero, List.set_cons_succ, s67, s68, s69, s70, s71, s72, s73, s74, s75, s76, s77, s78, s79, s80, s81, s82] at e
        clear s67 s68 s69 s70 s71 s72 s73 s74 s75 s76 s77 s78 s79 s80 s81 s82
        subst e
        simp only [List.drop_succ_cons, List.drop_zero]
        have hB := HB.out.later hx
        have hf := hB.frozen j
        have hc := hB.at_ j HJ4.out
        have HS := hid (show L4 (w1.setCell ⟨G, j, none⟩ (.int .u32 (z3.toNat : Nat))) G (r.fillN (j + 1)) by
          have := heap_setCell_same w1 G j _ 44 (.int .u32 (z3.toNat : Nat)) hB
          rw [HSET.out] at this
          exact this)
        have HX2 := hid (show Below G w6 (w1.setCell ⟨G, j, none⟩ (.int .u32 (z3.toNat : Nat))) by have := HGE.out; subst this; exact (HX.out.trans hx).setCell (p := ⟨w6.heap.size, j, none⟩) (by simp) _)
        clear hx hB
        go_wp2_with fail
        go_roundw
        case rel => exact ⟨j + 1, by omega, by go_num, HS.out, HX2.out⟩
        case measure => simp [intOf]; omega
    · obtain rfl : j = 4 := by omega
      rw [show r.fillN 4 = r from rfl] at hb
      have HB := hid hb
      have HXW := hid (show Ext w6 wr by have := HGE.out; subst this; exact hx)
      clear hb hx
      have HG6 := hid (HG.out.later HX6.out)
      go_wp2_with fail
      generalize ((4 : Nat) : Int) = N4
      go_loopw [15] (fun i wv => ∃ k : Nat, k ≤ 16 ∧ i = .int .i64 k ∧ L4 wv G (fwd ks ss r k) ∧ Below G w6 wv) (fun i _ => 16 - (intOf i).toNat)
      case atStart => exact ⟨0, by omega, rfl, HB.out, by have := HGE.out; subst this; exact HXW.out⟩
      case round =>
        clear HB HXW
        obtain ⟨i, hi, rfl, hb, hx⟩ := hrel
        obtain ⟨y, hy⟩ : ∃ y, fwd ks ss r i = y := ⟨_, rfl⟩
        rw [hy] at hb
        by_cases hlt : i < 16
        · have hst : fwd ks ss r (i + 1) = ⟨rolI (y.c ^^^ mF ks ss y.a y.b i) (-1), rolI y.d 1 ^^^ mG ks ss y.a y.b i, y.a, y.b⟩ := by rw [fwd_succ, hy]; rfl
          have hF : mF ks ss y.a y.b i = HW y.a ss + HW (rolI y.b 8) ss + ks.getD (8 + 2 * i) 0 := rfl
          have hGG : mG ks ss y.a y.b i = HW y.a ss + 2 * HW (rolI y.b 8) ss + ks.getD (9 + 2 * i) 0 := rfl
          have HX := hid (show Ext w6 wr by have := HGE.out; subst this; exact hx)
          have hk0 := HK6.out (8 + 2 * i) (by omega)
          have hk1 := HK6.out (9 + 2 * i) (by omega)
          obtain ⟨k0, hk0e⟩ : ∃ k0, ks.getD (8 + 2 * i) 0 = k0 := ⟨_, rfl⟩
          obtain ⟨k1, hk1e⟩ : ∃ k1, ks.getD (9 + 2 * i) 0 = k1 := ⟨_, rfl⟩
          rw [hk0e] at hk0 hF
          rw [hk1e] at hk1 hGG
          obtain ⟨yr, hyr⟩ : ∃ yr, rolI y.b 8 = yr := ⟨_, rfl⟩
          rw [hyr] at hF hGG
          have ha := fun W (hW : Ext w6 W) => h_any y.a ss A10 n10 c10 W (HG6.out.later hW) (HR6.out.later hW) HSS.out.1 HSS.out.2
          have hbb := fun W (hW : Ext w6 W) => h_any yr ss A10 n10 c10 W (HG6.out.later hW) (HR6.out.later hW) HSS.out.1 HSS.out.2
          have hro := fun W => rrol_w y.b 8 W
          rw [hyr] at hro
          obtain ⟨h1, hh1⟩ : ∃ h1, HW y.a ss = h1 := ⟨_, rfl⟩
          obtain ⟨h2, hh2⟩ : ∃ h2, HW yr ss = h2 := ⟨_, rfl⟩
          rw [hh1] at ha hF hGG
          rw [hh2] at hbb hF hGG
          rw [hF, hGG] at hst
          have e1 := w_add h1 h2
          have e2 := w_add (h1 + h2) k0
          have e3 := w_two h2
          have e4 := w_add h1 (2 * h2)
          have e5 := w_add (h1 + 2 * h2) k1
          obtain ⟨s1, hs1⟩ : ∃ s, h1 + h2 = s := ⟨_, rfl⟩
          obtain ⟨d2, hd2⟩ : ∃ s, 2 * h2 = s := ⟨_, rfl⟩
          rw [hs1] at e1 e2 hst
          rw [hd2] at e3 e4 e5 hst
          obtain ⟨s2, hs2⟩ : ∃ s, h1 + d2 = s := ⟨_, rfl⟩
          rw [hs2] at e4 e5 hst
          obtain ⟨f, hfe⟩ : ∃ s, s1 + k0 = s := ⟨_, rfl⟩
          obtain ⟨gg, hge⟩ : ∃ s, s2 + k1 = s := ⟨_, rfl⟩
          rw [hfe] at e2 hst
          rw [hge] at e5 hst
          have e6 := w_xor y.c f
          obtain ⟨n1, hn1⟩ : ∃ s, y.c ^^^ f = s := ⟨_, rfl⟩
          rw [hn1] at e6 hst
          have hr1 := fun W => rrol_w n1 31 W
          rw [rol31] at hr1
          obtain ⟨n2, hn2⟩ : ∃ s, rolI n1 (-1) = s := ⟨_, rfl⟩
          rw [hn2] at hr1 hst
          have hr2 := fun W => rrol_w y.d 1 W
          obtain ⟨n3, hn3⟩ : ∃ s, rolI y.d 1 = s := ⟨_, rfl⟩
          rw [hn3] at hr2 hst
          have e7 := w_xor n3 gg
          obtain ⟨n4, hn4⟩ : ∃ s, n3 ^^^ gg = s := ⟨_, rfl⟩
          rw [hn4] at e7 hst
          have HST := hid hst
          have HE := hid (And.intro e1 (And.intro e2 (And.intro e3 (And.intro e4 (And.intro e5 (And.intro e6 e7))))))
          have HA := hid ha
          have HBB := hid hbb
          have HRO := hid hro
          have HR1 := hid hr1
          have HR2 := hid hr2
          have HKK0 := hid hk0
          have HKK1 := hid hk1
          have HI := hid hlt
          have HB := hid hb
          clear hy hst hF hGG hk0 hk1 hk0e hk1e hyr ha hbb hro hh1 hh2 e1 e2 e3 e4 e5 e6 e7 hs1 hd2 hs2 hfe hge hn1 hn2 hn3 hn4 hr1 hr2 hb hx
          go_wp2_with fail
          refine region_upto 9 mixed rfl (by kernel_rfl) (by kernel_rfl) (by kernel_rfl) (kV (lr16 G n10 c10 A10 y h1 h2 yr)) (kV_keep _) (forall_ops ⟨?_, ?_, ?_, ?_, ?_, ?_, ?_, ?_, ?_, trivial⟩) ?_
          · intro a w hk
            have s13 : a.tmps.getD 13 undef = .pointer (some ⟨G, 0, none⟩) := hk.was 13 (by kernel_rfl) rfl
            refine step_val (v := .pointer (some ⟨G, 0, none⟩)) (w' := w) rfl ?_ (Ext.refl w) rfl
            go_simp
          · intro a w hk
            have s87 := hk.eq_ 0 87 (by kernel_rfl) rfl
            refine step_val (v := .int .u32 ((y.a).toNat : Nat)) (w' := w) rfl ?_ (Ext.refl w) rfl
            have hc := (HB.out.later hk.ext).at_ 0 (by omega)
            go_simp
            rfl
          · intro a w hk
            have s10 : a.tmps.getD 10 undef = .slice A10 n10 c10 := hk.was 10 (by kernel_rfl) rfl
            exact step_move rfl rfl s10 rfl
          · intro a w hk
            have s88 := hk.eq_ 1 88 (by kernel_rfl) rfl
            have s89 := hk.eq_ 2 89 (by kernel_rfl) rfl
            exact step_call rfl rfl (by simp only [List.map_toArray, List.map_cons, List.map_nil, Act.eval, s88, s89] <;> rfl) cf16 (HA.out w (Ext.trans HX.out hk.ext)) (fun e w1 h => retX e w1 h)
          · intro a w hk
            have s13 : a.tmps.getD 13 undef = .pointer (some ⟨G, 0, none⟩) := hk.was 13 (by kernel_rfl) rfl
            refine step_val (v := .pointer (some ⟨G, 1, none⟩)) (w' := w) rfl ?_ (Ext.refl w) rfl
            go_simp
          · intro a w hk
            have s91 := hk.eq_ 4 91 (by kernel_rfl) rfl
            refine step_val (v := .int .u32 ((y.b).toNat : Nat)) (w' := w) rfl ?_ (Ext.refl w) rfl
            have hc := (HB.out.later hk.ext).at_ 1 (by omega)
            go_simp
            rfl
          · intro a w hk
            have s92 := hk.eq_ 5 92 (by kernel_rfl) rfl
            exact step_call rfl rfl (by simp only [List.map_toArray, List.map_cons, List.map_nil, Act.eval, s92] <;> rfl) cf21 (HRO.out w) (fun e w1 h => retE e w1 h)
          · intro a w hk
            have s10 : a.tmps.getD 10 undef = .slice A10 n10 c10 := hk.was 10 (by kernel_rfl) rfl
            exact step_move rfl rfl s10 rfl
          · intro a w hk
            have s93 := hk.eq_ 6 93 (by kernel_rfl) rfl
            have s94 := hk.eq_ 7 94 (by kernel_rfl) rfl
            exact step_call rfl rfl (by simp only [List.map_toArray, List.map_cons, List.map_nil, Act.eval, s93, s94] <;> rfl) cf16 (HBB.out w (Ext.trans HX.out hk.ext)) (fun e w1 h => retX e w1 h)
          · intro a w1 hf
            have s87 := hf.eq_ 0 87 (by kernel_rfl) rfl
            have s88 := hf.eq_ 1 88 (by kernel_rfl) rfl
            have s89 := hf.eq_ 2 89 (by kernel_rfl) rfl
            have s90 := hf.eq_ 3 90 (by kernel_rfl) rfl
            have s91 := hf.eq_ 4 91 (by kernel_rfl) rfl
            have s92 := hf.eq_ 5 92 (by kernel_rfl) rfl
            have s93 := hf.eq_ 6 93 (by kernel_rfl) rfl
            have s94 := hf.eq_ 7 94 (by kernel_rfl) rfl
            have s95 := hf.eq_ 8 95 (by kernel_rfl) rfl
            have hx := hf.ext
            have e := hf.frame
            clear hf
            simp only [List.take_succ_cons, List.take_zero, regFrame, Act.put, List.setIfInBounds_toArray, List.set_cons_zero, List.set_cons_succ, s87, s88, s89, s90, s91, s92, s93, s94, s95] at e
            clear s87 s88 s89 s90 s91 s92 s93 s94 s95
            subst e
            simp only [List.drop_succ_cons, List.drop_zero]
            have HX1 := hid (Ext.trans HX.out hx)
            have HB1 := hid (HB.out.later hx)
            clear hx
            go_wp2_with fail
            refine region_upto 14 mixed rfl (by kernel_rfl) (by kernel_rfl) (by kernel_rfl) (kV (lr17 G g9 c9 i y h1 h2 s1 k0 f n1 n2)) (kV_keep _) (forall_ops ⟨?_, ?_, ?_, ?_, ?_, ?_, ?_, ?_, ?_, ?_, ?_, ?_, ?_, ?_, trivial⟩) ?_
            · intro a w hk
              have s13 : a.tmps.getD 13 undef = .pointer (some ⟨G, 0, none⟩) := hk.was 13 (by kernel_rfl) rfl
              refine step_val (v := .pointer (some ⟨G, 2, none⟩)) (w' := w) rfl ?_ (Ext.refl w) rfl
              go_simp
            · intro a w hk
              have s96 := hk.eq_ 0 96 (by kernel_rfl) rfl
              refine step_val (v := .int .u32 ((y.c).toNat : Nat)) (w' := w) rfl ?_ (Ext.refl w) rfl
              have hc := (HB1.out.later hk.ext).at_ 2 (by omega)
              go_simp
              rfl
            · intro a w hk
              have s16 : a.tmps.getD 16 undef = .int .u32 (h1.toNat : Nat) := hk.was 16 (by kernel_rfl) rfl
              exact step_move rfl rfl s16 rfl
            · intro a w hk
              have s17 : a.tmps.getD 17 undef = .int .u32 (h2.toNat : Nat) := hk.was 17 (by kernel_rfl) rfl
              exact step_move rfl rfl s17 rfl
            · intro a w hk
              have s98 := hk.eq_ 2 98 (by kernel_rfl) rfl
              have s99 := hk.eq_ 3 99 (by kernel_rfl) rfl
              refine step_val (v := .int .u32 ((s1).toNat : Nat)) (w' := w) rfl ?_ (Ext.refl w) rfl
              obtain ⟨e1, e2, e3, e4, e5, e6, e7⟩ := HE.out
              have l1 := wlt h1
              have l2 := wlt h2
              go_simp
              exact (wrapU _).trans e1
            · intro a w hk
              have s9 : a.tmps.getD 9 undef = .slice (some ⟨g9, 0, none⟩) 40 c9 := hk.was 9 (by kernel_rfl) rfl
              exact step_move rfl rfl s9 rfl
            · intro a w hk
              have s15 : a.tmps.getD 15 undef = .int .i64 (i : Nat) := hk.was 15 (by kernel_rfl) rfl
              exact step_move rfl rfl s15 rfl
            · intro a w hk
              have s102 := hk.eq_ 6 102 (by kernel_rfl) rfl
              refine step_val (v := .int .i64 (2 * (i : Int))) (w' := w) rfl ?_ (Ext.refl w) rfl
              have hi16 : (i : Int) < 16 := by have := HI.out; omega
              go_simp
              exact wrap64 (by omega) (by omega)
            · intro a w hk
              have s103 := hk.eq_ 7 103 (by kernel_rfl) rfl
              refine step_val (v := .int .i64 (2 * (i : Int) + 8)) (w' := w) rfl ?_ (Ext.refl w) rfl
              have hi16 : (i : Int) < 16 := by have := HI.out; omega
              go_simp
              exact wrap64 (by omega) (by omega)
            · intro a w hk
              have s101 := hk.eq_ 5 101 (by kernel_rfl) rfl
              have s104 := hk.eq_ 8 104 (by kernel_rfl) rfl
              refine step_val (v := .pointer (some ⟨g9, 8 + 2 * i, none⟩)) (w' := w) rfl ?_ (Ext.refl w) rfl
              have hi16 : (i : Int) < 16 := by have := HI.out; omega
              have hi40 : 2 * (i : Int) + 8 < 40 := by omega
              go_simp
              rw [if_pos (by omega), show (2 * (i : Int) + 8).toNat = 8 + 2 * i by omega]
            · intro a w hk
              have s105 := hk.eq_ 9 105 (by kernel_rfl) rfl
              refine step_val (v := .int .u32 ((k0).toNat : Nat)) (w' := w) rfl ?_ (Ext.refl w) rfl
              have hc := cell_at (Ext.trans HX1.out hk.ext) HKK0.out
              go_simp
            · intro a w hk
              have s100 := hk.eq_ 4 100 (by kernel_rfl) rfl
              have s106 := hk.eq_ 10 106 (by kernel_rfl) rfl
              refine step_val (v := .int .u32 ((f).toNat : Nat)) (w' := w) rfl ?_ (Ext.refl w) rfl
              obtain ⟨e1, e2, e3, e4, e5, e6, e7⟩ := HE.out
              have l1 := wlt h1
              have l2 := wlt h2
              go_simp
              exact (wrapU _).trans e2
            · intro a w hk
              have s97 := hk.eq_ 1 97 (by kernel_rfl) rfl
              have s107 := hk.eq_ 11 107 (by kernel_rfl) rfl
              refine step_val (v := .int .u32 ((n1).toNat : Nat)) (w' := w) rfl ?_ (Ext.refl w) rfl
              obtain ⟨e1, e2, e3, e4, e5, e6, e7⟩ := HE.out
              have l1 := wlt h1
              have l2 := wlt h2
              go_simp
            · intro a w hk
              have s108 := hk.eq_ 12 108 (by kernel_rfl) rfl
              exact step_call rfl rfl (by simp only [List.map_toArray, List.map_cons, List.map_nil, Act.eval, s108] <;> rfl) cf21 (HR1.out w) (fun e w1 h => retE e w1 h)
            · intro a w3 hf
              have s96 := hf.eq_ 0 96 (by kernel_rfl) rfl
              have s97 := hf.eq_ 1 97 (by kernel_rfl) rfl
              have s98 := hf.eq_ 2 98 (by kernel_rfl) rfl
              have s99 := hf.eq_ 3 99 (by kernel_rfl) rfl
              have s100 := hf.eq_ 4 100 (by kernel_rfl) rfl
              have s101 := hf.eq_ 5 101 (by kernel_rfl) rfl
              have s102 := hf.eq_ 6 102 (by kernel_rfl) rfl
              have s103 := hf.eq_ 7 103 (by kernel_rfl) rfl
              have s104 := hf.eq_ 8 104 (by kernel_rfl) rfl
              have s105 := hf.eq_ 9 105 (by kernel_rfl) rfl
              have s106 := hf.eq_ 10 106 (by kernel_rfl) rfl
              have s107 := hf.eq_ 11 107 (by kernel_rfl) rfl
              have s108 := hf.eq_ 12 108 (by kernel_rfl) rfl
              have s109 := hf.eq_ 13 109 (by kernel_rfl) rfl
              have hx := hf.ext
              have e := hf.frame
              clear hf
              simp only [List.take_succ_cons, List.take_zero, regFrame, Act.put, List.setIfInBounds_toArray, List.set_cons_zero, List.set_cons_succ, s96, s97, s98, s99, s100, s101, s102, s103, s104, s105, s106, s107, s108, s109] at e
              clear s96 s97 s98 s99 s100 s101 s102 s103 s104 s105 s106 s107 s108 s109
              subst e
              simp only [List.drop_succ_cons, List.drop_zero]
              have HX2 := hid (Ext.trans HX1.out hx)
              have HB2 := hid (HB1.out.later hx)
              clear hx
              go_wp2_with fail
              refine region_upto 15 mixed rfl (by kernel_rfl) (by kernel_rfl) (by kernel_rfl) (kV (lr18 G g9 c9 i y h1 h2 d2 s2 k1 gg n3 n4)) (kV_keep _) (forall_ops ⟨?_, ?_, ?_, ?_, ?_, ?_, ?_, ?_, ?_, ?_, ?_, ?_, ?_, ?_, ?_, trivial⟩) ?_
              · intro a w hk
                have s13 : a.tmps.getD 13 undef = .pointer (some ⟨G, 0, none⟩) := hk.was 13 (by kernel_rfl) rfl
                refine step_val (v := .pointer (some ⟨G, 3, none⟩)) (w' := w) rfl ?_ (Ext.refl w) rfl
                go_simp
              · intro a w hk
                have s110 := hk.eq_ 0 110 (by kernel_rfl) rfl
                refine step_val (v := .int .u32 ((y.d).toNat : Nat)) (w' := w) rfl ?_ (Ext.refl w) rfl
                have hc := (HB2.out.later hk.ext).at_ 3 (by omega)
                go_simp
                rfl
              · intro a w hk
                have s111 := hk.eq_ 1 111 (by kernel_rfl) rfl
                exact step_call rfl rfl (by simp only [List.map_toArray, List.map_cons, List.map_nil, Act.eval, s111] <;> rfl) cf21 (HR2.out w) (fun e w1 h => retE e w1 h)
              · intro a w hk
                have s16 : a.tmps.getD 16 undef = .int .u32 (h1.toNat : Nat) := hk.was 16 (by kernel_rfl) rfl
                exact step_move rfl rfl s16 rfl
              · intro a w hk
                have s17 : a.tmps.getD 17 undef = .int .u32 (h2.toNat : Nat) := hk.was 17 (by kernel_rfl) rfl
                exact step_move rfl rfl s17 rfl
              · intro a w hk
                have s114 := hk.eq_ 4 114 (by kernel_rfl) rfl
                refine step_val (v := .int .u32 ((d2).toNat : Nat)) (w' := w) rfl ?_ (Ext.refl w) rfl
                obtain ⟨e1, e2, e3, e4, e5, e6, e7⟩ := HE.out
                have l1 := wlt h1
                have l2 := wlt h2
                go_simp
                exact (wrapU _).trans e3
              · intro a w hk
                have s113 := hk.eq_ 3 113 (by kernel_rfl) rfl
                have s115 := hk.eq_ 5 115 (by kernel_rfl) rfl
                refine step_val (v := .int .u32 ((s2).toNat : Nat)) (w' := w) rfl ?_ (Ext.refl w) rfl
                obtain ⟨e1, e2, e3, e4, e5, e6, e7⟩ := HE.out
                have l1 := wlt h1
                have l2 := wlt h2
                go_simp
                exact (wrapU _).trans e4
              · intro a w hk
                have s9 : a.tmps.getD 9 undef = .slice (some ⟨g9, 0, none⟩) 40 c9 := hk.was 9 (by kernel_rfl) rfl
                exact step_move rfl rfl s9 rfl
              · intro a w hk
                have s15 : a.tmps.getD 15 undef = .int .i64 (i : Nat) := hk.was 15 (by kernel_rfl) rfl
                exact step_move rfl rfl s15 rfl
              · intro a w hk
                have s118 := hk.eq_ 8 118 (by kernel_rfl) rfl
                refine step_val (v := .int .i64 (2 * (i : Int))) (w' := w) rfl ?_ (Ext.refl w) rfl
                have hi16 : (i : Int) < 16 := by have := HI.out; omega
                go_simp
                exact wrap64 (by omega) (by omega)
              · intro a w hk
                have s119 := hk.eq_ 9 119 (by kernel_rfl) rfl
                refine step_val (v := .int .i64 (2 * (i : Int) + 9)) (w' := w) rfl ?_ (Ext.refl w) rfl
                have hi16 : (i : Int) < 16 := by have := HI.out; omega
                go_simp
                exact wrap64 (by omega) (by omega)
              · intro a w hk
                have s117 := hk.eq_ 7 117 (by kernel_rfl) rfl
                have s120 := hk.eq_ 10 120 (by kernel_rfl) rfl
                refine step_val (v := .pointer (some ⟨g9, 9 + 2 * i, none⟩)) (w' := w) rfl ?_ (Ext.refl w) rfl
                have hi16 : (i : Int) < 16 := by have := HI.out; omega
                have hi40 : 2 * (i : Int) + 9 < 40 := by omega
                go_simp
                rw [if_pos (by omega), show (2 * (i : Int) + 9).toNat = 9 + 2 * i by omega]
              · intro a w hk
                have s121 := hk.eq_ 11 121 (by kernel_rfl) rfl
                refine step_val (v := .int .u32 ((k1).toNat : Nat)) (w' := w) rfl ?_ (Ext.refl w) rfl
                have hc := cell_at (Ext.trans HX2.out hk.ext) HKK1.out
                go_simp
              · intro a w hk
                have s116 := hk.eq_ 6 116 (by kernel_rfl) rfl
                have s122 := hk.eq_ 12 122 (by kernel_rfl) rfl
                refine step_val (v := .int .u32 ((gg).toNat : Nat)) (w' := w) rfl ?_ (Ext.refl w) rfl
                obtain ⟨e1, e2, e3, e4, e5, e6, e7⟩ := HE.out
                have l1 := wlt h1
                have l2 := wlt h2
                go_simp
                exact (wrapU _).trans e5
              · intro a w hk
                have s112 := hk.eq_ 2 112 (by kernel_rfl) rfl
                have s123 := hk.eq_ 13 123 (by kernel_rfl) rfl
                refine step_val (v := .int .u32 ((n4).toNat : Nat)) (w' := w) rfl ?_ (Ext.refl w) rfl
                obtain ⟨e1, e2, e3, e4, e5, e6, e7⟩ := HE.out
                have l1 := wlt h1
                have l2 := wlt h2
                go_simp
              · intro a w4 hf
                have s110 := hf.eq_ 0 110 (by kernel_rfl) rfl
                have s111 := hf.eq_ 1 111 (by kernel_rfl) rfl
                have s112 := hf.eq_ 2 112 (by kernel_rfl) rfl
                have s113 := hf.eq_ 3 113 (by kernel_rfl) rfl
                have s114 := hf.eq_ 4 114 (by kernel_rfl) rfl
                have s115 := hf.eq_ 5 115 (by kernel_rfl) rfl
                have s116 := hf.eq_ 6 116 (by kernel_rfl) rfl
                have s117 := hf.eq_ 7 117 (by kernel_rfl) rfl
                have s118 := hf.eq_ 8 118 (by kernel_rfl) rfl
                have s119 := hf.eq_ 9 119 (by kernel_rfl) rfl
                have s120 := hf.eq_ 10 120 (by kernel_rfl) rfl
                have s121 := hf.eq_ 11 121 (by kernel_rfl) rfl
                have s122 := hf.eq_ 12 122 (by kernel_rfl) rfl
                have s123 := hf.eq_ 13 123 (by kernel_rfl) rfl
                have s124 := hf.eq_ 14 124 (by kernel_rfl) rfl
                have hx := hf.ext
                have e := hf.frame
                clear hf
                simp only [List.take_succ_cons, List.take_zero, regFrame, Act.put, List.setIfInBounds_toArray, List.set_cons_zero, List.set_cons_succ, s110, s111, s112, s113, s114, s115, s116, s117, s118, s119, s120, s121, s122, s123, s124] at e
                clear s110 s111 s112 s113 s114 s115 s116 s117 s118 s119 s120 s121 s122 s123 s124
                subst e
                simp only [List.drop_succ_cons, List.drop_zero]
                have HX3 := hid (Ext.trans HX2.out hx)
                have HB3 := hid (HB2.out.later hx)
                have c0 := (HB2.out.later hx).at_ 0 (by omega)
                have c1 := (HB2.out.later hx).at_ 1 (by omega)
                have HB4 := hid ((HB2.out.later hx).put ⟨n2, n4, y.a, y.b⟩)
                have HX4 := hid (show Below G w6 (w4.setRow G (W4.mk n2 n4 y.a y.b).cells) by have := HGE.out; subst this; exact Below.setRow_ (Ext.trans HX2.out hx) (Nat.le_refl _) _)
                clear hx
                go_wp2_with (refine wpList_store_row rfl 44 (.tmp 13) (.tmp 131) rfl G (W4.mk n2 n4 y.a y.b).cells rfl rfl 44 _ HB3.out (W4.size44 _) rfl (W4.all _) ?_)
                go_wp2_with fail
                go_roundw
                case rel => exact ⟨i + 1, by omega, by go_num, by rw [HST.out]; exact HB4.out, HX4.out⟩
                case measure => simp [intOf]; omega
        · obtain rfl : i = 16 := by omega
          have HB1 := hid hb
          have HZ := hid (show outL (y.cross.xor ks 4) = blockL ks ss false m by rw [← hy, ← HRE.out]; rfl)
          have HXW := hid (show Ext w6 wr by have := HGE.out; subst this; exact hx)
          have HXX := hid (Ext.trans HX6.out HXW.out)
          obtain ⟨w8, rfl⟩ : ∃ x, x = wr := ⟨_, rfl⟩
          have HBL := hid (fun w hG hT h => block_any p c12 (some ⟨b, o, none⟩) ks ss false m w hG hT h HC12.out)
          obtain ⟨Z, hZe⟩ : ∃ Z, y.cross.xor ks 4 = Z := ⟨_, rfl⟩
          have HZA := hid (fun j hj => z_at y ks j hj)
          rw [hZe] at HZ HZA
          clear hb hx hy hlt hi hZe
          go_wp2_with fail
          refine (HBL.out _ (HG6.out.later HXW.out) (HT6.out.later HXW.out) (HM6.out.later HXW.out)).mono ?_
          rw [← HZ.out]
          rintro e w9 ⟨v20, rfl, ho, hx9⟩
          obtain ⟨A20, c20, rfl, hr20, _⟩ := ho.rdn (n := 16) (by rw [← outP_full, outP_length])
          have HR20 := hid hr20
          have HX1 := hid (Ext.trans HXW.out hx9)
          have HB1 := hid (HB1.out.later hx9)
          clear ho hr20 HXW
          go_wp2_with fail
          generalize ((16 : Nat) : Int) = N16
          have HX98 := hid (show Ext w8 w9 from hx9)
          clear hx9
          go_loopw [22, 23] (fun u i wv => ∃ j : Nat, j ≤ 4 ∧ u = .string (str (outP Z j)) ∧ i = .int .i64 j ∧ Ext w9 wv) (fun _ i _ => 4 - (intOf i).toNat)
          case atStart => exact ⟨0, by omega, rfl, rfl, Ext.refl _⟩
          case round =>
            obtain ⟨j, hj, rfl, rfl, hx⟩ := hrel
            by_cases hlt : j < 4
            · have hza := HZA.out j hlt
              have hsu := outP_succ Z j
              have hck := HK6.out (4 + j) (by omega)
              obtain ⟨y1, hy1⟩ : ∃ q, y.at ((j + 2) % 4) = q := ⟨_, rfl⟩
              obtain ⟨y2, hy2⟩ : ∃ q, ks.getD (4 + j) 0 = q := ⟨_, rfl⟩
              rw [hy1, hy2] at hza
              rw [hy2] at hck
              rw [hza] at hsu
              have hxz := w_xor y1 y2
              obtain ⟨z, hz⟩ : ∃ z, y1 ^^^ y2 = z := ⟨_, rfl⟩
              rw [hz] at hsu hxz
              have HPU := hid (fun W => (rputL32_any ((z.toNat : Nat) : Int) W : Calls Tryd.prog 23 #[.int .u32 (z.toNat : Nat)] W (RetB W (outB z))))
              have HY1 := hid hy1
              have HSU := hid hsu
              have HXZ := hid hxz
              have HCK := hid hck
              have HJ := hid hlt
              have HXS := hid hx
              have HB1 := hid (HB1.out.later hx)
              have HX1 := hid (Ext.trans HX1.out hx)
              clear hza hsu hxz hz hy2 hy1 hck hx
              go_wp2_with fail
              refine region_upto 15 mixed rfl (by kernel_rfl) (by kernel_rfl) (by kernel_rfl) (kV (lr25 G g9 c9 j Z y1 y2 z)) (kV_keep _) (forall_ops ⟨?_, ?_, ?_, ?_, ?_, ?_, ?_, ?_, ?_, ?_, ?_, ?_, ?_, ?_, ?_, trivial⟩) ?_
              · intro a w hk
                have s22 : a.tmps.getD 22 undef = .string (str (outP Z j)) := hk.was 22 (by kernel_rfl) rfl
                exact step_move rfl rfl s22 rfl
              · intro a w hk
                have s23 : a.tmps.getD 23 undef = .int .i64 (j : Nat) := hk.was 23 (by kernel_rfl) rfl
                exact step_move rfl rfl s23 rfl
              · intro a w hk
                have s143 := hk.eq_ 1 143 (by kernel_rfl) rfl
                refine step_val (v := .int .i64 ((j : Int) + 2)) (w' := w) rfl ?_ (Ext.refl w) rfl
                have hj4 : (j : Int) < 4 := by have := HJ.out; omega
                go_simp
                exact wrap64 (by omega) (by omega)
              · intro a w hk
                have s144 := hk.eq_ 2 144 (by kernel_rfl) rfl
                refine step_val (v := .int .i64 (((j + 2) % 4 : Nat))) (w' := w) rfl ?_ (Ext.refl w) rfl
                have hj4 := HJ.out
                rcases (show j = 0 ∨ j = 1 ∨ j = 2 ∨ j = 3 by omega) with rfl | rfl | rfl | rfl <;> (go_simp <;> rfl)
              · intro a w hk
                have s13 : a.tmps.getD 13 undef = .pointer (some ⟨G, 0, none⟩) := hk.was 13 (by kernel_rfl) rfl
                have s145 := hk.eq_ 3 145 (by kernel_rfl) rfl
                refine step_val (v := .pointer (some ⟨G, (j + 2) % 4, none⟩)) (w' := w) rfl ?_ (Ext.refl w) rfl
                have hj4 := HJ.out
                rcases (show j = 0 ∨ j = 1 ∨ j = 2 ∨ j = 3 by omega) with rfl | rfl | rfl | rfl <;> (go_simp <;> rfl)
              · intro a w hk
                have s146 := hk.eq_ 4 146 (by kernel_rfl) rfl
                refine step_val (v := .int .u32 ((y1).toNat : Nat)) (w' := w) rfl ?_ (Ext.refl w) rfl
                have hc := (HB1.out.later hk.ext).at_ ((j + 2) % 4) (by omega)
                rw [HY1.out] at hc
                go_simp
              · intro a w hk
                have s9 : a.tmps.getD 9 undef = .slice (some ⟨g9, 0, none⟩) 40 c9 := hk.was 9 (by kernel_rfl) rfl
                exact step_move rfl rfl s9 rfl
              · intro a w hk
                have s23 : a.tmps.getD 23 undef = .int .i64 (j : Nat) := hk.was 23 (by kernel_rfl) rfl
                exact step_move rfl rfl s23 rfl
              · intro a w hk
                have s149 := hk.eq_ 7 149 (by kernel_rfl) rfl
                refine step_val (v := .int .i64 ((j : Int) + 4)) (w' := w) rfl ?_ (Ext.refl w) rfl
                have hj4 : (j : Int) < 4 := by have := HJ.out; omega
                go_simp
                exact wrap64 (by omega) (by omega)
              · intro a w hk
                have s148 := hk.eq_ 6 148 (by kernel_rfl) rfl
                have s150 := hk.eq_ 8 150 (by kernel_rfl) rfl
                refine step_val (v := .pointer (some ⟨g9, 4 + j, none⟩)) (w' := w) rfl ?_ (Ext.refl w) rfl
                have hj4 := HJ.out
                rcases (show j = 0 ∨ j = 1 ∨ j = 2 ∨ j = 3 by omega) with rfl | rfl | rfl | rfl <;> (go_simp <;> rfl)
              · intro a w hk
                have s151 := hk.eq_ 9 151 (by kernel_rfl) rfl
                refine step_val (v := .int .u32 ((y2).toNat : Nat)) (w' := w) rfl ?_ (Ext.refl w) rfl
                have hc := cell_at (Ext.trans HX1.out hk.ext) HCK.out
                go_simp
              · intro a w hk
                have s147 := hk.eq_ 5 147 (by kernel_rfl) rfl
                have s152 := hk.eq_ 10 152 (by kernel_rfl) rfl
                refine step_val (v := .int .u32 ((z).toNat : Nat)) (w' := w) rfl ?_ (Ext.refl w) rfl
                have hz := HXZ.out
                go_simp
              · intro a w hk
                have s153 := hk.eq_ 11 153 (by kernel_rfl) rfl
                exact step_call rfl rfl (by simp only [List.map_toArray, List.map_cons, List.map_nil, Act.eval, s153] <;> rfl) cf23 (HPU.out w) (fun e w1 h => retB4 e w1 h)
              · intro a w hk
                obtain ⟨A154, c154, s154, r154⟩ := hk.byt_ 12 154 (by kernel_rfl) rfl
                exact step_conv rfl rfl s154 (strq r154) rfl
              · intro a w hk
                have s142 := hk.eq_ 0 142 (by kernel_rfl) rfl
                have s155 := hk.eq_ 13 155 (by kernel_rfl) rfl
                refine step_val (v := .string (str (outP Z j ++ outB z))) (w' := w) rfl ?_ (Ext.refl w) rfl
                have hj4 := HJ.out
                go_simp
                rw [if_neg (by rw [str_size, str_size, outP_length, outB_length]; omega), str_cat]
              · intro a w9 hf
                have s142 := hf.eq_ 0 142 (by kernel_rfl) rfl
                have s143 := hf.eq_ 1 143 (by kernel_rfl) rfl
                have s144 := hf.eq_ 2 144 (by kernel_rfl) rfl
                have s145 := hf.eq_ 3 145 (by kernel_rfl) rfl
                have s146 := hf.eq_ 4 146 (by kernel_rfl) rfl
                have s147 := hf.eq_ 5 147 (by kernel_rfl) rfl
                have s148 := hf.eq_ 6 148 (by kernel_rfl) rfl
                have s149 := hf.eq_ 7 149 (by kernel_rfl) rfl
                have s150 := hf.eq_ 8 150 (by kernel_rfl) rfl
                have s151 := hf.eq_ 9 151 (by kernel_rfl) rfl
                have s152 := hf.eq_ 10 152 (by kernel_rfl) rfl
                have s153 := hf.eq_ 11 153 (by kernel_rfl) rfl
                obtain ⟨A154, c154, s154, r154⟩ := hf.val 12 154 (by kernel_rfl) rfl
                have s155 := hf.eq_ 13 155 (by kernel_rfl) rfl
                have s156 := hf.eq_ 14 156 (by kernel_rfl) rfl
                have hx := hf.ext
                have e := hf.frame
                clear hf
                simp only [List.take_succ_cons, List.take_zero, regFrame, Act.put, List.setIfInBounds_toArray, List.set_cons_zero, List.set_cons_succ, s142, s143, s144, s145, s146, s147, s148, s149, s150, s151, s152, s153, s154, s155, s156] at e
                clear s142 s143 s144 s145 s146 s147 s148 s149 s150 s151 s152 s153 s154 s155 s156
                subst e
                simp only [List.drop_succ_cons, List.drop_zero]
                have HX9 := hid (Ext.trans HXS.out hx)
                clear hx
                go_wp2_with fail
                go_roundw
                case rel => exact ⟨j + 1, by omega, by rw [HSU.out], by go_num, HX9.out⟩
                case measure => simp [intOf]; omega
            · obtain rfl : j = 4 := by omega
              have HXE := hid (Ext.trans HXX.out (Ext.trans HX98.out hx))
              have hst := strq (c := c20) (HR20.out.later hx)
              rw [outP_full]
              have HSTQ := hid hst
              clear hx hst
              go_wp2_with (rw [HSTQ.out]; simp only [Result.andThen]; rw [Oper.upon_value])
              go_ret
              exact ⟨by simp, HXE.out⟩
end Go.Proofs.YtbdncalllfpodaaDoor
