/- The law on XTEA by half rounds, walked; own text of the verifier. -/
import Derived.Test.YtgkfohgeelfceaaDoorX15
namespace Go.Proofs.YtgkfohgeelfceaaDoor
open Go.RowKit
theorem and3 (n : Int) (h : 0 ≤ n ∧ n < 4294967296) : bits .and .u32 n 3 = n % 4 := by
  obtain ⟨M, rfl⟩ := Int.eq_ofNat_of_zero_le h.1
  rw [show (3 : Int) = ((3 : Nat) : Int) from rfl, u32_and_nat M 3 (by omega) (by omega), show (3 : Nat) = 2 ^ 2 - 1 from rfl, Nat.and_two_pow_sub_one_eq_mod]
  omega
theorem wrap_eq {a b : Int} (h : a % 4294967296 = b) : IntKind.u32.wrap a = b := by rw [IntKind.wrap_u32']; exact h
theorem build_nine {o : Oper} {a : Act} {w : World} {x : W2} {t u : Tmp} (h1 : a.tmps.getD t undef = .int .u32 (x.a.toNat : Nat)) (h2 : a.tmps.getD u undef = .int .u32 (x.b.toNat : Nat)) (ho : o.op = .build 58 #[(0, .tmp t), (1, .tmp u)] := by rfl) :
    (execOp a.eval o).run Tryd.prog w = .ok (.value (.agg x.cells)) w := by
  have e : (Instr.build 58 #[(0, .int .u32 (x.a.toNat : Nat)), (1, .int .u32 (x.b.toNat : Nat))]).run Tryd.prog w = .ok (.agg x.cells) w := by kernel_rfl
  simp only [execOp, ho, Act.eval, List.map_toArray, List.map_cons, List.map_nil, h1, h2, Sem.run_bind, e, Sem.run_pure, Result.andThen]
/-- A block that holds words, of any type. -/
def BE (e : TypeId) (w : World) (g : Nat) (ks : List UInt32) : Prop := w.heap[g]? = some (.cells (cN .u32 (nW ks)).toArray e (0, 0))
section
variable {e : TypeId} {w w' : World} {g : Nat} {ks : List UInt32}
theorem BE.lt (h : BE e w g ks) : g < w.heap.size := (Array.getElem?_eq_some_iff.1 h).1
theorem BE.later (h : BE e w g ks) (hx : Ext w w') : BE e w' g ks := (hx.block g h.lt).trans h
theorem BE.cell (h : BE e w g ks) (j : Nat) (hj : j < ks.length) : w.cell? ⟨g, j, none⟩ = some (.int .u32 ((ks.getD j 0).toNat : Nat)) := by
  rw [cell_of_heap h]
  have := cN_get .u32 (nW ks) j (by rw [nW_length]; exact hj)
  rw [nW_get ks j hj] at this
  simpa using this
theorem BE.frozen (h : BE e w g ks) (k : Nat) : w.frozen? ⟨g, k, none⟩ = false := frozen_of_row w g k _ e h
theorem BE.set_ (h : BE e w g ks) (k : Nat) (x : UInt32) : BE e (w.setCell ⟨g, k, none⟩ (.int .u32 (x.toNat : Nat))) g (ks.set k x) := by
  have := heap_setCell_same w g k _ e (.int .u32 (x.toNat : Nat)) h
  unfold BE
  rw [this, ← nW_set]
  simp [cN, List.map_set]
end
def ni12 (Hz : Nat) (P : List UInt8) : List K := [.byc 8 (P), .byt 4 (part P 0), .eq (.int .u64 ((inW .x P).a.toNat : Nat)), .eq (.int .u32 ((inW .x P).a.toNat : Nat)), .byc 8 (P), .byt 4 (part P 1), .eq (.int .u64 ((inW .x P).b.toNat : Nat)), .eq (.int .u32 ((inW .x P).b.toNat : Nat)), .eq (.agg (inW .x P).cells), .new Hz #[.int .u32 0, .int .u32 0] 58, .any]
def ni21e (g11 g9 i q : Nat) (y : W2) (S kq X1 X2 X3 X4 X5 X6 X7 : UInt32) : List K := [.eq (.int .i64 i), .eq (.int .i64 0), .eq (.int .i64 i), .eq (.int .i64 0), .eq (.pointer (some ⟨g11, 0, none⟩)), .eq (.int .u32 (y.a.toNat : Nat)), .eq (.int .u32 (y.b.toNat : Nat)), .eq (.int .u32 (X6.toNat : Nat)), .eq (.int .u32 (y.b.toNat : Nat)), .eq (.int .u32 (X7.toNat : Nat)), .eq (.int .u32 (X1.toNat : Nat)), .eq (.int .u32 (y.b.toNat : Nat)), .eq (.int .u32 (X2.toNat : Nat)), .eq (.int .u32 (S.toNat : Nat)), .eq (.int .u32 (q : Nat)), .eq (.pointer (some ⟨g9, q, none⟩)), .eq (.int .u32 (kq.toNat : Nat)), .eq (.int .u32 (X3.toNat : Nat)), .eq (.int .u32 (X4.toNat : Nat)), .eq (.int .u32 (X5.toNat : Nat)), .eq (.pointer (some ⟨g11, 0, none⟩)), .any]
def ni21o (g11 g9 i q : Nat) (y : W2) (S kq X1 X2 X3 X4 X5 X6 X7 : UInt32) : List K := [.eq (.int .i64 i), .eq (.int .i64 1), .eq (.int .i64 i), .eq (.int .i64 1), .eq (.pointer (some ⟨g11, 1, none⟩)), .eq (.int .u32 (y.b.toNat : Nat)), .eq (.int .u32 (y.a.toNat : Nat)), .eq (.int .u32 (X6.toNat : Nat)), .eq (.int .u32 (y.a.toNat : Nat)), .eq (.int .u32 (X7.toNat : Nat)), .eq (.int .u32 (X1.toNat : Nat)), .eq (.int .u32 (y.a.toNat : Nat)), .eq (.int .u32 (X2.toNat : Nat)), .eq (.int .u32 (S.toNat : Nat)), .eq (.int .u32 (q : Nat)), .eq (.pointer (some ⟨g9, q, none⟩)), .eq (.int .u32 (kq.toNat : Nat)), .eq (.int .u32 (X3.toNat : Nat)), .eq (.int .u32 (X4.toNat : Nat)), .eq (.int .u32 (X5.toNat : Nat)), .eq (.pointer (some ⟨g11, 1, none⟩)), .any]
def ni25 (g11 : Nat) (y : W2) : List K := [.byt 8 ((put .x y.a ++ put .x y.b)), .eq (.string (str ((put .x y.a ++ put .x y.b)))), .eq (.pointer (some ⟨g11, 0, none⟩)), .eq (.int .u32 (y.a.toNat : Nat)), .byt 4 (put .x y.a), .eq (.string (str (put .x y.a))), .eq (.pointer (some ⟨g11, 1, none⟩)), .eq (.int .u32 (y.b.toNat : Nat)), .byt 4 (put .x y.b), .eq (.string (str (put .x y.b))), .eq (.string (str (put .x y.a ++ put .x y.b))), .eq (.bool true), .eq (.bool true)]
theorem IsSmall.keeps_hi {g : Nat} {w0 w w' : World} {p : Nat} {t : T3} {key : List UInt8} {ah : W2} (h0 : IsSmall w0 p t ah (keysOf t key)) (hx : Ext w0 w) (hk : Keeps g w w') (hS : w0.heap.size ≤ g) : IsSmall w' p t ah (keysOf t key) := by
  obtain ⟨b, o, c, h⟩ := h0
  have hp : p < w0.heap.size := World.block_lt_of_cell? w0 ⟨p, 0, none⟩ h.tag
  have hb : b < w0.heap.size := World.block_lt_of_cell? w0 ⟨b, o + 0, none⟩ (h.at_ 0 (by rw [keysOf_length]; exact nKeys_pos t))
  exact ⟨b, o, c, (h.later hx).keeps hk (by omega) (by omega)⟩
set_option maxRecDepth 100000 in
set_option maxHeartbeats 4000000 in
theorem nine_walk (a0 : Option Addr) (len0 cap0 : Nat) (z0 : List Int) (a1 : Option Addr) (len1 cap1 : Nat) (z1 : List Int) (w : World) (w0 : IsRow .u8 w a0 len0 cap0 z0) (w1 : IsRow .u8 w a1 len1 cap1 z1) (hG : GRows w) :
    Calls Tryd.prog 11 #[.slice a0 len0 cap0, .slice a1 len1 cap1] w fun e w' => e = .returned (.bool true) ∧ Below w.heap.size w w' := by
  obtain ⟨kb, hrk, hm0, _⟩ := w0.rdc
  obtain ⟨pb, hrp, hm1, _⟩ := w1.rdc
  unfold maxLen at hm0 hm1
  have HG := hid hG
  have HK0 := hid hrk
  have HP0 := hid hrp
  have HM0 := hid hm0
  have HM1 := hid hm1
  clear hG hrk hrp hm0 hm1 w0 w1
  go_enter Tryd.func11, Tryd.ntmps11
  go_wp2_with fail
  refine (known_any _ HG.out).mono ?_
  rintro e w1 ⟨rfl, hx1⟩
  have HX1 := hid hx1
  clear hx1
  go_wp2_with fail
  refine (by_any a0 16 len0 cap0 kb _ (HK0.out.later HX1.out) (by omega) HM0.out).mono ?_
  rintro e w2 ⟨v5, rfl, ho, hx⟩
  obtain ⟨g5, c5, rfl, _, hl5, hc5, hm5, _, hr5⟩ := ho.at_ (n := 16) (byL_len _ _) (by omega)
  have HX2 := hid (Ext.trans HX1.out hx)
  have HR5 := hid hr5
  clear ho hx hr5 HX1 HK0
  go_wp2_with fail
  refine (by_any a1 8 len1 cap1 pb _ (HP0.out.later HX2.out) (by omega) HM1.out).mono ?_
  rintro e w3 ⟨v6, rfl, ho, hx⟩
  have hz3 := Below.size hx
  obtain ⟨g6, c6, rfl, _, hl6, hc6, hm6, _, hr6⟩ := ho.at_ (n := 8) (byL_len _ _) (by omega)
  have HX3 := hid (Ext.trans HX2.out hx)
  have HR5 := hid (HR5.out.later hx)
  have HR6 := hid hr6
  clear ho hx hr6 HX2 HP0
  have HP8 := hid (byL_len 8 pb)
  obtain ⟨P, hP⟩ : ∃ P, byL 8 pb = P := ⟨_, rfl⟩
  obtain ⟨key, hkey⟩ : ∃ key, byL 16 kb = key := ⟨_, rfl⟩
  rw [hP] at HP8 HR6
  rw [hkey] at HR5
  clear hP hkey
  go_wp2_with fail
  refine (new_any .x (some ⟨g5, 0, none⟩) c5 key _ HR5.out hc5 hm5).mono ?_
  rintro e w4 ⟨p7, rfl, hs, hx⟩
  have hz34 := Below.size hx
  have HS4 := hid hs
  have hx4 := Ext.trans HX3.out hx
  have hal := Ext.alloc w4 (.cells #[.int .u32 0, .int .u32 0, .int .u32 0, .int .u32 0] 57)
  have HX5 := hid (Ext.trans hx4 hal)
  have HS5 := hid (hs.later hal)
  have HR5 := hid ((HR5.out.later hx).later hal)
  have HR6 := hid ((HR6.out.later hx).later hal)
  have HBE := hid (show BE 57 (w4.alloc (.cells #[.int .u32 0, .int .u32 0, .int .u32 0, .int .u32 0] 57)) w4.heap.size (fillW (kw .x key) 4 0) from heap_alloc_new w4 _)
  have HC6 := hid hc6
  have HC5 := hid hc5
  have hz4 := Below.size hx4
  obtain ⟨g9, hg9⟩ : ∃ g, w4.heap.size = g := ⟨_, rfl⟩
  obtain ⟨W5, hW5⟩ : ∃ W, w4.alloc (.cells #[.int .u32 0, .int .u32 0, .int .u32 0, .int .u32 0] 57) = W := ⟨_, rfl⟩
  rw [hW5] at HX5 HS5 HR5 HR6 HBE
  rw [hg9] at HBE hz4 hz34
  have HAL := hid (hW5 ▸ hal : Ext w4 W5)
  have HG9 := hid hg9
  have HW5 := hid (And.intro hg9 hW5)
  have hl9 := HBE.out.lt
  clear hx hs hx4 hal hg9 hW5 HX3
  go_wp2_with fail
  rw [HW5.out.1, HW5.out.2]
  clear HW5
  go_loopw [10] (fun i wr => ∃ j : Nat, j ≤ 4 ∧ i = .int .i64 j ∧ BE 57 wr g9 (fillW (kw .x key) 4 j) ∧ Keeps g9 W5 wr ∧ Ext w wr) (fun i _ => 4 - (intOf i).toNat)
  case atStart => exact ⟨0, by omega, rfl, HBE.out, Keeps.refl _ _, HX5.out⟩
  case round =>
    clear HBE HX5
    obtain ⟨j, hj, rfl, hbe, hkp, hx⟩ := hrel
    by_cases hlt : j < 4
    · have hk : kw .x key j = wd .x (part key j) := rfl
      have hg5 : g5 ≠ g9 := by omega
      have hrp := rd_part (m := j) (HR5.out.keeps hkp hg5 (by have := hkp.size; omega)) (by omega)
      rw [Nat.zero_add] at hrp
      have hset := hbe.set_ j (kw .x key j)
      rw [fillW_set] at hset
      have hfz := hbe.frozen j
      have hcell := hbe.cell j (by rw [fillW_length]; exact hlt)
      obtain ⟨kq, hkq⟩ : ∃ kq, kw .x key j = kq := ⟨_, rfl⟩
      have hbg := fun c => big_wd .x (by decide) (some ⟨g5, 4 * j, none⟩) c wr.heap.size (part key j) wr hrp
      rw [hkq] at hset hk
      rw [← hk] at hbg
      have HBG := hid hbg
      have HSET := hid hset
      have HKP := hid (hkp.set j (.int .u32 (kq.toNat : Nat)))
      have HXS := hid (show Below w.heap.size w (wr.setCell ⟨g9, j, none⟩ (.int .u32 (kq.toNat : Nat))) from Below.setCell hx hz4 _)
      have hwr := wrap_w kq
      have hkl := wlt kq
      have hj4 : (j : Int) < 4 := by omega
      clear hbg hset hkp hx hk hkq hrp hbe
      go_wp2_with fail
      refine (HBG.out _).mono ?_
      rintro e w' ⟨rfl, rfl⟩
      go_wp2_with fail
      go_roundw
      case rel => exact ⟨j + 1, by omega, by go_num, HSET.out, HKP.out, HXS.out⟩
      case measure => simp [intOf]; omega
    · obtain rfl : j = 4 := by omega
      rw [fillW_full] at hbe
      have HKEY := hid (show BE 57 wr g9 (words .x key 4) from hbe)
      have HXL0 := hid hx
      have hksz := hkp.size
      have HR6 := hid (show Rd wr wr.heap.size (some ⟨g6, 0, none⟩) 8 P from HR6.out.keeps hkp (by omega) (by omega))
      have HS5 := hid (show IsSmall wr p7 .x (aheadOf .x key) (keysOf .x key) from IsSmall.keeps_hi HS4.out HAL.out hkp (by rw [HG9.out]; exact Nat.le_refl _))
      obtain ⟨Hz, hHz⟩ : ∃ H, wr.heap.size = H := ⟨_, rfl⟩
      have HZZ := hid (show Hz ≤ wr.heap.size by omega)
      have hz9 := Below.size hx
      clear hbe hkp hx HR5
      go_wp2_with fail
      refine region_upto 10 mixed rfl (by kernel_rfl) (by kernel_rfl) (by kernel_rfl) (kV (ni12 Hz P)) (kV_keep _) (forall_ops ⟨?_, ?_, ?_, ?_, ?_, ?_, ?_, ?_, ?_, ?_, trivial⟩) ?_
      · intro a w hk
        have s6 : a.tmps.getD 6 undef = .slice (some ⟨g6, 0, none⟩) 8 c6 := hk.was 6 (by kernel_rfl) rfl
        have k6 := HC6.out
        have r6 := (HR6.out).later hk.ext
        exact step_move rfl rfl s6 ⟨_, _, rfl, k6, r6⟩
      · intro a w hk
        obtain ⟨A46, c46, s46, k46, r46⟩ := hk.val 0 46 (by kernel_rfl) rfl
        exact step_slice_hi (l := 4) rfl rfl s46 rfl elem22 size22 (by omega) k46 r46 (fun _ h => h)
      · intro a w hk
        obtain ⟨A47, c47, s47, r47⟩ := hk.byt_ 1 47 (by kernel_rfl) rfl
        exact step_call rfl rfl (by simp only [List.map_toArray, List.map_cons, List.map_nil, Act.eval, s47] <;> rfl) cf23 (big_wd .x (by decide) A47 c47 w.heap.size (part P 0) w r47) (fun e w1 h => retE e w1 h)
      · intro a w hk
        have s48 := hk.eq_ 2 48 (by kernel_rfl) rfl
        refine step_val (v := .int .u32 ((inW .x P).a.toNat : Nat)) (w' := w) rfl ?_ (Ext.refl w) rfl
        have hb := wrap_w (inW .x P).a
        go_simp
      · intro a w hk
        have s6 : a.tmps.getD 6 undef = .slice (some ⟨g6, 0, none⟩) 8 c6 := hk.was 6 (by kernel_rfl) rfl
        have k6 := HC6.out
        have r6 := (HR6.out).later hk.ext
        exact step_move rfl rfl s6 ⟨_, _, rfl, k6, r6⟩
      · intro a w hk
        obtain ⟨A50, c50, s50, k50, r50⟩ := hk.val 4 50 (by kernel_rfl) rfl
        exact step_slice_lo (l := 4) rfl rfl s50 rfl elem22 size22 (by omega) k50 r50 (fun v h => show K.holds (.byt 4 (part P 1)) _ v by rw [part_one P HP8.out]; exact h)
      · intro a w hk
        obtain ⟨A51, c51, s51, r51⟩ := hk.byt_ 5 51 (by kernel_rfl) rfl
        exact step_call rfl rfl (by simp only [List.map_toArray, List.map_cons, List.map_nil, Act.eval, s51] <;> rfl) cf23 (big_wd .x (by decide) A51 c51 w.heap.size (part P 1) w r51) (fun e w1 h => retE e w1 h)
      · intro a w hk
        have s52 := hk.eq_ 6 52 (by kernel_rfl) rfl
        refine step_val (v := .int .u32 ((inW .x P).b.toNat : Nat)) (w' := w) rfl ?_ (Ext.refl w) rfl
        have hb := wrap_w (inW .x P).b
        go_simp
      · intro a w hk
        have s49 := hk.eq_ 3 49 (by kernel_rfl) rfl
        have s53 := hk.eq_ 7 53 (by kernel_rfl) rfl
        refine step_val (v := .agg (inW .x P).cells) (w' := w) rfl ?_ (Ext.refl w) rfl
        exact build_nine s49 s53
      · intro a w hk
        refine step_val (v := .pointer (some ⟨w.heap.size, 0, none⟩)) (w' := w.alloc (.cells #[.int .u32 0, .int .u32 0] 58)) rfl ?_ (Ext.alloc _ _) ⟨w.heap.size, rfl, by have := HZZ.out; have := Below.size hk.ext; omega, heap_alloc_new w _⟩
        go_simp
      · intro a w6 hf
        obtain ⟨A46, c46, s46, k46, r46⟩ := hf.val 0 46 (by kernel_rfl) rfl
        obtain ⟨A47, c47, s47, r47⟩ := hf.val 1 47 (by kernel_rfl) rfl
        have s48 := hf.eq_ 2 48 (by kernel_rfl) rfl
        have s49 := hf.eq_ 3 49 (by kernel_rfl) rfl
        obtain ⟨A50, c50, s50, k50, r50⟩ := hf.val 4 50 (by kernel_rfl) rfl
        obtain ⟨A51, c51, s51, r51⟩ := hf.val 5 51 (by kernel_rfl) rfl
        have s52 := hf.eq_ 6 52 (by kernel_rfl) rfl
        have s53 := hf.eq_ 7 53 (by kernel_rfl) rfl
        have s54 := hf.eq_ 8 54 (by kernel_rfl) rfl
        obtain ⟨b11, s11, h11, g11⟩ := hf.val 9 11 (by kernel_rfl) rfl
        have hx := hf.ext
        have e := hf.frame
        clear hf
        simp only [List.take_succ_cons, List.take_zero, regFrame, Act.put, List.setIfInBounds_toArray, List.set_cons_zero, List.set_cons_succ, s46, s47, s48, s49, s50, s51, s52, s53, s54, s11] at e
        clear s46 s47 s48 s49 s50 s51 s52 s53 s54 s11
        subst e
        simp only [List.drop_succ_cons, List.drop_zero]
        go_wp2_with (refine wpList_store_row rfl 58 (.tmp 11) (.tmp 54) rfl b11 (inW .x P).cells rfl rfl 58 _ g11 (W2.size (inW .x P)) rfl (W2.all (inW .x P)) ?_)
        obtain ⟨W6, hW6⟩ : ∃ W, w6.setRow b11 (inW .x P).cells = W := ⟨_, rfl⟩
        have hb2 : B2 W6 b11 (xh key (inW .x P) 0) := by
          rw [← hW6]
          exact B2.put (show B2 w6 b11 ⟨0, 0⟩ from g11) (inW .x P)
        have hx6 : Ext wr W6 := by rw [← hW6]; exact Below.setRow_ hx (by omega) _
        have HB2 := hid hb2
        have HX6 := hid hx6
        rw [hW6]
        clear hb2 hx6 hW6 g11 hx r47 r51 r46 r50 k46 k50
        obtain ⟨W8, hW8⟩ : ∃ W8, W8 = wr := ⟨_, rfl⟩
        subst hW8
        obtain ⟨g11, hg11⟩ : ∃ g, g = b11 := ⟨_, rfl⟩
        subst hg11
        go_loopw [12, 13] (fun s i wq => ∃ j : Nat, j ≤ 64 ∧ i = .int .i64 j ∧ s = .int .u32 ((sumH j).toNat : Nat) ∧ B2 wq g11 (xh key (inW .x P) j) ∧ Ext W8 wq) (fun _ i _ => 64 - (intOf i).toNat)
        case atStart => exact ⟨0, by omega, rfl, rfl, HB2.out, HX6.out⟩
        case round =>
          clear HB2 HX6
          obtain ⟨i, hi, rfl, rfl, hb2, hxl⟩ := hrel
          have hz11 : W8.heap.size ≤ g11 := by omega
          by_cases hlt64 : i < 64
          · have hi64 : (i : Int) < 64 := by omega
            by_cases hpar : i % 2 = 0
            · skip
              have HMD := hid (show (i : Int) % 2 = 0 ∧ (i : Int).tmod 2 = 0 by constructor <;> (try rw [Int.tmod_eq_emod_of_nonneg (by omega)]) <;> omega)
              have hm1 := HMD.out.1
              have hm2 := HMD.out.2
              have hst := xh_even key (inW .x P) i hlt64 (by omega)
              have hsn := sumH_even i (by omega)
              obtain ⟨y, hy⟩ : ∃ y, xh key (inW .x P) i = y := ⟨_, rfl⟩
              rw [hy] at hst hb2
              obtain ⟨S, hS⟩ : ∃ S, sumH i = S := ⟨_, rfl⟩
              rw [hS] at hst hsn ⊢
              obtain ⟨q, hq⟩ : ∃ q, S.toNat % 4 = q := ⟨_, rfl⟩
              rw [hq] at hst
              have hq4 : q < 4 := by omega
              have hsl := wlt S
              have ha3 : bits .and .u32 (S.toNat : Int) 3 = (S.toNat : Int) % 4 := and3 _ (by omega)
              have ha4 : bits .and .u32 ((S.toNat : Int) / 2048) 3 = (S.toNat : Int) / 2048 % 4 := and3 _ (by omega)
              have hqi : ((S.toNat : Int) % 4) = (q : Int) := by omega
              obtain ⟨kq, hkq⟩ : ∃ x, kw .x key q = x := ⟨_, rfl⟩
              have hkc := (HKEY.out.later hxl).cell q (by rw [words_length]; exact hq4)
              rw [words_get _ _ _ _ hq4, hkq] at hkc
              rw [hkq] at hst
              have x6 := w_shl4 y.b
              have x7 := w_shr5 y.b
              obtain ⟨X6, hX6⟩ : ∃ x, y.b <<< 4 = x := ⟨_, rfl⟩
              obtain ⟨X7, hX7⟩ : ∃ x, y.b >>> 5 = x := ⟨_, rfl⟩
              rw [hX6] at x6
              rw [hX7] at x7
              have x1 := w_xor X6 X7
              obtain ⟨X1, hX1⟩ : ∃ x, X6 ^^^ X7 = x := ⟨_, rfl⟩
              rw [hX1] at x1
              have x2 := w_add X1 y.b
              obtain ⟨X2, hX2⟩ : ∃ x, X1 + y.b = x := ⟨_, rfl⟩
              rw [hX2] at x2
              have x3 := w_add S kq
              obtain ⟨X3, hX3⟩ : ∃ x, S + kq = x := ⟨_, rfl⟩
              rw [hX3] at x3 hst
              have x4 := w_xor X2 X3
              obtain ⟨X4, hX4⟩ : ∃ x, X2 ^^^ X3 = x := ⟨_, rfl⟩
              rw [hX4] at x4
              rw [show mixW y.b X3 = X4 by unfold mixW; rw [hX6, hX7, hX1, hX2, hX4]] at hst
              have x5 := w_add y.a X4
              obtain ⟨X5, hX5⟩ : ∃ x, y.a + X4 = x := ⟨_, rfl⟩
              rw [hX5] at x5 hst
              have HX1_ := hid x1
              have HX2_ := hid (wrap_eq x2)
              have HX3_ := hid (wrap_eq x3)
              have HX4_ := hid x4
              have HX5_ := hid (wrap_eq x5)
              have HX6_ := hid (wrap_eq x6)
              have HX7_ := hid x7
              have HST := hid hst
              have HSN := hid hsn
              have HQ := hid hq4
              have HB := hid hb2
              have HL := hid hb2.ca
              have hlo := hb2.cb
              have HKC := hid hkc
              have HXL := hid hxl
              clear hst hsn hy hS hq hkq hkc x1 x2 x3 x4 x5 x6 x7 hX6 hX7 hX1 hX2 hX3 hX4 hX5 hb2 hxl
              go_wp2_with fail
              refine region_upto 21 mixed rfl (by kernel_rfl) (by kernel_rfl) (by kernel_rfl) (kV (ni21e g11 g9 i q y S kq X1 X2 X3 X4 X5 X6 X7)) (kV_keep _) (forall_ops ⟨?_, ?_, ?_, ?_, ?_, ?_, ?_, ?_, ?_, ?_, ?_, ?_, ?_, ?_, ?_, ?_, ?_, ?_, ?_, ?_, ?_, trivial⟩) ?_
              · intro a w hk
                have s13 : a.tmps.getD 13 undef = .int .i64 i := hk.was 13 (by kernel_rfl) rfl
                exact step_move rfl rfl s13 rfl
              · intro a w hk
                have s72 := hk.eq_ 0 72 (by kernel_rfl) rfl
                refine step_val (v := .int .i64 0) (w' := w) rfl ?_ (Ext.refl w) rfl
                have h1 := HMD.out.1
                have h2 := HMD.out.2
                go_simp
              · intro a w hk
                have s13 : a.tmps.getD 13 undef = .int .i64 i := hk.was 13 (by kernel_rfl) rfl
                exact step_move rfl rfl s13 rfl
              · intro a w hk
                have s74 := hk.eq_ 2 74 (by kernel_rfl) rfl
                refine step_val (v := .int .i64 0) (w' := w) rfl ?_ (Ext.refl w) rfl
                have h1 := HMD.out.1
                have h2 := HMD.out.2
                go_simp
              · intro a w hk
                have s11 : a.tmps.getD 11 undef = .pointer (some ⟨g11, 0, none⟩) := hk.was 11 (by kernel_rfl) rfl
                have s75 := hk.eq_ 3 75 (by kernel_rfl) rfl
                refine step_val (v := .pointer (some ⟨g11, 0, none⟩)) (w' := w) rfl ?_ (Ext.refl w) rfl
                go_simp
              · intro a w hk
                have s76 := hk.eq_ 4 76 (by kernel_rfl) rfl
                refine step_val (v := .int .u32 (y.a.toNat : Nat)) (w' := w) rfl ?_ (Ext.refl w) rfl
                have hc := cell_at hk.ext HL.out
                go_simp
              · intro a w hk
                have s14 : a.tmps.getD 14 undef = .int .u32 (y.b.toNat : Nat) := hk.was 14 (by kernel_rfl) rfl
                exact step_move rfl rfl s14 rfl
              · intro a w hk
                have s78 := hk.eq_ 6 78 (by kernel_rfl) rfl
                refine step_val (v := .int .u32 (X6.toNat : Nat)) (w' := w) rfl ?_ (Ext.refl w) rfl
                have h1 := HX6_.out
                go_simp
              · intro a w hk
                have s14 : a.tmps.getD 14 undef = .int .u32 (y.b.toNat : Nat) := hk.was 14 (by kernel_rfl) rfl
                exact step_move rfl rfl s14 rfl
              · intro a w hk
                have s80 := hk.eq_ 8 80 (by kernel_rfl) rfl
                refine step_val (v := .int .u32 (X7.toNat : Nat)) (w' := w) rfl ?_ (Ext.refl w) rfl
                have h1 := HX7_.out
                go_simp
              · intro a w hk
                have s79 := hk.eq_ 7 79 (by kernel_rfl) rfl
                have s81 := hk.eq_ 9 81 (by kernel_rfl) rfl
                refine step_val (v := .int .u32 (X1.toNat : Nat)) (w' := w) rfl ?_ (Ext.refl w) rfl
                have h1 := HX1_.out
                go_simp
              · intro a w hk
                have s14 : a.tmps.getD 14 undef = .int .u32 (y.b.toNat : Nat) := hk.was 14 (by kernel_rfl) rfl
                exact step_move rfl rfl s14 rfl
              · intro a w hk
                have s82 := hk.eq_ 10 82 (by kernel_rfl) rfl
                have s83 := hk.eq_ 11 83 (by kernel_rfl) rfl
                refine step_val (v := .int .u32 (X2.toNat : Nat)) (w' := w) rfl ?_ (Ext.refl w) rfl
                have h1 := HX2_.out
                go_simp
              · intro a w hk
                have s12 : a.tmps.getD 12 undef = .int .u32 (S.toNat : Nat) := hk.was 12 (by kernel_rfl) rfl
                exact step_move rfl rfl s12 rfl
              · intro a w hk
                have s15 : a.tmps.getD 15 undef = .int .u32 (q : Nat) := hk.was 15 (by kernel_rfl) rfl
                exact step_move rfl rfl s15 rfl
              · intro a w hk
                have s9 : a.tmps.getD 9 undef = .pointer (some ⟨g9, 0, none⟩) := hk.was 9 (by kernel_rfl) rfl
                have s86 := hk.eq_ 14 86 (by kernel_rfl) rfl
                refine step_val (v := .pointer (some ⟨g9, q, none⟩)) (w' := w) rfl ?_ (Ext.refl w) rfl
                have h1 := HQ.out
                have h2 : (q : Int) < 4 := by omega
                go_simp
              · intro a w hk
                have s87 := hk.eq_ 15 87 (by kernel_rfl) rfl
                refine step_val (v := .int .u32 (kq.toNat : Nat)) (w' := w) rfl ?_ (Ext.refl w) rfl
                have hc := cell_at hk.ext HKC.out
                go_simp
              · intro a w hk
                have s85 := hk.eq_ 13 85 (by kernel_rfl) rfl
                have s88 := hk.eq_ 16 88 (by kernel_rfl) rfl
                refine step_val (v := .int .u32 (X3.toNat : Nat)) (w' := w) rfl ?_ (Ext.refl w) rfl
                have h1 := HX3_.out
                go_simp
              · intro a w hk
                have s84 := hk.eq_ 12 84 (by kernel_rfl) rfl
                have s89 := hk.eq_ 17 89 (by kernel_rfl) rfl
                refine step_val (v := .int .u32 (X4.toNat : Nat)) (w' := w) rfl ?_ (Ext.refl w) rfl
                have h1 := HX4_.out
                go_simp
              · intro a w hk
                have s77 := hk.eq_ 5 77 (by kernel_rfl) rfl
                have s90 := hk.eq_ 18 90 (by kernel_rfl) rfl
                refine step_val (v := .int .u32 (X5.toNat : Nat)) (w' := w) rfl ?_ (Ext.refl w) rfl
                have h1 := HX5_.out
                go_simp
              · intro a w hk
                have s11 : a.tmps.getD 11 undef = .pointer (some ⟨g11, 0, none⟩) := hk.was 11 (by kernel_rfl) rfl
                have s73 := hk.eq_ 1 73 (by kernel_rfl) rfl
                refine step_val (v := .pointer (some ⟨g11, 0, none⟩)) (w' := w) rfl ?_ (Ext.refl w) rfl
                go_simp
              · intro a w9 hf
                have s72 := hf.eq_ 0 72 (by kernel_rfl) rfl
                have s73 := hf.eq_ 1 73 (by kernel_rfl) rfl
                have s74 := hf.eq_ 2 74 (by kernel_rfl) rfl
                have s75 := hf.eq_ 3 75 (by kernel_rfl) rfl
                have s76 := hf.eq_ 4 76 (by kernel_rfl) rfl
                have s77 := hf.eq_ 5 77 (by kernel_rfl) rfl
                have s78 := hf.eq_ 6 78 (by kernel_rfl) rfl
                have s79 := hf.eq_ 7 79 (by kernel_rfl) rfl
                have s80 := hf.eq_ 8 80 (by kernel_rfl) rfl
                have s81 := hf.eq_ 9 81 (by kernel_rfl) rfl
                have s82 := hf.eq_ 10 82 (by kernel_rfl) rfl
                have s83 := hf.eq_ 11 83 (by kernel_rfl) rfl
                have s84 := hf.eq_ 12 84 (by kernel_rfl) rfl
                have s85 := hf.eq_ 13 85 (by kernel_rfl) rfl
                have s86 := hf.eq_ 14 86 (by kernel_rfl) rfl
                have s87 := hf.eq_ 15 87 (by kernel_rfl) rfl
                have s88 := hf.eq_ 16 88 (by kernel_rfl) rfl
                have s89 := hf.eq_ 17 89 (by kernel_rfl) rfl
                have s90 := hf.eq_ 18 90 (by kernel_rfl) rfl
                have s91 := hf.eq_ 19 91 (by kernel_rfl) rfl
                have s92 := hf.eq_ 20 92 (by kernel_rfl) rfl
                have hx := hf.ext
                have e := hf.frame
                clear hf
                simp only [List.take_succ_cons, List.take_zero, regFrame, Act.put, List.setIfInBounds_toArray, List.set_cons_zero, List.set_cons_succ, s72, s73, s74, s75, s76, s77, s78, s79, s80, s81, s82, s83, s84, s85, s86, s87, s88, s89, s90, s91, s92] at e
                clear s72 s73 s74 s75 s76 s77 s78 s79 s80 s81 s82 s83 s84 s85 s86 s87 s88 s89 s90 s91 s92
                subst e
                simp only [List.drop_succ_cons, List.drop_zero]
                have HXW := hid (Ext.trans HXL.out hx)
                have HBW := hid (HB.out.later hx)
                clear hx HXL HB HL HKC
                have hfz := HBW.out.frozen 0
                have hcl := HBW.out.ca
                have hset := HBW.out.set0 X5
                have hgs := w_add S gold
                rw [show (gold.toNat : Int) = 2654435769 from rfl] at hgs
                have HSET := hid hset
                clear hset
                go_wp2_with fail
                go_roundw
                case rel => exact ⟨i + 1, by omega, by go_num, by rw [HSN.out] <;> first | done | exact congrArg _ hgs, by rw [HST.out]; exact HSET.out, Below.setCell HXW.out hz11 _⟩
                case measure => simp [intOf]; omega
            · skip
              have HMD := hid (show (i : Int) % 2 = 1 ∧ (i : Int).tmod 2 = 1 by constructor <;> (try rw [Int.tmod_eq_emod_of_nonneg (by omega)]) <;> omega)
              have hm1 := HMD.out.1
              have hm2 := HMD.out.2
              have hst := xh_odd key (inW .x P) i hlt64 (by omega)
              have hsn := sumH_odd i (by omega)
              obtain ⟨y, hy⟩ : ∃ y, xh key (inW .x P) i = y := ⟨_, rfl⟩
              rw [hy] at hst hb2
              obtain ⟨S, hS⟩ : ∃ S, sumH i = S := ⟨_, rfl⟩
              rw [hS] at hst hsn ⊢
              obtain ⟨q, hq⟩ : ∃ q, S.toNat / 2048 % 4 = q := ⟨_, rfl⟩
              rw [hq] at hst
              have hq4 : q < 4 := by omega
              have hsl := wlt S
              have ha3 : bits .and .u32 (S.toNat : Int) 3 = (S.toNat : Int) % 4 := and3 _ (by omega)
              have ha4 : bits .and .u32 ((S.toNat : Int) / 2048) 3 = (S.toNat : Int) / 2048 % 4 := and3 _ (by omega)
              have hqi : ((S.toNat : Int) / 2048 % 4) = (q : Int) := by omega
              obtain ⟨kq, hkq⟩ : ∃ x, kw .x key q = x := ⟨_, rfl⟩
              have hkc := (HKEY.out.later hxl).cell q (by rw [words_length]; exact hq4)
              rw [words_get _ _ _ _ hq4, hkq] at hkc
              rw [hkq] at hst
              have x6 := w_shl4 y.a
              have x7 := w_shr5 y.a
              obtain ⟨X6, hX6⟩ : ∃ x, y.a <<< 4 = x := ⟨_, rfl⟩
              obtain ⟨X7, hX7⟩ : ∃ x, y.a >>> 5 = x := ⟨_, rfl⟩
              rw [hX6] at x6
              rw [hX7] at x7
              have x1 := w_xor X6 X7
              obtain ⟨X1, hX1⟩ : ∃ x, X6 ^^^ X7 = x := ⟨_, rfl⟩
              rw [hX1] at x1
              have x2 := w_add X1 y.a
              obtain ⟨X2, hX2⟩ : ∃ x, X1 + y.a = x := ⟨_, rfl⟩
              rw [hX2] at x2
              have x3 := w_add S kq
              obtain ⟨X3, hX3⟩ : ∃ x, S + kq = x := ⟨_, rfl⟩
              rw [hX3] at x3 hst
              have x4 := w_xor X2 X3
              obtain ⟨X4, hX4⟩ : ∃ x, X2 ^^^ X3 = x := ⟨_, rfl⟩
              rw [hX4] at x4
              rw [show mixW y.a X3 = X4 by unfold mixW; rw [hX6, hX7, hX1, hX2, hX4]] at hst
              have x5 := w_add y.b X4
              obtain ⟨X5, hX5⟩ : ∃ x, y.b + X4 = x := ⟨_, rfl⟩
              rw [hX5] at x5 hst
              have HX1_ := hid x1
              have HX2_ := hid (wrap_eq x2)
              have HX3_ := hid (wrap_eq x3)
              have HX4_ := hid x4
              have HX5_ := hid (wrap_eq x5)
              have HX6_ := hid (wrap_eq x6)
              have HX7_ := hid x7
              have HST := hid hst
              have HSN := hid hsn
              have HQ := hid hq4
              have HB := hid hb2
              have HL := hid hb2.cb
              have hlo := hb2.ca
              have HKC := hid hkc
              have HXL := hid hxl
              clear hst hsn hy hS hq hkq hkc x1 x2 x3 x4 x5 x6 x7 hX6 hX7 hX1 hX2 hX3 hX4 hX5 hb2 hxl
              go_wp2_with fail
              refine region_upto 21 mixed rfl (by kernel_rfl) (by kernel_rfl) (by kernel_rfl) (kV (ni21o g11 g9 i q y S kq X1 X2 X3 X4 X5 X6 X7)) (kV_keep _) (forall_ops ⟨?_, ?_, ?_, ?_, ?_, ?_, ?_, ?_, ?_, ?_, ?_, ?_, ?_, ?_, ?_, ?_, ?_, ?_, ?_, ?_, ?_, trivial⟩) ?_
              · intro a w hk
                have s13 : a.tmps.getD 13 undef = .int .i64 i := hk.was 13 (by kernel_rfl) rfl
                exact step_move rfl rfl s13 rfl
              · intro a w hk
                have s72 := hk.eq_ 0 72 (by kernel_rfl) rfl
                refine step_val (v := .int .i64 1) (w' := w) rfl ?_ (Ext.refl w) rfl
                have h1 := HMD.out.1
                have h2 := HMD.out.2
                go_simp
              · intro a w hk
                have s13 : a.tmps.getD 13 undef = .int .i64 i := hk.was 13 (by kernel_rfl) rfl
                exact step_move rfl rfl s13 rfl
              · intro a w hk
                have s74 := hk.eq_ 2 74 (by kernel_rfl) rfl
                refine step_val (v := .int .i64 1) (w' := w) rfl ?_ (Ext.refl w) rfl
                have h1 := HMD.out.1
                have h2 := HMD.out.2
                go_simp
              · intro a w hk
                have s11 : a.tmps.getD 11 undef = .pointer (some ⟨g11, 0, none⟩) := hk.was 11 (by kernel_rfl) rfl
                have s75 := hk.eq_ 3 75 (by kernel_rfl) rfl
                refine step_val (v := .pointer (some ⟨g11, 1, none⟩)) (w' := w) rfl ?_ (Ext.refl w) rfl
                go_simp
              · intro a w hk
                have s76 := hk.eq_ 4 76 (by kernel_rfl) rfl
                refine step_val (v := .int .u32 (y.b.toNat : Nat)) (w' := w) rfl ?_ (Ext.refl w) rfl
                have hc := cell_at hk.ext HL.out
                go_simp
              · intro a w hk
                have s14 : a.tmps.getD 14 undef = .int .u32 (y.a.toNat : Nat) := hk.was 14 (by kernel_rfl) rfl
                exact step_move rfl rfl s14 rfl
              · intro a w hk
                have s78 := hk.eq_ 6 78 (by kernel_rfl) rfl
                refine step_val (v := .int .u32 (X6.toNat : Nat)) (w' := w) rfl ?_ (Ext.refl w) rfl
                have h1 := HX6_.out
                go_simp
              · intro a w hk
                have s14 : a.tmps.getD 14 undef = .int .u32 (y.a.toNat : Nat) := hk.was 14 (by kernel_rfl) rfl
                exact step_move rfl rfl s14 rfl
              · intro a w hk
                have s80 := hk.eq_ 8 80 (by kernel_rfl) rfl
                refine step_val (v := .int .u32 (X7.toNat : Nat)) (w' := w) rfl ?_ (Ext.refl w) rfl
                have h1 := HX7_.out
                go_simp
              · intro a w hk
                have s79 := hk.eq_ 7 79 (by kernel_rfl) rfl
                have s81 := hk.eq_ 9 81 (by kernel_rfl) rfl
                refine step_val (v := .int .u32 (X1.toNat : Nat)) (w' := w) rfl ?_ (Ext.refl w) rfl
                have h1 := HX1_.out
                go_simp
              · intro a w hk
                have s14 : a.tmps.getD 14 undef = .int .u32 (y.a.toNat : Nat) := hk.was 14 (by kernel_rfl) rfl
                exact step_move rfl rfl s14 rfl
              · intro a w hk
                have s82 := hk.eq_ 10 82 (by kernel_rfl) rfl
                have s83 := hk.eq_ 11 83 (by kernel_rfl) rfl
                refine step_val (v := .int .u32 (X2.toNat : Nat)) (w' := w) rfl ?_ (Ext.refl w) rfl
                have h1 := HX2_.out
                go_simp
              · intro a w hk
                have s12 : a.tmps.getD 12 undef = .int .u32 (S.toNat : Nat) := hk.was 12 (by kernel_rfl) rfl
                exact step_move rfl rfl s12 rfl
              · intro a w hk
                have s15 : a.tmps.getD 15 undef = .int .u32 (q : Nat) := hk.was 15 (by kernel_rfl) rfl
                exact step_move rfl rfl s15 rfl
              · intro a w hk
                have s9 : a.tmps.getD 9 undef = .pointer (some ⟨g9, 0, none⟩) := hk.was 9 (by kernel_rfl) rfl
                have s86 := hk.eq_ 14 86 (by kernel_rfl) rfl
                refine step_val (v := .pointer (some ⟨g9, q, none⟩)) (w' := w) rfl ?_ (Ext.refl w) rfl
                have h1 := HQ.out
                have h2 : (q : Int) < 4 := by omega
                go_simp
              · intro a w hk
                have s87 := hk.eq_ 15 87 (by kernel_rfl) rfl
                refine step_val (v := .int .u32 (kq.toNat : Nat)) (w' := w) rfl ?_ (Ext.refl w) rfl
                have hc := cell_at hk.ext HKC.out
                go_simp
              · intro a w hk
                have s85 := hk.eq_ 13 85 (by kernel_rfl) rfl
                have s88 := hk.eq_ 16 88 (by kernel_rfl) rfl
                refine step_val (v := .int .u32 (X3.toNat : Nat)) (w' := w) rfl ?_ (Ext.refl w) rfl
                have h1 := HX3_.out
                go_simp
              · intro a w hk
                have s84 := hk.eq_ 12 84 (by kernel_rfl) rfl
                have s89 := hk.eq_ 17 89 (by kernel_rfl) rfl
                refine step_val (v := .int .u32 (X4.toNat : Nat)) (w' := w) rfl ?_ (Ext.refl w) rfl
                have h1 := HX4_.out
                go_simp
              · intro a w hk
                have s77 := hk.eq_ 5 77 (by kernel_rfl) rfl
                have s90 := hk.eq_ 18 90 (by kernel_rfl) rfl
                refine step_val (v := .int .u32 (X5.toNat : Nat)) (w' := w) rfl ?_ (Ext.refl w) rfl
                have h1 := HX5_.out
                go_simp
              · intro a w hk
                have s11 : a.tmps.getD 11 undef = .pointer (some ⟨g11, 0, none⟩) := hk.was 11 (by kernel_rfl) rfl
                have s73 := hk.eq_ 1 73 (by kernel_rfl) rfl
                refine step_val (v := .pointer (some ⟨g11, 1, none⟩)) (w' := w) rfl ?_ (Ext.refl w) rfl
                go_simp
              · intro a w9 hf
                have s72 := hf.eq_ 0 72 (by kernel_rfl) rfl
                have s73 := hf.eq_ 1 73 (by kernel_rfl) rfl
                have s74 := hf.eq_ 2 74 (by kernel_rfl) rfl
                have s75 := hf.eq_ 3 75 (by kernel_rfl) rfl
                have s76 := hf.eq_ 4 76 (by kernel_rfl) rfl
                have s77 := hf.eq_ 5 77 (by kernel_rfl) rfl
                have s78 := hf.eq_ 6 78 (by kernel_rfl) rfl
                have s79 := hf.eq_ 7 79 (by kernel_rfl) rfl
                have s80 := hf.eq_ 8 80 (by kernel_rfl) rfl
                have s81 := hf.eq_ 9 81 (by kernel_rfl) rfl
                have s82 := hf.eq_ 10 82 (by kernel_rfl) rfl
                have s83 := hf.eq_ 11 83 (by kernel_rfl) rfl
                have s84 := hf.eq_ 12 84 (by kernel_rfl) rfl
                have s85 := hf.eq_ 13 85 (by kernel_rfl) rfl
                have s86 := hf.eq_ 14 86 (by kernel_rfl) rfl
                have s87 := hf.eq_ 15 87 (by kernel_rfl) rfl
                have s88 := hf.eq_ 16 88 (by kernel_rfl) rfl
                have s89 := hf.eq_ 17 89 (by kernel_rfl) rfl
                have s90 := hf.eq_ 18 90 (by kernel_rfl) rfl
                have s91 := hf.eq_ 19 91 (by kernel_rfl) rfl
                have s92 := hf.eq_ 20 92 (by kernel_rfl) rfl
                have hx := hf.ext
                have e := hf.frame
                clear hf
                simp only [List.take_succ_cons, List.take_zero, regFrame, Act.put, List.setIfInBounds_toArray, List.set_cons_zero, List.set_cons_succ, s72, s73, s74, s75, s76, s77, s78, s79, s80, s81, s82, s83, s84, s85, s86, s87, s88, s89, s90, s91, s92] at e
                clear s72 s73 s74 s75 s76 s77 s78 s79 s80 s81 s82 s83 s84 s85 s86 s87 s88 s89 s90 s91 s92
                subst e
                simp only [List.drop_succ_cons, List.drop_zero]
                have HXW := hid (Ext.trans HXL.out hx)
                have HBW := hid (HB.out.later hx)
                clear hx HXL HB HL HKC
                have hfz := HBW.out.frozen 1
                have hcl := HBW.out.cb
                have hset := HBW.out.set1 X5
                have HSET := hid hset
                clear hset
                go_wp2_with fail
                go_roundw
                case rel => exact ⟨i + 1, by omega, by go_num, by rw [HSN.out], by rw [HST.out]; exact HSET.out, Below.setCell HXW.out hz11 _⟩
                case measure => simp [intOf]; omega
          · obtain rfl : i = 64 := by omega
            rw [xh_all] at hb2
            obtain ⟨y, hy⟩ : ∃ y, turnW .x key false (inW .x P) = y := ⟨_, rfl⟩
            rw [hy] at hb2
            have hblk : blockL .x key false P = put .x y.a ++ put .x y.b := by unfold blockL; rw [hy]; rfl
            have HBLK := hid hblk
            have HXE := hid (Ext.trans HXL0.out hxl)
            have HB := hid hb2
            have HS9 := hid (HS5.out.later hxl)
            have HR9 := hid (HR6.out.later hxl)
            clear hblk hy hb2 hxl
            go_wp2_with fail
            refine (block_any .x key false p7 (some ⟨g6, 0, none⟩) c6 P _ HS9.out (HG.out.later HXE.out) HR9.out hc6 hm6).mono ?_
            rw [HBLK.out]
            rintro e w11 ⟨v16, rfl, ho, hx⟩
            obtain ⟨A16, c16, rfl, _, _, hr16⟩ := ho.rdm (n := 8) (by simp [put_length])
            have HX11 := hid (Ext.trans HXE.out hx)
            have HR16 := hid hr16
            have HLA := hid (HB.out.later hx).ca
            have HLB := hid (HB.out.later hx).cb
            clear ho hx hr16 HXE HB HS9 HR9
            go_wp2_with fail
            refine region_inv mixed rfl (by kernel_rfl) (kV (ni25 g11 y)) (kV_keep _) (forall_ops ⟨?_, ?_, ?_, ?_, ?_, ?_, ?_, ?_, ?_, ?_, ?_, ?_, ?_, trivial⟩) ?_
            · intro a w hk
              have s16 : a.tmps.getD 16 undef = .slice A16 8 c16 := hk.was 16 (by kernel_rfl) rfl
              have r16 := (HR16.out).later hk.ext
              exact step_move rfl rfl s16 ⟨_, _, rfl, r16⟩
            · intro a w hk
              obtain ⟨A104, c104, s104, r104⟩ := hk.byt_ 0 104 (by kernel_rfl) rfl
              exact step_conv rfl rfl s104 (strq r104) rfl
            · intro a w hk
              have s11 : a.tmps.getD 11 undef = .pointer (some ⟨g11, 0, none⟩) := hk.was 11 (by kernel_rfl) rfl
              refine step_val (v := .pointer (some ⟨g11, 0, none⟩)) (w' := w) rfl ?_ (Ext.refl w) rfl
              go_simp
            · intro a w hk
              have s106 := hk.eq_ 2 106 (by kernel_rfl) rfl
              refine step_val (v := .int .u32 (y.a.toNat : Nat)) (w' := w) rfl ?_ (Ext.refl w) rfl
              have hc := cell_at hk.ext HLA.out
              go_simp
            · intro a w hk
              have s107 := hk.eq_ 3 107 (by kernel_rfl) rfl
              exact step_call rfl rfl (by simp only [List.map_toArray, List.map_cons, List.map_nil, Act.eval, s107] <;> rfl) cf24 (rput_wd .x (by decide) y.a w) (fun e w1 h => RetB.k (put_length _ _) e w1 h)
            · intro a w hk
              obtain ⟨A108, c108, s108, r108⟩ := hk.byt_ 4 108 (by kernel_rfl) rfl
              exact step_conv rfl rfl s108 (strq r108) rfl
            · intro a w hk
              have s11 : a.tmps.getD 11 undef = .pointer (some ⟨g11, 0, none⟩) := hk.was 11 (by kernel_rfl) rfl
              refine step_val (v := .pointer (some ⟨g11, 1, none⟩)) (w' := w) rfl ?_ (Ext.refl w) rfl
              go_simp
            · intro a w hk
              have s110 := hk.eq_ 6 110 (by kernel_rfl) rfl
              refine step_val (v := .int .u32 (y.b.toNat : Nat)) (w' := w) rfl ?_ (Ext.refl w) rfl
              have hc := cell_at hk.ext HLB.out
              go_simp
            · intro a w hk
              have s111 := hk.eq_ 7 111 (by kernel_rfl) rfl
              exact step_call rfl rfl (by simp only [List.map_toArray, List.map_cons, List.map_nil, Act.eval, s111] <;> rfl) cf24 (rput_wd .x (by decide) y.b w) (fun e w1 h => RetB.k (put_length _ _) e w1 h)
            · intro a w hk
              obtain ⟨A112, c112, s112, r112⟩ := hk.byt_ 8 112 (by kernel_rfl) rfl
              exact step_conv rfl rfl s112 (strq r112) rfl
            · intro a w hk
              have s109 := hk.eq_ 5 109 (by kernel_rfl) rfl
              have s113 := hk.eq_ 9 113 (by kernel_rfl) rfl
              refine step_val (v := .string (str (put .x y.a ++ put .x y.b))) (w' := w) rfl ?_ (Ext.refl w) rfl
              have e1 : (str (put .x y.a)).size = 4 := (strSize _).trans (put_length _ _)
              have e2 : (str (put .x y.b)).size = 4 := (strSize _).trans (put_length _ _)
              rw [← str_append]
              go_simp
            · intro a w hk
              have s105 := hk.eq_ 1 105 (by kernel_rfl) rfl
              have s114 := hk.eq_ 10 114 (by kernel_rfl) rfl
              refine step_val (v := .bool true) (w' := w) rfl ?_ (Ext.refl w) rfl
              go_simp
            · intro a w hk
              have s115 := hk.eq_ 11 115 (by kernel_rfl) rfl
              exact step_assign rfl rfl s115 rfl
            · intro a w12 hf
              obtain ⟨A104, c104, s104, r104⟩ := hf.val 0 104 (by kernel_rfl) rfl
              have s105 := hf.eq_ 1 105 (by kernel_rfl) rfl
              have s106 := hf.eq_ 2 106 (by kernel_rfl) rfl
              have s107 := hf.eq_ 3 107 (by kernel_rfl) rfl
              obtain ⟨A108, c108, s108, r108⟩ := hf.val 4 108 (by kernel_rfl) rfl
              have s109 := hf.eq_ 5 109 (by kernel_rfl) rfl
              have s110 := hf.eq_ 6 110 (by kernel_rfl) rfl
              have s111 := hf.eq_ 7 111 (by kernel_rfl) rfl
              obtain ⟨A112, c112, s112, r112⟩ := hf.val 8 112 (by kernel_rfl) rfl
              have s113 := hf.eq_ 9 113 (by kernel_rfl) rfl
              have s114 := hf.eq_ 10 114 (by kernel_rfl) rfl
              have s115 := hf.eq_ 11 115 (by kernel_rfl) rfl
              have s4 := hf.eq_ 12 4 (by kernel_rfl) rfl
              have hx := hf.ext
              have e := hf.frame
              clear hf
              simp only [regFrame, Act.put, List.setIfInBounds_toArray, List.set_cons_zero, List.set_cons_succ, s104, s105, s106, s107, s108, s109, s110, s111, s112, s113, s114, s115, s4] at e
              clear s104 s105 s106 s107 s108 s109 s110 s111 s112 s113 s114 s115 s4
              subst e
              go_wp2_with fail
              go_ret
              exact ⟨rfl, Ext.trans HX11.out hx⟩
end Go.Proofs.YtgkfohgeelfceaaDoor
