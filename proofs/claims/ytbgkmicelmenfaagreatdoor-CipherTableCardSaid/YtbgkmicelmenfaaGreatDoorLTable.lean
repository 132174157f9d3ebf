/- The law on sizes and lengths, walked; own lemmas of the verifier, no statement is proved here. -/
import Derived.Test.YtbgkmicelmenfaaGreatDoorQC
namespace Go.Proofs.YtbgkmicelmenfaaGreatDoor.C
open Go.RowKit
open A (str_toList str_ne strq)
set_option maxRecDepth 100000
/-- A number's signs. -/
def numS (n : Nat) : List UInt8 := (if 10 ≤ n then [UInt8.ofNat (48 + n / 10)] else []) ++ [UInt8.ofNat (48 + n % 10)]
/-- The first lengths of a tag's keys, as a text. -/
def rowS (t : Nat) : Nat → List UInt8
  | 0 => []
  | i + 1 => rowS t i ++ (if 0 < i then [32] else []) ++ numS (keyN t + 8 * i)
def sizesL : List Nat := [0, 8, 8, 8, 8, 8, 16, 16, 8, 0]
def keysL : List (List UInt8) := [[], [56], [49, 54, 32, 50, 52], [49, 54], [49, 54], [51, 50], [49, 54, 32, 50, 52, 32, 51, 50], [49, 54, 32, 50, 52, 32, 51, 50], [49, 54], []]
def tK (k : Nat) : Nat := if 1 ≤ k ∧ k ≤ 8 then k else 0
theorem tK_is (k : Nat) : tN (k : Int) = tK k := by unfold tN tK; split <;> split <;> omega
theorem rows_is : ∀ k < 10, rowS (tK k) (cntN (tK k)) = keysL.getD k [] := by decide
theorem sizes_is : ∀ k < 10, szN (tK k) = sizesL.getD k 0 := by decide
theorem row_len : ∀ k < 10, ∀ i < 4, (rowS (tK k) i).length ≤ 20 := by decide
def szV : Array Value := #[.int .i64 0, .int .i64 8, .int .i64 8, .int .i64 8, .int .i64 8, .int .i64 8, .int .i64 16, .int .i64 16, .int .i64 8, .int .i64 0]
def stV : Array Value := #[.string ⟨#[]⟩, .string ⟨#[56]⟩, .string ⟨#[49, 54, 32, 50, 52]⟩, .string ⟨#[49, 54]⟩, .string ⟨#[49, 54]⟩, .string ⟨#[51, 50]⟩, .string ⟨#[49, 54, 32, 50, 52, 32, 51, 50]⟩, .string ⟨#[49, 54, 32, 50, 52, 32, 51, 50]⟩, .string ⟨#[49, 54]⟩, .string ⟨#[]⟩]
theorem sz_cell : ∀ k < 10, szV[k]? = some (.int .i64 (sizesL.getD k 0 : Nat)) := by
  intro k hk
  match k, hk with
  | 0, _ => rfl
  | 1, _ => rfl
  | 2, _ => rfl
  | 3, _ => rfl
  | 4, _ => rfl
  | 5, _ => rfl
  | 6, _ => rfl
  | 7, _ => rfl
  | 8, _ => rfl
  | 9, _ => rfl
theorem st_cell : ∀ k < 10, stV[k]? = some (.string (str (keysL.getD k []))) := by
  intro k hk
  match k, hk with
  | 0, _ => rfl
  | 1, _ => rfl
  | 2, _ => rfl
  | 3, _ => rfl
  | 4, _ => rfl
  | 5, _ => rfl
  | 6, _ => rfl
  | 7, _ => rfl
  | 8, _ => rfl
  | 9, _ => rfl
theorem two_made (w : World) : (∀ k, k < 10 → ((w.alloc (.cells szV 3)).alloc (.cells stV 9)).cell? ⟨w.heap.size, k, none⟩ = some (.int .i64 (sizesL.getD k 0 : Nat))) ∧
    (∀ k, k < 10 → ((w.alloc (.cells szV 3)).alloc (.cells stV 9)).cell? ⟨w.heap.size + 1, k, none⟩ = some (.string (str (keysL.getD k [])))) := by
  have h1 := heap_alloc_new w (.cells szV 3)
  have h2 := heap_alloc_new (w.alloc (.cells szV 3)) (.cells stV 9)
  have hs : (w.alloc (.cells szV 3)).heap.size = w.heap.size + 1 := World.size_alloc _ _
  have h3 : ((w.alloc (.cells szV 3)).alloc (.cells stV 9)).heap[w.heap.size]? = some (.cells szV 3) := by
    rw [heap_alloc_old]; exact h1
    omega
  rw [hs] at h2
  exact ⟨fun k hk => by rw [cell_of_row _ _ _ _ _ _ h3]; exact sz_cell k hk, fun k hk => by rw [cell_of_row _ _ _ _ _ _ h2]; exact st_cell k hk⟩
theorem str_append (xs ys : List UInt8) : str xs ++ str ys = str (xs ++ ys) := by
  apply ByteArray.ext
  simp [str, ByteArray.data_append]
theorem conv_one (W : World) (n : Nat) (x : Int) (b : UInt8) (hx : x = (b.toNat : Int)) (hn : W.heap.size = n) :
    (convert 22 9 (.slice (some ⟨n, 0, none⟩) 1 1)).run Tryz.prog (W.alloc (.cells #[.int .u8 x] 5)) = .ok (.string (str [b])) (W.alloc (.cells #[.int .u8 x] 5)) := by
  subst hn hx
  refine strq (B := W.heap.size + 1) (bs := [b]) ⟨rfl, fun _ => ⟨W.heap.size, 0, rfl, by omega, fun k hk => ?_⟩⟩
  obtain rfl : k = 0 := by omega
  rw [Nat.add_zero, cell_of_row _ _ _ _ _ _ (heap_alloc_new W _)]; rfl
theorem strSize (bs : List UInt8) : (str bs).size = bs.length := rfl
theorem cf25 (vs : Array Value) (w : World) : (callFunc 25 vs).run Tryz.prog w = .ok (.enter 25 vs) w := by go_simp
def tbK (B K Z : Nat) (KS : List UInt8) : List Go.Proofs.YtbgkmicelmenfaaGreatDoor.K := [.eq (.int .i64 K), .eq (.int .i64 (Z : Nat)), .eq (.slice (some ⟨B, 0, none⟩) 10 10), .eq (.int .i64 K), .ptr (.int .i64 (Z : Nat)), .eq (.int .i64 (Z : Nat)), .eq (.bool true), .eq (.bool true), .eq (.string (str KS)), .eq (.slice (some ⟨B + 1, 0, none⟩) 10 10), .eq (.int .i64 K), .ptr (.string (str KS)), .eq (.string (str KS)), .eq (.bool true), .eq (.bool true), .eq (.bool true)]
set_option maxHeartbeats 4000000 in
theorem table_walk [Inhabited D.BT] [Inhabited S.RT] (a0 : Int) (_w0 : (Lit.int .i64 a0).wf = true) (w : World) (hG : GC w) :
    Calls Tryz.prog 10 #[.int .i64 a0] w fun e w' => e = .returned (.bool true) ∧ Below w.heap.size w w' := by
  have HG := hid hG
  have h1 : 0 ≤ a0 % 10 := by omega
  have h2 : a0 % 10 < 10 := by omega
  obtain ⟨K, hK⟩ : ∃ K : Nat, a0 % 10 = K := ⟨(a0 % 10).toNat, by omega⟩
  have HWI := hid (fun w => within_any a0 10 w (by omega) (by omega))
  rw [hK] at HWI h2
  have hK10 : K < 10 := by omega
  have HLE := hid (fun w (hS : Shapes w) => lens_any (K : Int) w hS)
  have HSI := hid (fun w (hS : Shapes w) => size_any (K : Int) w hS)
  rw [tK_is] at HLE HSI
  have ht8 : tK K ≤ 8 := by unfold tK; split <;> omega
  have HRL := hid (fun i hi => row_len K hK10 i hi)
  have HRI := hid (rows_is K hK10)
  have HZI := hid (sizes_is K hK10)
  have HKK := hid hK10
  obtain ⟨t, ht⟩ : ∃ t, tK K = t := ⟨_, rfl⟩
  rw [ht] at HLE HSI HRL HRI HZI ht8
  have HKB := hid (And.intro (key_le t ht8) (cnt_le t ht8))
  have HKM := hid (fun j (hj : j < cntN t) => lens_le t ht8 (keyN t + 8 * j) (List.mem_map.2 ⟨j, List.mem_range.2 hj, rfl⟩))
  obtain ⟨C, hC⟩ : ∃ C, cntN t = C := ⟨_, rfl⟩
  rw [hC] at HLE HRI HKB HKM
  have HCE := hid hC
  clear hG h1 h2 hK ht ht8 hK10 hC
  go_enter Tryz.func10, Tryz.ntmps10
  go_wp2_with fail
  refine (known_any _ HG.out).mono ?_
  rintro e w1 ⟨rfl, hx1⟩
  have HX1 := hid hx1
  clear hx1
  go_wp2_with (go_at_call 27; refine (HWI.out _).mono ?_; rintro e w2 ⟨rfl, rfl⟩)
  have x1 := Ext.alloc w1 (.cells szV 3)
  have x2 := Ext.alloc (w1.alloc (.cells szV 3)) (.cells stV 9)
  have HXA := hid (Ext.trans (Ext.trans HX1.out x1) x2)
  have HTM := hid (two_made w1)
  clear x1 x2
  refine (HLE.out _ (HG.out.later HXA.out).sh).mono ?_
  rintro e w5 ⟨v5, rfl, ho5, hx5⟩
  obtain ⟨A5, c5, rfl, hc5, hr5, _⟩ := OwnN.rdc (n := C) ho5 (lensI_length _ _)
  have HX5 := hid (Ext.trans HXA.out hx5)
  have HSZ := hid (fun k hk => cell_at hx5 (HTM.out.1 k hk))
  have HST := hid (fun k hk => cell_at hx5 (HTM.out.2 k hk))
  have HR5 := hid hr5
  clear ho5 hx5 hr5 HXA HTM
  obtain ⟨B, hB⟩ : ∃ B, w1.heap.size = B := ⟨_, rfl⟩
  rw [hB] at HSZ HST ⊢
  clear hB
  go_wp2_with fail
  go_loopw [6, 8] (fun s i wr => ∃ j : Nat, j ≤ C ∧ i = .int .i64 j ∧ s = .string (str (rowS t j)) ∧ Ext w5 wr) (fun _ i _ => C - (intOf i).toNat)
  case atStart => exact ⟨0, Nat.zero_le _, rfl, rfl, Ext.refl _⟩
  case round =>
    obtain ⟨j, hj, rfl, rfl, hx⟩ := hrel
    by_cases hlt : j < C
    · have hkb := HKB.out
      obtain ⟨b, o, rfl, _, hcells⟩ := HR5.out.at_ (by omega)
      have hcell := cell_at hx (hcells j hlt)
      have hY := HKM.out j hlt
      rw [show (lensI t C).getD j 0 = ((keyN t + 8 * j : Nat) : Int) by simp [lensI, List.getD_eq_getElem?_getD, hlt]] at hcell
      have hstep : rowS t (j + 1) = rowS t j ++ (if 0 < j then [32] else []) ++ numS (keyN t + 8 * j) := rfl
      have hl1 := HRL.out j (by omega)
      obtain ⟨X, hX⟩ : ∃ X, rowS t j = X := ⟨_, rfl⟩
      obtain ⟨Y, hYe⟩ : ∃ Y, keyN t + 8 * j = Y := ⟨_, rfl⟩
      rw [hX] at hstep hl1 ⊢
      rw [hYe] at hstep hcell hY
      have HS := hid hstep
      have HX := hid hx
      have hjC : (j : Int) < (C : Int) := by omega
      clear hstep hx hcells hYe
      clear hX
      by_cases h0 : 0 < j
      · have h0' : (0 : Int) < (j : Int) := by omega
        have hs1 := HS.out
        rw [if_pos h0] at hs1
        have HS1 := hid hs1
        clear hs1 h0
        by_cases h10 : 10 ≤ Y
        · have hns : numS Y = [UInt8.ofNat (48 + Y / 10)] ++ [UInt8.ofNat (48 + Y % 10)] := by unfold numS; rw [if_pos h10]
          have hu1 : 48 + (Y : Int) / 10 = ((UInt8.ofNat (48 + Y / 10)).toNat : Int) := by rw [UInt8.toNat_ofNat']; omega
          have hu2 : 48 + (Y : Int) % 10 = ((UInt8.ofNat (48 + Y % 10)).toNat : Int) := by rw [UInt8.toNat_ofNat']; omega
          obtain ⟨u1, hu1e⟩ : ∃ u1, UInt8.ofNat (48 + Y / 10) = u1 := ⟨_, rfl⟩
          rw [hu1e] at hns hu1
          obtain ⟨u2, hu2e⟩ : ∃ u2, UInt8.ofNat (48 + Y % 10) = u2 := ⟨_, rfl⟩
          rw [hu2e] at hns hu2
          have c1 := conv_one wr wr.heap.size _ u1 hu1 rfl
          have c2 := conv_one (wr.alloc (.cells #[.int .u8 (48 + (Y : Int) / 10)] 5)) (wr.heap.size + 1) _ u2 hu2 (World.size_alloc _ _)
          have HXN := hid (Ext.trans (Ext.trans HX.out (Ext.alloc wr (.cells #[.int .u8 (48 + (Y : Int) / 10)] 5))) (Ext.alloc _ (.cells #[.int .u8 (48 + (Y : Int) % 10)] 5)))
          have h10' : (10 : Int) ≤ (Y : Int) := by omega
          have hzu1 : (str [u1]).size = 1 := rfl
          have hcell2 := cell_at (Ext.alloc wr (.cells #[.int .u8 (48 + (Y : Int) / 10)] 5)) hcell
          have hzu2 : (str [u2]).size = 1 := rfl
          have hz0 : (str X).size = X.length := rfl
          obtain ⟨n0, hn0⟩ : ∃ n0, X.length = n0 := ⟨_, rfl⟩
          rw [hn0] at hz0 hl1
          obtain ⟨X1, hX1⟩ : ∃ z, X ++ [32] = z := ⟨_, rfl⟩
          have e1 : str X ++ { data := #[32] } = str X1 := by rw [← hX1]; exact str_append X [32]
          have hz1 : (str X1).size = n0 + 1 := by rw [strSize, ← hX1, List.length_append]; show X.length + 1 = _; rw [hn0]
          obtain ⟨X2, hX2⟩ : ∃ z, X1 ++ [u1] = z := ⟨_, rfl⟩
          have e2 : str X1 ++ str [u1] = str X2 := by rw [← hX2]; exact str_append X1 [u1]
          have hz2 : (str X2).size = n0 + 2 := by rw [strSize, ← hX2, List.length_append]; show X1.length + 1 = _; have := hz1; rw [strSize] at this; omega
          obtain ⟨X3, hX3⟩ : ∃ z, X2 ++ [u2] = z := ⟨_, rfl⟩
          have e3 : str X2 ++ str [u2] = str X3 := by rw [← hX3]; exact str_append X2 [u2]
          have hz3 : (str X3).size = n0 + 3 := by rw [strSize, ← hX3, List.length_append]; show X2.length + 1 = _; have := hz2; rw [strSize] at this; omega
          have HSE := hid (show rowS t (j + 1) = X3 by rw [HS1.out, hns, ← hX3, ← hX2, ← hX1]; try simp)
          clear hns hu1e hu1 hu2e hu2 hn0 h10 hX1 hX2 hX3
          go_wp2_with fail
          go_roundw
          case rel => exact ⟨j + 1, by omega, by go_num, by rw [HSE.out], HXN.out⟩
          case measure => simp [intOf]; omega
        · have hns : numS Y = [UInt8.ofNat (48 + Y % 10)] := by simp [numS, h10]
          have hu2 : 48 + (Y : Int) % 10 = ((UInt8.ofNat (48 + Y % 10)).toNat : Int) := by rw [UInt8.toNat_ofNat']; omega
          obtain ⟨u2, hu2e⟩ : ∃ u2, UInt8.ofNat (48 + Y % 10) = u2 := ⟨_, rfl⟩
          rw [hu2e] at hns hu2
          have c2 := conv_one wr wr.heap.size _ u2 hu2 rfl
          have HXN := hid (Ext.trans HX.out (Ext.alloc wr (.cells #[.int .u8 (48 + (Y : Int) % 10)] 5)))
          have h10' : ¬ (10 : Int) ≤ (Y : Int) := by omega
          have hzu2 : (str [u2]).size = 1 := rfl
          have hz0 : (str X).size = X.length := rfl
          obtain ⟨n0, hn0⟩ : ∃ n0, X.length = n0 := ⟨_, rfl⟩
          rw [hn0] at hz0 hl1
          obtain ⟨X1, hX1⟩ : ∃ z, X ++ [32] = z := ⟨_, rfl⟩
          have e1 : str X ++ { data := #[32] } = str X1 := by rw [← hX1]; exact str_append X [32]
          have hz1 : (str X1).size = n0 + 1 := by rw [strSize, ← hX1, List.length_append]; show X.length + 1 = _; rw [hn0]
          obtain ⟨X2, hX2⟩ : ∃ z, X1 ++ [u2] = z := ⟨_, rfl⟩
          have e2 : str X1 ++ str [u2] = str X2 := by rw [← hX2]; exact str_append X1 [u2]
          have hz2 : (str X2).size = n0 + 2 := by rw [strSize, ← hX2, List.length_append]; show X1.length + 1 = _; have := hz1; rw [strSize] at this; omega
          have HSE := hid (show rowS t (j + 1) = X2 by rw [HS1.out, hns, ← hX2, ← hX1]; try simp)
          clear hns hu2e hu2 hn0 h10 hX1 hX2
          go_wp2_with fail
          go_roundw
          case rel => exact ⟨j + 1, by omega, by go_num, by rw [HSE.out], HXN.out⟩
          case measure => simp [intOf]; omega
      · have h0' : ¬ (0 : Int) < (j : Int) := by omega
        have hs1 := HS.out
        rw [if_neg h0] at hs1
        have HS1 := hid hs1
        clear hs1 h0
        by_cases h10 : 10 ≤ Y
        · have hns : numS Y = [UInt8.ofNat (48 + Y / 10)] ++ [UInt8.ofNat (48 + Y % 10)] := by unfold numS; rw [if_pos h10]
          have hu1 : 48 + (Y : Int) / 10 = ((UInt8.ofNat (48 + Y / 10)).toNat : Int) := by rw [UInt8.toNat_ofNat']; omega
          have hu2 : 48 + (Y : Int) % 10 = ((UInt8.ofNat (48 + Y % 10)).toNat : Int) := by rw [UInt8.toNat_ofNat']; omega
          obtain ⟨u1, hu1e⟩ : ∃ u1, UInt8.ofNat (48 + Y / 10) = u1 := ⟨_, rfl⟩
          rw [hu1e] at hns hu1
          obtain ⟨u2, hu2e⟩ : ∃ u2, UInt8.ofNat (48 + Y % 10) = u2 := ⟨_, rfl⟩
          rw [hu2e] at hns hu2
          have c1 := conv_one wr wr.heap.size _ u1 hu1 rfl
          have c2 := conv_one (wr.alloc (.cells #[.int .u8 (48 + (Y : Int) / 10)] 5)) (wr.heap.size + 1) _ u2 hu2 (World.size_alloc _ _)
          have HXN := hid (Ext.trans (Ext.trans HX.out (Ext.alloc wr (.cells #[.int .u8 (48 + (Y : Int) / 10)] 5))) (Ext.alloc _ (.cells #[.int .u8 (48 + (Y : Int) % 10)] 5)))
          have h10' : (10 : Int) ≤ (Y : Int) := by omega
          have hzu1 : (str [u1]).size = 1 := rfl
          have hcell2 := cell_at (Ext.alloc wr (.cells #[.int .u8 (48 + (Y : Int) / 10)] 5)) hcell
          have hzu2 : (str [u2]).size = 1 := rfl
          have hz0 : (str X).size = X.length := rfl
          obtain ⟨n0, hn0⟩ : ∃ n0, X.length = n0 := ⟨_, rfl⟩
          rw [hn0] at hz0 hl1
          obtain ⟨X1, hX1⟩ : ∃ z, X ++ [u1] = z := ⟨_, rfl⟩
          have e1 : str X ++ str [u1] = str X1 := by rw [← hX1]; exact str_append X [u1]
          have hz1 : (str X1).size = n0 + 1 := by rw [strSize, ← hX1, List.length_append]; show X.length + 1 = _; rw [hn0]
          obtain ⟨X2, hX2⟩ : ∃ z, X1 ++ [u2] = z := ⟨_, rfl⟩
          have e2 : str X1 ++ str [u2] = str X2 := by rw [← hX2]; exact str_append X1 [u2]
          have hz2 : (str X2).size = n0 + 2 := by rw [strSize, ← hX2, List.length_append]; show X1.length + 1 = _; have := hz1; rw [strSize] at this; omega
          have HSE := hid (show rowS t (j + 1) = X2 by rw [HS1.out, hns, ← hX2, ← hX1]; try simp)
          clear hns hu1e hu1 hu2e hu2 hn0 h10 hX1 hX2
          go_wp2_with fail
          go_roundw
          case rel => exact ⟨j + 1, by omega, by go_num, by rw [HSE.out], HXN.out⟩
          case measure => simp [intOf]; omega
        · have hns : numS Y = [UInt8.ofNat (48 + Y % 10)] := by simp [numS, h10]
          have hu2 : 48 + (Y : Int) % 10 = ((UInt8.ofNat (48 + Y % 10)).toNat : Int) := by rw [UInt8.toNat_ofNat']; omega
          obtain ⟨u2, hu2e⟩ : ∃ u2, UInt8.ofNat (48 + Y % 10) = u2 := ⟨_, rfl⟩
          rw [hu2e] at hns hu2
          have c2 := conv_one wr wr.heap.size _ u2 hu2 rfl
          have HXN := hid (Ext.trans HX.out (Ext.alloc wr (.cells #[.int .u8 (48 + (Y : Int) % 10)] 5)))
          have h10' : ¬ (10 : Int) ≤ (Y : Int) := by omega
          have hzu2 : (str [u2]).size = 1 := rfl
          have hz0 : (str X).size = X.length := rfl
          obtain ⟨n0, hn0⟩ : ∃ n0, X.length = n0 := ⟨_, rfl⟩
          rw [hn0] at hz0 hl1
          obtain ⟨X1, hX1⟩ : ∃ z, X ++ [u2] = z := ⟨_, rfl⟩
          have e1 : str X ++ str [u2] = str X1 := by rw [← hX1]; exact str_append X [u2]
          have hz1 : (str X1).size = n0 + 1 := by rw [strSize, ← hX1, List.length_append]; show X.length + 1 = _; rw [hn0]
          have HSE := hid (show rowS t (j + 1) = X1 by rw [HS1.out, hns, ← hX1]; try simp)
          clear hns hu2e hu2 hn0 h10 hX1
          go_wp2_with fail
          go_roundw
          case rel => exact ⟨j + 1, by omega, by go_num, by rw [HSE.out], HXN.out⟩
          case measure => simp [intOf]; omega
    · obtain rfl : j = C := by omega
      have HC := hid hx
      have hks := HRI.out
      rw [hks]
      have HSK := hid (show wr.cell? ⟨B, K, none⟩ = some (.int .i64 (szN t : Nat)) by rw [cell_at hx (HSZ.out K HKK.out), ← HZI.out])
      have HTK := hid (cell_at hx (HST.out K HKK.out))
      obtain ⟨Z, hZ⟩ : ∃ Z, szN t = Z := ⟨_, rfl⟩
      obtain ⟨KS, hKS⟩ : ∃ KS, keysL.getD K [] = KS := ⟨_, rfl⟩
      rw [hZ] at HSK HSI
      rw [hKS] at HTK ⊢
      have HGX := hid (HG.out.later (Ext.trans HX5.out hx))
      have HXF := hid (Ext.trans HX5.out hx)
      clear hx hks hZ hKS hj hlt hc5
      go_wp2_with fail
      refine region_inv mixed rfl (by kernel_rfl) (kV (tbK B K Z KS)) (kV_keep _) (forall_ops ⟨?_, ?_, ?_, ?_, ?_, ?_, ?_, ?_, ?_, ?_, ?_, ?_, ?_, ?_, ?_, ?_, trivial⟩) ?_
      · intro a w hk
        have s3 : a.tmps.getD 3 undef = .int .i64 K := hk.was 3 (by kernel_rfl) rfl
        exact step_move rfl rfl s3 rfl
      · intro a w hk
        have s66 := hk.eq_ 0 66 (by kernel_rfl) rfl
        exact step_call rfl rfl (by simp only [List.map_toArray, List.map_cons, List.map_nil, Act.eval, s66] <;> rfl) cf25 (HSI.out w (HGX.out.later hk.ext).sh) (fun e w1 h => by obtain ⟨rfl, hx⟩ := h; exact ⟨_, rfl, hx, rfl⟩)
      · intro a w hk
        have s4 : a.tmps.getD 4 undef = .slice (some ⟨B, 0, none⟩) 10 10 := hk.was 4 (by kernel_rfl) rfl
        exact step_move rfl rfl s4 rfl
      · intro a w hk
        have s3 : a.tmps.getD 3 undef = .int .i64 K := hk.was 3 (by kernel_rfl) rfl
        exact step_move rfl rfl s3 rfl
      · intro a w hk
        have s68 := hk.eq_ 2 68 (by kernel_rfl) rfl
        have s69 := hk.eq_ 3 69 (by kernel_rfl) rfl
        refine step_val (v := .pointer (some ⟨B, K, none⟩)) (w' := w) rfl ?_ (Ext.refl w) ⟨_, rfl, World.block_lt_of_cell? w _ (cell_at hk.ext HSK.out), cell_at hk.ext HSK.out⟩
        have hk10 : (K : Int) < 10 := by have := HKK.out; omega
        go_simp
      · intro a w hk
        obtain ⟨p70, s70, h70, g70⟩ := hk.val 4 70 (by kernel_rfl) rfl
        refine step_val (v := .int .i64 (Z : Nat)) (w' := w) rfl ?_ (Ext.refl w) rfl
        go_simp
      · intro a w hk
        have s67 := hk.eq_ 1 67 (by kernel_rfl) rfl
        have s71 := hk.eq_ 5 71 (by kernel_rfl) rfl
        refine step_val (v := .bool true) (w' := w) rfl ?_ (Ext.refl w) rfl
        go_simp
      · intro a w hk
        have s72 := hk.eq_ 6 72 (by kernel_rfl) rfl
        exact step_move rfl rfl s72 rfl
      · intro a w hk
        refine hk.run 7 73 true true rfl (by kernel_rfl) rfl fun hw => ?_
        have s6 : a.tmps.getD 6 undef = .string (str KS) := hk.was 6 (by kernel_rfl) rfl
        exact step_move hw rfl s6 rfl
      · intro a w hk
        refine hk.run 7 73 true true rfl (by kernel_rfl) rfl fun hw => ?_
        have s5 : a.tmps.getD 5 undef = .slice (some ⟨B + 1, 0, none⟩) 10 10 := hk.was 5 (by kernel_rfl) rfl
        exact step_move hw rfl s5 rfl
      · intro a w hk
        refine hk.run 7 73 true true rfl (by kernel_rfl) rfl fun hw => ?_
        have s3 : a.tmps.getD 3 undef = .int .i64 K := hk.was 3 (by kernel_rfl) rfl
        exact step_move hw rfl s3 rfl
      · intro a w hk
        refine hk.run 7 73 true true rfl (by kernel_rfl) rfl fun hw => ?_
        have s75 := hk.eq_ 9 75 (by kernel_rfl) rfl
        have s76 := hk.eq_ 10 76 (by kernel_rfl) rfl
        refine step_val (v := .pointer (some ⟨B + 1, K, none⟩)) (w' := w) hw ?_ (Ext.refl w) ⟨_, rfl, World.block_lt_of_cell? w _ (cell_at hk.ext HTK.out), cell_at hk.ext HTK.out⟩
        have hk10 : (K : Int) < 10 := by have := HKK.out; omega
        go_simp
      · intro a w hk
        refine hk.run 7 73 true true rfl (by kernel_rfl) rfl fun hw => ?_
        obtain ⟨p77, s77, h77, g77⟩ := hk.val 11 77 (by kernel_rfl) rfl
        refine step_val (v := .string (str KS)) (w' := w) hw ?_ (Ext.refl w) rfl
        go_simp
      · intro a w hk
        refine hk.run 7 73 true true rfl (by kernel_rfl) rfl fun hw => ?_
        have s74 := hk.eq_ 8 74 (by kernel_rfl) rfl
        have s78 := hk.eq_ 12 78 (by kernel_rfl) rfl
        refine step_val (v := .bool true) (w' := w) hw ?_ (Ext.refl w) rfl
        go_simp
      · intro a w hk
        have s73 := hk.eq_ 7 73 (by kernel_rfl) rfl
        have s79 := hk.eq_ 13 79 (by kernel_rfl) rfl
        exact step_pick (b := true) rfl rfl s73 s79 rfl
      · intro a w hk
        have s80 := hk.eq_ 14 80 (by kernel_rfl) rfl
        exact step_assign rfl rfl s80 rfl
      · intro a w9 hf
        have s66 := hf.eq_ 0 66 (by kernel_rfl) rfl
        have s67 := hf.eq_ 1 67 (by kernel_rfl) rfl
        have s68 := hf.eq_ 2 68 (by kernel_rfl) rfl
        have s69 := hf.eq_ 3 69 (by kernel_rfl) rfl
        have s71 := hf.eq_ 5 71 (by kernel_rfl) rfl
        have s72 := hf.eq_ 6 72 (by kernel_rfl) rfl
        have s73 := hf.eq_ 7 73 (by kernel_rfl) rfl
        have s74 := hf.eq_ 8 74 (by kernel_rfl) rfl
        have s75 := hf.eq_ 9 75 (by kernel_rfl) rfl
        have s76 := hf.eq_ 10 76 (by kernel_rfl) rfl
        have s78 := hf.eq_ 12 78 (by kernel_rfl) rfl
        have s79 := hf.eq_ 13 79 (by kernel_rfl) rfl
        have s80 := hf.eq_ 14 80 (by kernel_rfl) rfl
        have s2 := hf.eq_ 15 2 (by kernel_rfl) rfl
        have hx := hf.ext
        have e := hf.frame
        clear hf
        simp only [regFrame, Act.put, List.setIfInBounds_toArray, List.set_cons_zero, List.set_cons_succ, s66, s67, s68, s69, s71, s72, s73, s74, s75, s76, s78, s79, s80, s2] at e
        generalize a.tmps.getD 70 undef = u70 at e
        generalize a.tmps.getD 77 undef = u77 at e
        clear s66 s67 s68 s69 s71 s72 s73 s74 s75 s76 s78 s79 s80 s2
        subst e
        have HXE := hid (Ext.trans HXF.out hx)
        clear hx
        go_wp2_with fail
        go_ret
        exact ⟨rfl, HXE.out⟩
end Go.Proofs.YtbgkmicelmenfaaGreatDoor.C
