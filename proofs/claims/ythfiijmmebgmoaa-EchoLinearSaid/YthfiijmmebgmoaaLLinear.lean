/- The law on tables whose numbers are sums, walked; own text of the verifier. -/
import Derived.Test.YthfiijmmebgmoaaE8
import Derived.Test.YthfiijmmebgmoaaE9
import Derived.Test.YthfiijmmebgmoaaM3
namespace Go.Proofs.Ythfiijmmebgmoaa
open Go.RowKit
/-- A block that holds an array of bytes. -/
def Arr8 (w : World) (G : Nat) (bs : List UInt8) : Prop := w.heap[G]? = some (.cells (cellsOf bs).toArray 42 (0, 0))
theorem Arr8.lt {w : World} {G : Nat} {bs : List UInt8} (h : Arr8 w G bs) : G < w.heap.size := (Array.getElem?_eq_some_iff.1 h).1
theorem Arr8.later {w w' : World} {G : Nat} {bs : List UInt8} (h : Arr8 w G bs) (hx : Ext w w') : Arr8 w' G bs := (hx.block G h.lt).trans h
theorem Arr8.cell {w : World} {G : Nat} {bs : List UInt8} (h : Arr8 w G bs) (k : Nat) (hk : k < bs.length) : w.cell? ⟨G, k, none⟩ = some (.int .u8 (nb bs k : Nat)) := by
  rw [cell_of_row w G k _ _ _ h]
  simpa [byteAt_nb] using cellsOf_get bs k hk
/-- The law's rows, behind k bytes. -/
def rowsG (bs : List UInt8) : Nat → List UInt8
  | 0 => List.replicate 8 0
  | k + 1 => (rowsG bs k).set k (bs.getD k 0)
theorem rowsG_length (bs : List UInt8) : ∀ k, (rowsG bs k).length = 8
  | 0 => rfl
  | k + 1 => by rw [rowsG, List.length_set, rowsG_length bs k]
theorem cells_set (bs : List UInt8) (k : Nat) (x : UInt8) : (cellsOf bs).toArray.setIfInBounds k (.int .u8 (x.toNat : Int)) = (cellsOf (bs.set k x)).toArray := by
  simp [cellsOf, List.map_set]
theorem bit_i64 (x k : Nat) (hx : x < 256) : bits .and .i64 ((x : Int) / 2 ^ k) 1 = ((x / 2 ^ k % 2 : Nat) : Int) := by
  have e : ((x / 2 ^ k : Nat) : Int) = (x : Int) / 2 ^ k := by simp
  have hl : x / 2 ^ k < 256 := Nat.lt_of_le_of_lt (Nat.div_le_self _ _) hx
  rw [← e]
  generalize x / 2 ^ k = q at *
  have e0 : bits .and .i64 (q : Int) 1 = IntKind.i64.wrap ((BitVec.ofInt 64 (q : Int) &&& BitVec.ofInt 64 1).toNat : Int) := rfl
  rw [e0, BitVec.toNat_and, BitVec.toNat_ofInt, show (BitVec.ofInt 64 1).toNat = 1 from rfl, nat_mask1]
  simp [IntKind.wrap, IntKind.bits, IntKind.signed]
  omega
set_option maxRecDepth 100000 in
set_option maxHeartbeats 4000000 in
theorem linear_walk (a0 : Option Addr) (len0 cap0 : Nat) (z0 : List Int) (a1 : Int) (a2 : Int) (w : World) (w0 : IsRow .u8 w a0 len0 cap0 z0) (w1 : (Lit.int .u8 a1).wf = true) (w2 : (Lit.int .u8 a2).wf = true) :
    Calls Try.prog 11 #[.slice a0 len0 cap0, .int .u8 a1, .int .u8 a2] w fun e w' => e = .returned (.bool true) ∧ Below w.heap.size w w' := by
  obtain ⟨x, rfl, hx⟩ := byte_arg w1
  obtain ⟨y, rfl, hy⟩ := byte_arg w2
  obtain ⟨bs, hrb, hmax⟩ := w0.rd
  unfold maxLen at hmax
  clear w0 w1 w2
  go_enter Try.func11, Try.ntmps11
  go_wp2_with fail
  refine (known_any _).mono ?_
  rintro e wk ⟨rfl, hbk⟩
  have HB := hid hbk
  have HR := hid (hrb.below hbk (Nat.le_refl _))
  clear hbk hrb
  go_wp2_with fail
  have h1 := heap_alloc_new wk (.cells #[.int .u8 0, .int .u8 0, .int .u8 0, .int .u8 0, .int .u8 0, .int .u8 0, .int .u8 0, .int .u8 0] 42)
  have h3 := Ext.alloc wk (.cells #[.int .u8 0, .int .u8 0, .int .u8 0, .int .u8 0, .int .u8 0, .int .u8 0, .int .u8 0, .int .u8 0] 42)
  obtain ⟨W1, hW1⟩ : ∃ W1, wk.alloc (.cells #[.int .u8 0, .int .u8 0, .int .u8 0, .int .u8 0, .int .u8 0, .int .u8 0, .int .u8 0, .int .u8 0] 42) = W1 := ⟨_, rfl⟩
  rw [hW1] at h1 h3 ⊢
  obtain ⟨G, hG⟩ : ∃ G, wk.heap.size = G := ⟨_, rfl⟩
  rw [hG] at h1 ⊢
  have hGB : w.heap.size ≤ G := by have := HB.out.size; omega
  have HH := hid (show Arr8 W1 G (rowsG bs 0) ∧ Below w.heap.size wk W1 from ⟨h1, h3.mono HB.out.size⟩)
  clear hW1 h1 h3 hG
  go_loopw [8] (fun i wr => ∃ k : Nat, k ≤ 8 ∧ i = .int .i64 k ∧ Arr8 wr G (rowsG bs k) ∧ Below w.heap.size wk wr) (fun i _ => 8 - (intOf i).toNat)
  case atStart => exact ⟨0, by omega, rfl, HH.out⟩
  case round =>
    obtain ⟨k, hk, rfl, ha, hxb⟩ := hrel
    clear HH
    by_cases hgo : k < 8 ∧ k < len0
    · obtain ⟨k8, kn⟩ := hgo
      obtain ⟨b1, o1, rfl, hb1', hc1⟩ := (HR.out.below hxb (Nat.le_refl _)).at_ (by omega)
      have hck := hc1 k kn
      have hfr := frozen_of_row wr G k _ 42 ha
      have hold := ha.cell k (by rw [rowsG_length]; exact k8)
      have hset := heap_setCell_same wr G k _ 42 (.int .u8 ((bs.getD k 0).toNat : Int)) ha
      rw [cells_set] at hset
      have HS := hid (show Arr8 (wr.setCell ⟨G, k, none⟩ (.int .u8 (byteAt bs k))) G (rowsG bs (k + 1)) from hset)
      have HX := hid (Below.setCell hxb (p := ⟨G, k, none⟩) (by simp; omega) (.int .u8 (byteAt bs k)))
      clear hc1 ha hxb hset
      go_wp2_with fail
      go_roundw
      case rel => exact ⟨k + 1, by omega, by go_num, HS.out, HX.out⟩
      case measure => simp [intOf]; omega
    · obtain ⟨rl, hrl⟩ : ∃ rl, rowsG bs k = rl := ⟨_, rfl⟩
      have hrll : rl.length = 8 := by rw [← hrl]; exact rowsG_length bs k
      rw [hrl] at ha
      have HA := hid ha
      have HX := hid hxb
      have hzK : G < wr.heap.size := ha.lt
      have hzB := hxb.size
      clear ha hxb hrl
      by_cases h8 : k < 8
      · have hkn : ¬ k < len0 := by omega
        clear hgo
        go_wp2_with (at_make; refine wpL_make rfl (.const (.int .i64 256)) (.const (.int .i64 256)) 22 rfl Try.underlying22 Try.info5 .i64 256 256 rfl rfl rfl (by omega) wr.heap.size (Nat.le_refl _) ?_; intro w2 hown2 hb2 _)
        obtain ⟨K, hK⟩ : ∃ K, wr.heap.size = K := ⟨_, rfl⟩
        have hKB : w.heap.size ≤ K := by have := HB.out.size; omega
        have hGK : G ≠ K := by omega
        have HO := hid (hK ▸ hown2)
        have HA2 := hid (HA.out.later hb2)
        have HX2 := hid (HX.out.trans (hb2.mono (by have := HB.out.size; omega)))
        rw [hK]
        clear hown2 hb2 hK HA HX hzK hzB
        go_loopw [10] (fun i wr => ∃ n : Nat, n ≤ 256 ∧ i = .int .i64 n ∧ Own wr K (.slice (some ⟨K, 0, none⟩) 256 256) (fillTo (linF rl) 256 n) ∧ Arr8 wr G rl ∧ Below w.heap.size wk wr) (fun i _ => 256 - (intOf i).toNat)
        case atStart => exact ⟨0, by omega, rfl, by rw [fillTo_zero]; exact HO.out, HA2.out, HX2.out⟩
        case round =>
          obtain ⟨n, hn, rfl, hown, ha, hb⟩ := hrel
          by_cases hlt : n < 256
          · have HO3 := hid (show Own wr K (.slice (some ⟨K, 0, none⟩) 256 256) (linG rl n 0) by rw [linG_start]; exact hown)
            have HA3 := hid ha
            have HX3 := hid hb
            clear hown ha hb HO HA2 HX2
            go_wp2_with fail
            go_loopw [11] (fun j wr => ∃ m : Nat, m ≤ 8 ∧ j = .int .i64 m ∧ Own wr K (.slice (some ⟨K, 0, none⟩) 256 256) (linG rl n m) ∧ Arr8 wr G rl ∧ Below w.heap.size wk wr) (fun j _ => 8 - (intOf j).toNat)
            case atStart => exact ⟨0, by omega, rfl, HO3.out, HA3.out, HX3.out⟩
            case round =>
              obtain ⟨m, hm, rfl, hown, ha, hb⟩ := hrel
              by_cases hm8 : m < 8
              · have h1 := bit_i64 n m hlt
                have hs : linN rl n (m + 1) = if n / 2 ^ m % 2 = 1 then linN rl n m ^^^ nb rl m else linN rl n m := rfl
                have hbl := Nat.mod_lt (n / 2 ^ m) (show 0 < 2 by omega)
                rcases (show n / 2 ^ m % 2 = 0 ∨ n / 2 ^ m % 2 = 1 by omega) with h0 | h0
                · rw [h0] at h1
                  rw [h0, if_neg (by omega)] at hs
                  have hG : linG rl n (m + 1) = linG rl n m := by unfold linG; rw [hs]
                  have HO4 := hid (show Own wr K (.slice (some ⟨K, 0, none⟩) 256 256) (linG rl n (m + 1)) by rw [hG]; exact hown)
                  have HA4 := hid ha
                  have HX4 := hid hb
                  clear hown ha hb hs h0 hG hbl
                  go_wp2_with fail
                  go_roundw
                  case rel => exact ⟨m + 1, by omega, by go_num, HO4.out, HA4.out, HX4.out⟩
                  case measure => simp [intOf]; omega
                · rw [h0] at h1
                  rw [h0, if_pos rfl] at hs
                  have hct := hown.celln (linG_length rl n m) n hlt
                  rw [linG_at rl n m hlt] at hct
                  have hcr := ha.cell m (by omega)
                  have hfr := hown.freen n
                  have htl := linN_lt rl n m
                  have hrl2 := nb_lt rl m
                  have hg := u8_xor_nat _ _ htl hrl2
                  have hset := hown.setn n (UInt8.ofNat (linN rl n (m + 1)))
                  rw [linG_set rl n m _ rfl, u8_nat _ (linN_lt rl n (m + 1)), hs] at hset
                  have hoth := heap_setCell_other wr ⟨K, n, none⟩ G (.int .u8 ((linN rl n m ^^^ nb rl m : Nat) : Int)) hGK
                  obtain ⟨t, ht⟩ : ∃ t, linN rl n m = t := ⟨_, rfl⟩
                  obtain ⟨r, hr⟩ : ∃ r, nb rl m = r := ⟨_, rfl⟩
                  rw [ht] at hct htl hg hset hoth
                  rw [hr] at hcr hrl2 hg hset hoth
                  have hz := xor_lt8 htl hrl2
                  obtain ⟨z, hze⟩ : ∃ z, t ^^^ r = z := ⟨_, rfl⟩
                  rw [hze] at hg hset hoth hz
                  have HO4 := hid hset
                  have HA4 := hid (show Arr8 (wr.setCell ⟨K, n, none⟩ (.int .u8 (z : Int))) G rl from hoth.trans ha)
                  have HX4 := hid hb
                  have hgK : K < wr.heap.size := (World.ownsRow.lt hown K rfl).2
                  clear hown ha hb hs h0 hbl hset hoth ht hr hze
                  go_wp2_with fail
                  go_region
                  go_wp2_with fail
                  go_roundw
                  case rel => exact ⟨m + 1, by omega, by go_num, HO4.out, HA4.out, (below_drewN' HX4.out _).setCell (by simp; omega) _⟩
                  case measure => simp [intOf]; omega
              · obtain rfl : m = 8 := by omega
                rw [linG_end] at hown
                have HO4 := hid hown
                have HA4 := hid ha
                have HX4 := hid hb
                clear hown ha hb
                go_wp2_with fail
                go_roundw
                case rel => exact ⟨n + 1, by omega, by go_num, HO4.out, HA4.out, HX4.out⟩
                case measure => simp [intOf]; omega
          · obtain rfl : n = 256 := by omega
            rw [fillTo_full] at hown
            have hlb := lin_bias rl x y
            have hown' : Own wr K (.slice (some ⟨K, 0, none⟩) 256 256) (linL rl) := hown
            obtain ⟨ul, hul⟩ : ∃ ul, linL rl = ul := ⟨_, rfl⟩
            have hull : ul.length = 256 := by rw [← hul]; simp [linL]
            rw [hul] at hown' hlb
            obtain ⟨A2, c2, hA, hRu, _⟩ := hown'.rd
            rw [hull] at hA hRu
            cases hA
            have C1 := hid (bias_any (some ⟨K, 0, none⟩) 256 256 ul x y wr _ hRu (by omega) hx hy)
            have C2 := hid (rbias_any (some ⟨K, 0, none⟩) 256 256 ul x y wr _ hRu (by omega) hx hy)
            obtain ⟨S, hS⟩ : ∃ S, biasS ul x y 256 = S := ⟨_, rfl⟩
            rw [hS] at C1 C2 hlb
            have HBB := hid (HB.out.trans hb)
            clear hown hown' hul hull hRu ha hb hS
            rcases hlb with rfl | rfl <;>
            · go_wp2_with fail
              refine C1.out.mono ?_
              rintro e w' ⟨rfl, rfl⟩
              go_wp2_with fail
              refine C2.out.mono ?_
              rintro e w' ⟨rfl, mm, rfl⟩
              go_wp2_with fail
              go_ret
              exact ⟨rfl, below_drewN' HBB.out mm⟩
      · clear hgo
        go_wp2_with (at_make; refine wpL_make rfl (.const (.int .i64 256)) (.const (.int .i64 256)) 22 rfl Try.underlying22 Try.info5 .i64 256 256 rfl rfl rfl (by omega) wr.heap.size (Nat.le_refl _) ?_; intro w2 hown2 hb2 _)
        obtain ⟨K, hK⟩ : ∃ K, wr.heap.size = K := ⟨_, rfl⟩
        have hKB : w.heap.size ≤ K := by have := HB.out.size; omega
        have hGK : G ≠ K := by omega
        have HO := hid (hK ▸ hown2)
        have HA2 := hid (HA.out.later hb2)
        have HX2 := hid (HX.out.trans (hb2.mono (by have := HB.out.size; omega)))
        rw [hK]
        clear hown2 hb2 hK HA HX hzK hzB
        go_loopw [10] (fun i wr => ∃ n : Nat, n ≤ 256 ∧ i = .int .i64 n ∧ Own wr K (.slice (some ⟨K, 0, none⟩) 256 256) (fillTo (linF rl) 256 n) ∧ Arr8 wr G rl ∧ Below w.heap.size wk wr) (fun i _ => 256 - (intOf i).toNat)
        case atStart => exact ⟨0, by omega, rfl, by rw [fillTo_zero]; exact HO.out, HA2.out, HX2.out⟩
        case round =>
          obtain ⟨n, hn, rfl, hown, ha, hb⟩ := hrel
          by_cases hlt : n < 256
          · have HO3 := hid (show Own wr K (.slice (some ⟨K, 0, none⟩) 256 256) (linG rl n 0) by rw [linG_start]; exact hown)
            have HA3 := hid ha
            have HX3 := hid hb
            clear hown ha hb HO HA2 HX2
            go_wp2_with fail
            go_loopw [11] (fun j wr => ∃ m : Nat, m ≤ 8 ∧ j = .int .i64 m ∧ Own wr K (.slice (some ⟨K, 0, none⟩) 256 256) (linG rl n m) ∧ Arr8 wr G rl ∧ Below w.heap.size wk wr) (fun j _ => 8 - (intOf j).toNat)
            case atStart => exact ⟨0, by omega, rfl, HO3.out, HA3.out, HX3.out⟩
            case round =>
              obtain ⟨m, hm, rfl, hown, ha, hb⟩ := hrel
              by_cases hm8 : m < 8
              · have h1 := bit_i64 n m hlt
                have hs : linN rl n (m + 1) = if n / 2 ^ m % 2 = 1 then linN rl n m ^^^ nb rl m else linN rl n m := rfl
                have hbl := Nat.mod_lt (n / 2 ^ m) (show 0 < 2 by omega)
                rcases (show n / 2 ^ m % 2 = 0 ∨ n / 2 ^ m % 2 = 1 by omega) with h0 | h0
                · rw [h0] at h1
                  rw [h0, if_neg (by omega)] at hs
                  have hG : linG rl n (m + 1) = linG rl n m := by unfold linG; rw [hs]
                  have HO4 := hid (show Own wr K (.slice (some ⟨K, 0, none⟩) 256 256) (linG rl n (m + 1)) by rw [hG]; exact hown)
                  have HA4 := hid ha
                  have HX4 := hid hb
                  clear hown ha hb hs h0 hG hbl
                  go_wp2_with fail
                  go_roundw
                  case rel => exact ⟨m + 1, by omega, by go_num, HO4.out, HA4.out, HX4.out⟩
                  case measure => simp [intOf]; omega
                · rw [h0] at h1
                  rw [h0, if_pos rfl] at hs
                  have hct := hown.celln (linG_length rl n m) n hlt
                  rw [linG_at rl n m hlt] at hct
                  have hcr := ha.cell m (by omega)
                  have hfr := hown.freen n
                  have htl := linN_lt rl n m
                  have hrl2 := nb_lt rl m
                  have hg := u8_xor_nat _ _ htl hrl2
                  have hset := hown.setn n (UInt8.ofNat (linN rl n (m + 1)))
                  rw [linG_set rl n m _ rfl, u8_nat _ (linN_lt rl n (m + 1)), hs] at hset
                  have hoth := heap_setCell_other wr ⟨K, n, none⟩ G (.int .u8 ((linN rl n m ^^^ nb rl m : Nat) : Int)) hGK
                  obtain ⟨t, ht⟩ : ∃ t, linN rl n m = t := ⟨_, rfl⟩
                  obtain ⟨r, hr⟩ : ∃ r, nb rl m = r := ⟨_, rfl⟩
                  rw [ht] at hct htl hg hset hoth
                  rw [hr] at hcr hrl2 hg hset hoth
                  have hz := xor_lt8 htl hrl2
                  obtain ⟨z, hze⟩ : ∃ z, t ^^^ r = z := ⟨_, rfl⟩
                  rw [hze] at hg hset hoth hz
                  have HO4 := hid hset
                  have HA4 := hid (show Arr8 (wr.setCell ⟨K, n, none⟩ (.int .u8 (z : Int))) G rl from hoth.trans ha)
                  have HX4 := hid hb
                  have hgK : K < wr.heap.size := (World.ownsRow.lt hown K rfl).2
                  clear hown ha hb hs h0 hbl hset hoth ht hr hze
                  go_wp2_with fail
                  go_region
                  go_wp2_with fail
                  go_roundw
                  case rel => exact ⟨m + 1, by omega, by go_num, HO4.out, HA4.out, (below_drewN' HX4.out _).setCell (by simp; omega) _⟩
                  case measure => simp [intOf]; omega
              · obtain rfl : m = 8 := by omega
                rw [linG_end] at hown
                have HO4 := hid hown
                have HA4 := hid ha
                have HX4 := hid hb
                clear hown ha hb
                go_wp2_with fail
                go_roundw
                case rel => exact ⟨n + 1, by omega, by go_num, HO4.out, HA4.out, HX4.out⟩
                case measure => simp [intOf]; omega
          · obtain rfl : n = 256 := by omega
            rw [fillTo_full] at hown
            have hlb := lin_bias rl x y
            have hown' : Own wr K (.slice (some ⟨K, 0, none⟩) 256 256) (linL rl) := hown
            obtain ⟨ul, hul⟩ : ∃ ul, linL rl = ul := ⟨_, rfl⟩
            have hull : ul.length = 256 := by rw [← hul]; simp [linL]
            rw [hul] at hown' hlb
            obtain ⟨A2, c2, hA, hRu, _⟩ := hown'.rd
            rw [hull] at hA hRu
            cases hA
            have C1 := hid (bias_any (some ⟨K, 0, none⟩) 256 256 ul x y wr _ hRu (by omega) hx hy)
            have C2 := hid (rbias_any (some ⟨K, 0, none⟩) 256 256 ul x y wr _ hRu (by omega) hx hy)
            obtain ⟨S, hS⟩ : ∃ S, biasS ul x y 256 = S := ⟨_, rfl⟩
            rw [hS] at C1 C2 hlb
            have HBB := hid (HB.out.trans hb)
            clear hown hown' hul hull hRu ha hb hS
            rcases hlb with rfl | rfl <;>
            · go_wp2_with fail
              refine C1.out.mono ?_
              rintro e w' ⟨rfl, rfl⟩
              go_wp2_with fail
              refine C2.out.mono ?_
              rintro e w' ⟨rfl, mm, rfl⟩
              go_wp2_with fail
              go_ret
              exact ⟨rfl, below_drewN' HBB.out mm⟩
end Go.Proofs.Ythfiijmmebgmoaa
