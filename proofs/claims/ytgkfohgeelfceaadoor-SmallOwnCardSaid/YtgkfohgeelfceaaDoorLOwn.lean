/- The law on what is one's own, walked; own text of the verifier. -/
import Derived.Test.YtgkfohgeelfceaaDoorX14
namespace Go.Proofs.YtgkfohgeelfceaaDoor
open Go.RowKit
def ow23 (C pb : List UInt8) (len2 : Nat) : List K := [.eq (.string (str C)), .eq (.int .i64 8), .eq (.bool true), .eq (.bool true), .byt 8 (C), .eq (.string (str (C))), .eq (.string (str C)), .eq (.bool true), .eq (.bool true), .eq (.bool true), .byt 8 ((byL 8 pb)), .eq (.string (str ((byL 8 pb)))), .byt len2 (pb), .byt 8 (byL 8 pb), .eq (.string (str (byL 8 pb))), .eq (.bool true), .eq (.bool true), .eq (.bool true)]
theorem byte_sum (b y : UInt8) : ((b + y).toNat : Int) = ((b.toNat : Int) + (y.toNat : Int)) % 256 := by
  rw [UInt8.toNat_add]; omega
theorem str_size (bs : List UInt8) : (str bs).size = bs.length := rfl
set_option maxRecDepth 100000 in
set_option maxHeartbeats 4000000 in
theorem own_walk (a0 : Int) (a1 : Option Addr) (len1 cap1 : Nat) (z1 : List Int) (a2 : Option Addr) (len2 cap2 : Nat) (z2 : List Int) (a3 : Int) (w : World) (_w0 : (Lit.int .i64 a0).wf = true) (w1 : IsRow .u8 w a1 len1 cap1 z1) (w2 : IsRow .u8 w a2 len2 cap2 z2) (w3 : (Lit.int .u8 a3).wf = true) (hG : GRows w) :
    Calls Tryd.prog 7 #[.int .i64 a0, .slice a1 len1 cap1, .slice a2 len2 cap2, .int .u8 a3] w fun e w' => e = .returned (.bool true) ∧ Below w.heap.size w w' := by
  obtain ⟨kb, hrk, hm1, _⟩ := w1.rdc
  obtain ⟨pb, hrp, hm2, _⟩ := w2.rdc
  unfold maxLen at hm1 hm2
  obtain ⟨y, rfl⟩ : ∃ y : UInt8, a3 = (y.toNat : Nat) := ⟨UInt8.ofNat a3.toNat, by have := wf_u8' w3; rw [UInt8.toNat_ofNat']; omega⟩
  obtain ⟨k, hk⟩ : ∃ k : Nat, a0 % 3 = (k : Int) := ⟨(a0 % 3).toNat, by omega⟩
  have hlt : k < 3 := by omega
  have HKK := hid hk
  have HK3 := hid hlt
  obtain ⟨t, ht⟩ : ∃ t, T3.at k = t := ⟨_, rfl⟩
  have HTG := hid (show tagsV.getD k undef = .int .i64 t.code by rw [← ht]; exact tagsV_get k hlt)
  have HSZ := hid (fun w => (ht ▸ size_any k w hlt : Calls Tryd.prog 16 #[.int .i64 k] w fun e w' => e = .returned (.int .i64 t.size) ∧ Ext w w'))
  clear ht
  have hsz := size_le t
  have hsp := size_pos t
  have HG := hid hG
  have HRK := hid hrk
  have HRP := hid hrp
  have HM1 := hid hm1
  have HM2 := hid hm2
  have HGL : 0 < w.heap.size := World.block_lt_of_cell? w ⟨0, 0, none⟩ (HG.out 0 (by omega))
  clear hG hrk hrp hm1 hm2 w1 w2 w3 hk
  go_enter Tryd.func7, Tryd.ntmps7
  go_wp2_with fail
  refine (known_any _ HG.out).mono ?_
  rintro e w1 ⟨rfl, hx1⟩
  have HX1 := hid hx1
  have HRK := hid (HRK.out.later hx1)
  clear hx1
  go_wp2_with fail
  refine (within_any _ _ _ (by omega) (by omega)).mono ?_
  rintro e w2 ⟨rfl, rfl⟩
  rw [HKK.out]
  go_wp2_with fail
  refine (HSZ.out _).mono ?_
  rintro e w2 ⟨rfl, hx2⟩
  have HX2 := hid (Ext.trans HX1.out hx2)
  have HRK := hid (HRK.out.later hx2)
  clear hx2 HX1
  go_wp2_with fail
  refine (by_any a1 t.size len1 cap1 kb _ HRK.out (by omega) HM1.out).mono ?_
  rintro e w3 ⟨v10, rfl, ho, hx⟩
  obtain ⟨g10, c10, rfl, hb10, hl10, hc10, hm10, hown10, hrd10⟩ := ho.at_ (n := t.size) (byL_len _ _) (by omega)
  have HX3 := hid (Ext.trans HX2.out hx)
  have HO10 := hid hown10
  have HR10 := hid hrd10
  have hz2 := Below.size HX2.out
  clear ho hx hown10 hrd10 HX2 HRK
  go_wp2_with fail
  refine (tags_any _).mono ?_
  rintro e wt ⟨v32, rfl, hx, b32, rfl, hb32, hc32⟩
  have hcl := (hc32 k hlt).trans (by rw [HTG.out])
  have hk3 : (k : Int) < 3 := by omega
  have HXT := hid (Ext.trans HX3.out hx)
  have HO10 := hid (HO10.out.kept hx)
  have HR10 := hid (HR10.out.later hx)
  have hzt := Below.size hx
  clear hx hc32 HX3
  go_wp2_with fail
  refine (newO_any t (some ⟨g10, 0, none⟩) c10 (byL t.size kb) _ HR10.out hc10 hm10).mono ?_
  rintro e w4 ⟨p11, rfl, ⟨hpH, b11, o11, k11, hbH, hsm⟩, hx⟩
  have HX4 := hid (Ext.trans HXT.out hx)
  have HO10 := hid (HO10.out.kept hx)
  have HS4 := hid hsm
  have hz4 := Below.size hx
  clear hx hsm HXT HR10 hcl
  go_wp2_with fail
  refine (by_any a2 8 len2 cap2 pb _ (HRP.out.later HX4.out) (by omega) HM2.out).mono ?_
  rintro e w5 ⟨v13, rfl, ho, hx⟩
  obtain ⟨g13, c13, rfl, hb13, hl13, hc13, hm13, _, hrd13⟩ := ho.at_ (n := 8) (byL_len _ _) (by omega)
  have HX5 := hid (Ext.trans HX4.out hx)
  have HO10 := hid (HO10.out.kept hx)
  have HS5 := hid (HS4.out.later hx)
  have HR13 := hid hrd13
  have hz5 := Below.size hx
  clear ho hx hrd13 HX4 HS4
  have hpl : p11 < w5.heap.size := World.block_lt_of_cell? w5 ⟨p11, 0, none⟩ HS5.out.tag
  have hbl : b11 < w5.heap.size := World.block_lt_of_cell? w5 ⟨b11, o11 + 0, none⟩ (HS5.out.at_ 0 (by rw [keysOf_length]; exact nKeys_pos t))
  have HLC := hid (blockL_length t (byL t.size kb) false (byL 8 pb))
  have HKL := hid (show (keysOf t (byL t.size kb)).length ≤ 1000 by rw [keysOf_length]; cases t <;> decide)
  go_wp2_with fail
  refine (block_any t (byL t.size kb) false p11 (some ⟨g13, 0, none⟩) c13 (byL 8 pb) _ ⟨b11, o11, k11, HS5.out⟩ (HG.out.later HX5.out) HR13.out hc13 hm13).mono ?_
  obtain ⟨C, hC⟩ : ∃ C, blockL t (byL t.size kb) false (byL 8 pb) = C := ⟨_, rfl⟩
  have HC := hid hC
  rw [hC] at HLC ⊢
  clear hC
  rintro e w6 ⟨v14, rfl, ho, hx⟩
  obtain ⟨g14, c14, rfl, hb14, hl14, hc14, hm14, hown14, hrd14⟩ := ho.at_ (n := 8) HLC.out (by omega)
  have HX6 := hid (Ext.trans HX5.out hx)
  have HO10 := hid (HO10.out.kept hx)
  have HS6 := hid (HS5.out.later hx)
  have HR13 := hid (HR13.out.later hx)
  have HO14 := hid hown14
  have hs14 := strq (c := c14) hrd14
  clear ho hx hrd14 hown14 HX5 HS5
  go_wp2_with fail
  clear hs14
  go_loopw [17] (fun i wr => ∃ (j : Nat) (cur : List UInt8), j ≤ t.size ∧ cur.length = t.size ∧ i = .int .i64 j ∧ Own wr w2.heap.size (.slice (some ⟨g10, 0, none⟩) t.size c10) cur ∧ Keeps g10 w6 wr ∧ Ext w wr) (fun i _ => t.size - (intOf i).toNat)
  case atStart => exact ⟨0, _, by omega, byL_len _ _, rfl, HO10.out, Keeps.refl _ _, HX6.out⟩
  case round =>
    obtain ⟨j, cur, hj, hcl, rfl, hown, hkeep, hext⟩ := hrel
    by_cases hlt2 : j < t.size
    · have hown0 : Own wr w2.heap.size (.slice (some ⟨g10, 0, none⟩) cur.length c10) cur := by rw [hcl]; exact hown
      have hcell := hown0.cell j (by omega)
      have hfree := hown0.free j
      have hset := hown0.set_ j (cur.getD j 0 + y)
      rw [hcl, byte_sum] at hset
      have hbd1 := byteAt_lo cur j
      have hbd2 := byteAt_hi cur j
      have hset : Own (wr.setCell ⟨g10, j, none⟩ (.int .u8 ((byteAt cur j + (y.toNat : Int)) % 256))) w2.heap.size (.slice (some ⟨g10, 0, none⟩) t.size c10) (cur.set j (cur.getD j 0 + y)) := hset
      have hb10' : w.heap.size ≤ g10 := by omega
      have hyl := y.toNat_lt
      have HH1 := hid hset
      have HH2 := hid (hkeep.set j (.int .u8 ((byteAt cur j + (y.toNat : Int)) % 256)))
      have HH3 := hid (show Below w.heap.size w (wr.setCell ⟨g10, j, none⟩ (.int .u8 ((byteAt cur j + (y.toNat : Int)) % 256))) from (show Below w.heap.size w wr from hext).setCell hb10' _)
      clear hset hown0 hown hkeep hext HO10 HS6 HR13 HO14 HX6
      go_wp2_with fail
      go_roundw
      case rel => exact ⟨j + 1, _, by omega, by rw [List.length_set]; exact hcl, by go_num, HH1.out, HH2.out, HH3.out⟩
      case measure => simp [intOf]; omega
    · have hr10 : Rd wr wr.heap.size (some ⟨g10, 0, none⟩) t.size cur := by
        obtain ⟨A, c, e, h1, _⟩ := hown.rdn hcl
        simp only [Value.slice.injEq] at e
        rw [e.1]; exact h1
      have HR10 := hid hr10
      have HX8 := hid hext
      have HS8 := hid (HS6.out.keeps hkeep (by omega) (by omega))
      have HR13 := hid (HR13.out.keeps hkeep (by omega) (by have := hkeep.size; omega))
      have HO14 := hid (HO14.out.keeps hkeep (by omega))
      have hz8 := hkeep.size
      clear hr10 hown hkeep hext HO10 HS6 HX6
      go_wp2_with fail
      refine (tags_any _).mono ?_
      rintro e wt ⟨v66, rfl, hx, b66, rfl, hb66, hc66⟩
      have hcl := (hc66 k hlt).trans (by rw [HTG.out])
      have HX8 := hid (Ext.trans HX8.out hx)
      have HS8 := hid (HS8.out.later hx)
      have HR13 := hid (HR13.out.later hx)
      have HO14 := hid (HO14.out.kept hx)
      have HR10 := hid (HR10.out.later hx)
      have hzt2 := Below.size hx
      clear hx hc66
      go_wp2_with fail
      refine (new_any t (some ⟨g10, 0, none⟩) c10 cur _ HR10.out hc10 hm10).mono ?_
      rintro e w9 ⟨p18, rfl, g18, hx⟩
      have HX9 := hid (Ext.trans HX8.out hx)
      have HS9 := hid (HS8.out.later hx)
      have HN9 := hid g18
      have HR13 := hid (HR13.out.later hx)
      have HO14 := hid (HO14.out.kept hx)
      have hz9 := Below.size hx
      clear hx g18 HX8 HS8 HR10 hcl
      go_wp2_with fail
      refine (block_any t cur true p18 (some ⟨g13, 0, none⟩) c13 (byL 8 pb) _ HN9.out (HG.out.later HX9.out) HR13.out hc13 hm13).mono ?_
      rintro e w10 ⟨v78, rfl, ho, hx⟩
      have HX10 := hid (Ext.trans HX9.out hx)
      have HS10 := hid (HS9.out.later hx)
      have HR13 := hid (HR13.out.later hx)
      have HO14 := hid (HO14.out.kept hx)
      have hz10 := Below.size hx
      clear ho hx HX9 HS9 HN9
      go_wp2_with fail
      go_loopw [20] (fun i wr => ∃ (j : Nat) (cur : List UInt8), j ≤ 8 ∧ cur.length = 8 ∧ i = .int .i64 j ∧ Own wr w5.heap.size (.slice (some ⟨g14, 0, none⟩) 8 c14) cur ∧ Keeps g14 w10 wr ∧ Ext w wr) (fun i _ => 8 - (intOf i).toNat)
      case atStart => exact ⟨0, _, by omega, HLC.out, rfl, HO14.out, Keeps.refl _ _, HX10.out⟩
      case round =>
        obtain ⟨j, cur, hj, hcl, rfl, hown, hkeep, hext⟩ := hrel
        by_cases hlt2 : j < 8
        · have hown0 : Own wr w5.heap.size (.slice (some ⟨g14, 0, none⟩) cur.length c14) cur := by rw [hcl]; exact hown
          have hcell := hown0.cell j (by omega)
          have hfree := hown0.free j
          have hset := hown0.set_ j (cur.getD j 0 + y)
          rw [hcl, byte_sum] at hset
          have hbd1 := byteAt_lo cur j
          have hbd2 := byteAt_hi cur j
          have hset : Own (wr.setCell ⟨g14, j, none⟩ (.int .u8 ((byteAt cur j + (y.toNat : Int)) % 256))) w5.heap.size (.slice (some ⟨g14, 0, none⟩) 8 c14) (cur.set j (cur.getD j 0 + y)) := hset
          have hb14' : w.heap.size ≤ g14 := by omega
          have hyl := y.toNat_lt
          have HH1 := hid hset
          have HH2 := hid (hkeep.set j (.int .u8 ((byteAt cur j + (y.toNat : Int)) % 256)))
          have HH3 := hid (show Below w.heap.size w (wr.setCell ⟨g14, j, none⟩ (.int .u8 ((byteAt cur j + (y.toNat : Int)) % 256))) from (show Below w.heap.size w wr from hext).setCell hb14' _)
          clear hset hown0 hown hkeep hext HS10 HR13 HO14 HX10
          go_wp2_with fail
          go_roundw
          case rel => exact ⟨j + 1, _, by omega, by rw [List.length_set]; exact hcl, by go_num, HH1.out, HH2.out, HH3.out⟩
          case measure => simp [intOf]; omega
        · have HX11 := hid hext
          have HS11 := hid (HS10.out.keeps hkeep (by omega) (by omega))
          have HR13 := hid (HR13.out.keeps hkeep (by omega) (by have := hkeep.size; omega))
          clear hown hkeep hext HO14 HS10 HX10
          go_wp2_with fail
          refine (block_any t (byL t.size kb) false p11 (some ⟨g13, 0, none⟩) c13 (byL 8 pb) _ ⟨b11, o11, k11, HS11.out⟩ (HG.out.later HX11.out) HR13.out hc13 hm13).mono ?_
          rw [HC.out]
          rintro e w12 ⟨v21, rfl, ho, hx⟩
          obtain ⟨A21, c21, rfl, hc21, hm21, hr21⟩ := ho.rdm (n := 8) HLC.out
          have HX12 := hid (Ext.trans HX11.out hx)
          have HR13 := hid (HR13.out.later hx)
          have HR21 := hid hr21
          have HRP := hid (HRP.out.later HX12.out)
          have HSZC := hid (show (str C).size = 8 from (str_size C).trans HLC.out)
          clear ho hx hr21 HX11 HS11
          go_wp2_with fail
          refine region_inv mixed rfl (by kernel_rfl) (kV (ow23 C pb len2)) (kV_keep _) (forall_ops ⟨?_, ?_, ?_, ?_, ?_, ?_, ?_, ?_, ?_, ?_, ?_, ?_, ?_, ?_, ?_, ?_, ?_, ?_, trivial⟩) ?_
          · intro a w hk
            have s16 : a.tmps.getD 16 undef = .string (str C) := hk.was 16 (by kernel_rfl) rfl
            exact step_move rfl rfl s16 rfl
          · intro a w hk
            have s98 := hk.eq_ 0 98 (by kernel_rfl) rfl
            refine step_val (v := .int .i64 8) (w' := w) rfl ?_ (Ext.refl w) rfl
            have hsz := HSZC.out
            go_simp
          · intro a w hk
            have s99 := hk.eq_ 1 99 (by kernel_rfl) rfl
            refine step_val (v := .bool true) (w' := w) rfl ?_ (Ext.refl w) rfl
            go_simp
          · intro a w hk
            have s100 := hk.eq_ 2 100 (by kernel_rfl) rfl
            exact step_move rfl rfl s100 rfl
          · intro a w hk
            refine hk.run 3 101 true true rfl (by kernel_rfl) rfl fun hw => ?_
            have s21 : a.tmps.getD 21 undef = .slice A21 8 c21 := hk.was 21 (by kernel_rfl) rfl
            have r21 := (HR21.out).later hk.ext
            exact step_move hw rfl s21 ⟨_, _, rfl, r21⟩
          · intro a w hk
            refine hk.run 3 101 true true rfl (by kernel_rfl) rfl fun hw => ?_
            obtain ⟨A102, c102, s102, r102⟩ := hk.byt_ 4 102 (by kernel_rfl) rfl
            exact step_conv hw rfl s102 (strq r102) rfl
          · intro a w hk
            refine hk.run 3 101 true true rfl (by kernel_rfl) rfl fun hw => ?_
            have s16 : a.tmps.getD 16 undef = .string (str C) := hk.was 16 (by kernel_rfl) rfl
            exact step_move hw rfl s16 rfl
          · intro a w hk
            refine hk.run 3 101 true true rfl (by kernel_rfl) rfl fun hw => ?_
            have s103 := hk.eq_ 5 103 (by kernel_rfl) rfl
            have s104 := hk.eq_ 6 104 (by kernel_rfl) rfl
            refine step_val (v := .bool true) (w' := w) hw ?_ (Ext.refl w) rfl
            go_simp
          · intro a w hk
            have s101 := hk.eq_ 3 101 (by kernel_rfl) rfl
            have s105 := hk.eq_ 7 105 (by kernel_rfl) rfl
            exact step_pick (b := true) rfl rfl s101 s105 rfl
          · intro a w hk
            have s106 := hk.eq_ 8 106 (by kernel_rfl) rfl
            exact step_move rfl rfl s106 rfl
          · intro a w hk
            refine hk.run 9 107 true true rfl (by kernel_rfl) rfl fun hw => ?_
            have s13 : a.tmps.getD 13 undef = .slice (some ⟨g13, 0, none⟩) 8 c13 := hk.was 13 (by kernel_rfl) rfl
            have r13 := (HR13.out).later hk.ext
            exact step_move hw rfl s13 ⟨_, _, rfl, r13⟩
          · intro a w hk
            refine hk.run 9 107 true true rfl (by kernel_rfl) rfl fun hw => ?_
            obtain ⟨A108, c108, s108, r108⟩ := hk.byt_ 10 108 (by kernel_rfl) rfl
            exact step_conv hw rfl s108 (strq r108) rfl
          · intro a w hk
            refine hk.run 9 107 true true rfl (by kernel_rfl) rfl fun hw => ?_
            have s2 : a.tmps.getD 2 undef = .slice a2 len2 cap2 := hk.was 2 (by kernel_rfl) rfl
            have r2 := (HRP.out).later hk.ext
            exact step_move hw rfl s2 ⟨_, _, rfl, r2⟩
          · intro a w hk
            refine hk.run 9 107 true true rfl (by kernel_rfl) rfl fun hw => ?_
            obtain ⟨A110, c110, s110, r110⟩ := hk.byt_ 12 110 (by kernel_rfl) rfl
            exact step_call hw rfl (by simp only [List.map_toArray, List.map_cons, List.map_nil, Act.eval, s110] <;> rfl) cf13 (by_any A110 8 len2 c110 pb w r110 (by omega) HM2.out) (fun e w1 h => RetB.k (byL_len _ _) e w1 h)
          · intro a w hk
            refine hk.run 9 107 true true rfl (by kernel_rfl) rfl fun hw => ?_
            obtain ⟨A111, c111, s111, r111⟩ := hk.byt_ 13 111 (by kernel_rfl) rfl
            exact step_conv hw rfl s111 (strq r111) rfl
          · intro a w hk
            refine hk.run 9 107 true true rfl (by kernel_rfl) rfl fun hw => ?_
            have s109 := hk.eq_ 11 109 (by kernel_rfl) rfl
            have s112 := hk.eq_ 14 112 (by kernel_rfl) rfl
            refine step_val (v := .bool true) (w' := w) hw ?_ (Ext.refl w) rfl
            go_simp
          · intro a w hk
            have s107 := hk.eq_ 9 107 (by kernel_rfl) rfl
            have s113 := hk.eq_ 15 113 (by kernel_rfl) rfl
            exact step_pick (b := true) rfl rfl s107 s113 rfl
          · intro a w hk
            have s114 := hk.eq_ 16 114 (by kernel_rfl) rfl
            exact step_assign rfl rfl s114 rfl
          · intro a w13 hf
            have s98 := hf.eq_ 0 98 (by kernel_rfl) rfl
            have s99 := hf.eq_ 1 99 (by kernel_rfl) rfl
            have s100 := hf.eq_ 2 100 (by kernel_rfl) rfl
            have s101 := hf.eq_ 3 101 (by kernel_rfl) rfl
            obtain ⟨A102, c102, s102, r102⟩ := hf.val 4 102 (by kernel_rfl) rfl
            have s103 := hf.eq_ 5 103 (by kernel_rfl) rfl
            have s104 := hf.eq_ 6 104 (by kernel_rfl) rfl
            have s105 := hf.eq_ 7 105 (by kernel_rfl) rfl
            have s106 := hf.eq_ 8 106 (by kernel_rfl) rfl
            have s107 := hf.eq_ 9 107 (by kernel_rfl) rfl
            obtain ⟨A108, c108, s108, r108⟩ := hf.val 10 108 (by kernel_rfl) rfl
            have s109 := hf.eq_ 11 109 (by kernel_rfl) rfl
            obtain ⟨A110, c110, s110, r110⟩ := hf.val 12 110 (by kernel_rfl) rfl
            obtain ⟨A111, c111, s111, r111⟩ := hf.val 13 111 (by kernel_rfl) rfl
            have s112 := hf.eq_ 14 112 (by kernel_rfl) rfl
            have s113 := hf.eq_ 15 113 (by kernel_rfl) rfl
            have s114 := hf.eq_ 16 114 (by kernel_rfl) rfl
            have s8 := hf.eq_ 17 8 (by kernel_rfl) rfl
            have hx := hf.ext
            have e := hf.frame
            clear hf
            simp only [regFrame, Act.put, List.setIfInBounds_toArray, List.set_cons_zero, List.set_cons_succ, s98, s99, s100, s101, s102, s103, s104, s105, s106, s107, s108, s109, s110, s111, s112, s113, s114, s8] at e
            clear s98 s99 s100 s101 s102 s103 s104 s105 s106 s107 s108 s109 s110 s111 s112 s113 s114 s8
            subst e
            go_wp2_with fail
            go_ret
            exact ⟨rfl, Ext.trans HX12.out hx⟩
end Go.Proofs.YtgkfohgeelfceaaDoor
