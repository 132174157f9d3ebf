/- Walk over Keys of the reference; own lemmas of the verifier, no statement is proved here. -/
import Derived.Test.YtbdncalllfpodaaDoorX16
namespace Go.Proofs.YtbdncalllfpodaaDoor
open Go.RowKit
set_option maxHeartbeats 2000000 in
theorem rkeys_bad (A : Option Addr) (n c : Nat) (w : World) (h16 : n ≠ 16) (h24 : n ≠ 24) (h32 : n ≠ 32) :
    Calls Tryd.prog 11 #[.slice A n c] w fun e w' => e = .returned (.tuple #[.slice none 0 0, .slice none 0 0, .int .i64 4]) ∧ Ext w w' := by
  have e1 : ((n : Int) != 16) = true := by simp; omega
  have e2 : ((n : Int) != 24) = true := by simp; omega
  have e3 : ((n : Int) != 32) = true := by simp; omega
  go_enter Tryd.func11, Tryd.ntmps11
  go_wp2
  refine bodyPost_ret (v := .tuple #[.slice none 0 0, .slice none 0 0, .int .i64 4]) ?_ rfl ⟨rfl, Ext.refl _⟩
  simp [results, Tryd.f11, go_sem]
theorem lit_own1 (w : World) (a : UInt32) : OwnN .u32 37 (w.alloc (.cells #[.int .u32 (a.toNat : Nat)] 37)) w.heap.size (.slice (some ⟨w.heap.size, 0, none⟩) 1 1) (nW [a]) :=
  OwnN.lit (kd := .u32) (e := 37) w (nW [a]) #[.int .u32 (a.toNat : Nat)] 1 w.heap.size rfl rfl (by unfold maxLen; omega) (Nat.le_refl _)
theorem range_snoc {α : Type} (f : Nat → α) (j : Nat) : (List.range (j + 1)).map f = (List.range j).map f ++ [f j] := by simp [List.range_succ]
/-- Two words behind a literal. -/
theorem lit_own2 (w : World) (a b : UInt32) : OwnN .u32 37 (w.alloc (.cells #[.int .u32 (a.toNat : Nat), .int .u32 (b.toNat : Nat)] 37)) w.heap.size (.slice (some ⟨w.heap.size, 0, none⟩) 2 2) (nW [a, b]) :=
  OwnN.lit (kd := .u32) (e := 37) w (nW [a, b]) #[.int .u32 (a.toNat : Nat), .int .u32 (b.toNat : Nat)] 2 w.heap.size rfl rfl (by unfold maxLen; omega) (Nat.le_refl _)
/-- Three rows of words of their own. -/
structure R3 (base : Nat) (w : World) (ve vo vs : Value) (xe xo xs : List Int) : Prop where
  e : OwnN .u32 37 w base ve xe
  o : OwnN .u32 37 w base vo xo
  s : OwnN .u32 37 w base vs xs
  eo : Apart ve vo
  es : Apart ve vs
  os : Apart vo vs
theorem R3.ext {base : Nat} {w w' : World} {ve vo vs : Value} {xe xo xs : List Int} (h : R3 base w ve vo vs xe xo xs) (hx : Ext w w') : R3 base w' ve vo vs xe xo xs := ⟨h.e.kept hx, h.o.kept hx, h.s.kept hx, h.eo, h.es, h.os⟩
theorem R3.setE {base g n c : Nat} {w w' : World} {ve vo vs : Value} {xe xo xs ye : List Int} (h : R3 base w ve vo vs xe xo xs) (hn : OwnN .u32 37 w' base (.slice (some ⟨g, 0, none⟩) n c) ye) (hg : w.grownBy w' ve.ownBlock) (hb : some g = ve.ownBlock ∨ w.heap.size ≤ g) :
    R3 base w' (.slice (some ⟨g, 0, none⟩) n c) vo vs ye xo xs :=
  ⟨hn, h.o.grown hg h.eo.symm, h.s.grown hg h.es.symm, h.eo.new hb (fun q e => (h.o.lt q e).2), h.es.new hb (fun q e => (h.s.lt q e).2), h.os⟩
theorem R3.setO {base g n c : Nat} {w w' : World} {ve vo vs : Value} {xe xo xs yo : List Int} (h : R3 base w ve vo vs xe xo xs) (hn : OwnN .u32 37 w' base (.slice (some ⟨g, 0, none⟩) n c) yo) (hg : w.grownBy w' vo.ownBlock) (hb : some g = vo.ownBlock ∨ w.heap.size ≤ g) :
    R3 base w' ve (.slice (some ⟨g, 0, none⟩) n c) vs xe yo xs :=
  ⟨h.e.grown hg h.eo, hn, h.s.grown hg h.os.symm, (h.eo.symm.new hb (fun q e => (h.e.lt q e).2)).symm, h.es, h.os.new hb (fun q e => (h.s.lt q e).2)⟩
theorem R3.setS {base : Nat} {w w' : World} {ve vo vs v' : Value} {xe xo xs ys : List Int} (h : R3 base w ve vo vs xe xo xs) (hb : base ≤ w.heap.size) (hn : OwnN .u32 37 w' w.heap.size v' ys) (hx : Ext w w') : R3 base w' ve vo v' xe xo ys :=
  ⟨h.e.kept hx, h.o.kept hx, ownN_mono hn hb, h.eo, fun q e e' => by have := (h.e.lt q e).2; have := (hn.lt q e').1; omega, fun q e e' => by have := (h.o.lt q e).2; have := (hn.lt q e').1; omega⟩
set_option maxRecDepth 100000 in
set_option maxHeartbeats 4000000 in
theorem rkeys2_f (b o m n c : Nat) (fe fo fs : Nat → UInt32) (w : World) (hm : m = 2) (hnm : n = 8 * m) (hc : n ≤ c)
    (hle : ∀ j, j < m → ∀ W, Ext w W → ∀ c', Calls Tryd.prog 20 #[.slice (some ⟨b, o + 8 * j, none⟩) 4 c'] W fun e w' => e = .returned (.int .u64 ((fe j).toNat : Nat)) ∧ W = w')
    (hlo : ∀ j, j < m → ∀ W, Ext w W → ∀ c', Calls Tryd.prog 20 #[.slice (some ⟨b, o + (8 * j + 4), none⟩) 4 c'] W fun e w' => e = .returned (.int .u64 ((fo j).toNat : Nat)) ∧ W = w')
    (hsh : ∀ j, j < m → ∀ W, Ext w W → ∀ c', Calls Tryd.prog 29 #[.slice (some ⟨b, o + 8 * j, none⟩) 8 c'] W fun e w' => e = .returned (.int .u32 ((fs j).toNat : Nat)) ∧ Ext W w') :
    Calls Tryd.prog 11 #[.slice (some ⟨b, o, none⟩) n c] w (KRet w (kL ((List.range m).map fe) ((List.range m).map fo) 20) ((List.range m).map fs).reverse) := by
  have HLE := hid hle
  have HLO := hid hlo
  have HSH := hid hsh
  obtain rfl : n = 16 := by omega
  clear hle hlo hsh
  go_enter Tryd.func11, Tryd.ntmps11
  go_wp2_with fail
  go_loopw [5, 6, 7, 9] (fun ve vo vs i wr => ∃ j : Nat, j ≤ m ∧ i = .int .i64 (8 * j : Nat) ∧ R3 w.heap.size wr ve vo vs (nW ((List.range j).map fe)) (nW ((List.range j).map fo)) (nW ((List.range j).map fs).reverse) ∧ Ext w wr) (fun _ _ _ i _ => 8 * m - (intOf i).toNat)
  case atStart => exact ⟨0, by omega, rfl, ⟨World.ownsRow_nil _ _ _ _, World.ownsRow_nil _ _ _ _, World.ownsRow_nil _ _ _ _, (fun q h => by cases h), (fun q h => by cases h), (fun q h => by cases h)⟩, Ext.refl _⟩
  case round =>
    obtain ⟨j, hj, rfl, hR, hx⟩ := hrel
    have HX := hid hx
    have HR := hid hR
    clear hx hR
    by_cases hlt : j < m
    · have HE := HLE.out j hlt
      have HO := HLO.out j hlt
      have HS := HSH.out j hlt
      have hse : nW ((List.range (j + 1)).map fe) = nW ((List.range j).map fe) ++ [((fe j).toNat : Int)] := by rw [range_snoc, nW_append]; rfl
      have hso : nW ((List.range (j + 1)).map fo) = nW ((List.range j).map fo) ++ [((fo j).toNat : Int)] := by rw [range_snoc, nW_append]; rfl
      have hss : nW ((List.range (j + 1)).map fs).reverse = nW [fs j] ++ nW ((List.range j).map fs).reverse := by rw [range_snoc, List.reverse_append, ← nW_append]; rfl
      have lxe : (nW ((List.range j).map fe)).length = j := by simp [nW]
      have lxo : (nW ((List.range j).map fo)).length = j := by simp [nW]
      have lxs : (nW ((List.range j).map fs).reverse).length = j := by simp [nW]
      obtain ⟨xe, hxe⟩ : ∃ xe, nW ((List.range j).map fe) = xe := ⟨_, rfl⟩
      obtain ⟨xo, hxo⟩ : ∃ xo, nW ((List.range j).map fo) = xo := ⟨_, rfl⟩
      obtain ⟨xs, hxs⟩ : ∃ xs, nW ((List.range j).map fs).reverse = xs := ⟨_, rfl⟩
      obtain ⟨y0, hy0⟩ : ∃ y, fe j = y := ⟨_, rfl⟩
      obtain ⟨y1, hy1⟩ : ∃ y, fo j = y := ⟨_, rfl⟩
      obtain ⟨y2, hy2⟩ : ∃ y, fs j = y := ⟨_, rfl⟩
      rw [hxe] at HR hse lxe
      rw [hxo] at HR hso lxo
      rw [hxs] at HR hss lxs
      rw [hy0] at HE hse
      rw [hy1] at HO hso
      rw [hy2] at HS hss
      have k0 := wlt y0
      have k1 := wlt y1
      obtain ⟨q, hq⟩ : ∃ q, 8 * j = q := ⟨_, rfl⟩
      rw [hq] at HE HO HS ⊢
      have hqn : q + 8 ≤ 16 := by omega
      have HQ := hid hq
      have HHE := hid HE
      have HHO := hid HO
      have HHS := hid HS
      have HSE := hid (And.intro hse (And.intro hso hss))
      have HLX := hid (show xe.length ≤ 1000 ∧ xo.length ≤ 1000 ∧ xs.length ≤ 1000 by omega)
      have HW := hid (Below.size HX.out)
      clear HE HO HS hse hso hss lxe lxo lxs hxe hxo hxs hy0 hy1 hy2 hq
      go_wp2_with fail
      refine (HHE.out wr HX.out _).mono ?_
      rintro e w1 ⟨rfl, rfl⟩
      have HLTE := hid (lit_own1 wr y0)
      have HRA := hid (HR.out.ext (Ext.alloc wr (.cells #[.int .u32 (y0.toNat : Nat)] 37)))
      have HXA := hid (Ext.trans HX.out (Ext.alloc wr (.cells #[.int .u32 (y0.toNat : Nat)] 37)))
      go_wp2_with (refine wpList_app (y := ((y0.toNat : Nat) : Int)) (t := wr.heap.size) (c := 1) rfl (.tmp 32) (.tmp 40) rfl rfl HRA.out.e rfl (by have := HLX.out; omega) (by exact OwnN.celln HLTE.out rfl 0 (by simp)) HXA.out.size ?_; intro g1 c1 w2 hn1 hg1 hb1)
      have HR2 := hid (HRA.out.setE hn1 hg1 hb1)
      have HX2 := hid (show Ext w w2 from Below.grown HXA.out hg1 HXA.out.size (fun k e => (HRA.out.e.lt k e).1))
      clear hn1 hg1 hb1
      go_wp2_with fail
      refine (HHO.out w2 HX2.out _).mono ?_
      rintro e w3 ⟨rfl, rfl⟩
      have HLTO := hid (lit_own1 w2 y1)
      have HRB := hid (HR2.out.ext (Ext.alloc w2 (.cells #[.int .u32 (y1.toNat : Nat)] 37)))
      have HXB := hid (Ext.trans HX2.out (Ext.alloc w2 (.cells #[.int .u32 (y1.toNat : Nat)] 37)))
      go_wp2_with (refine wpList_app (y := ((y1.toNat : Nat) : Int)) (t := w2.heap.size) (c := 1) rfl (.tmp 42) (.tmp 51) rfl rfl HRB.out.o rfl (by have := HLX.out; omega) (by exact OwnN.celln HLTO.out rfl 0 (by simp)) HXB.out.size ?_; intro g2 c2 w4 hn2 hg2 hb2)
      have HR4 := hid (HRB.out.setO hn2 hg2 hb2)
      have HX4 := hid (show Ext w w4 from Below.grown HXB.out hg2 HXB.out.size (fun k e => (HRB.out.o.lt k e).1))
      clear hn2 hg2 hb2
      go_wp2_with fail
      refine (HHS.out w4 HX4.out _).mono ?_
      rintro e w5 ⟨rfl, hx5⟩
      have HR5 := hid (HR4.out.ext hx5)
      have HX5 := hid (Ext.trans HX4.out hx5)
      clear hx5
      have HLTS := hid (lit_own1 w5 y2)
      obtain ⟨A5, c5, hvs, hrs, _⟩ := (HR5.out.s.kept (Ext.alloc w5 (.cells #[.int .u32 (y2.toNat : Nat)] 37))).rdn rfl
      have HRS := hid hrs
      have HVS := hid hvs
      clear hrs hvs
      go_wp2_with (refine wpL_appendN _ rfl (.tmp 59) (.tmp 60) 24 rfl Tryd.underlying24 4 Tryd.info37 w5.heap.size _ _ rfl HLTS.out _ A5 xs.length c5 _ HVS.out HRS.out (by have := HLX.out; simp [nW]; omega) (by have := HLX.out; simp [nW]; unfold maxLen; omega) (by simp) ?_; intro v' w6 hown6 hb6)
      have HX6' := hid (show Ext w5 w6 from ((Below.refl w5.heap.size w5).alloc (Nat.le_refl _) _).trans hb6)
      have HR6 := hid (HR5.out.setS HX5.out.size hown6 HX6'.out)
      have HX6 := hid (Ext.trans HX5.out HX6'.out)
      clear hown6 hb6
      go_wp2_with fail
      have hse := HSE.out
      exact ⟨⟨j + 1, by omega, by have := HQ.out; go_num, by rw [hse.1, hse.2.1, hse.2.2]; exact HR6.out, HX6.out⟩, by have := HQ.out; simp [intOf]; omega⟩
    · obtain rfl : j = m := by omega
      have hlm : ((8 * j : Nat) : Int) = 16 := by omega
      obtain ⟨ev, hev⟩ : ∃ ev, (List.range j).map fe = ev := ⟨_, rfl⟩
      obtain ⟨od, hod⟩ : ∃ od, (List.range j).map fo = od := ⟨_, rfl⟩
      obtain ⟨xs, hxs⟩ : ∃ xs, ((List.range j).map fs).reverse = xs := ⟨_, rfl⟩
      have lev : ev.length = j := by rw [← hev]; simp
      have lod : od.length = j := by rw [← hod]; simp
      rw [hev, hod, hxs] at HR ⊢
      obtain ⟨A1, c1, rfl, h1, _⟩ := OwnN.rdn (n := j) HR.out.e (by simpa [nW] using lev)
      obtain ⟨A2, c2, rfl, h2, _⟩ := OwnN.rdn (n := j) HR.out.o (by simpa [nW] using lod)
      have HS := hid HR.out.s
      have H1 := hid h1
      have H2 := hid h2
      have HEV := hid (And.intro hev (And.intro hod hxs))
      clear HLE HLO HSH HR h1 h2 hev hod hxs lev lod
      obtain ⟨w9, rfl⟩ : ∃ x, x = wr := ⟨_, rfl⟩
      have HX9 := hid HX.out
      have hj4 : 2 ≤ j ∧ j ≤ 4 := by omega
      have HJ := hid hj4
      clear HX
      go_wp2_with fail
      clear hm hnm hj hlm hj4
      generalize ((8 * j : Nat) : Int) = N0
      go_loopw [8, 10] (fun v i wv => ∃ k : Nat, k ≤ 20 ∧ i = .int .i64 (k : Nat) ∧ OwnW wv w9.heap.size v (kL ev od k) ∧ Ext w9 wv) (fun _ i _ => 20 - (intOf i).toNat)
      case atStart => exact ⟨0, by omega, rfl, World.ownsRow_nil _ _ _ _, Ext.refl _⟩
      case round =>
        obtain ⟨k, hk, rfl, hown, hx⟩ := hrel
        by_cases hlt : k < 20
        · have e1 := w_ones (2 * k) (by omega)
          have e2 := w_ones (2 * k + 1) (by omega)
          have HA := hid (fun w hl => rh_any (UInt32.ofNat (2 * k) * 0x01010101) ev A1 j c1 w hl HJ.out.1 HJ.out.2)
          have HBB := hid (fun w hl => rh_any (UInt32.ofNat (2 * k + 1) * 0x01010101) od A2 j c2 w hl HJ.out.1 HJ.out.2)
          have hkA : HW (UInt32.ofNat (2 * k) * 0x01010101) ev = kA ev k := rfl
          have hkB : rolI (HW (UInt32.ofNat (2 * k + 1) * 0x01010101) od) 8 = kB od k := rfl
          have HKB := hid hkB
          obtain ⟨T, hT⟩ : ∃ T, HW (UInt32.ofNat (2 * k + 1) * 0x01010101) od = T := ⟨_, rfl⟩
          rw [hT] at HBB HKB
          rw [hkA] at HA
          obtain ⟨X1, hX1⟩ : ∃ X1, UInt32.ofNat (2 * k) * 0x01010101 = X1 := ⟨_, rfl⟩
          obtain ⟨X2, hX2⟩ : ∃ X2, UInt32.ofNat (2 * k + 1) * 0x01010101 = X2 := ⟨_, rfl⟩
          rw [hX1] at e1 HA
          rw [hX2] at e2 HBB
          have HST := hid (show kL ev od (k + 1) = kL ev od k ++ [kA ev k + kB od k, rolI (kA ev k + 2 * kB od k) 9] by rw [kL])
          obtain ⟨a, ha⟩ : ∃ a, kA ev k = a := ⟨_, rfl⟩
          obtain ⟨b, hb⟩ : ∃ b, kB od k = b := ⟨_, rfl⟩
          rw [ha] at HA HST
          rw [hb] at HKB HST
          have e3 := w_add a b
          have e4 := w_two b
          have e5 := w_add a (2 * b)
          obtain ⟨d, hd2⟩ : ∃ d, 2 * b = d := ⟨_, rfl⟩
          rw [hd2] at e4 e5 HST
          obtain ⟨r1, hr1⟩ : ∃ r1, a + b = r1 := ⟨_, rfl⟩
          obtain ⟨p, hp⟩ : ∃ p, a + d = p := ⟨_, rfl⟩
          rw [hr1] at e3 HST
          rw [hp] at e5 HST
          have ld := wlt d
          have la := wlt a
          have lb := wlt b
          have HKL := hid (kL_length ev od k)
          have HX := hid hx
          have HO := hid hown
          rw [show ((2 * k : Nat) : Int) = 2 * (k : Int) by omega] at e1
          rw [show ((2 * k + 1 : Nat) : Int) = 2 * (k : Int) + 1 by omega] at e2
          have hd : (k : Int) < 20 := by omega
          clear hr1 hp hd2 hkA hkB hT hX1 hX2 ha hb hx hown
          go_wp2_with fail
          refine (HA.out _ (H1.out.later HX.out)).mono ?_
          rintro e w2 ⟨rfl, hx2⟩
          have HX2 := hid (Ext.trans HX.out hx2)
          have HO2 := hid (OwnN.kept HO.out hx2)
          clear hx2 e1
          go_wp2_with fail
          refine (HBB.out _ (H2.out.later HX2.out)).mono ?_
          rintro e w3 ⟨rfl, hx3⟩
          have HX3 := hid (Ext.trans HX2.out hx3)
          have HO3 := hid (OwnN.kept HO2.out hx3)
          clear hx3 e2
          go_wp2_with fail
          refine (rrol_w T 8 _).mono ?_
          rintro e w' ⟨rfl, rfl⟩
          rw [HKB.out]
          go_wp2_with fail
          refine (rrol_w p 9 _).mono ?_
          rintro e w' ⟨rfl, rfl⟩
          obtain ⟨r2, hr2⟩ : ∃ r2, rolI p 9 = r2 := ⟨_, rfl⟩
          rw [hr2] at HST ⊢
          clear hr2
          have HLT := hid (lit_rd2 w3 r1 r2)
          have hsz3 := Below.size HX3.out
          have hkl := HKL.out
          go_wp2_with (refine wpL_appendN _ rfl (.tmp 80) (.tmp 89) 24 rfl Tryd.underlying24 4 Tryd.info37 w9.heap.size _ _ rfl (OwnN.kept HO3.out (Ext.alloc _ _)) _ _ 2 2 _ rfl HLT.out (by rw [nW_length, hkl]; omega) (by rw [nW_length, hkl]; unfold maxLen; omega) (by simp; omega) ?_; intro v' w4 hown4 hb4)
          have HO5 := hid (show OwnW w4 w9.heap.size v' (kL ev od (k + 1)) by
            rw [HST.out]
            unfold OwnW
            rw [nW_append]
            exact hown4)
          have HX5 := hid (show Ext w9 w4 from ((show Below w9.heap.size w9 w3 from HX3.out).alloc (Below.size HX3.out) _).trans hb4)
          clear hown4 hb4
          go_wp2_with fail
          exact ⟨⟨k + 1, by omega, by go_num, HO5.out, HX5.out⟩, by simp [intOf]; omega⟩
        · obtain rfl : k = 20 := by omega
          have HX := hid hx
          have HO := hid hown
          clear hx hown
          have HSL := hid (OwnN.kept HS.out HX.out)
          have HXX := hid (Ext.trans HX9.out HX.out)
          go_wp2_with fail
          rw [HEV.out.1, HEV.out.2.1, HEV.out.2.2]
          have h1 := ownN_mono HO.out HX9.out.size
          have h2 := HSL.out
          have h3 := HXX.out
          refine bodyPost_ret (v := .tuple #[u8, u7, .int .i64 0]) ?_ rfl ⟨_, _, rfl, h1, h2, h3⟩
          simp [results, Tryd.f11, go_sem]
set_option maxRecDepth 100000 in
set_option maxHeartbeats 4000000 in
theorem rkeys3_f (b o m n c : Nat) (fe fo fs : Nat → UInt32) (w : World) (hm : m = 3) (hnm : n = 8 * m) (hc : n ≤ c)
    (hle : ∀ j, j < m → ∀ W, Ext w W → ∀ c', Calls Tryd.prog 20 #[.slice (some ⟨b, o + 8 * j, none⟩) 4 c'] W fun e w' => e = .returned (.int .u64 ((fe j).toNat : Nat)) ∧ W = w')
    (hlo : ∀ j, j < m → ∀ W, Ext w W → ∀ c', Calls Tryd.prog 20 #[.slice (some ⟨b, o + (8 * j + 4), none⟩) 4 c'] W fun e w' => e = .returned (.int .u64 ((fo j).toNat : Nat)) ∧ W = w')
    (hsh : ∀ j, j < m → ∀ W, Ext w W → ∀ c', Calls Tryd.prog 29 #[.slice (some ⟨b, o + 8 * j, none⟩) 8 c'] W fun e w' => e = .returned (.int .u32 ((fs j).toNat : Nat)) ∧ Ext W w') :
    Calls Tryd.prog 11 #[.slice (some ⟨b, o, none⟩) n c] w (KRet w (kL ((List.range m).map fe) ((List.range m).map fo) 20) ((List.range m).map fs).reverse) := by
  have HLE := hid hle
  have HLO := hid hlo
  have HSH := hid hsh
  obtain rfl : n = 24 := by omega
  clear hle hlo hsh
  go_enter Tryd.func11, Tryd.ntmps11
  go_wp2_with fail
  go_loopw [5, 6, 7, 9] (fun ve vo vs i wr => ∃ j : Nat, j ≤ m ∧ i = .int .i64 (8 * j : Nat) ∧ R3 w.heap.size wr ve vo vs (nW ((List.range j).map fe)) (nW ((List.range j).map fo)) (nW ((List.range j).map fs).reverse) ∧ Ext w wr) (fun _ _ _ i _ => 8 * m - (intOf i).toNat)
  case atStart => exact ⟨0, by omega, rfl, ⟨World.ownsRow_nil _ _ _ _, World.ownsRow_nil _ _ _ _, World.ownsRow_nil _ _ _ _, (fun q h => by cases h), (fun q h => by cases h), (fun q h => by cases h)⟩, Ext.refl _⟩
  case round =>
    obtain ⟨j, hj, rfl, hR, hx⟩ := hrel
    have HX := hid hx
    have HR := hid hR
    clear hx hR
    by_cases hlt : j < m
    · have HE := HLE.out j hlt
      have HO := HLO.out j hlt
      have HS := HSH.out j hlt
      have hse : nW ((List.range (j + 1)).map fe) = nW ((List.range j).map fe) ++ [((fe j).toNat : Int)] := by rw [range_snoc, nW_append]; rfl
      have hso : nW ((List.range (j + 1)).map fo) = nW ((List.range j).map fo) ++ [((fo j).toNat : Int)] := by rw [range_snoc, nW_append]; rfl
      have hss : nW ((List.range (j + 1)).map fs).reverse = nW [fs j] ++ nW ((List.range j).map fs).reverse := by rw [range_snoc, List.reverse_append, ← nW_append]; rfl
      have lxe : (nW ((List.range j).map fe)).length = j := by simp [nW]
      have lxo : (nW ((List.range j).map fo)).length = j := by simp [nW]
      have lxs : (nW ((List.range j).map fs).reverse).length = j := by simp [nW]
      obtain ⟨xe, hxe⟩ : ∃ xe, nW ((List.range j).map fe) = xe := ⟨_, rfl⟩
      obtain ⟨xo, hxo⟩ : ∃ xo, nW ((List.range j).map fo) = xo := ⟨_, rfl⟩
      obtain ⟨xs, hxs⟩ : ∃ xs, nW ((List.range j).map fs).reverse = xs := ⟨_, rfl⟩
      obtain ⟨y0, hy0⟩ : ∃ y, fe j = y := ⟨_, rfl⟩
      obtain ⟨y1, hy1⟩ : ∃ y, fo j = y := ⟨_, rfl⟩
      obtain ⟨y2, hy2⟩ : ∃ y, fs j = y := ⟨_, rfl⟩
      rw [hxe] at HR hse lxe
      rw [hxo] at HR hso lxo
      rw [hxs] at HR hss lxs
      rw [hy0] at HE hse
      rw [hy1] at HO hso
      rw [hy2] at HS hss
      have k0 := wlt y0
      have k1 := wlt y1
      obtain ⟨q, hq⟩ : ∃ q, 8 * j = q := ⟨_, rfl⟩
      rw [hq] at HE HO HS ⊢
      have hqn : q + 8 ≤ 24 := by omega
      have HQ := hid hq
      have HHE := hid HE
      have HHO := hid HO
      have HHS := hid HS
      have HSE := hid (And.intro hse (And.intro hso hss))
      have HLX := hid (show xe.length ≤ 1000 ∧ xo.length ≤ 1000 ∧ xs.length ≤ 1000 by omega)
      have HW := hid (Below.size HX.out)
      clear HE HO HS hse hso hss lxe lxo lxs hxe hxo hxs hy0 hy1 hy2 hq
      go_wp2_with fail
      refine (HHE.out wr HX.out _).mono ?_
      rintro e w1 ⟨rfl, rfl⟩
      have HLTE := hid (lit_own1 wr y0)
      have HRA := hid (HR.out.ext (Ext.alloc wr (.cells #[.int .u32 (y0.toNat : Nat)] 37)))
      have HXA := hid (Ext.trans HX.out (Ext.alloc wr (.cells #[.int .u32 (y0.toNat : Nat)] 37)))
      go_wp2_with (refine wpList_app (y := ((y0.toNat : Nat) : Int)) (t := wr.heap.size) (c := 1) rfl (.tmp 32) (.tmp 40) rfl rfl HRA.out.e rfl (by have := HLX.out; omega) (by exact OwnN.celln HLTE.out rfl 0 (by simp)) HXA.out.size ?_; intro g1 c1 w2 hn1 hg1 hb1)
      have HR2 := hid (HRA.out.setE hn1 hg1 hb1)
      have HX2 := hid (show Ext w w2 from Below.grown HXA.out hg1 HXA.out.size (fun k e => (HRA.out.e.lt k e).1))
      clear hn1 hg1 hb1
      go_wp2_with fail
      refine (HHO.out w2 HX2.out _).mono ?_
      rintro e w3 ⟨rfl, rfl⟩
      have HLTO := hid (lit_own1 w2 y1)
      have HRB := hid (HR2.out.ext (Ext.alloc w2 (.cells #[.int .u32 (y1.toNat : Nat)] 37)))
      have HXB := hid (Ext.trans HX2.out (Ext.alloc w2 (.cells #[.int .u32 (y1.toNat : Nat)] 37)))
      go_wp2_with (refine wpList_app (y := ((y1.toNat : Nat) : Int)) (t := w2.heap.size) (c := 1) rfl (.tmp 42) (.tmp 51) rfl rfl HRB.out.o rfl (by have := HLX.out; omega) (by exact OwnN.celln HLTO.out rfl 0 (by simp)) HXB.out.size ?_; intro g2 c2 w4 hn2 hg2 hb2)
      have HR4 := hid (HRB.out.setO hn2 hg2 hb2)
      have HX4 := hid (show Ext w w4 from Below.grown HXB.out hg2 HXB.out.size (fun k e => (HRB.out.o.lt k e).1))
      clear hn2 hg2 hb2
      go_wp2_with fail
      refine (HHS.out w4 HX4.out _).mono ?_
      rintro e w5 ⟨rfl, hx5⟩
      have HR5 := hid (HR4.out.ext hx5)
      have HX5 := hid (Ext.trans HX4.out hx5)
      clear hx5
      have HLTS := hid (lit_own1 w5 y2)
      obtain ⟨A5, c5, hvs, hrs, _⟩ := (HR5.out.s.kept (Ext.alloc w5 (.cells #[.int .u32 (y2.toNat : Nat)] 37))).rdn rfl
      have HRS := hid hrs
      have HVS := hid hvs
      clear hrs hvs
      go_wp2_with (refine wpL_appendN _ rfl (.tmp 59) (.tmp 60) 24 rfl Tryd.underlying24 4 Tryd.info37 w5.heap.size _ _ rfl HLTS.out _ A5 xs.length c5 _ HVS.out HRS.out (by have := HLX.out; simp [nW]; omega) (by have := HLX.out; simp [nW]; unfold maxLen; omega) (by simp) ?_; intro v' w6 hown6 hb6)
      have HX6' := hid (show Ext w5 w6 from ((Below.refl w5.heap.size w5).alloc (Nat.le_refl _) _).trans hb6)
      have HR6 := hid (HR5.out.setS HX5.out.size hown6 HX6'.out)
      have HX6 := hid (Ext.trans HX5.out HX6'.out)
      clear hown6 hb6
      go_wp2_with fail
      have hse := HSE.out
      exact ⟨⟨j + 1, by omega, by have := HQ.out; go_num, by rw [hse.1, hse.2.1, hse.2.2]; exact HR6.out, HX6.out⟩, by have := HQ.out; simp [intOf]; omega⟩
    · obtain rfl : j = m := by omega
      have hlm : ((8 * j : Nat) : Int) = 24 := by omega
      obtain ⟨ev, hev⟩ : ∃ ev, (List.range j).map fe = ev := ⟨_, rfl⟩
      obtain ⟨od, hod⟩ : ∃ od, (List.range j).map fo = od := ⟨_, rfl⟩
      obtain ⟨xs, hxs⟩ : ∃ xs, ((List.range j).map fs).reverse = xs := ⟨_, rfl⟩
      have lev : ev.length = j := by rw [← hev]; simp
      have lod : od.length = j := by rw [← hod]; simp
      rw [hev, hod, hxs] at HR ⊢
      obtain ⟨A1, c1, rfl, h1, _⟩ := OwnN.rdn (n := j) HR.out.e (by simpa [nW] using lev)
      obtain ⟨A2, c2, rfl, h2, _⟩ := OwnN.rdn (n := j) HR.out.o (by simpa [nW] using lod)
      have HS := hid HR.out.s
      have H1 := hid h1
      have H2 := hid h2
      have HEV := hid (And.intro hev (And.intro hod hxs))
      clear HLE HLO HSH HR h1 h2 hev hod hxs lev lod
      obtain ⟨w9, rfl⟩ : ∃ x, x = wr := ⟨_, rfl⟩
      have HX9 := hid HX.out
      have hj4 : 2 ≤ j ∧ j ≤ 4 := by omega
      have HJ := hid hj4
      clear HX
      go_wp2_with fail
      clear hm hnm hj hlm hj4
      generalize ((8 * j : Nat) : Int) = N0
      go_loopw [8, 10] (fun v i wv => ∃ k : Nat, k ≤ 20 ∧ i = .int .i64 (k : Nat) ∧ OwnW wv w9.heap.size v (kL ev od k) ∧ Ext w9 wv) (fun _ i _ => 20 - (intOf i).toNat)
      case atStart => exact ⟨0, by omega, rfl, World.ownsRow_nil _ _ _ _, Ext.refl _⟩
      case round =>
        obtain ⟨k, hk, rfl, hown, hx⟩ := hrel
        by_cases hlt : k < 20
        · have e1 := w_ones (2 * k) (by omega)
          have e2 := w_ones (2 * k + 1) (by omega)
          have HA := hid (fun w hl => rh_any (UInt32.ofNat (2 * k) * 0x01010101) ev A1 j c1 w hl HJ.out.1 HJ.out.2)
          have HBB := hid (fun w hl => rh_any (UInt32.ofNat (2 * k + 1) * 0x01010101) od A2 j c2 w hl HJ.out.1 HJ.out.2)
          have hkA : HW (UInt32.ofNat (2 * k) * 0x01010101) ev = kA ev k := rfl
          have hkB : rolI (HW (UInt32.ofNat (2 * k + 1) * 0x01010101) od) 8 = kB od k := rfl
          have HKB := hid hkB
          obtain ⟨T, hT⟩ : ∃ T, HW (UInt32.ofNat (2 * k + 1) * 0x01010101) od = T := ⟨_, rfl⟩
          rw [hT] at HBB HKB
          rw [hkA] at HA
          obtain ⟨X1, hX1⟩ : ∃ X1, UInt32.ofNat (2 * k) * 0x01010101 = X1 := ⟨_, rfl⟩
          obtain ⟨X2, hX2⟩ : ∃ X2, UInt32.ofNat (2 * k + 1) * 0x01010101 = X2 := ⟨_, rfl⟩
          rw [hX1] at e1 HA
          rw [hX2] at e2 HBB
          have HST := hid (show kL ev od (k + 1) = kL ev od k ++ [kA ev k + kB od k, rolI (kA ev k + 2 * kB od k) 9] by rw [kL])
          obtain ⟨a, ha⟩ : ∃ a, kA ev k = a := ⟨_, rfl⟩
          obtain ⟨b, hb⟩ : ∃ b, kB od k = b := ⟨_, rfl⟩
          rw [ha] at HA HST
          rw [hb] at HKB HST
          have e3 := w_add a b
          have e4 := w_two b
          have e5 := w_add a (2 * b)
          obtain ⟨d, hd2⟩ : ∃ d, 2 * b = d := ⟨_, rfl⟩
          rw [hd2] at e4 e5 HST
          obtain ⟨r1, hr1⟩ : ∃ r1, a + b = r1 := ⟨_, rfl⟩
          obtain ⟨p, hp⟩ : ∃ p, a + d = p := ⟨_, rfl⟩
          rw [hr1] at e3 HST
          rw [hp] at e5 HST
          have ld := wlt d
          have la := wlt a
          have lb := wlt b
          have HKL := hid (kL_length ev od k)
          have HX := hid hx
          have HO := hid hown
          rw [show ((2 * k : Nat) : Int) = 2 * (k : Int) by omega] at e1
          rw [show ((2 * k + 1 : Nat) : Int) = 2 * (k : Int) + 1 by omega] at e2
          have hd : (k : Int) < 20 := by omega
          clear hr1 hp hd2 hkA hkB hT hX1 hX2 ha hb hx hown
          go_wp2_with fail
          refine (HA.out _ (H1.out.later HX.out)).mono ?_
          rintro e w2 ⟨rfl, hx2⟩
          have HX2 := hid (Ext.trans HX.out hx2)
          have HO2 := hid (OwnN.kept HO.out hx2)
          clear hx2 e1
          go_wp2_with fail
          refine (HBB.out _ (H2.out.later HX2.out)).mono ?_
          rintro e w3 ⟨rfl, hx3⟩
          have HX3 := hid (Ext.trans HX2.out hx3)
          have HO3 := hid (OwnN.kept HO2.out hx3)
          clear hx3 e2
          go_wp2_with fail
          refine (rrol_w T 8 _).mono ?_
          rintro e w' ⟨rfl, rfl⟩
          rw [HKB.out]
          go_wp2_with fail
          refine (rrol_w p 9 _).mono ?_
          rintro e w' ⟨rfl, rfl⟩
          obtain ⟨r2, hr2⟩ : ∃ r2, rolI p 9 = r2 := ⟨_, rfl⟩
          rw [hr2] at HST ⊢
          clear hr2
          have HLT := hid (lit_rd2 w3 r1 r2)
          have hsz3 := Below.size HX3.out
          have hkl := HKL.out
          go_wp2_with (refine wpL_appendN _ rfl (.tmp 80) (.tmp 89) 24 rfl Tryd.underlying24 4 Tryd.info37 w9.heap.size _ _ rfl (OwnN.kept HO3.out (Ext.alloc _ _)) _ _ 2 2 _ rfl HLT.out (by rw [nW_length, hkl]; omega) (by rw [nW_length, hkl]; unfold maxLen; omega) (by simp; omega) ?_; intro v' w4 hown4 hb4)
          have HO5 := hid (show OwnW w4 w9.heap.size v' (kL ev od (k + 1)) by
            rw [HST.out]
            unfold OwnW
            rw [nW_append]
            exact hown4)
          have HX5 := hid (show Ext w9 w4 from ((show Below w9.heap.size w9 w3 from HX3.out).alloc (Below.size HX3.out) _).trans hb4)
          clear hown4 hb4
          go_wp2_with fail
          exact ⟨⟨k + 1, by omega, by go_num, HO5.out, HX5.out⟩, by simp [intOf]; omega⟩
        · obtain rfl : k = 20 := by omega
          have HX := hid hx
          have HO := hid hown
          clear hx hown
          have HSL := hid (OwnN.kept HS.out HX.out)
          have HXX := hid (Ext.trans HX9.out HX.out)
          go_wp2_with fail
          rw [HEV.out.1, HEV.out.2.1, HEV.out.2.2]
          have h1 := ownN_mono HO.out HX9.out.size
          have h2 := HSL.out
          have h3 := HXX.out
          refine bodyPost_ret (v := .tuple #[u8, u7, .int .i64 0]) ?_ rfl ⟨_, _, rfl, h1, h2, h3⟩
          simp [results, Tryd.f11, go_sem]
set_option maxRecDepth 100000 in
set_option maxHeartbeats 4000000 in
theorem rkeys4_f (b o m n c : Nat) (fe fo fs : Nat → UInt32) (w : World) (hm : m = 4) (hnm : n = 8 * m) (hc : n ≤ c)
    (hle : ∀ j, j < m → ∀ W, Ext w W → ∀ c', Calls Tryd.prog 20 #[.slice (some ⟨b, o + 8 * j, none⟩) 4 c'] W fun e w' => e = .returned (.int .u64 ((fe j).toNat : Nat)) ∧ W = w')
    (hlo : ∀ j, j < m → ∀ W, Ext w W → ∀ c', Calls Tryd.prog 20 #[.slice (some ⟨b, o + (8 * j + 4), none⟩) 4 c'] W fun e w' => e = .returned (.int .u64 ((fo j).toNat : Nat)) ∧ W = w')
    (hsh : ∀ j, j < m → ∀ W, Ext w W → ∀ c', Calls Tryd.prog 29 #[.slice (some ⟨b, o + 8 * j, none⟩) 8 c'] W fun e w' => e = .returned (.int .u32 ((fs j).toNat : Nat)) ∧ Ext W w') :
    Calls Tryd.prog 11 #[.slice (some ⟨b, o, none⟩) n c] w (KRet w (kL ((List.range m).map fe) ((List.range m).map fo) 20) ((List.range m).map fs).reverse) := by
  have HLE := hid hle
  have HLO := hid hlo
  have HSH := hid hsh
  obtain rfl : n = 32 := by omega
  clear hle hlo hsh
  go_enter Tryd.func11, Tryd.ntmps11
  go_wp2_with fail
  go_loopw [5, 6, 7, 9] (fun ve vo vs i wr => ∃ j : Nat, j ≤ m ∧ i = .int .i64 (8 * j : Nat) ∧ R3 w.heap.size wr ve vo vs (nW ((List.range j).map fe)) (nW ((List.range j).map fo)) (nW ((List.range j).map fs).reverse) ∧ Ext w wr) (fun _ _ _ i _ => 8 * m - (intOf i).toNat)
  case atStart => exact ⟨0, by omega, rfl, ⟨World.ownsRow_nil _ _ _ _, World.ownsRow_nil _ _ _ _, World.ownsRow_nil _ _ _ _, (fun q h => by cases h), (fun q h => by cases h), (fun q h => by cases h)⟩, Ext.refl _⟩
  case round =>
    obtain ⟨j, hj, rfl, hR, hx⟩ := hrel
    have HX := hid hx
    have HR := hid hR
    clear hx hR
    by_cases hlt : j < m
    · have HE := HLE.out j hlt
      have HO := HLO.out j hlt
      have HS := HSH.out j hlt
      have hse : nW ((List.range (j + 1)).map fe) = nW ((List.range j).map fe) ++ [((fe j).toNat : Int)] := by rw [range_snoc, nW_append]; rfl
      have hso : nW ((List.range (j + 1)).map fo) = nW ((List.range j).map fo) ++ [((fo j).toNat : Int)] := by rw [range_snoc, nW_append]; rfl
      have hss : nW ((List.range (j + 1)).map fs).reverse = nW [fs j] ++ nW ((List.range j).map fs).reverse := by rw [range_snoc, List.reverse_append, ← nW_append]; rfl
      have lxe : (nW ((List.range j).map fe)).length = j := by simp [nW]
      have lxo : (nW ((List.range j).map fo)).length = j := by simp [nW]
      have lxs : (nW ((List.range j).map fs).reverse).length = j := by simp [nW]
      obtain ⟨xe, hxe⟩ : ∃ xe, nW ((List.range j).map fe) = xe := ⟨_, rfl⟩
      obtain ⟨xo, hxo⟩ : ∃ xo, nW ((List.range j).map fo) = xo := ⟨_, rfl⟩
      obtain ⟨xs, hxs⟩ : ∃ xs, nW ((List.range j).map fs).reverse = xs := ⟨_, rfl⟩
      obtain ⟨y0, hy0⟩ : ∃ y, fe j = y := ⟨_, rfl⟩
      obtain ⟨y1, hy1⟩ : ∃ y, fo j = y := ⟨_, rfl⟩
      obtain ⟨y2, hy2⟩ : ∃ y, fs j = y := ⟨_, rfl⟩
      rw [hxe] at HR hse lxe
      rw [hxo] at HR hso lxo
      rw [hxs] at HR hss lxs
      rw [hy0] at HE hse
      rw [hy1] at HO hso
      rw [hy2] at HS hss
      have k0 := wlt y0
      have k1 := wlt y1
      obtain ⟨q, hq⟩ : ∃ q, 8 * j = q := ⟨_, rfl⟩
      rw [hq] at HE HO HS ⊢
      have hqn : q + 8 ≤ 32 := by omega
      have HQ := hid hq
      have HHE := hid HE
      have HHO := hid HO
      have HHS := hid HS
      have HSE := hid (And.intro hse (And.intro hso hss))
      have HLX := hid (show xe.length ≤ 1000 ∧ xo.length ≤ 1000 ∧ xs.length ≤ 1000 by omega)
      have HW := hid (Below.size HX.out)
      clear HE HO HS hse hso hss lxe lxo lxs hxe hxo hxs hy0 hy1 hy2 hq
      go_wp2_with fail
      refine (HHE.out wr HX.out _).mono ?_
      rintro e w1 ⟨rfl, rfl⟩
      have HLTE := hid (lit_own1 wr y0)
      have HRA := hid (HR.out.ext (Ext.alloc wr (.cells #[.int .u32 (y0.toNat : Nat)] 37)))
      have HXA := hid (Ext.trans HX.out (Ext.alloc wr (.cells #[.int .u32 (y0.toNat : Nat)] 37)))
      go_wp2_with (refine wpList_app (y := ((y0.toNat : Nat) : Int)) (t := wr.heap.size) (c := 1) rfl (.tmp 32) (.tmp 40) rfl rfl HRA.out.e rfl (by have := HLX.out; omega) (by exact OwnN.celln HLTE.out rfl 0 (by simp)) HXA.out.size ?_; intro g1 c1 w2 hn1 hg1 hb1)
      have HR2 := hid (HRA.out.setE hn1 hg1 hb1)
      have HX2 := hid (show Ext w w2 from Below.grown HXA.out hg1 HXA.out.size (fun k e => (HRA.out.e.lt k e).1))
      clear hn1 hg1 hb1
      go_wp2_with fail
      refine (HHO.out w2 HX2.out _).mono ?_
      rintro e w3 ⟨rfl, rfl⟩
      have HLTO := hid (lit_own1 w2 y1)
      have HRB := hid (HR2.out.ext (Ext.alloc w2 (.cells #[.int .u32 (y1.toNat : Nat)] 37)))
      have HXB := hid (Ext.trans HX2.out (Ext.alloc w2 (.cells #[.int .u32 (y1.toNat : Nat)] 37)))
      go_wp2_with (refine wpList_app (y := ((y1.toNat : Nat) : Int)) (t := w2.heap.size) (c := 1) rfl (.tmp 42) (.tmp 51) rfl rfl HRB.out.o rfl (by have := HLX.out; omega) (by exact OwnN.celln HLTO.out rfl 0 (by simp)) HXB.out.size ?_; intro g2 c2 w4 hn2 hg2 hb2)
      have HR4 := hid (HRB.out.setO hn2 hg2 hb2)
      have HX4 := hid (show Ext w w4 from Below.grown HXB.out hg2 HXB.out.size (fun k e => (HRB.out.o.lt k e).1))
      clear hn2 hg2 hb2
      go_wp2_with fail
      refine (HHS.out w4 HX4.out _).mono ?_
      rintro e w5 ⟨rfl, hx5⟩
      have HR5 := hid (HR4.out.ext hx5)
      have HX5 := hid (Ext.trans HX4.out hx5)
      clear hx5
      have HLTS := hid (lit_own1 w5 y2)
      obtain ⟨A5, c5, hvs, hrs, _⟩ := (HR5.out.s.kept (Ext.alloc w5 (.cells #[.int .u32 (y2.toNat : Nat)] 37))).rdn rfl
      have HRS := hid hrs
      have HVS := hid hvs
      clear hrs hvs
      go_wp2_with (refine wpL_appendN _ rfl (.tmp 59) (.tmp 60) 24 rfl Tryd.underlying24 4 Tryd.info37 w5.heap.size _ _ rfl HLTS.out _ A5 xs.length c5 _ HVS.out HRS.out (by have := HLX.out; simp [nW]; omega) (by have := HLX.out; simp [nW]; unfold maxLen; omega) (by simp) ?_; intro v' w6 hown6 hb6)
      have HX6' := hid (show Ext w5 w6 from ((Below.refl w5.heap.size w5).alloc (Nat.le_refl _) _).trans hb6)
      have HR6 := hid (HR5.out.setS HX5.out.size hown6 HX6'.out)
      have HX6 := hid (Ext.trans HX5.out HX6'.out)
      clear hown6 hb6
      go_wp2_with fail
      have hse := HSE.out
      exact ⟨⟨j + 1, by omega, by have := HQ.out; go_num, by rw [hse.1, hse.2.1, hse.2.2]; exact HR6.out, HX6.out⟩, by have := HQ.out; simp [intOf]; omega⟩
    · obtain rfl : j = m := by omega
      have hlm : ((8 * j : Nat) : Int) = 32 := by omega
      obtain ⟨ev, hev⟩ : ∃ ev, (List.range j).map fe = ev := ⟨_, rfl⟩
      obtain ⟨od, hod⟩ : ∃ od, (List.range j).map fo = od := ⟨_, rfl⟩
      obtain ⟨xs, hxs⟩ : ∃ xs, ((List.range j).map fs).reverse = xs := ⟨_, rfl⟩
      have lev : ev.length = j := by rw [← hev]; simp
      have lod : od.length = j := by rw [← hod]; simp
      rw [hev, hod, hxs] at HR ⊢
      obtain ⟨A1, c1, rfl, h1, _⟩ := OwnN.rdn (n := j) HR.out.e (by simpa [nW] using lev)
      obtain ⟨A2, c2, rfl, h2, _⟩ := OwnN.rdn (n := j) HR.out.o (by simpa [nW] using lod)
      have HS := hid HR.out.s
      have H1 := hid h1
      have H2 := hid h2
      have HEV := hid (And.intro hev (And.intro hod hxs))
      clear HLE HLO HSH HR h1 h2 hev hod hxs lev lod
      obtain ⟨w9, rfl⟩ : ∃ x, x = wr := ⟨_, rfl⟩
      have HX9 := hid HX.out
      have hj4 : 2 ≤ j ∧ j ≤ 4 := by omega
      have HJ := hid hj4
      clear HX
      go_wp2_with fail
      clear hm hnm hj hlm hj4
      generalize ((8 * j : Nat) : Int) = N0
      go_loopw [8, 10] (fun v i wv => ∃ k : Nat, k ≤ 20 ∧ i = .int .i64 (k : Nat) ∧ OwnW wv w9.heap.size v (kL ev od k) ∧ Ext w9 wv) (fun _ i _ => 20 - (intOf i).toNat)
      case atStart => exact ⟨0, by omega, rfl, World.ownsRow_nil _ _ _ _, Ext.refl _⟩
      case round =>
        obtain ⟨k, hk, rfl, hown, hx⟩ := hrel
        by_cases hlt : k < 20
        · have e1 := w_ones (2 * k) (by omega)
          have e2 := w_ones (2 * k + 1) (by omega)
          have HA := hid (fun w hl => rh_any (UInt32.ofNat (2 * k) * 0x01010101) ev A1 j c1 w hl HJ.out.1 HJ.out.2)
          have HBB := hid (fun w hl => rh_any (UInt32.ofNat (2 * k + 1) * 0x01010101) od A2 j c2 w hl HJ.out.1 HJ.out.2)
          have hkA : HW (UInt32.ofNat (2 * k) * 0x01010101) ev = kA ev k := rfl
          have hkB : rolI (HW (UInt32.ofNat (2 * k + 1) * 0x01010101) od) 8 = kB od k := rfl
          have HKB := hid hkB
          obtain ⟨T, hT⟩ : ∃ T, HW (UInt32.ofNat (2 * k + 1) * 0x01010101) od = T := ⟨_, rfl⟩
          rw [hT] at HBB HKB
          rw [hkA] at HA
          obtain ⟨X1, hX1⟩ : ∃ X1, UInt32.ofNat (2 * k) * 0x01010101 = X1 := ⟨_, rfl⟩
          obtain ⟨X2, hX2⟩ : ∃ X2, UInt32.ofNat (2 * k + 1) * 0x01010101 = X2 := ⟨_, rfl⟩
          rw [hX1] at e1 HA
          rw [hX2] at e2 HBB
          have HST := hid (show kL ev od (k + 1) = kL ev od k ++ [kA ev k + kB od k, rolI (kA ev k + 2 * kB od k) 9] by rw [kL])
          obtain ⟨a, ha⟩ : ∃ a, kA ev k = a := ⟨_, rfl⟩
          obtain ⟨b, hb⟩ : ∃ b, kB od k = b := ⟨_, rfl⟩
          rw [ha] at HA HST
          rw [hb] at HKB HST
          have e3 := w_add a b
          have e4 := w_two b
          have e5 := w_add a (2 * b)
          obtain ⟨d, hd2⟩ : ∃ d, 2 * b = d := ⟨_, rfl⟩
          rw [hd2] at e4 e5 HST
          obtain ⟨r1, hr1⟩ : ∃ r1, a + b = r1 := ⟨_, rfl⟩
          obtain ⟨p, hp⟩ : ∃ p, a + d = p := ⟨_, rfl⟩
          rw [hr1] at e3 HST
          rw [hp] at e5 HST
          have ld := wlt d
          have la := wlt a
          have lb := wlt b
          have HKL := hid (kL_length ev od k)
          have HX := hid hx
          have HO := hid hown
          rw [show ((2 * k : Nat) : Int) = 2 * (k : Int) by omega] at e1
          rw [show ((2 * k + 1 : Nat) : Int) = 2 * (k : Int) + 1 by omega] at e2
          have hd : (k : Int) < 20 := by omega
          clear hr1 hp hd2 hkA hkB hT hX1 hX2 ha hb hx hown
          go_wp2_with fail
          refine (HA.out _ (H1.out.later HX.out)).mono ?_
          rintro e w2 ⟨rfl, hx2⟩
          have HX2 := hid (Ext.trans HX.out hx2)
          have HO2 := hid (OwnN.kept HO.out hx2)
          clear hx2 e1
          go_wp2_with fail
          refine (HBB.out _ (H2.out.later HX2.out)).mono ?_
          rintro e w3 ⟨rfl, hx3⟩
          have HX3 := hid (Ext.trans HX2.out hx3)
          have HO3 := hid (OwnN.kept HO2.out hx3)
          clear hx3 e2
          go_wp2_with fail
          refine (rrol_w T 8 _).mono ?_
          rintro e w' ⟨rfl, rfl⟩
          rw [HKB.out]
          go_wp2_with fail
          refine (rrol_w p 9 _).mono ?_
          rintro e w' ⟨rfl, rfl⟩
          obtain ⟨r2, hr2⟩ : ∃ r2, rolI p 9 = r2 := ⟨_, rfl⟩
          rw [hr2] at HST ⊢
          clear hr2
          have HLT := hid (lit_rd2 w3 r1 r2)
          have hsz3 := Below.size HX3.out
          have hkl := HKL.out
          go_wp2_with (refine wpL_appendN _ rfl (.tmp 80) (.tmp 89) 24 rfl Tryd.underlying24 4 Tryd.info37 w9.heap.size _ _ rfl (OwnN.kept HO3.out (Ext.alloc _ _)) _ _ 2 2 _ rfl HLT.out (by rw [nW_length, hkl]; omega) (by rw [nW_length, hkl]; unfold maxLen; omega) (by simp; omega) ?_; intro v' w4 hown4 hb4)
          have HO5 := hid (show OwnW w4 w9.heap.size v' (kL ev od (k + 1)) by
            rw [HST.out]
            unfold OwnW
            rw [nW_append]
            exact hown4)
          have HX5 := hid (show Ext w9 w4 from ((show Below w9.heap.size w9 w3 from HX3.out).alloc (Below.size HX3.out) _).trans hb4)
          clear hown4 hb4
          go_wp2_with fail
          exact ⟨⟨k + 1, by omega, by go_num, HO5.out, HX5.out⟩, by simp [intOf]; omega⟩
        · obtain rfl : k = 20 := by omega
          have HX := hid hx
          have HO := hid hown
          clear hx hown
          have HSL := hid (OwnN.kept HS.out HX.out)
          have HXX := hid (Ext.trans HX9.out HX.out)
          go_wp2_with fail
          rw [HEV.out.1, HEV.out.2.1, HEV.out.2.2]
          have h1 := ownN_mono HO.out HX9.out.size
          have h2 := HSL.out
          have h3 := HXX.out
          refine bodyPost_ret (v := .tuple #[u8, u7, .int .i64 0]) ?_ rfl ⟨_, _, rfl, h1, h2, h3⟩
          simp [results, Tryd.f11, go_sem]
theorem le_word {w : World} {B n b o i c : Nat} {key : List UInt8} (h : Rd w B (some ⟨b, o, none⟩) n key) (hi : 4 * i + 4 ≤ n) :
    Calls Tryd.prog 20 #[.slice (some ⟨b, o + 4 * i, none⟩) 4 c] w fun e w' => e = .returned (.int .u64 ((wdL key (4 * i)).toNat : Nat)) ∧ w = w' := by
  obtain ⟨L, hL, e⟩ := rd_four h hi
  refine (little_any _ 4 c B L w hL (by omega)).mono ?_
  rintro e1 w1 ⟨rfl, rfl⟩
  rw [le_wd4, e]
  exact ⟨rfl, rfl⟩
theorem rkeys_any (A : Option Addr) (n c : Nat) (key : List UInt8) (w : World) (hr : Rd w w.heap.size A n key) (hn : n = 16 ∨ n = 24 ∨ n = 32) (hc : n ≤ c) :
    Calls Tryd.prog 11 #[.slice A n c] w (KRet w (keysL key) (sL key)) := by
  obtain ⟨b, o, rfl, _, _⟩ := hr.at_ (by omega)
  have hl := hr.len
  have hle : ∀ j, 8 * j + 8 ≤ n → ∀ W, Ext w W → ∀ c', Calls Tryd.prog 20 #[.slice (some ⟨b, o + 8 * j, none⟩) 4 c'] W fun e w' => e = .returned (.int .u64 ((wdL key (8 * j)).toNat : Nat)) ∧ W = w' := fun j hj W hx c' => by
    have := le_word (i := 2 * j) (c := c') (hr.later hx) (by omega)
    rw [show 4 * (2 * j) = 8 * j by omega] at this
    exact this
  have hlo : ∀ j, 8 * j + 8 ≤ n → ∀ W, Ext w W → ∀ c', Calls Tryd.prog 20 #[.slice (some ⟨b, o + (8 * j + 4), none⟩) 4 c'] W fun e w' => e = .returned (.int .u64 ((wdL key (8 * j + 4)).toNat : Nat)) ∧ W = w' := fun j hj W hx c' => by
    have := le_word (i := 2 * j + 1) (c := c') (hr.later hx) (by omega)
    rw [show 4 * (2 * j + 1) = 8 * j + 4 by omega] at this
    exact this
  have hsh : ∀ j, 8 * j + 8 ≤ n → ∀ W, Ext w W → ∀ c', Calls Tryd.prog 29 #[.slice (some ⟨b, o + 8 * j, none⟩) 8 c'] W fun e w' => e = .returned (.int .u32 ((shrW (pt key j)).toNat : Nat)) ∧ Ext W w' := fun j hj W hx c' =>
    told_any (pt key j) _ c' W (rd_eight (hr.later hx) hj)
  unfold keysL evL odL sL sU
  rw [hl]
  rcases hn with rfl | rfl | rfl
  · exact rkeys2_f b o 2 16 c (fun j => wdL key (8 * j)) (fun j => wdL key (8 * j + 4)) (fun j => shrW (pt key j)) w rfl rfl hc (fun j hj => hle j (by omega)) (fun j hj => hlo j (by omega)) (fun j hj => hsh j (by omega))
  · exact rkeys3_f b o 3 24 c (fun j => wdL key (8 * j)) (fun j => wdL key (8 * j + 4)) (fun j => shrW (pt key j)) w rfl rfl hc (fun j hj => hle j (by omega)) (fun j hj => hlo j (by omega)) (fun j hj => hsh j (by omega))
  · exact rkeys4_f b o 4 32 c (fun j => wdL key (8 * j)) (fun j => wdL key (8 * j + 4)) (fun j => shrW (pt key j)) w rfl rfl hc (fun j hj => hle j (by omega)) (fun j hj => hlo j (by omega)) (fun j hj => hsh j (by omega))
end Go.Proofs.YtbdncalllfpodaaDoor
