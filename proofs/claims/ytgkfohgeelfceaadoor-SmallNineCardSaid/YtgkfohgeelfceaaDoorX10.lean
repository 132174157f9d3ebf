/- Walk over the keys of RC5, of the program; own lemmas of the verifier, no statement is proved here. -/
import Derived.Test.YtgkfohgeelfceaaDoorX9
namespace Go.Proofs.YtgkfohgeelfceaaDoor
open Go.RowKit
theorem rc0_val (k : Nat) (_h : k < 26) : (3084996963 + (k : Int) * 2654435769 % 4294967296) % 4294967296 = ((rc0 k).toNat : Int) := by
  unfold rc0 gold
  rw [UInt32.toNat_add, UInt32.toNat_mul, UInt32.toNat_ofNat']
  have h1 : (0xB7E15163 : UInt32).toNat = 3084996963 := rfl
  have h2 : (0x9E3779B9 : UInt32).toNat = 2654435769 := rfl
  rw [h1, h2]
  omega
def Rc5J (g : Nat) (l : List UInt32) (G : Nat) (w : World) (a : Act) (w1 : World) : Prop :=
  ∃ (n : Nat) (z : R5) (u4 u8 u9 u10 u11 u12 u13 u14 u15 u16 u17 u18 u19 u20 u21 u22 u23 u24 u25 u26 u27 u28 u29 u30 u31 u32 u33 u34 u35 u36 u37 u38 u39 u40 u41 u42 u43 u44 u45 u46 u47 u48 u49 u50 u51 u52 u53 u54 u55 u56 u57 u58 u59 u60 u61 u62 u63 u64 u65 u66 : Value),
    a = { tmps := #[.slice (some ⟨g, 0, none⟩) 4 4, undef, .slice none 0 0, .slice (some ⟨G, 0, none⟩) 26 26, u4, .int .u32 (z.a.toNat : Nat), .int .u32 (z.b.toNat : Nat), .int .i64 n, u8, u9, u10, u11, u12, u13, u14, u15, u16, u17, u18, u19, u20, u21, u22, u23, u24, u25, u26, u27, u28, u29, u30, u31, u32, u33, u34, u35, u36, u37, u38, u39, u40, u41, u42, u43, u44, u45, u46, u47, u48, u49, u50, u51, u52, u53, u54, u55, u56, u57, u58, u59, u60, u61, u62, u63, u64, u65, u66], defers := [] } ∧ n < 78 ∧
    z = rcAt (rcBegin l) n ∧ BW w1 G z.s ∧ BW w1 g z.l ∧ Below g w w1
theorem own_of_bw {w : World} {base g n : Nat} {ks : List UInt32} (h : BW w g ks) (hn : ks.length = n) (hb : base ≤ g) (hm : n ≤ maxLen) : OwnW w base (.slice (some ⟨g, 0, none⟩) n n) ks := by
  subst hn
  refine ⟨by simp [cN_length, nW_length], .inr ⟨g, ks.length, _, by rw [nW_length], hb, h, by rw [nW_length]; exact Nat.le_refl _, hm, by simp [cN, nW_length], ?_⟩⟩
  rw [List.toList_toArray, List.take_of_length_le (by simp [cN_length, nW_length])]
set_option maxRecDepth 100000 in
set_option maxHeartbeats 4000000 in
theorem rkeys_any (g : Nat) (l : List UInt32) (w : World) (hb : BW w g l) (hl : l.length = 4) :
    Calls Tryd.prog 30 #[.slice (some ⟨g, 0, none⟩) 4 4] w (WRetG g 26 w (rcAt (rcBegin l) 78).s) := by
  have hlt := hb.lt
  have HB := hid hb
  have HL := hid hl
  clear hb hl
  go_enter Tryd.func30, Tryd.ntmps30
  go_wp2_with fail
  refine wp_scope_jumps2 0 (Rc5J g l w.heap.size w) (fun a _ => 78 - iAt 7 a) rfl ?_ ?_
  · obtain ⟨G, hGe⟩ : ∃ G, w.heap.size = G := ⟨_, rfl⟩
    have HGE := hid hGe
    rw [hGe]
    rw [hGe] at hlt
    clear hGe HB
    rintro a w1 ⟨n, z, u4, u8, u9, u10, u11, u12, u13, u14, u15, u16, u17, u18, u19, u20, u21, u22, u23, u24, u25, u26, u27, u28, u29, u30, u31, u32, u33, u34, u35, u36, u37, u38, u39, u40, u41, u42, u43, u44, u45, u46, u47, u48, u49, u50, u51, u52, u53, u54, u55, u56, u57, u58, u59, u60, u61, u62, u63, u64, u65, u66, rfl, hn, hz, hs, hll, hx⟩
    obtain ⟨hls, hlx⟩ := rcAt_len l n
    rw [HL.out] at hlx
    rw [← hz] at hls hlx
    have hstep : rcAt (rcBegin l) (n + 1) = rcStep n z := by rw [rcAt, ← hz]
    obtain ⟨i, hi⟩ : ∃ i, n % 26 = i := ⟨_, rfl⟩
    obtain ⟨j, hj⟩ : ∃ j, n % 4 = j := ⟨_, rfl⟩
    have hi26 : i < 26 := by omega
    have hj4 : j < 4 := by omega
    have ei : (n : Int) % 26 = (i : Int) := by omega
    have ej : (n : Int) % 4 = (j : Int) := by omega
    have ti : (n : Int).tmod 26 = (i : Int) := by rw [Int.tmod_eq_emod_of_nonneg (by omega)]; exact ei
    have tj : (n : Int).tmod 4 = (j : Int) := by rw [Int.tmod_eq_emod_of_nonneg (by omega)]; exact ej
    have hcs := hs.cell i (by omega)
    have hcl := hll.cell j (by omega)
    have hfs := hs.frozen i
    have hfl := hll.frozen j
    have hA : rcA z n = rolI (z.s.getD i 0 + z.a + z.b) 3 := by unfold rcA; rw [hi]
    have hB : rcB z n (rcA z n) = rolI (z.l.getD j 0 + rcA z n + z.b) ((rcA z n + z.b).toNat % 32 : Nat) := by unfold rcB; rw [hj]
    have hst2 : rcStep n z = ⟨z.s.set i (rcA z n), z.l.set j (rcB z n (rcA z n)), rcA z n, rcB z n (rcA z n)⟩ := by unfold rcStep; rw [hi, hj]
    rw [hst2] at hstep
    obtain ⟨X, hX⟩ : ∃ X, rcA z n = X := ⟨_, rfl⟩
    rw [hX] at hA hB hstep
    obtain ⟨Y, hY⟩ : ∃ Y, rcB z n X = Y := ⟨_, rfl⟩
    rw [hY] at hB hstep
    obtain ⟨si, hsi⟩ : ∃ x, z.s.getD i 0 = x := ⟨_, rfl⟩
    obtain ⟨lj, hlj⟩ : ∃ x, z.l.getD j 0 = x := ⟨_, rfl⟩
    rw [hsi] at hA hcs
    rw [hlj] at hB hcl
    have e1 := w_add si z.a
    have e2 := w_add (si + z.a) z.b
    have e3 := w_add lj X
    have e4 := w_add (lj + X) z.b
    have e5 := w_add X z.b
    obtain ⟨p1, hp1⟩ : ∃ x, si + z.a = x := ⟨_, rfl⟩
    rw [hp1] at hA e1 e2
    obtain ⟨p2, hp2⟩ : ∃ x, p1 + z.b = x := ⟨_, rfl⟩
    rw [hp2] at hA e2
    obtain ⟨p3, hp3⟩ : ∃ x, lj + X = x := ⟨_, rfl⟩
    rw [hp3] at hB e3 e4
    obtain ⟨p4, hp4⟩ : ∃ x, p3 + z.b = x := ⟨_, rfl⟩
    rw [hp4] at hB e4
    obtain ⟨p5, hp5⟩ : ∃ x, X + z.b = x := ⟨_, rfl⟩
    rw [hp5] at hB e5
    have hra := fun w => rol_w p2 3 w
    rw [← hA] at hra
    have hrb := fun w => rol_w p4 (p5.toNat % 32 : Nat) w
    rw [← hB] at hrb
    have hto := fun w => turnOf_any p5 w
    obtain ⟨q5, hq5⟩ : ∃ q, p5.toNat % 32 = q := ⟨_, rfl⟩
    rw [hq5] at hrb hto
    have HRA := hid hra
    have HRB := hid hrb
    have HTO := hid hto
    have hbs := (hs.set_ i X).setne ⟨g, j, none⟩ (.int .u32 (Y.toNat : Nat)) (by simp; omega)
    have hbl := (hll.setne ⟨G, i, none⟩ (.int .u32 (X.toNat : Nat)) (by simp; omega)).set_ j Y
    have hbx := (hx.setCell (p := ⟨G, i, none⟩) (by simp; omega) (.int .u32 (X.toNat : Nat))).setCell (p := ⟨g, j, none⟩) (by simp) (.int .u32 (Y.toNat : Nat))
    have HBS := hid hbs
    have HBL := hid hbl
    have HBX := hid hbx
    have HSTEP := hid hstep
    have HLS := hid (show (z.s.set i X).length = 26 by rw [List.length_set]; exact hls)
    have b1 := wlt z.a
    have b2 := wlt z.b
    have b3 := wlt si
    have b4 := wlt lj
    have b5 := wlt p1
    have b6 := wlt p3
    have b7 := wlt X
    have hgG : ¬ g = G := by omega
    have hGg : ¬ G = g := by omega
    have HN := hid (And.intro hi hj)
    clear hz hs hll hx hls hlx hstep hi hj hA hB hst2 hX hY hsi hlj hp1 hp2 hp3 hp4 hp5 hra hrb hto hbs hbl hbx hq5
    by_cases hlast : n + 1 < 78
    · have h78 : (n : Int) + 1 < 78 := by omega
      go_wp2_with fail
      go_quiet (fail)
      go_wp2_with (go_at_call 42; refine (HRA.out _).mono ?_; rintro e w' ⟨rfl, rfl⟩)
      obtain ⟨W, hW⟩ : ∃ W, w1.drewN nq = W := ⟨_, rfl⟩
      rw [hW]
      have gcl : W.cell? ⟨g, j, none⟩ = some (.int .u32 (lj.toNat : Nat)) := by rw [← hW]; exact hcl
      have gcs : W.cell? ⟨G, i, none⟩ = some (.int .u32 (si.toNat : Nat)) := by rw [← hW]; exact hcs
      have gfl : W.frozen? ⟨g, j, none⟩ = false := by rw [← hW]; exact hfl
      have gfs : W.frozen? ⟨G, i, none⟩ = false := by rw [← hW]; exact hfs
      have HBS2 := hid (fun k => show BW (((W.drewN k).setCell ⟨G, i, none⟩ (.int .u32 (X.toNat : Nat))).setCell ⟨g, j, none⟩ (.int .u32 (Y.toNat : Nat))) G (z.s.set i X) by rw [← hW]; exact HBS.out)
      have HBL2 := hid (fun k => show BW (((W.drewN k).setCell ⟨G, i, none⟩ (.int .u32 (X.toNat : Nat))).setCell ⟨g, j, none⟩ (.int .u32 (Y.toNat : Nat))) g (z.l.set j Y) by rw [← hW]; exact HBL.out)
      have HBX2 := hid (fun k => show Below g w (((W.drewN k).setCell ⟨G, i, none⟩ (.int .u32 (X.toNat : Nat))).setCell ⟨g, j, none⟩ (.int .u32 (Y.toNat : Nat))) by rw [← hW]; exact ⟨HBX.out.os, HBX.out.tape, HBX.out.output, HBX.out.size, HBX.out.block⟩)
      clear hcl hcs hfl hfs hW HBS HBL HBX
      go_quiet (first
        | (go_at_call 48; exact quietSame (HTO.out _))
        | (go_at_call 42; exact quietSame (HRB.out _)))
      go_wp2_with fail
      go_step3
      (try simp only [Exit.jump])
      refine ⟨rfl, ⟨n + 1, ⟨z.s.set i X, z.l.set j Y, X, Y⟩, _, _, _, _, _, _, _, _, _, _, _, _, _, _, _, _, _, _, _, _, _, _, _, _, _, _, _, _, _, _, _, _, _, _, _, _, _, _, _, _, _, _, _, _, _, _, _, _, _, _, _, _, _, _, _, _, _, _, _, _, rfl, hlast, HSTEP.out.symm, HBS2.out nq, HBL2.out nq, HBX2.out nq⟩, ?_⟩
      simp [iAt]; omega
    · have h78 : ¬ (n : Int) + 1 < 78 := by omega
      go_wp2_with fail
      go_quiet (fail)
      go_wp2_with (go_at_call 42; refine (HRA.out _).mono ?_; rintro e w' ⟨rfl, rfl⟩)
      obtain ⟨W, hW⟩ : ∃ W, w1.drewN nq = W := ⟨_, rfl⟩
      rw [hW]
      have gcl : W.cell? ⟨g, j, none⟩ = some (.int .u32 (lj.toNat : Nat)) := by rw [← hW]; exact hcl
      have gcs : W.cell? ⟨G, i, none⟩ = some (.int .u32 (si.toNat : Nat)) := by rw [← hW]; exact hcs
      have gfl : W.frozen? ⟨g, j, none⟩ = false := by rw [← hW]; exact hfl
      have gfs : W.frozen? ⟨G, i, none⟩ = false := by rw [← hW]; exact hfs
      have HBS2 := hid (fun k => show BW (((W.drewN k).setCell ⟨G, i, none⟩ (.int .u32 (X.toNat : Nat))).setCell ⟨g, j, none⟩ (.int .u32 (Y.toNat : Nat))) G (z.s.set i X) by rw [← hW]; exact HBS.out)
      have HBL2 := hid (fun k => show BW (((W.drewN k).setCell ⟨G, i, none⟩ (.int .u32 (X.toNat : Nat))).setCell ⟨g, j, none⟩ (.int .u32 (Y.toNat : Nat))) g (z.l.set j Y) by rw [← hW]; exact HBL.out)
      have HBX2 := hid (fun k => show Below g w (((W.drewN k).setCell ⟨G, i, none⟩ (.int .u32 (X.toNat : Nat))).setCell ⟨g, j, none⟩ (.int .u32 (Y.toNat : Nat))) by rw [← hW]; exact ⟨HBX.out.os, HBX.out.tape, HBX.out.output, HBX.out.size, HBX.out.block⟩)
      clear hcl hcs hfl hfs hW HBS HBL HBX
      go_quiet (first
        | (go_at_call 48; exact quietSame (HTO.out _))
        | (go_at_call 42; exact quietSame (HRB.out _)))
      go_wp2_with fail
      (try simp only [Exit.jump])
      go_ret
      have h1 : n + 1 = 78 := by omega
      have h2 := HSTEP.out
      rw [h1] at h2
      have hbs9 := HBS2.out nq
      rw [show z.s.set i X = (rcAt (rcBegin l) 78).s by rw [h2]] at hbs9
      exact ⟨G, 26, rfl, Nat.le_refl _, own_of_bw hbs9 (by rw [h2]; exact HLS.out) (by rw [HGE.out]; exact Nat.le_refl _) (by unfold maxLen; omega), HBX2.out nq⟩
  · intro hfirst
    go_wp2_with (at_make; refine wpL_makeN rfl (.const (.int .i64 26)) (.const (.int .i64 26)) 59 rfl Tryd.underlying59 4 Tryd.info43 .i64 26 26 rfl rfl rfl (by omega) (by unfold maxLen; omega) w.heap.size (Nat.le_refl _) ?_; intro w1 hown1 hb1)
    rw [← nW_zero] at hown1
    go_loopw [13] (fun i wr => ∃ k : Nat, k ≤ 26 ∧ i = .int .i64 k ∧ BW wr w.heap.size (fillW rc0 26 k) ∧ Ext w wr) (fun i _ => 26 - (intOf i).toNat)
    case atStart => exact ⟨0, Nat.zero_le _, rfl, by rw [fillW_zero]; exact bw_of_own hown1, hb1⟩
    case round =>
      clear hown1 hb1
      obtain ⟨k, hk, rfl, hs, hx⟩ := hrel
      by_cases hlt2 : k < 26
      · have hlen := fillW_length rc0 26 k
        have hc := hs.cell k (by omega)
        have hf := hs.frozen k
        have hv := rc0_val k hlt2
        have hset := hs.set_ k (rc0 k)
        rw [fillW_set] at hset
        obtain ⟨X, hX⟩ : ∃ X, rc0 k = X := ⟨_, rfl⟩
        rw [hX] at hv hset
        have HS := hid hset
        have HX := hid hx
        have hk26 : (k : Int) < 26 := by omega
        clear hs hx hset hX hlen
        go_wp2_with fail
        go_roundw
        case rel => exact ⟨k + 1, by omega, by go_num, HS.out, Below.setCell HX.out (by simp) _⟩
        case measure => simp [intOf]; omega
      · obtain rfl : k = 26 := by omega
        have hs2 := hs
        rw [fillW_full] at hs2
        have HS := hid hs2
        have HBL := hid (HB.out.later hx)
        have HX := hid (Below.mono hx (Nat.le_of_lt hlt))
        clear hs hs2 hx
        go_wp2_with fail
        go_step3
        simp only [Exit.then]
        rename_i hK
        refine hK _ _ ?_
        exact hfirst.out _ _ ⟨0, rcBegin l, _, _, _, _, _, _, _, _, _, _, _, _, _, _, _, _, _, _, _, _, _, _, _, _, _, _, _, _, _, _, _, _, _, _, _, _, _, _, _, _, _, _, _, _, _, _, _, _, _, _, _, _, _, _, _, _, _, _, _, _, rfl, by omega, rfl, HS.out, HBL.out, HX.out⟩
end Go.Proofs.YtgkfohgeelfceaaDoor
