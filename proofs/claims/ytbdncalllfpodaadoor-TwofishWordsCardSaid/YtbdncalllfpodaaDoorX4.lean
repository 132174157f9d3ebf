/- Words in memory, and the walk over H of the program; own lemmas of the verifier, no statement is proved here. -/
import Derived.Test.YtbdncalllfpodaaDoorX3
namespace Go.Proofs.YtbdncalllfpodaaDoor
open Go.RowKit
/-- Words in memory. -/
def KW (w : World) (b o : Nat) (ks : List UInt32) : Prop := ∀ j, j < ks.length → w.cell? ⟨b, o + j, none⟩ = some (.int .u32 ((ks.getD j 0).toNat : Nat))
theorem KW.later {w w' : World} {b o : Nat} {ks : List UInt32} (h : KW w b o ks) (hx : Ext w w') : KW w' b o ks := fun j hj => cell_at hx (h j hj)
theorem Tryd.info37 : (Tryd.prog.info? 37).map (fun i => (i.zero, i.size, i.bytes)) = some (some (.int .u32 0), 1, 4) := by kernel_rfl
/-- Words, as the model's numbers. -/
def nW (ks : List UInt32) : List Int := ks.map fun x => ((x.toNat : Nat) : Int)
theorem nW_length (ks : List UInt32) : (nW ks).length = ks.length := by simp [nW]
theorem nW_get (ks : List UInt32) (j : Nat) (h : j < ks.length) : (nW ks).getD j 0 = ((ks.getD j 0).toNat : Nat) := by simp [nW, h]
theorem nW_set (ks : List UInt32) (j : Nat) (x : UInt32) : (nW ks).set j (x.toNat : Nat) = nW (ks.set j x) := by simp [nW, List.map_set]
theorem nW_append (xs ys : List UInt32) : nW (xs ++ ys) = nW xs ++ nW ys := by simp [nW]
theorem nW_zero (n : Nat) : nW (List.replicate n 0) = List.replicate n 0 := by simp [nW]
/-- Words that the call made. -/
def OwnW (w : World) (base : Nat) (v : Value) (ks : List UInt32) : Prop := OwnN .u32 37 w base v (nW ks)
theorem OwnW.kw {w : World} {base g n c : Nat} {ks : List UInt32} (h : OwnW w base (.slice (some ⟨g, 0, none⟩) n c) ks) (hn : ks.length = n) : KW w g 0 ks := fun j hj => by
  rw [Nat.zero_add, OwnN.celln h (by rw [nW_length]; exact hn) j (by omega), nW_get ks j hj]
theorem OwnW.set_ {w : World} {base g n c : Nat} {ks : List UInt32} (h : OwnW w base (.slice (some ⟨g, 0, none⟩) n c) ks) (hn : ks.length = n) (j : Nat) (x : UInt32) :
    OwnW (w.setCell ⟨g, j, none⟩ (.int .u32 (x.toNat : Nat))) base (.slice (some ⟨g, 0, none⟩) n c) (ks.set j x) := by
  have := OwnN.setn h (by rw [nW_length]; exact hn) j (x.toNat : Nat)
  rw [nW_set] at this
  exact this

theorem OwnW.rd {w : World} {base n : Nat} {v : Value} {ks : List UInt32} (h : OwnW w base v ks) (hn : ks.length = n) : ∃ A c, v = .slice A n c ∧ n ≤ c ∧ RdN .u32 w w.heap.size A n (nW ks) :=
  let ⟨A, c, e, h1, h2, _⟩ := OwnN.rdc h (by rw [nW_length]; exact hn)
  ⟨A, c, e, h1, h2⟩
theorem w_xor' (a b : UInt32) : bits .xor .u32 (a.toNat : Int) (b.toNat : Int) = ((a ^^^ b).toNat : Int) := w_xor a b
/-- What holds at H's label. -/
def HJ (x : UInt32) (l : List UInt32) (A : Option Addr) (c : Nat) (w : World) (a : Act) (w1 : World) : Prop :=
  ∃ (X : UInt32) (left : Nat) (u6 u7 u8 u9 u10 u11 u12 u13 u14 u15 u16 u17 u18 u19 u20 u21 u22 u23 u24 u25 u26 u27 u28 : Value),
    a = { tmps := #[.int .u32 (X.toNat : Nat), .slice A l.length c, undef, undef, .int .u32 0, .int .i64 left, u6, u7, u8, u9, u10, u11, u12, u13, u14, u15, u16, u17, u18, u19, u20, u21, u22, u23, u24, u25, u26, u27, u28, undef, undef], defers := [] } ∧
    left ≤ l.length ∧ hW l left X = HW x l ∧ Ext w w1
def leftAt (a : Act) : Nat := match a.tmps.getD 5 undef with | .int _ q => q.toNat | _ => 0
set_option maxRecDepth 100000 in
set_option maxHeartbeats 4000000 in
theorem h_any (x : UInt32) (l : List UInt32) (A : Option Addr) (n c : Nat) (w : World) (hG : GT w) (hl : RdN .u32 w w.heap.size A n (nW l)) (h2 : 2 ≤ n) (h4 : n ≤ 4) :
    Calls Tryd.prog 16 #[.int .u32 (x.toNat : Nat), .slice A n c] w fun e w' => e = .returned (.int .u32 ((HW x l).toNat : Nat)) ∧ Ext w w' := by
  have HG := hid hG
  have HL := hid hl
  have hn := hl.len
  rw [nW_length] at hn
  subst hn
  clear hG hl
  go_enter Tryd.func16, Tryd.ntmps16
  go_wp2_with fail
  refine wp_scope_jumps2 0 (HJ x l A c w) (fun a _ => leftAt a) rfl ?_ ?_
  · rintro a w1 ⟨X, left, u6, u7, u8, u9, u10, u11, u12, u13, u14, u15, u16, u17, u18, u19, u20, u21, u22, u23, u24, u25, u26, u27, u28, rfl, hle, hst, hx⟩
    have HX := hid hx
    have HST := hid hst
    have hR := fun w hG => repl_any X left w (by omega) hG
    have HG1 := hid (HG.out.later hx)
    rcases left with _ | k
    · rw [hW_zero] at hst
      have HE := hid (show (mixW (replW X 0)).toNat = (HW x l).toNat by rw [← hst]; rfl)
      have HR := hid hR
      clear hx hst HG HL HST hR
      go_wp2_with (first
        | (go_at_call 33; refine (HR.out _ HG1.out).mono ?_; rintro e w2 ⟨rfl, hx2⟩; have HX2 := hid (Ext.trans HX.out hx2); have HG2 := hid (HG1.out.later hx2); clear hx2)
        | (go_at_call 34; refine (mix_any (replW X 0) _ HG2.out).mono ?_; rintro e w3 ⟨rfl, hx3⟩; have HX3 := hid (Ext.trans HX2.out hx3); clear hx3))
      (try simp only [Exit.jump])
      go_ret
      exact ⟨ret_int (by rw [HE.out]), HX3.out⟩
    · obtain ⟨b, o, rfl, hb, hc⟩ := HL.out.at_ (by omega)
      have hck := cell_at hx (hc k (by omega))
      rw [nW_get l k (by omega)] at hck
      have hx32 := w_xor (replW X (k + 1)) (l.getD k 0)
      have HST2 := hid (show hW l k (hStep l k X) = HW x l by rw [← hst, hW_succ])
      have HXX := hid (show bits .xor .u32 ((replW X (k + 1)).toNat : Int) ((l.getD k 0).toNat : Int) = ((hStep l k X).toNat : Int) from hx32)
      have HR := hid hR
      obtain ⟨y, hy⟩ : ∃ y, l.getD k 0 = y := ⟨_, rfl⟩
      rw [hy] at hck HXX
      have HCK := hid hck
      clear hx hst HG HL HST hR hx32 hck hc hy
      go_wp2_with (go_at_call 33; refine (HR.out _ HG1.out).mono ?_; rintro e w2 ⟨rfl, hx2⟩; have HX2 := hid (Ext.trans HX.out hx2); have hck2 := cell_at hx2 HCK.out; clear hx2)
      go_step3
      (try simp only [Exit.jump])
      rw [HXX.out]
      refine ⟨rfl, ⟨hStep l k X, k, _, _, _, _, _, _, _, _, _, _, _, _, _, _, _, _, _, _, _, _, _, _, _, rfl, by omega, HST2.out, HX2.out⟩, ?_⟩
      simp [leftAt]
  · intro hfirst
    go_wp2_with fail
    go_step3
    simp only [Exit.then]
    rename_i hK
    refine hK _ _ ?_
    exact hfirst.out _ _ ⟨x, l.length, _, _, _, _, _, _, _, _, _, _, _, _, _, _, _, _, _, _, _, _, _, _, _, rfl, by omega, rfl, Ext.refl _⟩
end Go.Proofs.YtbdncalllfpodaaDoor
