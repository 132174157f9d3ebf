/- Walk over Block of the program; own lemmas of the verifier, no statement is proved here. -/
import Derived.Test.YthfcndaccfpnmaaDoorX13
namespace Go.Proofs.YthfcndaccfpnmaaDoor
open Go.RowKit
theorem new_any (A : Option Addr) (n c : Nat) (key : List UInt8) (w : World) (hn : n = 8 ∨ n = 16 ∨ n = 24) (h : Rd w w.heap.size A n key) (hc : n ≤ c) :
    Calls Tryd.prog 18 #[.slice A n c] w (NewRet w key) := by
  rcases hn with rfl | rfl | rfl
  · exact new8_any A c key w h hc
  · exact new16_any A c key w h hc
  · exact new24_any A c key w h hc
/-- What Block hands back. -/
def BlkRet (w : World) (bs : List UInt8) (e : Ending) (w' : World) : Prop :=
  ∃ A c, e = .returned (.tuple #[.slice A 8 c, .int .i64 0]) ∧ 8 ≤ c ∧ Rd w' w'.heap.size A 8 bs ∧ Ext w w'
def BlkJ (A : Option Addr) (p m c : Nat) (back : Bool) (kf : Nat → Nat → List UInt8) (b : List UInt8) (w : World) (a : Act) (w1 : World) : Prop :=
  ∃ (i : Nat) (Ao : Option Addr) (co : Nat) (u3 u4 u5 u10 u11 u12 u13 u14 u15 u16 u17 u18 u19 u20 u21 u22 u23 u24 u25 u26 u27 u28 u29 u30 u31 u32 u33 u34 u35 u36 u37 u38 u39 u40 u41 u42 u43 u44 u45 u46 : Value),
    a = { tmps := #[.pointer (some ⟨p, 0, none⟩), .slice A 8 c, .bool back, u3, u4, u5, .slice none 0 0, .int .i64 0, .slice Ao 8 co, .int .i64 i, u10, u11, u12, u13, u14, u15, u16, u17, u18, u19, u20, u21, u22, u23, u24, u25, u26, u27, u28, u29, u30, u31, u32, u33, u34, u35, u36, u37, u38, u39, u40, u41, u42, u43, u44, u45, u46], defers := [] } ∧ i ≤ m ∧ 8 ≤ co ∧ Ext w w1 ∧ Rd w1 w1.heap.size Ao 8 (blkG m kf back b i) ∧ IsDes w1 p m kf ∧ Boxes w1
set_option maxRecDepth 100000 in
set_option maxHeartbeats 4000000 in
theorem block_any (A : Option Addr) (p m c : Nat) (b : List UInt8) (kf : Nat → Nat → List UInt8) (back : Bool) (w : World) (hd : IsDes w p m kf) (hm : m ≤ 1000) (h : Rd w w.heap.size A 8 b) (hB : Boxes w) :
    Calls Tryd.prog 19 #[.pointer (some ⟨p, 0, none⟩), .slice A 8 c, .bool back] w (BlkRet w (blockL m kf back b)) := by
  have HD := hid hd
  have HR := hid h
  have HB := hid hB
  clear hd h hB
  go_enter Tryd.func19, Tryd.ntmps19
  go_wp2_with fail
  refine wp_scope_jumps2 0 (BlkJ A p m c back kf b w) (fun a _ => m - iAt 9 a) rfl ?_ ?_
  · rintro a w1 ⟨i, Ao, co, u3, u4, u5, u10, u11, u12, u13, u14, u15, u16, u17, u18, u19, u20, u21, u22, u23, u24, u25, u26, u27, u28, u29, u30, u31, u32, u33, u34, u35, u36, u37, u38, u39, u40, u41, u42, u43, u44, u45, u46, rfl, hi, hco, hx, hr, hd, hB⟩
    obtain ⟨bs, cs, hcell, hcs, hsch⟩ := hd
    have HD1 := hid (show IsDes w1 p m kf from ⟨bs, cs, hcell, hcs, hsch⟩)
    by_cases hlt : i < m
    · have hne : ((i : Int) == (m : Int)) = false := by simp; omega
      have hP := place_lt i m back hlt
      have hpl := fun w => place_any i m back w hlt hm
      have hnext : blkG m kf back b (i + 1) = turnL (dirF (kf (place i m back)) (back != decide (place i m back = 1))) (blkG m kf back b i) := rfl
      obtain ⟨P, hPe⟩ : ∃ P, place i m back = P := ⟨_, rfl⟩
      rw [hPe] at hP hpl hnext
      obtain ⟨bk, ck, hck, hck16, hkr⟩ := hsch P hP
      have HPL := hid hpl
      have HN := hid hnext
      have HX := hid hx
      have HRR := hid hr
      have HBX := hid hB
      have HKR := hid hkr
      clear hpl hnext hx hr hB hkr hsch hPe
      go_wp2_with (go_at_call 44; refine (HPL.out _).mono ?_; rintro e w' ⟨rfl, rfl⟩)
      have hbb : (!(back == ((P : Int) == 1))) = (back != decide (P = 1)) := by
        have : ((P : Int) == 1) = decide (P = 1) := by by_cases h1 : P = 1 <;> simp [h1] <;> omega
        rw [this]; rfl
      rw [hbb]
      refine (turn_any _ _ _ _ _ _ _ _ _ HRR.out HKR.out hck16 HBX.out).mono ?_
      rintro e w2 ⟨A5, c5, rfl, hc5, hr5, hx5⟩
      have HX5 := hid (Ext.trans HX.out hx5)
      have HR5 := hid hr5
      have HD5 := hid (HD1.out.later hx5)
      have HB5 := hid (HBX.out.later hx5)
      clear hr5 hx5 HX HRR HD1 HBX HKR HPL hbb
      go_wp2_with fail
      go_step3
      (try simp only [Exit.jump])
      refine ⟨rfl, ⟨i + 1, A5, c5, _, _, _, _, _, _, _, _, _, _, _, _, _, _, _, _, _, _, _, _, _, _, _, _, _, _, _, _, _, _, _, _, _, _, _, _, _, _, _, _, rfl, by omega, hc5, HX5.out, ?_, HD5.out, HB5.out⟩, ?_⟩
      · rw [HN.out]; exact HR5.out
      · simp [iAt]; omega
    · obtain rfl : i = m := by omega
      have hne : ((i : Int) == (i : Int)) = true := by simp
      have HH := hid (And.intro hr hx)
      clear hx hr hB hsch
      go_wp2_with fail
      (try simp only [Exit.jump])
      go_ret2
      exact ⟨Ao, co, rfl, hco, HH.out.1, HH.out.2⟩
  · intro hfirst
    go_wp2_with (go_at_call 43; refine (clone_any _ 8 _ _ _ HR.out (by omega) (by omega)).mono ?_; rintro e w2 ⟨v2, rfl, ho2, hb2⟩; obtain ⟨A2, c2, rfl, hc2, hr2, _⟩ := ho2.rdc HR.out.len; have HX2 := hid (show Ext w w2 from hb2); have HR2 := hid hr2; clear ho2 hb2 hr2)
    go_step3
    simp only [Exit.then]
    rename_i hK
    refine hK _ _ ?_
    exact hfirst.out _ _ ⟨0, A2, c2, _, _, _, _, _, _, _, _, _, _, _, _, _, _, _, _, _, _, _, _, _, _, _, _, _, _, _, _, _, _, _, _, _, _, _, _, _, _, _, _, rfl, by omega, hc2, HX2.out, HR2.out, HD.out.later HX2.out, HB.out.later HX2.out⟩
end Go.Proofs.YthfcndaccfpnmaaDoor
