/- Walk over Keys of the program; own lemmas of the verifier, no statement is proved here. -/
import Derived.Test.YtamolgbdpnpemaaRegO
namespace Go.Proofs.Ytamolgbdpnpemaa
open Go.RowKit
theorem cf19 (vs : Array Value) (w : World) : (callFunc 19 vs).run Try.prog w = .ok (.enter 19 vs) w := by go_simp
theorem size3 : ∀ w, (sizeOf 3).run Try.prog w = .ok 1 w := by intro w; kernel_rfl
theorem slice_lo25 (g off n c l : Nat) (w : World) (hl : l ≤ n) (hc : l < c) :
    (Instr.sliceAt 25 (.slice (some ⟨g, off, none⟩) n c) (some (.int .i64 (l : Int))) none none).run Try.prog w = .ok (.slice (some ⟨g, off + l, none⟩) (n - l) (c - l)) w := by
  have ht : Try.prog.underlying 25 = some (.slice (Try.prog.elem 25)) := by kernel_rfl
  have hs : (sizeOf (Try.prog.elem 25)).run Try.prog w = .ok 1 w := by kernel_rfl
  rw [run_sliceAt_slice w 25 _ _ _ _ ht, run_slice_l w 25 (some ⟨g, off, none⟩) n c ht .i64 l (by omega) (by omega), hs]
  simp only [Result.andThen, sliced, Int.toNat_natCast]
  rw [if_neg (by omega)]
  simp [add_off]
theorem Rd.grown {w w' : World} {B n g : Nat} {A : Option Addr} {bs : List UInt8} (h : Rd w B A n bs) (hg : w.grownBy w' (some g)) (_hB : B ≤ w.heap.size) (hne : ∀ a, A = some a → a.block ≠ g) : Rd w' B A n bs :=
  ⟨h.len, fun hn => by
    obtain ⟨b, o, rfl, hb, hc⟩ := h.at_ hn
    refine ⟨b, o, rfl, hb, fun k hk => ?_⟩
    have h1 := hne _ rfl
    exact hg.cell (hc k hk) (by simpa using h1)⟩
theorem wrap_i64 {x : Int} (h0 : -9223372036854775808 ≤ x) (h1 : x ≤ 9223372036854775807) : IntKind.i64.wrap x = x := by
  simp [IntKind.wrap, IntKind.bits, IntKind.signed]; omega
def copQ (r : Nat) : Nat := min 8 (52 - 8 * r)
theorem keys_fill (key : List UInt8) (r : Nat) (hr : r ≤ 6) : spl (fillN (keyF key) 52 (8 * r)) (8 * r) ((tabN (numF (rowT key r)) 8).take (copQ r)) = fillN (keyF key) 52 (8 * r + copQ r) := by
  have hq : copQ r ≤ 8 ∧ 8 * r + copQ r ≤ 52 := by unfold copQ; omega
  have hl : ((tabN (numF (rowT key r)) 8).take (copQ r)).length = copQ r := by rw [List.length_take, tabN_length]; omega
  refine int_ext (n := 52) (by rw [spl_length (by rw [hl, fillN_length]; omega), fillN_length]) (fillN_length _ _ _) fun j hj => ?_
  rw [spl_get (by rw [hl, fillN_length]; omega), hl]
  have hg : ∀ k, (fillN (keyF key) 52 k).getD j 0 = if j < k then ((keyF key j : Nat) : Int) else 0 := fun k => by simp [fillN, List.getD, hj]
  rw [hg, hg]
  by_cases h1 : j < 8 * r
  · rw [if_pos h1, if_pos h1, if_pos (by omega)]
  · rw [if_neg h1, if_neg h1]
    by_cases h2 : j < 8 * r + copQ r
    · rw [if_pos h2, if_pos h2]
      have e : ((tabN (numF (rowT key r)) 8).take (copQ r)).getD (j - 8 * r) 0 = (tabN (numF (rowT key r)) 8).getD (j - 8 * r) 0 := by
        simp only [List.getD]
        rw [List.getElem?_take, if_pos (by omega)]
      rw [e, tabN_get _ _ _ (by omega), ← keyF_at key r (j - 8 * r) (by omega), show 8 * r + (j - 8 * r) = j by omega]
    · rw [if_neg h2, if_neg h2]
/-- What Keys hands back. -/
def KeyRet (w : World) (key : List UInt8) (e : Ending) (w' : World) : Prop :=
  ∃ g, e = .returned (.tuple #[.slice (some ⟨g, 0, none⟩) 52 52, .int .i64 0]) ∧ w.heap.size ≤ g ∧ Blk w' g 3 (tabN (keyF key) 52) ∧ Ext w w'
set_option maxHeartbeats 400000 in
theorem keys_bad (A : Option Addr) (n c : Nat) (w : World) (h : n ≠ 16) :
    Calls Try.prog 10 #[.slice A n c] w fun e w' => e = .returned (.tuple #[.slice none 0 0, .int .i64 4]) ∧ Ext w w' := by
  have h5 : ((n : Int) != 16) = true := by simp; omega
  go_enter Try.func10, Try.ntmps10
  go_wp2_with fail
  refine wp_scope_jumps2 0 (fun _ _ => False) (fun _ _ => 0) rfl (fun _ _ h => h.elim) ?_
  intro _
  go_wp2_with fail
  simp only [Exit.jump]
  go_ret2
  exact ⟨rfl, Ext.refl _⟩
structure KeyS (key : List UInt8) (w : World) (g r : Nat) (A : Option Addr) (w1 : World) : Prop where
  hr : r ≤ 6
  rd : Rd w1 w1.heap.size A 16 (rowT key r)
  ne : ∀ a, A = some a → a.block ≠ g
  blk : Blk w1 g 3 (fillN (keyF key) 52 (8 * r))
  lt : w.heap.size ≤ g
  ext : Ext w w1
def KeyJ (key : List UInt8) (w : World) (a : Act) (w1 : World) : Prop :=
  ∃ (g r : Nat) (A : Option Addr) (c : Nat) (u6 u7 u8 u9 u10 u11 u12 u13 u14 u15 u16 u17 u18 u19 u20 u21 : Value),
    a = { tmps := #[.slice A 16 c, undef, .slice none 0 0, .int .i64 0, .slice (some ⟨g, 0, none⟩) 52 52, .int .i64 (8 * r : Nat), u6, u7, u8, u9, u10, u11, u12, u13, u14, u15, u16, u17, u18, u19, u20, u21, undef], defers := [] } ∧ KeyS key w g r A w1
def atOf (a : Act) : Nat := match a.tmps.getD 5 undef with | .int _ q => q.toNat | _ => 0
def keyKs (key : List UInt8) (g r : Nat) (A : Option Addr) (c : Nat) : List K := [.eq (.int .i64 (8 * r : Nat)), .eq (.slice (some ⟨g, 0, none⟩) 52 52), .eq (.int .i64 (8 * r : Nat)), .eq (.slice (some ⟨g, 8 * r, none⟩) (52 - 8 * r) (52 - 8 * r)), .eq (.slice A 16 c),
  .num g 8 (cN .i64 (tabN (numF (rowT key r)) 8)).toArray, .eq (.int .i64 (copQ r : Nat)), .eq (.int .i64 (8 * r + copQ r : Nat)), .eq (.int .i64 (8 * r + copQ r : Nat))]
set_option maxRecDepth 100000 in
set_option maxHeartbeats 4000000 in
theorem keys_any (A : Option Addr) (c : Nat) (key : List UInt8) (w : World) (h : Rd w w.heap.size A 16 key) :
    Calls Try.prog 10 #[.slice A 16 c] w (KeyRet w key) := by
  have HR := hid h
  clear h
  go_enter Try.func10, Try.ntmps10
  go_wp2_with fail
  refine wp_scope_jumps2 0 (KeyJ key w) (fun a _ => 52 - atOf a) rfl ?_ ?_
  · rintro a w1 ⟨g, r, A1, c1, u6, u7, u8, u9, u10, u11, u12, u13, u14, u15, u16, u17, u18, u19, u20, u21, rfl, hS⟩
    have hr := hS.hr
    have HS := hid hS
    clear hS
    have hq : copQ r ≤ 8 ∧ 8 * r + copQ r ≤ 52 ∧ 0 < copQ r := by unfold copQ; omega
    go_wp2_with fail
    refine region_one 6 _ (fun w2 => Blk w2 g 3 (fillN (keyF key) 52 (8 * r + copQ r)) ∧ Ext w w2 ∧ Rd w2 w2.heap.size A1 16 (rowT key r)) mixed rfl (by kernel_rfl) rfl rfl (kV (keyKs key g r A1 c1)) (kV_keep _)
      (fun w w' hx hh => ⟨hh.1.later hx, hh.2.1.trans hx, hh.2.2.later hx⟩) (forall_ops ⟨?_, ?_, ?_, ?_, ?_, ?_, fun h => absurd rfl h, ?_, ?_, trivial⟩) ?_ ?_
    · intro _ a w2 hk _
      have s5 : a.tmps.getD 5 undef = .int .i64 (8 * r : Nat) := hk.was 5 (by kernel_rfl) rfl
      exact step_move rfl rfl s5 rfl
    · intro _ a w2 hk _
      have s4 : a.tmps.getD 4 undef = .slice (some ⟨g, 0, none⟩) 52 52 := hk.was 4 (by kernel_rfl) rfl
      exact step_move rfl rfl s4 rfl
    · intro _ a w2 hk _
      have s5 : a.tmps.getD 5 undef = .int .i64 (8 * r : Nat) := hk.was 5 (by kernel_rfl) rfl
      exact step_move rfl rfl s5 rfl
    · intro _ a w2 hk _
      have s11 := hk.eq_ 1 11 (by kernel_rfl) rfl
      have s12 := hk.eq_ 2 12 (by kernel_rfl) rfl
      refine step_val (v := .slice (some ⟨g, 8 * r, none⟩) (52 - 8 * r) (52 - 8 * r)) (w' := w2) rfl ?_ (Ext.refl w2) rfl
      have e := slice_lo25 g 0 52 52 (8 * r) w2 (by omega) (by omega)
      rw [Nat.zero_add] at e
      simp only [execOp, Act.eval, Option.map_some, Option.map_none, s11, s12, Sem.run_bind, e, Sem.run_pure, Result.andThen]
    · intro _ a w2 hk _
      have s0 : a.tmps.getD 0 undef = .slice A1 16 c1 := hk.was 0 (by kernel_rfl) rfl
      exact step_move rfl rfl s0 rfl
    · intro _ a w2 hk hx
      have hx2 := hx (by kernel_rfl)
      have s14 := hk.eq_ 4 14 (by kernel_rfl) rfl
      have hgl := HS.out.blk.lt
      have hz := Below.size hx2
      exact step_call rfl rfl (by simp only [List.map_toArray, List.map_cons, List.map_nil, Act.eval, s14] <;> rfl) cf19 (numbers_any A1 8 c1 (rowT key r) w2 (HS.out.rd.later hx2) (by omega))
        (fun e w' hh => ⟨_, hh.1, hh.2.2, _, rfl, by omega, blk_of_own hh.2.1⟩)
    · intro _ a w2 hk _
      have s10 := hk.eq_ 0 10 (by kernel_rfl) rfl
      have s16 := hk.eq_ 6 16 (by kernel_rfl) rfl
      refine step_val (v := .int .i64 (8 * r + copQ r : Nat)) (w' := w2) rfl ?_ (Ext.refl w2) rfl
      go_simp
      exact wrap_i64 (by omega) (by omega)
    · intro _ a w2 hk _
      have s17 := hk.eq_ 7 17 (by kernel_rfl) rfl
      exact step_assign rfl rfl s17 rfl
    · intro a w2 hk
      have s13 := hk.eq_ 3 13 (by kernel_rfl) rfl
      obtain ⟨b, s15, hbne, hbh⟩ := hk.val 5 15 (by kernel_rfl) rfl
      have hx := hk.ext
      have hb1 := HS.out.blk.later hx
      have hb2 : Blk w2 b 3 (tabN (numF (rowT key r)) 8) := hbh
      have hrd := hb2.rd 0 8 (by rw [tabN_length]; omega)
      refine wp_copy_blk (.tmp 13) (.tmp 15) rfl (8 * r) (52 - 8 * r) (52 - 8 * r) 8 8 _ (copQ r) b 0 _ s13 s15 hb1 rfl (by rw [fillN_length]; omega) hrd ?_
      intro w3 hb3 hg3
      have e : (List.drop 0 (tabN (numF (rowT key r)) 8)).take 8 = tabN (numF (rowT key r)) 8 := by
        rw [List.drop_zero, List.take_of_length_le (by rw [tabN_length]; omega)]
      rw [e, keys_fill key r hr] at hb3
      refine ⟨_, rfl, ⟨hb3, (HS.out.ext.trans hx).below hg3 HS.out.lt, ?_⟩, rfl, fun i v hv => kV_grown (by simp [keyKs, K.okG]) hg3 i v hv⟩
      exact ((HS.out.rd.later hx).grown hg3 (Nat.le_refl _) HS.out.ne).more hg3.size
    · intro a w2 hf hW
      have s10 := hf.eq_ 0 10 (by kernel_rfl) rfl
      have s11 := hf.eq_ 1 11 (by kernel_rfl) rfl
      have s12 := hf.eq_ 2 12 (by kernel_rfl) rfl
      have s13 := hf.eq_ 3 13 (by kernel_rfl) rfl
      have s14 := hf.eq_ 4 14 (by kernel_rfl) rfl
      obtain ⟨b, s15, hbne, hbh⟩ := hf.val 5 15 (by kernel_rfl) rfl
      have s16 := hf.eq_ 6 16 (by kernel_rfl) rfl
      have s17 := hf.eq_ 7 17 (by kernel_rfl) rfl
      have s5 := hf.eq_ 8 5 (by kernel_rfl) rfl
      have e := hf.frame
      clear hf
      simp only [regFrame, Act.put, List.setIfInBounds_toArray, List.set_cons_zero, List.set_cons_succ, s10, s11, s12, s13, s14, s15, s16, s17, s5] at e
      clear s10 s11 s12 s13 s14 s15 s16 s17 s5 hbh hbne
      subst e
      have HW := hid hW
      clear hW
      by_cases hlt : r < 6
      · have e8 : 8 * r + copQ r = 8 * (r + 1) := by unfold copQ; omega
        rw [e8] at HW ⊢
        have hc1 : ((8 * (r + 1) : Nat) : Int) < 52 := by omega
        go_wp2_with fail
        refine (turn_any A1 16 c1 25 _ _ HW.out.2.2 (by omega) (by omega)).mono ?_
        rintro e w3 ⟨v, rfl, ho, hb⟩
        have hb : Ext w2 w3 := hb
        obtain ⟨A3, c3, rfl, hr3, _, hbase⟩ := ho.rd
        rw [show (turnL (rowT key r) 16 (tf 25 16) (ts 25)).length = 16 from turnL_length _ _ _ _] at hr3 ⊢
        have hgl := HW.out.1.lt
        have HS3 := hid (show KeyS key w g (r + 1) A3 w3 from ⟨by omega, hr3, fun a ha => by have := hbase a ha; omega, HW.out.1.later hb, HS.out.lt, HW.out.2.1.trans hb⟩)
        clear ho hr3 hbase hb
        go_wp2_with fail
        go_step3
        refine ⟨rfl, ⟨g, r + 1, A3, c3, _, _, _, _, _, _, _, _, _, _, _, _, _, _, _, _, rfl, HS3.out⟩, ?_⟩
        simp [atOf]; omega
      · obtain rfl : r = 6 := by omega
        have e8 : 8 * 6 + copQ 6 = 52 := rfl
        rw [e8] at HW ⊢
        go_wp2_with fail
        simp only [Exit.jump]
        go_ret2
        exact ⟨g, rfl, HS.out.lt, by have := HW.out.1; rw [fillN_full] at this; exact this, HW.out.2.1⟩
  · intro hfirst
    go_wp2_with (at_make; refine wpL_makeN rfl (.const (.int .i64 52)) (.const (.int .i64 52)) 25 rfl Try.underlying25 8 Try.info3 .i64 _ 52 rfl rfl rfl (by omega) (by unfold maxLen; omega) w.heap.size (Nat.le_refl _) ?_; intro w1 hown1 hb1)
    go_step3
    simp only [Exit.then]
    rename_i hK
    refine hK _ _ ?_
    have hblk := blk_of_own hown1
    rw [← fillN_zero (keyF key)] at hblk
    exact hfirst.out _ _ ⟨_, 0, A, c, _, _, _, _, _, _, _, _, _, _, _, _, _, _, _, _, rfl, ⟨by omega, HR.out.later hb1, fun a ha => by
      obtain ⟨b, o, e, hb, _⟩ := HR.out.at_ (by omega)
      rw [e] at ha; cases ha
      show b ≠ w.heap.size
      omega, hblk, Nat.le_refl _, hb1⟩⟩
end Go.Proofs.Ytamolgbdpnpemaa
