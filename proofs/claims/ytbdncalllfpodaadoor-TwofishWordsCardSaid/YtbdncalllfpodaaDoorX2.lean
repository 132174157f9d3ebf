/- Walks over replaced, sum, mix, shrunk, H of the program; own lemmas of the verifier, no statement is proved here. -/
import Derived.Test.YtbdncalllfpodaaDoorX1
import Derived.Laws.Rows
import Derived.Laws.Tables
namespace Go.Proofs.YtbdncalllfpodaaDoor
open Go.RowKit
theorem drewN_ext {w w' : World} (h : ∃ n, w' = w.drewN n) : Ext w w' := by
  obtain ⟨n, rfl⟩ := h
  exact (Ext.refl w).drewN n
theorem w_byte (x : UInt32) (i : Nat) : (x.toNat : Int) / 2 ^ (8 * i) % 256 = (bw x i : Nat) := by
  unfold bw
  rw [← cast_div]; omega
theorem pow8 (i : Nat) : (256 : Nat) ^ i = 2 ^ (8 * i) := by rw [Nat.pow_mul]
theorem w_or (f : Nat → Nat) (hf : ∀ i, f i < 256) (i : Nat) (hi : i < 4) : bits .or .u32 ((wdN f i : Nat) : Int) ((f i : Int) * 2 ^ (8 * i) % 4294967296) = ((wdN f (i + 1) : Nat) : Int) := by
  have h1 := wdN_lt hf i
  have h2 := hf i
  have h3 : (256 : Nat) ^ (i + 1) ≤ 256 ^ 4 := Nat.pow_le_pow_right (by omega) (by omega)
  have h4 : f i * 256 ^ i < 256 ^ (i + 1) := by rw [Nat.pow_succ, Nat.mul_comm]; exact Nat.mul_lt_mul_of_pos_left h2 (Nat.pow_pos (by omega))
  have h5 : (256 : Nat) ^ i ≤ 256 ^ 4 := Nat.pow_le_pow_right (by omega) (by omega)
  have e : (f i : Int) * 2 ^ (8 * i) % 4294967296 = ((f i * 256 ^ i : Nat) : Int) := by
    have : (f i : Int) * 2 ^ (8 * i) = ((f i * 256 ^ i : Nat) : Int) := by
      rw [Int.natCast_mul, Int.natCast_pow, Int.pow_mul]; rfl
    rw [this]
    omega
  rw [e, u32_or_nat _ _ (by omega) (by omega), wdN_or hf]
theorem run_index_one {ty e : TypeId} {n : Nat} {cs : Array Value} {v : Value} {k : Nat} (w : World) (hu : Tryd.prog.underlying ty = some (.array n e)) (hs : ∀ w, (sizeOf e).run Tryd.prog w = .ok 1 w) (ha : ∀ w, (isAgg e).run Tryd.prog w = .ok false w)
    (hk : k < n) (hv : cs[k]? = some v) : (Instr.index ty (.agg cs) (.int .i64 k)).run Tryd.prog w = .ok v w := by
  simp only [Instr.index, asIntOf, Sem.run_bind, Sem.run_pure, Result.andThen_ok, run_underlying hu]
  rw [if_pos ⟨by omega, by omega⟩]
  simp only [Go.part, Sem.run_bind, ha, hs, Result.andThen_ok, Int.toNat_natCast, Nat.mul_one]
  simp [hv]
theorem run_index_row {ty e : TypeId} {n s : Nat} {cs : Array Value} {k : Nat} (w : World) (hu : Tryd.prog.underlying ty = some (.array n e)) (hs : ∀ w, (sizeOf e).run Tryd.prog w = .ok s w) (ha : ∀ w, (isAgg e).run Tryd.prog w = .ok true w)
    (hk : k < n) : (Instr.index ty (.agg cs) (.int .i64 k)).run Tryd.prog w = .ok (.agg (cs.extract (k * s) (k * s + s))) w := by
  simp only [Instr.index, asIntOf, Sem.run_bind, Sem.run_pure, Result.andThen_ok, run_underlying hu]
  rw [if_pos ⟨by omega, by omega⟩]
  simp only [Sem.run_bind, hs, Go.part, ha, Result.andThen_ok, Int.toNat_natCast, Sem.run_pure, if_true]
theorem sz3 : ∀ w, (sizeOf 3).run Tryd.prog w = .ok 1 w := by intro w; kernel_rfl
theorem ag3 : ∀ w, (isAgg 3).run Tryd.prog w = .ok false w := by intro w; kernel_rfl
theorem sz82 : ∀ w, (sizeOf 82).run Tryd.prog w = .ok 8 w := by intro w; kernel_rfl
theorem ag82 : ∀ w, (isAgg 82).run Tryd.prog w = .ok true w := by intro w; kernel_rfl
theorem sz68 : ∀ w, (sizeOf 68).run Tryd.prog w = .ok 4 w := by intro w; kernel_rfl
theorem ag68 : ∀ w, (isAgg 68).run Tryd.prog w = .ok true w := by intro w; kernel_rfl
set_option maxRecDepth 100000 in
set_option maxHeartbeats 2000000 in
theorem repl_any (x : UInt32) (left : Nat) (w : World) (hl : left < 5) (hG : GT w) :
    Calls Tryd.prog 33 #[.int .u32 (x.toNat : Nat), .int .i64 left] w fun e w' => e = .returned (.int .u32 ((replW x left).toNat : Nat)) ∧ Ext w w' := by
  have HG := hid hG
  have h0 : w.cell? ⟨2, left * 4, none⟩ = _ := hG.ords left hl 0 (by omega)
  have h1 := hG.ords left hl 1 (by omega)
  have h2 := hG.ords left hl 2 (by omega)
  have h3 := hG.ords left hl 3 (by omega)
  clear hG
  go_enter Tryd.func33, Tryd.ntmps33
  go_wp2_with fail
  go_loopw [5, 11] (fun v i wr => ∃ k : Nat, k ≤ 4 ∧ i = .int .i64 k ∧ v = .int .u32 (wdN (replB x left) k : Nat) ∧ Ext w wr) (fun _ i _ => 4 - (intOf i).toNat)
  case atStart => exact ⟨0, by omega, rfl, rfl, Ext.refl _⟩
  case round =>
    obtain ⟨k, hk, rfl, rfl, hx⟩ := hrel
    by_cases hlt : k < 4
    · have HX := hid hx
      have HGR := hid (HG.out.later hx)
      clear hx
      have hI : ∀ w, (Instr.index 71 (.agg #[.int .i64 (ordN left 0 : Nat), .int .i64 (ordN left 1 : Nat), .int .i64 (ordN left 2 : Nat), .int .i64 (ordN left 3 : Nat)]) (.int .i64 k)).run Tryd.prog w = .ok (.int .i64 (ordN left k : Nat)) w := fun w =>
        run_index_one w Tryd.underlying71 sz3 ag3 hlt (by rcases (show k = 0 ∨ k = 1 ∨ k = 2 ∨ k = 3 by omega) with rfl | rfl | rfl | rfl <;> rfl)
      have hO := ordN_lt left hl k hlt
      have hb := w_byte x k
      have hbl := bw_lt x k
      have hor := w_or (replB x left) (replB_lt x left) k hlt
      have HR := hid (show replB x left k = qF (ordN left k) (bw x k) from rfl)
      have hrl := replB_lt x left k
      have hwl := wdN_lt (replB_lt x left) k
      have hpw : (256 : Nat) ^ k ≤ 256 ^ 4 := Nat.pow_le_pow_right (by omega) (by omega)
      have hwn := hid (rfl : wdN (replB x left) (k + 1) = wdN (replB x left) (k + 1))
      rw [HR.out] at hor hrl
      have HO := hid hor
      have hx32 := wlt x
      obtain ⟨S, hS⟩ : ∃ S, wdN (replB x left) k = S := ⟨_, rfl⟩
      have hSl : S < 4294967296 := by omega
      obtain ⟨R, hRe⟩ : ∃ R, qF (ordN left k) (bw x k) = R := ⟨_, rfl⟩
      obtain ⟨S1, hS1⟩ : ∃ S1, wdN (replB x left) (k + 1) = S1 := ⟨_, rfl⟩
      have HS1 := hid hS1
      have HRE := hid hRe
      rw [hRe] at hrl
      rw [hS, hRe, hS1] at HO
      rw [hS]
      obtain ⟨q, hqe⟩ : ∃ q, ordN left k = q := ⟨_, rfl⟩
      have hI2 : ∀ w, (Instr.index 71 (.agg #[.int .i64 (ordN left 0 : Nat), .int .i64 (ordN left 1 : Nat), .int .i64 (ordN left 2 : Nat), .int .i64 (ordN left 3 : Nat)]) (.int .i64 k)).run Tryd.prog w = .ok (.int .i64 q) w := by rw [← hqe]; exact hI
      rw [hqe] at hO HRE
      obtain ⟨b, hbe⟩ : ∃ b, bw x k = b := ⟨_, rfl⟩
      rw [hbe] at hb hbl HRE
      have HC := hid (fun w hG => q_any q b w hO hbl hG)
      clear hor hI hqe hbe hS hS1 hRe hwl hpw hwn HR
      go_wp2_with (first
        | (rw [hI2]; simp only [Result.andThen]; rw [Oper.upon_value])
        | (go_at_call 14; refine (HC.out _ HGR.out).mono ?_; rintro e w' ⟨rfl, hw2⟩; rw [HRE.out]; have HX2 := hid (Ext.trans HX.out (drewN_ext hw2)); clear hw2))
      exact ⟨⟨k + 1, by omega, by go_num, by rw [HO.out, HS1.out], HX2.out⟩, by simp [intOf]; omega⟩
    · obtain rfl : k = 4 := by omega
      have HX := hid hx
      clear hx
      have e1 := wd4_toNat (replB_lt x left)
      rw [← e1]
      go_wp2
      go_ret
      exact ⟨rfl, HX.out⟩
/-- Byte k of a list, as the model's number. -/
theorem byteAt_bl (bs : List UInt8) (k : Nat) : byteAt bs k = (bl bs k : Nat) := rfl
theorem u8x (a b : Nat) (ha : a < 256) (hb : b < 256) : bits .xor .u8 (a : Int) (b : Int) = ((a ^^^ b : Nat) : Int) := u8_xor_nat _ _ ha hb
set_option maxHeartbeats 1000000 in
theorem sum_any (m : Nat) (A1 A2 : Option Addr) (n c1 c2 B1 B2 : Nat) (row bs : List UInt8) (w : World) (hm : IsRest m) (h1 : Rd w B1 A1 n row) (h2 : Rd w B2 A2 n bs) (hn : n ≤ 1000) :
    Calls Tryd.prog 44 #[.slice A1 n c1, .slice A2 n c2, .int .i64 m] w fun e w' => e = .returned (.int .u8 (sumG m (bl row) (bl bs) n : Nat)) ∧ w = w' := by
  have hb := sumG_lt hm (row := bl row) (bl_lt bs)
  go_enter Tryd.func44, Tryd.ntmps44
  go_wp2_with fail
  go_loop [7, 12] (fun v i => ∃ k : Nat, k ≤ n ∧ i = .int .i64 k ∧ v = .int .u8 (sumG m (bl row) (bl bs) k : Nat)) (fun _ i => n - (intOf i).toNat)
  case atStart => exact ⟨0, by omega, rfl, rfl⟩
  case round =>
    obtain ⟨k, hk, rfl, rfl⟩ := hrel
    have hs := hb k
    by_cases hlt : k < n
    · obtain ⟨b1, o1, rfl, _, hc1⟩ := h1.at_ (by omega)
      obtain ⟨b2, o2, rfl, _, hc2⟩ := h2.at_ (by omega)
      have k1 := hc1 k hlt
      have k2 := hc2 k hlt
      rw [byteAt_bl] at k1 k2
      have l1 := bl_lt row k
      have l2 := bl_lt bs k
      have hst := hid (show sumG m (bl row) (bl bs) (k + 1) = sumG m (bl row) (bl bs) k ^^^ gm m (bl bs k) (bl row k) from rfl)
      have hg := gm_lt hm l2 (bl row k)
      obtain ⟨S, hS⟩ : ∃ S, sumG m (bl row) (bl bs) k = S := ⟨_, rfl⟩
      rw [hS] at hs hst ⊢
      obtain ⟨x1, hx1⟩ : ∃ x1, bl row k = x1 := ⟨_, rfl⟩
      obtain ⟨x2, hx2⟩ : ∃ x2, bl bs k = x2 := ⟨_, rfl⟩
      rw [hx1] at k1 l1 hst hg
      rw [hx2] at k2 l2 hst hg
      have hxx := u8x S _ hs hg
      have HM := hid (fun w => mul_any x2 x1 m w hm l2 l1)
      obtain ⟨G, hG⟩ : ∃ G, gm m x2 x1 = G := ⟨_, rfl⟩
      rw [hG] at hxx hst hg HM
      have HXX := hid hxx
      have hlo := hm.lo
      have hhi := hm.hi
      clear hS hx1 hx2 hG hb h1 h2 hc1 hc2 hm hxx
      go_wp2_with (go_at_call 53; refine (HM.out _).mono ?_; rintro e w' ⟨rfl, rfl⟩)
      go_round
      case rel => exact ⟨k + 1, by omega, by go_num, by rw [hst.out, HXX.out]⟩
      case measure => simp [intOf]; omega
    · obtain rfl : k = n := by omega
      clear hb h1 h2
      go_wp2
      go_ret
      exact ⟨rfl, rfl⟩
end Go.Proofs.YtbdncalllfpodaaDoor
