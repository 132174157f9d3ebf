/- Cuts of own bytes and the reference's reading and writing of words; own lemmas of the verifier, no statement is proved here. -/
import Derived.Test.YtgkfohgeelfceaaDoorX14
namespace Go.Proofs.YtgkfohgeelfceaaDoor
open Go.RowKit
theorem elem22 : Tryd.prog.underlying 22 = some (.slice (Tryd.prog.elem 22)) := by kernel_rfl
theorem size22 (w : World) : (sizeOf (Tryd.prog.elem 22)).run Tryd.prog w = .ok 1 w := by kernel_rfl
theorem slice_lh22 (g o n c l h : Nat) (w : World) (hl : l ≤ h) (hh : h ≤ n) (hn : n ≤ c) (hc : l < c) :
    (Instr.sliceAt 22 (.slice (some ⟨g, o, none⟩) n c) (some (.int .i64 (l : Int))) (some (.int .i64 (h : Int))) none).run Tryd.prog w = .ok (.slice (some ⟨g, o + l, none⟩) (h - l) (c - l)) w := by
  rw [run_sliceAt_slice w 22 _ _ _ _ elem22, run_slice_lh w 22 (some ⟨g, o, none⟩) n c elem22 .i64 .i64 l h (by omega) (by omega) (by omega), size22]
  simp only [Result.andThen, sliced, Int.toNat_natCast]
  rw [if_neg (by omega)]
  simp [add_off]
theorem rd_part {w : World} {B n g o m : Nat} {bs : List UInt8} (h : Rd w B (some ⟨g, o, none⟩) n bs) (hm : 4 * m + 4 ≤ n) : Rd w B (some ⟨g, o + 4 * m, none⟩) 4 (part bs m) := by
  have hl := h.len
  refine ⟨by simp [part]; omega, fun _ => ?_⟩
  obtain ⟨b, o', e, hb, hc⟩ := h.at_ (by omega)
  obtain rfl := (Addr.mk.inj (Option.some.inj e)).1
  obtain rfl := (Addr.mk.inj (Option.some.inj e)).2.1
  refine ⟨g, o + 4 * m, rfl, hb, fun k hk => ?_⟩
  have := hc (4 * m + k) (by omega)
  have e2 : byteAt (part bs m) k = byteAt bs (4 * m + k) := by unfold byteAt part; simp [List.getD, hk]
  rw [e2, ← this]
  congr 2; omega
theorem part_zero (bs : List UInt8) : part bs 0 = bs.take 4 := rfl
theorem part_one (bs : List UInt8) (h : bs.length = 8) : part bs 1 = bs.drop 4 := by
  unfold part
  exact List.take_of_length_le (by simp; omega)
theorem big_wd (t : T3) (ht : t ≠ .r) (A : Option Addr) (c B : Nat) (bs : List UInt8) (w : World) (h : Rd w B A 4 bs) :
    Calls Tryd.prog 23 #[.slice A 4 c] w fun e w' => e = .returned (.int .u64 ((wd t bs).toNat : Nat)) ∧ w = w' := by
  rw [wd_be bs t ht]
  exact big_any A 4 c B bs w h (by omega)
theorem little_wd (A : Option Addr) (c B : Nat) (bs : List UInt8) (w : World) (h : Rd w B A 4 bs) :
    Calls Tryd.prog 55 #[.slice A 4 c] w fun e w' => e = .returned (.int .u64 ((wd .r bs).toNat : Nat)) ∧ w = w' := by
  rw [wd_le bs]
  exact little_any A 4 c B bs w h (by omega)
theorem rput_wd (t : T3) (ht : t ≠ .r) (v : UInt32) (w : World) : Calls Tryd.prog 24 #[.int .u32 (v.toNat : Nat)] w (RetB w (put t v)) := by
  rw [put_be v t ht]
  exact rput32_any _ w
theorem rputL_wd (v : UInt32) (w : World) : Calls Tryd.prog 39 #[.int .u32 (v.toNat : Nat)] w (RetB w (put .r v)) := rputL32_any _ w
theorem cf23 (vs : Array Value) (w : World) : (callFunc 23 vs).run Tryd.prog w = .ok (.enter 23 vs) w := by go_simp
theorem cf24 (vs : Array Value) (w : World) : (callFunc 24 vs).run Tryd.prog w = .ok (.enter 24 vs) w := by go_simp
theorem cf39 (vs : Array Value) (w : World) : (callFunc 39 vs).run Tryd.prog w = .ok (.enter 39 vs) w := by go_simp
theorem str_append (xs ys : List UInt8) : str xs ++ str ys = str (xs ++ ys) := by
  apply ByteArray.ext
  simp [str, ByteArray.data_append]
theorem strSize (bs : List UInt8) : (str bs).size = bs.length := rfl
theorem wrap_w (x : UInt32) : IntKind.u32.wrap (x.toNat : Int) = (x.toNat : Int) := by
  have := wlt x
  rw [IntKind.wrap_u32']; omega
end Go.Proofs.YtgkfohgeelfceaaDoor
