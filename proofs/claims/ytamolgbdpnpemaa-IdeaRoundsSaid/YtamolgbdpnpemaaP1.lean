/- Chapter 7 as plain functions; own lemmas of the verifier, no statement is proved here. -/
import Derived.Test.YtamolgbdpnpemaaX3
namespace Go.Proofs.Ytamolgbdpnpemaa
open Go.RowKit
/-- A key, turned r times by 25. -/
def rowT (key : List UInt8) : Nat → List UInt8
  | 0 => key
  | r + 1 => turnL (rowT key r) 16 (tf 25 16) (ts 25)
theorem rowT_length {key : List UInt8} (h : key.length = 16) : ∀ r, (rowT key r).length = 16
  | 0 => h
  | r + 1 => by rw [rowT, turnL_length]
/-- Key number i. -/
def keyF (key : List UInt8) (i : Nat) : Nat := numF (rowT key (i / 8)) (i % 8)
theorem keyF_lt (key : List UInt8) (i : Nat) : keyF key i < 65536 := numF_lt _ _
theorem keyF_at (key : List UInt8) (r i : Nat) (h : i < 8) : keyF key (8 * r + i) = numF (rowT key r) i := by
  unfold keyF
  rw [show (8 * r + i) / 8 = r by omega, show (8 * r + i) % 8 = i by omega]
/-- Four numbers. -/
structure F4 where
  a : Nat
  b : Nat
  c : Nat
  d : Nat
deriving DecidableEq
structure F4.ok (x : F4) : Prop where
  a : x.a < 65536
  b : x.b < 65536
  c : x.c < 65536
  d : x.d < 65536
def F4.cells (x : F4) : Array Value := #[.int .i64 (x.a : Nat), .int .i64 (x.b : Nat), .int .i64 (x.c : Nat), .int .i64 (x.d : Nat)]
def byF (x : F4) (k : Nat → Nat) : F4 := ⟨mulF x.a (k 0), (x.b + k 1) % 65536, (x.c + k 2) % 65536, mulF x.d (k 3)⟩
theorem byF_ok (x : F4) (k : Nat → Nat) : (byF x k).ok := ⟨mulF_lt _ _, Nat.mod_lt _ (by omega), Nat.mod_lt _ (by omega), mulF_lt _ _⟩
def mF (x : F4) (k5 : Nat) : Nat := mulF (x.a ^^^ x.c) k5
def mG (x : F4) (k5 k6 : Nat) : Nat := mulF (((x.b ^^^ x.d) + mF x k5) % 65536) k6
def mH (x : F4) (k5 k6 : Nat) : Nat := (mF x k5 + mG x k5 k6) % 65536
def mixF (x : F4) (k5 k6 : Nat) : F4 := ⟨x.a ^^^ mG x k5 k6, x.c ^^^ mG x k5 k6, x.b ^^^ mH x k5 k6, x.d ^^^ mH x k5 k6⟩
theorem xor_lt16 {a b : Nat} (ha : a < 65536) (hb : b < 65536) : a ^^^ b < 65536 := Nat.xor_lt_two_pow (n := 16) ha hb
theorem mF_lt (x : F4) (k : Nat) : mF x k < 65536 := mulF_lt _ _
theorem mG_lt (x : F4) (k l : Nat) : mG x k l < 65536 := mulF_lt _ _
theorem mH_lt (x : F4) (k l : Nat) : mH x k l < 65536 := Nat.mod_lt _ (by omega)
theorem mixF_ok {x : F4} (h : x.ok) (k5 k6 : Nat) : (mixF x k5 k6).ok :=
  ⟨xor_lt16 h.a (mG_lt _ _ _), xor_lt16 h.c (mG_lt _ _ _), xor_lt16 h.b (mH_lt _ _ _), xor_lt16 h.d (mH_lt _ _ _)⟩
/-- Behind r rounds. -/
def rndF (k : Nat → Nat) (x : F4) : Nat → F4
  | 0 => x
  | r + 1 => mixF (byF (rndF k x r) fun i => k (6 * r + i)) (k (6 * r + 4)) (k (6 * r + 5))
theorem rndF_ok {k : Nat → Nat} {x : F4} (h : x.ok) : ∀ r, (rndF k x r).ok
  | 0 => h
  | _ + 1 => mixF_ok (byF_ok _ _) _ _
def swF (x : F4) : F4 := ⟨x.a, x.c, x.b, x.d⟩
theorem swF_ok {x : F4} (h : x.ok) : (swF x).ok := ⟨h.a, h.c, h.b, h.d⟩
def passF (k : Nat → Nat) (x : F4) : F4 := byF (swF (rndF k x 8)) fun i => k (48 + i)
theorem passF_ok (k : Nat → Nat) (x : F4) : (passF k x).ok := byF_ok _ _
theorem rndF_congr {k l : Nat → Nat} (x : F4) : ∀ r, (∀ i, i < 6 * r → k i = l i) → rndF k x r = rndF l x r
  | 0, _ => rfl
  | r + 1, h => by
    rw [rndF, rndF, rndF_congr x r fun i hi => h i (by omega), h _ (show 6 * r + 4 < 6 * (r + 1) by omega), h _ (show 6 * r + 5 < 6 * (r + 1) by omega)]
    unfold byF
    simp only [h _ (show 6 * r + 0 < 6 * (r + 1) by omega), h _ (show 6 * r + 1 < 6 * (r + 1) by omega), h _ (show 6 * r + 2 < 6 * (r + 1) by omega), h _ (show 6 * r + 3 < 6 * (r + 1) by omega)]
theorem passF_congr {k l : Nat → Nat} (x : F4) (h : ∀ i, i < 52 → k i = l i) : passF k x = passF l x := by
  unfold passF
  rw [rndF_congr x 8 fun i hi => h i (by omega)]
  unfold byF
  simp only [h (48 + 0) (by omega), h (48 + 1) (by omega), h (48 + 2) (by omega), h (48 + 3) (by omega)]
/-- The keys that undo. -/
def undF (k : Nat → Nat) (i : Nat) : Nat :=
  let r := i / 6
  let f := 48 - 6 * r
  let s := if 0 < r ∧ r < 8 then 1 else 0
  match i % 6 with
  | 0 => invF (k f)
  | 1 => negF (k (f + 1 + s))
  | 2 => negF (k (f + 2 - s))
  | 3 => invF (k (f + 3))
  | 4 => k (f - 2)
  | _ => k (f - 1)
theorem negF_lt (a : Nat) : negF a < 65536 := Nat.mod_lt _ (by omega)
theorem undF_lt {k : Nat → Nat} (h : ∀ i, k i < 65536) (i : Nat) : undF k i < 65536 := by
  unfold undF
  split <;> first | exact invF_lt _ | exact negF_lt _ | exact h _
/-- The numbers of a block, and its bytes. -/
def inF (b : List UInt8) : F4 := ⟨numF b 0, numF b 1, numF b 2, numF b 3⟩
theorem inF_ok (b : List UInt8) : (inF b).ok := ⟨numF_lt _ _, numF_lt _ _, numF_lt _ _, numF_lt _ _⟩
def two (n : Nat) : List UInt8 := [UInt8.ofNat (n / 256), UInt8.ofNat n]
def outL (x : F4) : List UInt8 := two x.a ++ two x.b ++ two x.c ++ two x.d
theorem outL_length (x : F4) : (outL x).length = 8 := rfl
def dirK (k : Nat → Nat) (back : Bool) : Nat → Nat := if back then undF k else k
def blockL (k : Nat → Nat) (back : Bool) (b : List UInt8) : List UInt8 := outL (passF (dirK k back) (inF b))
theorem blockL_length (k : Nat → Nat) (back : Bool) (b : List UInt8) : (blockL k back b).length = 8 := rfl
theorem num_two0 {n : Nat} (h : n < 65536) : (UInt8.ofNat (n / 256)).toNat * 256 + (UInt8.ofNat n).toNat = n := by
  rw [UInt8.toNat_ofNat', UInt8.toNat_ofNat']
  omega
def z16 : List UInt8 := List.replicate 16 0
def z8 : List UInt8 := List.replicate 8 0
theorem zrow : ∀ r, rowT z16 r = z16
  | 0 => rfl
  | r + 1 => by rw [rowT, zrow r]; decide +kernel
theorem zkey (i : Nat) : keyF z16 i = 0 := by
  unfold keyF
  rw [zrow]
  unfold numF
  have h : ∀ j, nb z16 j = 0 := fun j => by
    unfold nb z16
    rw [List.getD_eq_getElem?_getD, List.getElem?_replicate]
    split <;> rfl
  rw [h, h]
theorem inv0 : invF 0 = 0 := by
  refine mulF_cancel (a := 0) (by omega) (invF_lt 0) (by omega) ?_
  rw [mulF_inv (by omega)]
  decide +kernel
theorem neg0 : negF 0 = 0 := rfl
theorem zund (i : Nat) : undF (fun _ => 0) i = 0 := by
  unfold undF
  split <;> simp only [inv0, neg0]
theorem zthere : (passF (fun _ => 0) (inF z8)) ≠ inF z8 := by decide +kernel
theorem zback : blockL (fun _ => 0) false (blockL (fun _ => 0) false z8) = z8 := by decide +kernel
theorem zne : blockL (fun _ => 0) false z8 ≠ z8 := by decide +kernel
end Go.Proofs.Ytamolgbdpnpemaa
