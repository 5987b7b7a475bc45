/- Moved: the modules, and what they give. -/
import Derived.Test.YtjbdgbdcnjopkaaGreatDoorKeepE
namespace Go.Proofs.YtjbdgbdcnjopkaaGreatDoor
open Go.RowKit
set_option linter.unusedVariables false
set_option linter.unusedSimpArgs false

def movCode (op : Nat) : ByteArray := oneB 14 ++ oneB 0 ++ oneB 14 ++ oneB 1 ++ oneB op ++ oneB 6
def tyB (ty : UInt8) : ByteArray := ({ data := #[ty] } : ByteArray) ++ ({ data := #[ty] } : ByteArray)
theorem tyB_size (ty : UInt8) : (tyB ty).size = 2 := by unfold tyB; rw [ByteArray.size_append]; rfl
def movMod (ty : UInt8) (op : Nat) : ByteArray := modB [sigB (tyB ty) ⟨#[ty]⟩] [funB 0 ⟨#[]⟩ (movCode op)]
theorem mov_good1 : goodB (movMod 1 38) = true := by kernel_rfl
theorem mov_good2 : goodB (movMod 1 39) = true := by kernel_rfl
theorem mov_good3 : goodB (movMod 2 58) = true := by kernel_rfl
theorem mov_good4 : goodB (movMod 2 59) = true := by kernel_rfl
theorem mov_fn1 : (fsOf (movMod 1 38))[0]?.map (·.takes) = some [1, 1] := by kernel_rfl
theorem mov_fn2 : (fsOf (movMod 1 39))[0]?.map (·.takes) = some [1, 1] := by kernel_rfl
theorem mov_fn3 : (fsOf (movMod 2 58))[0]?.map (·.takes) = some [2, 2] := by kernel_rfl
theorem mov_fn4 : (fsOf (movMod 2 59))[0]?.map (·.takes) = some [2, 2] := by kernel_rfl
theorem mov_run1 (x y : Int) : runP (fsOf (movMod 1 38)) 0 [x, y] 100000 = some ⟨0, 4, [(ofTwoN ⟨26, 0, 2, 1, 1⟩ x y).1]⟩ := by kernel_rfl
theorem mov_run2 (x y : Int) : runP (fsOf (movMod 1 39)) 0 [x, y] 100000 = some ⟨0, 4, [(ofTwoN ⟨27, 0, 2, 1, 1⟩ x y).1]⟩ := by kernel_rfl
theorem mov_run3 (x y : Int) : runP (fsOf (movMod 2 58)) 0 [x, y] 100000 = some ⟨0, 4, [(ofTwoN ⟨26, 0, 2, 2, 2⟩ x y).1]⟩ := by kernel_rfl
theorem mov_run4 (x y : Int) : runP (fsOf (movMod 2 59)) 0 [x, y] 100000 = some ⟨0, 4, [(ofTwoN ⟨27, 0, 2, 2, 2⟩ x y).1]⟩ := by kernel_rfl

theorem wrap32_of {x : Int} (h : -2147483648 ≤ x ∧ x ≤ 2147483647) : IntKind.i32.wrap x = x := IntWalk.i32_in x h

theorem mov_val1 {x y : Int} {n : Nat} (hx : -2147483648 ≤ x ∧ x ≤ 2147483647) (hy : -2147483648 ≤ y ∧ y ≤ 2147483647) (hn : y % 32 = (n : Int)) : (ofTwoN ⟨26, 0, 2, 1, 1⟩ x y).1 = wrap32 (x * 2 ^ n) := by
  have : (ofTwoN ⟨26, 0, 2, 1, 1⟩ x y).1 = IntKind.i32.wrap (IntKind.i32.wrap x * 2 ^ (modN .i32 (IntKind.i32.wrap y) 32).toNat) := rfl
  rw [this, wrap32_of hx, wrap32_of hy, modN32, hn, Int.toNat_natCast, IntWalk.i32_left]
theorem mov_val2 {x y : Int} {n : Nat} (hx : -2147483648 ≤ x ∧ x ≤ 2147483647) (hy : -2147483648 ≤ y ∧ y ≤ 2147483647) (hn : y % 32 = (n : Int)) : (ofTwoN ⟨27, 0, 2, 1, 1⟩ x y).1 = x / 2 ^ n := by
  have : (ofTwoN ⟨27, 0, 2, 1, 1⟩ x y).1 = IntKind.i32.wrap x / 2 ^ (modN .i32 (IntKind.i32.wrap y) 32).toNat := rfl
  rw [this, wrap32_of hx, wrap32_of hy, modN32, hn, Int.toNat_natCast]
theorem mov_val3 {x y : Int} {n : Nat} (hn : y % 64 = (n : Int)) : (ofTwoN ⟨26, 0, 2, 2, 2⟩ x y).1 = wrap64 (x * 2 ^ n) := by
  have : (ofTwoN ⟨26, 0, 2, 2, 2⟩ x y).1 = IntKind.i64.wrap (x * 2 ^ (modN .i64 y 64).toNat) := rfl
  rw [this, modN64, hn, Int.toNat_natCast, IntWalk.i64_left]
theorem mov_val4 {x y : Int} {n : Nat} (hn : y % 64 = (n : Int)) : (ofTwoN ⟨27, 0, 2, 2, 2⟩ x y).1 = x / 2 ^ n := by
  have : (ofTwoN ⟨27, 0, 2, 2, 2⟩ x y).1 = x / 2 ^ (modN .i64 y 64).toNat := rfl
  rw [this, modN64, hn, Int.toNat_natCast]
theorem are_small {x y : Int} (hx : -2147483648 ≤ x ∧ x ≤ 2147483647) (hy : -2147483648 ≤ y ∧ y ≤ 2147483647) : areOfP [1, 1] [x, y] = true := by
  simp [areOfP, wrap32_of hx, wrap32_of hy]
theorem are_wide (x y : Int) : areOfP [2, 2] [x, y] = true := by simp [areOfP]
end Go.Proofs.YtjbdgbdcnjopkaaGreatDoor
