/- Numbers: what left and right move by; small helpers for the laws. -/
import Derived.Test.YtjbdgbdcnjopkaaGreatDoorM24
namespace Go.Proofs.YtjbdgbdcnjopkaaGreatDoor
open Go.RowKit
set_option linter.unusedVariables false
set_option linter.unusedSimpArgs false

theorem size1 {a : ByteArray} (h : a.size ≤ 2000) : ∀ x ∈ [a], x.size ≤ 2000 := by intro x hx; simp at hx; subst hx; exact h
theorem size2 {a b : ByteArray} (h : a.size ≤ 2000) (k : b.size ≤ 2000) : ∀ x ∈ [a, b], x.size ≤ 2000 := by intro x hx; simp at hx; rcases hx with rfl | rfl <;> assumption

theorem modN64 (y : Int) : modN .i64 y 64 = y % 64 := by
  have h : modN .i64 y 64 = IntKind.i64.wrap ((BitVec.ofInt 64 y &&& BitVec.ofInt 64 63).toNat : Int) := rfl
  have h2 : (BitVec.ofInt 64 y &&& BitVec.ofInt 64 63).toNat = (y % 18446744073709551616).toNat % 64 := by
    rw [BitVec.toNat_and, BitVec.toNat_ofInt]
    have e : (BitVec.ofInt 64 63).toNat = 2 ^ 6 - 1 := rfl
    rw [e, Nat.and_two_pow_sub_one_eq_mod]
    rfl
  rw [h, h2]
  have h3 : (((y % 18446744073709551616).toNat % 64 : Nat) : Int) = y % 64 := by omega
  rw [h3]
  exact IntWalk.i64_in _ (by omega)
theorem modN32 (y : Int) : modN .i32 y 32 = y % 32 := by
  have h : modN .i32 y 32 = IntKind.i32.wrap ((BitVec.ofInt 32 y &&& BitVec.ofInt 32 31).toNat : Int) := rfl
  have h2 : (BitVec.ofInt 32 y &&& BitVec.ofInt 32 31).toNat = (y % 4294967296).toNat % 32 := by
    rw [BitVec.toNat_and, BitVec.toNat_ofInt]
    have e : (BitVec.ofInt 32 31).toNat = 2 ^ 5 - 1 := rfl
    rw [e, Nat.and_two_pow_sub_one_eq_mod]
    rfl
  rw [h, h2]
  have h3 : (((y % 4294967296).toNat % 32 : Nat) : Int) = y % 32 := by omega
  rw [h3]
  exact IntWalk.i32_in _ (by omega)

theorem dbl64 (z : Int) : wrap64 (wrap64 z + wrap64 z) = wrap64 (z * 2) := by unfold wrap64; omega
theorem dbl32 (z : Int) : wrap32 (wrap32 z + wrap32 z) = wrap32 (z * 2) := by unfold wrap32; omega
theorem pow_step (x : Int) (i : Nat) : x * 2 ^ (i + 1) = x * 2 ^ i * 2 := by rw [Int.pow_succ, Int.mul_assoc]
theorem div_step (x : Int) (i : Nat) : x / 2 ^ (i + 1) = x / 2 ^ i / 2 := by rw [Int.pow_succ, Int.ediv_ediv_of_nonneg (Int.pow_nonneg (by decide))]

/-- What a number is, moved right so often. -/
theorem shr_sign (x : Int) (i : Nat) : (x < 0 → x / 2 ^ i < 0) ∧ (0 ≤ x → 0 ≤ x / 2 ^ i) := by
  have hp : (0 : Int) < 2 ^ i := Int.pow_pos (by decide)
  exact ⟨fun h => Int.ediv_neg_of_neg_of_pos h hp, fun h => Int.ediv_nonneg h (Int.le_of_lt hp)⟩
theorem shr_range (x : Int) (i : Nat) (h1 : -9223372036854775808 ≤ x) (h2 : x ≤ 9223372036854775807) : -9223372036854775808 ≤ x / 2 ^ i ∧ x / 2 ^ i ≤ 9223372036854775807 := by
  have hp : (0 : Int) < 2 ^ i := Int.pow_pos (by decide)
  have h1' : (1 : Int) ≤ 2 ^ i := hp
  constructor
  · apply Int.le_ediv_of_mul_le hp
    have := Int.mul_le_mul_of_nonneg_left h1' (show (0 : Int) ≤ 9223372036854775808 by decide)
    omega
  · apply Int.le_trans (b := (9223372036854775807 : Int) / 2 ^ i)
    · exact Int.ediv_le_ediv hp h2
    · apply Int.ediv_le_self; decide
theorem half_even {r : Int} (h : r.tmod 2 = 0) : r.tdiv 2 = r / 2 := by
  have := Int.tmod_eq_emod (a := r) (b := 2)
  have h2 := Int.tdiv_eq_ediv (a := r) (b := 2)
  split at h2 <;> split at this <;> omega
theorem half_neg {r : Int} (h : ¬ r.tmod 2 = 0) (hr : r < 0) : r.tdiv 2 - 1 = r / 2 := by
  have hs : Int.sign 2 = 1 := rfl
  have := Int.tmod_eq_emod (a := r) (b := 2)
  have h2 := Int.tdiv_eq_ediv (a := r) (b := 2)
  split at h2 <;> split at this <;> omega
theorem half_pos {r : Int} (hr : 0 ≤ r) : r.tdiv 2 = r / 2 := Int.tdiv_eq_ediv_of_nonneg hr
end Go.Proofs.YtjbdgbdcnjopkaaGreatDoor
