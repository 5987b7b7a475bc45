/- Sums: what the plain ones of two numbers give. Pure. -/
import Derived.Test.YtjbdgbdcnjopkaaGreatDoorSumsP
namespace Go.Proofs.YtjbdgbdcnjopkaaGreatDoor
open Go.RowKit
set_option linter.unusedVariables false
set_option linter.unusedSimpArgs false

def sumsOf (x y : Int) (k : Nat) : Int :=
  match k with
  | 0 => wrap64 (x + y)
  | 1 => wrap64 (x - y)
  | 2 => wrap64 (x * y)
  | 5 => bits .and .i64 x y
  | 6 => bits .or .i64 x y
  | 7 => bits .xor .i64 x y
  | 10 => if x = y then 1 else 0
  | 11 => if x < y then 1 else 0
  | _ => 0
def plainK (k : Nat) : Prop := k < 12 ∧ k ≠ 3 ∧ k ≠ 4 ∧ k ≠ 8 ∧ k ≠ 9
def gB (ty : UInt8) (k : Nat) : UInt8 := if k < 10 then ty else 1

theorem plain_cases {k : Nat} (h : plainK k) : k = 0 ∨ k = 1 ∨ k = 2 ∨ k = 5 ∨ k = 6 ∨ k = 7 ∨ k = 10 ∨ k = 11 := by unfold plainK at h; omega

theorem s_good1 {k : Nat} (h : plainK k) : goodB (sMod 1 (gB 1 k) (30 + k)) = true := by
  rcases plain_cases h with rfl | rfl | rfl | rfl | rfl | rfl | rfl | rfl
  · exact s30_good
  · exact s31_good
  · exact s32_good
  · exact s35_good
  · exact s36_good
  · exact s37_good
  · exact s40_good
  · exact s41_good
theorem s_fn1 {k : Nat} (h : plainK k) : (fsOf (sMod 1 (gB 1 k) (30 + k)))[0]?.map (·.takes) = some [1, 1] := by
  rcases plain_cases h with rfl | rfl | rfl | rfl | rfl | rfl | rfl | rfl
  · exact s30_fn
  · exact s31_fn
  · exact s32_fn
  · exact s35_fn
  · exact s36_fn
  · exact s37_fn
  · exact s40_fn
  · exact s41_fn
theorem s_good2 {k : Nat} (h : plainK k) : goodB (sMod 2 (gB 2 k) (50 + k)) = true := by
  rcases plain_cases h with rfl | rfl | rfl | rfl | rfl | rfl | rfl | rfl
  · exact s50_good
  · exact s51_good
  · exact s52_good
  · exact s55_good
  · exact s56_good
  · exact s57_good
  · exact s60_good
  · exact s61_good
theorem s_fn2 {k : Nat} (h : plainK k) : (fsOf (sMod 2 (gB 2 k) (50 + k)))[0]?.map (·.takes) = some [2, 2] := by
  rcases plain_cases h with rfl | rfl | rfl | rfl | rfl | rfl | rfl | rfl
  · exact s50_fn
  · exact s51_fn
  · exact s52_fn
  · exact s55_fn
  · exact s56_fn
  · exact s57_fn
  · exact s60_fn
  · exact s61_fn

theorem cut64 (z : Int) : wrap32 (wrap64 z) = wrap32 z := by unfold wrap32 wrap64; omega
theorem wrap32_nat (a b : Nat) (h : a % 4294967296 = b % 4294967296) : wrap32 (a : Int) = wrap32 (b : Int) := by unfold wrap32; omega
theorem ofInt_cut (x : Int) : (BitVec.ofInt 64 x).setWidth 32 = BitVec.ofInt 32 x := by
  apply BitVec.eq_of_toNat_eq
  simp only [BitVec.toNat_setWidth, BitVec.toNat_ofInt]
  omega
theorem bits_cut (op : BinOp) (hop : op = .and ∨ op = .or ∨ op = .xor) (x y : Int) : wrap32 (bits op .i64 x y) = bits op .i32 x y := by
  unfold bits
  rcases hop with rfl | rfl | rfl
  · simp only [IntWalk.i64_left, IntWalk.i32_left, show IntKind.i64.bits = 64 from rfl, show IntKind.i32.bits = 32 from rfl]
    rw [cut64]
    apply wrap32_nat
    show (BitVec.ofInt 64 x &&& BitVec.ofInt 64 y).toNat % 4294967296 = (BitVec.ofInt 32 x &&& BitVec.ofInt 32 y).toNat % 4294967296
    have : (BitVec.ofInt 64 x &&& BitVec.ofInt 64 y).setWidth 32 = BitVec.ofInt 32 x &&& BitVec.ofInt 32 y := by rw [BitVec.setWidth_and, ofInt_cut, ofInt_cut]
    have h := congrArg BitVec.toNat this
    simp only [BitVec.toNat_setWidth] at h
    have h2 := (BitVec.ofInt 32 x &&& BitVec.ofInt 32 y).isLt
    omega
  · simp only [IntWalk.i64_left, IntWalk.i32_left, show IntKind.i64.bits = 64 from rfl, show IntKind.i32.bits = 32 from rfl]
    rw [cut64]
    apply wrap32_nat
    show (BitVec.ofInt 64 x ||| BitVec.ofInt 64 y).toNat % 4294967296 = (BitVec.ofInt 32 x ||| BitVec.ofInt 32 y).toNat % 4294967296
    have : (BitVec.ofInt 64 x ||| BitVec.ofInt 64 y).setWidth 32 = BitVec.ofInt 32 x ||| BitVec.ofInt 32 y := by rw [BitVec.setWidth_or, ofInt_cut, ofInt_cut]
    have h := congrArg BitVec.toNat this
    simp only [BitVec.toNat_setWidth] at h
    have h2 := (BitVec.ofInt 32 x ||| BitVec.ofInt 32 y).isLt
    omega
  · simp only [IntWalk.i64_left, IntWalk.i32_left, show IntKind.i64.bits = 64 from rfl, show IntKind.i32.bits = 32 from rfl]
    rw [cut64]
    apply wrap32_nat
    show (BitVec.ofInt 64 x ^^^ BitVec.ofInt 64 y).toNat % 4294967296 = (BitVec.ofInt 32 x ^^^ BitVec.ofInt 32 y).toNat % 4294967296
    have : (BitVec.ofInt 64 x ^^^ BitVec.ofInt 64 y).setWidth 32 = BitVec.ofInt 32 x ^^^ BitVec.ofInt 32 y := by rw [BitVec.setWidth_xor, ofInt_cut, ofInt_cut]
    have h := congrArg BitVec.toNat this
    simp only [BitVec.toNat_setWidth] at h
    have h2 := (BitVec.ofInt 32 x ^^^ BitVec.ofInt 32 y).isLt
    omega

theorem s_run1 {k : Nat} (h : plainK k) {x y : Int} (hx : -2147483648 ≤ x ∧ x ≤ 2147483647) (hy : -2147483648 ≤ y ∧ y ≤ 2147483647) : runP (fsOf (sMod 1 (gB 1 k) (30 + k))) 0 [x, y] 100000 = some ⟨0, 4, [IntKind.i32.wrap (sumsOf x y k)]⟩ := by
  have wx := wrap32_of hx
  have wy := wrap32_of hy
  have t0 : ∀ b : Bool, IntKind.i32.wrap (truthN b) = truthN b := fun b => by cases b <;> rfl
  rcases plain_cases h with rfl | rfl | rfl | rfl | rfl | rfl | rfl | rfl
  · refine (s30_run x y).trans ?_
    have e : (ofTwoN ⟨18, 0, 2, 1, 1⟩ x y).1 = IntKind.i32.wrap (IntKind.i32.wrap x + IntKind.i32.wrap y) := rfl
    rw [e, wx, wy]; simp only [sumsOf, IntWalk.i32_left, cut64]
  · refine (s31_run x y).trans ?_
    have e : (ofTwoN ⟨19, 0, 2, 1, 1⟩ x y).1 = IntKind.i32.wrap (IntKind.i32.wrap x - IntKind.i32.wrap y) := rfl
    rw [e, wx, wy]; simp only [sumsOf, IntWalk.i32_left, cut64]
  · refine (s32_run x y).trans ?_
    have e : (ofTwoN ⟨20, 0, 2, 1, 1⟩ x y).1 = IntKind.i32.wrap (IntKind.i32.wrap x * IntKind.i32.wrap y) := rfl
    rw [e, wx, wy]; simp only [sumsOf, IntWalk.i32_left, cut64]
  · refine (s35_run x y).trans ?_
    have e : (ofTwoN ⟨23, 0, 2, 1, 1⟩ x y).1 = bits .and .i32 (IntKind.i32.wrap x) (IntKind.i32.wrap y) := rfl
    rw [e, wx, wy, ← bits_cut _ (.inl rfl)]; simp only [sumsOf, IntWalk.i32_left]
  · refine (s36_run x y).trans ?_
    have e : (ofTwoN ⟨24, 0, 2, 1, 1⟩ x y).1 = bits .or .i32 (IntKind.i32.wrap x) (IntKind.i32.wrap y) := rfl
    rw [e, wx, wy, ← bits_cut _ (.inr (.inl rfl))]; simp only [sumsOf, IntWalk.i32_left]
  · refine (s37_run x y).trans ?_
    have e : (ofTwoN ⟨25, 0, 2, 1, 1⟩ x y).1 = bits .xor .i32 (IntKind.i32.wrap x) (IntKind.i32.wrap y) := rfl
    rw [e, wx, wy, ← bits_cut _ (.inr (.inr rfl))]; simp only [sumsOf, IntWalk.i32_left]
  · refine (s40_run x y).trans ?_
    have e : (ofTwoN ⟨28, 0, 2, 1, 1⟩ x y).1 = truthN (decide (IntKind.i32.wrap x = IntKind.i32.wrap y)) := rfl
    have e2 : sumsOf x y 10 = truthN (decide (x = y)) := by simp [sumsOf, truthN]
    rw [e, wx, wy, e2, t0]
  · refine (s41_run x y).trans ?_
    have e : (ofTwoN ⟨29, 0, 2, 1, 1⟩ x y).1 = truthN (decide (IntKind.i32.wrap x < IntKind.i32.wrap y)) := rfl
    have e2 : sumsOf x y 11 = truthN (decide (x < y)) := by simp [sumsOf, truthN]
    rw [e, wx, wy, e2, t0]
theorem s_run2 {k : Nat} (h : plainK k) {x y : Int} : runP (fsOf (sMod 2 (gB 2 k) (50 + k))) 0 [x, y] 100000 = some ⟨0, 4, [sumsOf x y k]⟩ := by
  rcases plain_cases h with rfl | rfl | rfl | rfl | rfl | rfl | rfl | rfl
  · refine (s50_run x y).trans ?_
    have e : (ofTwoN ⟨18, 0, 2, 2, 2⟩ x y).1 = IntKind.i64.wrap (x + y) := rfl
    rw [e]; simp only [sumsOf, IntWalk.i64_left]
  · refine (s51_run x y).trans ?_
    have e : (ofTwoN ⟨19, 0, 2, 2, 2⟩ x y).1 = IntKind.i64.wrap (x - y) := rfl
    rw [e]; simp only [sumsOf, IntWalk.i64_left]
  · refine (s52_run x y).trans ?_
    have e : (ofTwoN ⟨20, 0, 2, 2, 2⟩ x y).1 = IntKind.i64.wrap (x * y) := rfl
    rw [e]; simp only [sumsOf, IntWalk.i64_left]
  · exact s55_run x y
  · exact s56_run x y
  · exact s57_run x y
  · refine (s60_run x y).trans ?_
    have e : (ofTwoN ⟨28, 0, 2, 2, 1⟩ x y).1 = truthN (decide (x = y)) := rfl
    have e2 : sumsOf x y 10 = truthN (decide (x = y)) := by simp [sumsOf, truthN]
    rw [e, e2]
  · refine (s61_run x y).trans ?_
    have e : (ofTwoN ⟨29, 0, 2, 2, 1⟩ x y).1 = truthN (decide (x < y)) := rfl
    have e2 : sumsOf x y 11 = truthN (decide (x < y)) := by simp [sumsOf, truthN]
    rw [e, e2]
end Go.Proofs.YtjbdgbdcnjopkaaGreatDoor
