/- Numbers are of their types. Pure. -/
import Derived.Test.YtjbdgbdcnjopkaaGreatDoorM18
import Derived.OpenShut
namespace Go.Proofs.YtjbdgbdcnjopkaaGreatDoor
open Go.RowKit
set_option linter.unusedVariables false
set_option linter.unusedSimpArgs false

def In32 (v : Int) : Prop := -2147483648 ≤ v ∧ v ≤ 2147483647
def In64 (v : Int) : Prop := -9223372036854775808 ≤ v ∧ v ≤ 9223372036854775807
theorem In32.wide {v : Int} (h : In32 v) : In64 v := by unfold In32 at h; unfold In64; omega

/-- A number of a type. -/
def valOk (t : Nat) (v : Int) : Prop := (t = 1 ∧ In32 v) ∨ (t = 2 ∧ In64 v)
theorem valOk_zero {t : Nat} (h : t = 1 ∨ t = 2) : valOk t 0 := by unfold valOk In32 In64; omega
theorem valOk.wide {t : Nat} {v : Int} (h : valOk t v) : In64 v := by
  rcases h with ⟨_, h⟩ | ⟨_, h⟩
  · exact h.wide
  · exact h

def Vals : List Nat → List Int → Prop
  | [], [] => True
  | t :: ts, v :: vs => valOk t v ∧ Vals ts vs
  | _, _ => False

theorem Vals.len : ∀ {ts : List Nat} {vs : List Int}, Vals ts vs → ts.length = vs.length
  | [], [], _ => rfl
  | t :: ts, v :: vs, h => by simp [Vals.len h.2]
  | [], v :: vs, h => False.elim h
  | t :: ts, [], h => False.elim h

theorem Vals.append : ∀ {a : List Nat} {x : List Int} {b : List Nat} {y : List Int}, Vals a x → Vals b y → Vals (a ++ b) (x ++ y)
  | [], [], _, _, _, k => k
  | t :: ts, v :: vs, _, _, h, k => ⟨h.1, Vals.append h.2 k⟩
  | [], v :: vs, _, _, h, _ => False.elim h
  | t :: ts, [], _, _, h, _ => False.elim h

theorem Vals.split : ∀ (a : List Nat) {b : List Nat} {z : List Int}, Vals (a ++ b) z → ∃ x y, z = x ++ y ∧ Vals a x ∧ Vals b y
  | [], b, z, h => ⟨[], z, rfl, trivial, h⟩
  | t :: a, b, v :: z, h => by
    obtain ⟨x, y, rfl, h1, h2⟩ := Vals.split a h.2
    exact ⟨v :: x, y, rfl, ⟨h.1, h1⟩, h2⟩
  | t :: a, b, [], h => False.elim h

theorem Vals.one {t : Nat} {z : List Int} (h : Vals [t] z) : ∃ v, z = [v] ∧ valOk t v := by
  match z, h with
  | [v], h => exact ⟨v, rfl, h.1⟩
theorem Vals.nil {z : List Int} (h : Vals [] z) : z = [] := by
  match z, h with
  | [], _ => rfl
theorem Vals.single {t : Nat} {v : Int} (h : valOk t v) : Vals [t] [v] := ⟨h, trivial⟩
theorem Vals.take : ∀ {ts : List Nat} {vs : List Int}, Vals ts vs → ∀ k, Vals (ts.take k) (vs.take k)
  | [], [], _, k => by simp [Vals]
  | t :: ts, v :: vs, h, 0 => by simp [Vals]
  | t :: ts, v :: vs, h, k + 1 => ⟨h.1, Vals.take h.2 k⟩
  | [], v :: vs, h, _ => False.elim h
  | t :: ts, [], h, _ => False.elim h
theorem Vals.get : ∀ {ts : List Nat} {vs : List Int}, Vals ts vs → ∀ {i : Nat} {t : Nat}, ts[i]? = some t → ∃ v, vs[i]? = some v ∧ valOk t v
  | [], [], _, i, t, h => by simp at h
  | t :: ts, v :: vs, h, i, t', ht => by
    cases i with
    | zero => simp at ht; subst ht; exact ⟨v, rfl, h.1⟩
    | succ i => simp at ht; obtain ⟨x, h1, h2⟩ := Vals.get h.2 ht; exact ⟨x, by simpa using h1, h2⟩
  | [], v :: vs, h, _, _, _ => False.elim h
  | t :: ts, [], h, _, _, _ => False.elim h
theorem Vals.set : ∀ {ts : List Nat} {vs : List Int}, Vals ts vs → ∀ {i t : Nat} {v : Int}, ts[i]? = some t → valOk t v → Vals ts (vs.set i v)
  | [], [], _, i, t, v, h, _ => by simp at h
  | t :: ts, v :: vs, h, i, t', v', ht, hv => by
    cases i with
    | zero => simp at ht; subst ht; exact ⟨hv, h.2⟩
    | succ i => simp at ht; exact ⟨h.1, Vals.set h.2 ht hv⟩
  | [], v :: vs, h, _, _, _, _, _ => False.elim h
  | t :: ts, [], h, _, _, _, _, _ => False.elim h
theorem Vals.zeros : ∀ {ts : List Nat}, (∀ t ∈ ts, t = 1 ∨ t = 2) → Vals ts (List.replicate ts.length 0)
  | [], _ => trivial
  | t :: ts, h => ⟨valOk_zero (h t (by simp)), Vals.zeros fun x hx => h x (by simp [hx])⟩

/-! What is reckoned. -/
theorem in32_wrap (x : Int) : In32 (IntKind.i32.wrap x) := by rw [IntWalk.i32_left]; unfold wrap32 In32; omega
theorem in64_wrap (x : Int) : In64 (IntKind.i64.wrap x) := by rw [IntWalk.i64_left]; unfold wrap64 In64; omega
theorem in32_bits (op : BinOp) (x y : Int) : In32 (bits op .i32 x y) := by
  have h := wf_bits op .i32 x y
  simp only [Lit.wf, Bool.and_eq_true, decide_eq_true_eq, show IntKind.i32.min = -2147483648 from rfl, show IntKind.i32.max = 2147483647 from rfl] at h
  exact h
theorem in64_bits (op : BinOp) (x y : Int) : In64 (bits op .i64 x y) := by
  have h := wf_bits op .i64 x y
  simp only [Lit.wf, Bool.and_eq_true, decide_eq_true_eq, show IntKind.i64.min = -9223372036854775808 from rfl, show IntKind.i64.max = 9223372036854775807 from rfl] at h
  exact h
theorem in32_truth (b : Bool) : In32 (truthN b) := by cases b <;> (unfold truthN In32; simp)

theorem tmod_le (a b : Int) : (a.tmod b).natAbs ≤ a.natAbs := by rw [Int.natAbs_tmod]; exact Nat.mod_le _ _
theorem shr_le (a : Int) (k : Nat) : (0 ≤ a → 0 ≤ a / 2 ^ k ∧ a / 2 ^ k ≤ a) ∧ (a < 0 → a ≤ a / 2 ^ k ∧ a / 2 ^ k < 0) := by
  have hp : (0 : Int) < 2 ^ k := Int.pow_pos (by decide)
  refine ⟨fun h => ⟨Int.ediv_nonneg h (by omega), Int.ediv_le_self _ h⟩, fun h => ⟨?_, Int.ediv_neg_of_neg_of_pos h hp⟩⟩
  rw [Int.le_ediv_iff_mul_le hp]
  have h1 : (1 : Int) ≤ 2 ^ k := by omega
  have := Int.mul_le_mul_of_nonpos_left (a := a) (by omega) h1
  simpa using this
theorem tmod_sign (a b : Int) : (0 ≤ a → 0 ≤ a.tmod b) ∧ (a ≤ 0 → a.tmod b ≤ 0) := by
  refine ⟨fun h => Int.tmod_nonneg _ h, fun h => ?_⟩
  have := Int.tmod_nonneg (a := -a) b (by omega)
  rw [Int.neg_tmod] at this
  omega

theorem two32 (name : Nat) {a b : Int} (ha : In32 a) : (twoN .i32 32 name a b).2 = 0 ∨ (twoN .i32 32 name a b).2 = 2 ∨ (twoN .i32 32 name a b).2 = 3 := by
  unfold twoN divN remN
  repeat' split
  all_goals simp
theorem two64 (name : Nat) {a b : Int} (ha : In64 a) : (twoN .i64 64 name a b).2 = 0 ∨ (twoN .i64 64 name a b).2 = 2 ∨ (twoN .i64 64 name a b).2 = 3 := by
  unfold twoN divN remN
  repeat' split
  all_goals simp

theorem two32_in (name : Nat) {a b : Int} (ha : In32 a) : In32 (twoN .i32 32 name a b).1 := by
  unfold twoN
  split
  · unfold divN
    repeat' split
    · unfold In32; simp
    · unfold In32; simp
    · exact in32_wrap _
  split
  · unfold remN
    split
    · unfold In32; simp
    · have h1 := tmod_le a b
      have h2 := tmod_sign a b
      unfold In32 at *
      simp only
      omega
  split
  · exact in32_wrap _
  split
  · have h := shr_le a (modN .i32 b 32).toNat
    unfold In32 at *
    simp only
    omega
  split
  · show In32 (truthN (decide (a = b))); exact in32_truth _
  split
  · show In32 (truthN (decide (a < b))); exact in32_truth _
  · show In32 (simpleN .i32 name a b)
    unfold simpleN
    repeat' split
    · exact in32_wrap _
    · exact in32_wrap _
    · exact in32_wrap _
    · exact in32_bits _ _ _
    · exact in32_bits _ _ _
    · exact in32_bits _ _ _
theorem two64_in (name : Nat) {a b : Int} (ha : In64 a) : In64 (twoN .i64 64 name a b).1 := by
  unfold twoN
  split
  · unfold divN
    repeat' split
    · unfold In64; simp
    · unfold In64; simp
    · exact in64_wrap _
  split
  · unfold remN
    split
    · unfold In64; simp
    · have h1 := tmod_le a b
      have h2 := tmod_sign a b
      unfold In64 at *
      simp only
      omega
  split
  · exact in64_wrap _
  split
  · have h := shr_le a (modN .i64 b 64).toNat
    unfold In64 at *
    simp only
    omega
  split
  · show In64 (truthN (decide (a = b))); exact (in32_truth _).wide
  split
  · show In64 (truthN (decide (a < b))); exact (in32_truth _).wide
  · show In64 (simpleN .i64 name a b)
    unfold simpleN
    repeat' split
    · exact in64_wrap _
    · exact in64_wrap _
    · exact in64_wrap _
    · exact in64_bits _ _ _
    · exact in64_bits _ _ _
    · exact in64_bits _ _ _
theorem two64_truth {name : Nat} (h : 28 ≤ name) (h2 : name ≤ 29) (a b : Int) : In32 (twoN .i64 64 name a b).1 := by
  unfold twoN
  rw [if_neg (by omega), if_neg (by omega), if_neg (by omega), if_neg (by omega)]
  split
  · show In32 (truthN (decide (a = b))); exact in32_truth _
  · rw [if_pos (by omega)]; show In32 (truthN (decide (a < b))); exact in32_truth _

theorem ofTwo_ends (k : K5) {a b : Int} (ha : In64 a) : (ofTwoN k a b).2 = 0 ∨ (ofTwoN k a b).2 = 2 ∨ (ofTwoN k a b).2 = 3 := by
  unfold ofTwoN
  split
  · exact two32 _ (in32_wrap _)
  · exact two64 _ ha
end Go.Proofs.YtjbdgbdcnjopkaaGreatDoor
