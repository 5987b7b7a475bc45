/- Sound: the numbers that are handed in. Pure. -/
import Derived.Test.YtjbdgbdcnjopkaaGreatDoorSafeJ
import Derived.Test.YtjbdgbdcnjopkaaGreatDoorM24
namespace Go.Proofs.YtjbdgbdcnjopkaaGreatDoor
open Go.RowKit
set_option linter.unusedVariables false
set_option linter.unusedSimpArgs false

/-- The k-th number for a function. -/
def argAt (raw : List Int) (takes : List Nat) (k : Nat) : Int :=
  if takes[k]? = some 1 then ((raw[k]?).getD k).tmod 2147483648 else (raw[k]?).getD k
def argsOf (raw : List Int) (takes : List Nat) (k : Nat) : List Int := (List.range k).map (argAt raw takes)
theorem argsOf_len (raw : List Int) (takes : List Nat) (k : Nat) : (argsOf raw takes k).length = k := by simp [argsOf]
theorem argsOf_succ (raw : List Int) (takes : List Nat) (k : Nat) : argsOf raw takes (k + 1) = argsOf raw takes k ++ [argAt raw takes k] := by simp [argsOf, List.range_succ]

theorem tmod31 (n : Int) : In32 (n.tmod 2147483648) := by
  have h1 := Int.natAbs_tmod n 2147483648
  have h2 : n.natAbs % 2147483648 < 2147483648 := Nat.mod_lt _ (by decide)
  unfold In32
  have h3 : (2147483648 : Int).natAbs = 2147483648 := rfl
  rw [h3] at h1
  omega

theorem argAt_ok {raw : List Int} {takes : List Nat} {k t : Nat} (hr : ∀ x ∈ raw, In64 x) (ht : takes[k]? = some t) (h12 : t = 1 ∨ t = 2) (hk : k ≤ 100) : valOk t (argAt raw takes k) := by
  have hn : In64 ((raw[k]?).getD k) := by
    cases h : raw[k]? with
    | none => simp [In64]; omega
    | some x => exact hr x (List.mem_of_getElem? h)
  unfold argAt
  rcases h12 with rfl | rfl
  · rw [if_pos ht]; exact .inl ⟨rfl, tmod31 _⟩
  · rw [if_neg (by rw [ht]; decide)]; exact .inr ⟨rfl, hn⟩

theorem argsOf_vals {raw : List Int} {takes : List Nat} (hr : ∀ x ∈ raw, In64 x) (h12 : ∀ t ∈ takes, t = 1 ∨ t = 2) (hl : takes.length ≤ 100) : ∀ k, k ≤ takes.length → Vals (takes.take k) (argsOf raw takes k)
  | 0, _ => by simp [argsOf, Vals]
  | k + 1, hk => by
    rw [argsOf_succ, List.take_succ_eq_append_getElem (by omega)]
    have hg := List.getElem?_eq_getElem (l := takes) (i := k) (by omega)
    exact (argsOf_vals hr h12 hl k (by omega)).append (Vals.single (argAt_ok hr hg (h12 _ (List.getElem_mem (by omega))) (by omega)))

theorem vals_areOf : ∀ {ts : List Nat} {xs : List Int}, Vals ts xs → areOfP ts xs = true
  | [], [], _ => rfl
  | t :: ts, x :: xs, h => by
    simp only [areOfP, Bool.and_eq_true, Bool.or_eq_true]
    refine ⟨?_, vals_areOf h.2⟩
    rcases h.1 with ⟨rfl, h1⟩ | ⟨rfl, _⟩
    · refine .inr ?_
      unfold In32 at h1
      rw [IntWalk.i32_in x h1]; simp
    · exact .inl (by decide)
  | [], x :: xs, h => False.elim h
  | t :: ts, [], h => False.elim h

/-- What Sound needs of a function of a loaded module. -/
theorem sound_fn {bs : List UInt8} {fs : List LFun} (h : loadP bs = .ok fs) {i : Nat} {f : LFun} (hf : fs[i]? = some f) (raw : List Int) (hr : ∀ x ∈ raw, In64 x) (fuel : Nat) :
    ∃ o p, areOfP f.takes (argsOf raw f.takes f.takes.length) = true ∧ runP fs i (argsOf raw f.takes f.takes.length) fuel = some o ∧ runP fs i (argsOf raw f.takes f.takes.length) (2 * fuel + 1) = some p ∧
      o.ends ≤ 5 ∧ o.steps ≤ fuel ∧ (o.ends = 0 → areOfP f.gives o.values = true) ∧ (o.ends ≠ 0 → o.values = []) ∧ (o.ends = 4 → o.steps = fuel ∧ fuel < p.steps) ∧ (o.ends ≠ 4 → p = o) := by
  obtain ⟨m, hm, A⟩ := load_sound h
  obtain ⟨locals, T, R, P, n, F⟩ := A.1 i f hf
  obtain ⟨pf, p1, p2, p3, L⟩ := F.fn
  have hok := (load_fsok h).1.2 f (List.mem_of_getElem? hf)
  have h12 : ∀ t ∈ f.takes, t = 1 ∨ t = 2 := fun t ht => F.types t (by rw [p3]; simp [ht])
  have hv := argsOf_vals hr h12 hok.1 f.takes.length (Nat.le_refl _)
  rw [List.take_of_length_le (Nat.le_refl _)] at hv
  obtain ⟨o, p, r1, r2, k1, k2, r3, r4⟩ := sound_all (fuel := fuel) h hf hv
  exact ⟨o, p, vals_areOf hv, r1, r2, k1.ends, k1.steps, fun h0 => vals_areOf (k1.done h0), k1.none, r3, r4⟩
end Go.Proofs.YtjbdgbdcnjopkaaGreatDoor
