/- Sums: the modules, and what they give. -/
import Derived.Test.YtjbdgbdcnjopkaaGreatDoorMovedP
namespace Go.Proofs.YtjbdgbdcnjopkaaGreatDoor
open Go.RowKit
set_option linter.unusedVariables false
set_option linter.unusedSimpArgs false

/-! zero, widen, narrow. -/
def oneCode (op : Nat) : ByteArray := oneB 14 ++ oneB 0 ++ oneB op ++ oneB 6
def tMod (ty g : UInt8) (op : Nat) : ByteArray := modB [sigB ⟨#[ty]⟩ ⟨#[g]⟩] [funB 0 ⟨#[]⟩ (oneCode op)]
theorem z1_good : goodB (tMod 1 1 42) = true := by kernel_rfl
theorem z1_fn : (fsOf (tMod 1 1 42))[0]?.map (·.takes) = some [1] := by kernel_rfl
theorem z1_run (x : Int) : runP (fsOf (tMod 1 1 42)) 0 [x] 100000 = some ⟨0, 3, [ofOneN 30 x]⟩ := by kernel_rfl
theorem z2_good : goodB (tMod 2 1 62) = true := by kernel_rfl
theorem z2_fn : (fsOf (tMod 2 1 62))[0]?.map (·.takes) = some [2] := by kernel_rfl
theorem z2_run (x : Int) : runP (fsOf (tMod 2 1 62)) 0 [x] 100000 = some ⟨0, 3, [ofOneN 30 x]⟩ := by kernel_rfl
theorem wd_good : goodB (tMod 1 2 71) = true := by kernel_rfl
theorem wd_fn : (fsOf (tMod 1 2 71))[0]?.map (·.takes) = some [1] := by kernel_rfl
theorem wd_run (x : Int) : runP (fsOf (tMod 1 2 71)) 0 [x] 100000 = some ⟨0, 3, [ofOneN 32 x]⟩ := by kernel_rfl
theorem nr_good : goodB (tMod 2 1 70) = true := by kernel_rfl
theorem nr_fn : (fsOf (tMod 2 1 70))[0]?.map (·.takes) = some [2] := by kernel_rfl
theorem nr_run (x : Int) : runP (fsOf (tMod 2 1 70)) 0 [x] 100000 = some ⟨0, 3, [ofOneN 31 x]⟩ := by kernel_rfl
theorem zero_val (x : Int) : ofOneN 30 x = if x = 0 then 1 else 0 := by
  have : ofOneN 30 x = truthN (decide (x = 0)) := rfl
  rw [this]
  unfold truthN
  simp
theorem widen_val (x : Int) : ofOneN 32 x = x := rfl
theorem narrow_val (x : Int) : ofOneN 31 x = IntKind.i32.wrap x := rfl
theorem are_small1 {x : Int} (hx : -2147483648 ≤ x ∧ x ≤ 2147483647) : areOfP [1] [x] = true := by simp [areOfP, wrap32_of hx]
theorem are_wide1 (x : Int) : areOfP [2] [x] = true := by simp [areOfP]

/-! The plain ones of two numbers. -/
def sMod (ty g : UInt8) (op : Nat) : ByteArray := modB [sigB (tyB ty) ⟨#[g]⟩] [funB 0 ⟨#[]⟩ (movCode op)]
theorem s30_good : goodB (sMod 1 1 30) = true := by kernel_rfl
theorem s30_fn : (fsOf (sMod 1 1 30))[0]?.map (·.takes) = some [1, 1] := by kernel_rfl
theorem s30_run (x y : Int) : runP (fsOf (sMod 1 1 30)) 0 [x, y] 100000 = some ⟨0, 4, [(ofTwoN ⟨18, 0, 2, 1, 1⟩ x y).1]⟩ := by kernel_rfl
theorem s31_good : goodB (sMod 1 1 31) = true := by kernel_rfl
theorem s31_fn : (fsOf (sMod 1 1 31))[0]?.map (·.takes) = some [1, 1] := by kernel_rfl
theorem s31_run (x y : Int) : runP (fsOf (sMod 1 1 31)) 0 [x, y] 100000 = some ⟨0, 4, [(ofTwoN ⟨19, 0, 2, 1, 1⟩ x y).1]⟩ := by kernel_rfl
theorem s32_good : goodB (sMod 1 1 32) = true := by kernel_rfl
theorem s32_fn : (fsOf (sMod 1 1 32))[0]?.map (·.takes) = some [1, 1] := by kernel_rfl
theorem s32_run (x y : Int) : runP (fsOf (sMod 1 1 32)) 0 [x, y] 100000 = some ⟨0, 4, [(ofTwoN ⟨20, 0, 2, 1, 1⟩ x y).1]⟩ := by kernel_rfl
theorem s35_good : goodB (sMod 1 1 35) = true := by kernel_rfl
theorem s35_fn : (fsOf (sMod 1 1 35))[0]?.map (·.takes) = some [1, 1] := by kernel_rfl
theorem s35_run (x y : Int) : runP (fsOf (sMod 1 1 35)) 0 [x, y] 100000 = some ⟨0, 4, [(ofTwoN ⟨23, 0, 2, 1, 1⟩ x y).1]⟩ := by kernel_rfl
theorem s36_good : goodB (sMod 1 1 36) = true := by kernel_rfl
theorem s36_fn : (fsOf (sMod 1 1 36))[0]?.map (·.takes) = some [1, 1] := by kernel_rfl
theorem s36_run (x y : Int) : runP (fsOf (sMod 1 1 36)) 0 [x, y] 100000 = some ⟨0, 4, [(ofTwoN ⟨24, 0, 2, 1, 1⟩ x y).1]⟩ := by kernel_rfl
theorem s37_good : goodB (sMod 1 1 37) = true := by kernel_rfl
theorem s37_fn : (fsOf (sMod 1 1 37))[0]?.map (·.takes) = some [1, 1] := by kernel_rfl
theorem s37_run (x y : Int) : runP (fsOf (sMod 1 1 37)) 0 [x, y] 100000 = some ⟨0, 4, [(ofTwoN ⟨25, 0, 2, 1, 1⟩ x y).1]⟩ := by kernel_rfl
theorem s40_good : goodB (sMod 1 1 40) = true := by kernel_rfl
theorem s40_fn : (fsOf (sMod 1 1 40))[0]?.map (·.takes) = some [1, 1] := by kernel_rfl
theorem s40_run (x y : Int) : runP (fsOf (sMod 1 1 40)) 0 [x, y] 100000 = some ⟨0, 4, [(ofTwoN ⟨28, 0, 2, 1, 1⟩ x y).1]⟩ := by kernel_rfl
theorem s41_good : goodB (sMod 1 1 41) = true := by kernel_rfl
theorem s41_fn : (fsOf (sMod 1 1 41))[0]?.map (·.takes) = some [1, 1] := by kernel_rfl
theorem s41_run (x y : Int) : runP (fsOf (sMod 1 1 41)) 0 [x, y] 100000 = some ⟨0, 4, [(ofTwoN ⟨29, 0, 2, 1, 1⟩ x y).1]⟩ := by kernel_rfl
theorem s50_good : goodB (sMod 2 2 50) = true := by kernel_rfl
theorem s50_fn : (fsOf (sMod 2 2 50))[0]?.map (·.takes) = some [2, 2] := by kernel_rfl
theorem s50_run (x y : Int) : runP (fsOf (sMod 2 2 50)) 0 [x, y] 100000 = some ⟨0, 4, [(ofTwoN ⟨18, 0, 2, 2, 2⟩ x y).1]⟩ := by kernel_rfl
theorem s51_good : goodB (sMod 2 2 51) = true := by kernel_rfl
theorem s51_fn : (fsOf (sMod 2 2 51))[0]?.map (·.takes) = some [2, 2] := by kernel_rfl
theorem s51_run (x y : Int) : runP (fsOf (sMod 2 2 51)) 0 [x, y] 100000 = some ⟨0, 4, [(ofTwoN ⟨19, 0, 2, 2, 2⟩ x y).1]⟩ := by kernel_rfl
theorem s52_good : goodB (sMod 2 2 52) = true := by kernel_rfl
theorem s52_fn : (fsOf (sMod 2 2 52))[0]?.map (·.takes) = some [2, 2] := by kernel_rfl
theorem s52_run (x y : Int) : runP (fsOf (sMod 2 2 52)) 0 [x, y] 100000 = some ⟨0, 4, [(ofTwoN ⟨20, 0, 2, 2, 2⟩ x y).1]⟩ := by kernel_rfl
theorem s55_good : goodB (sMod 2 2 55) = true := by kernel_rfl
theorem s55_fn : (fsOf (sMod 2 2 55))[0]?.map (·.takes) = some [2, 2] := by kernel_rfl
theorem s55_run (x y : Int) : runP (fsOf (sMod 2 2 55)) 0 [x, y] 100000 = some ⟨0, 4, [(ofTwoN ⟨23, 0, 2, 2, 2⟩ x y).1]⟩ := by kernel_rfl
theorem s56_good : goodB (sMod 2 2 56) = true := by kernel_rfl
theorem s56_fn : (fsOf (sMod 2 2 56))[0]?.map (·.takes) = some [2, 2] := by kernel_rfl
theorem s56_run (x y : Int) : runP (fsOf (sMod 2 2 56)) 0 [x, y] 100000 = some ⟨0, 4, [(ofTwoN ⟨24, 0, 2, 2, 2⟩ x y).1]⟩ := by kernel_rfl
theorem s57_good : goodB (sMod 2 2 57) = true := by kernel_rfl
theorem s57_fn : (fsOf (sMod 2 2 57))[0]?.map (·.takes) = some [2, 2] := by kernel_rfl
theorem s57_run (x y : Int) : runP (fsOf (sMod 2 2 57)) 0 [x, y] 100000 = some ⟨0, 4, [(ofTwoN ⟨25, 0, 2, 2, 2⟩ x y).1]⟩ := by kernel_rfl
theorem s60_good : goodB (sMod 2 1 60) = true := by kernel_rfl
theorem s60_fn : (fsOf (sMod 2 1 60))[0]?.map (·.takes) = some [2, 2] := by kernel_rfl
theorem s60_run (x y : Int) : runP (fsOf (sMod 2 1 60)) 0 [x, y] 100000 = some ⟨0, 4, [(ofTwoN ⟨28, 0, 2, 2, 1⟩ x y).1]⟩ := by kernel_rfl
theorem s61_good : goodB (sMod 2 1 61) = true := by kernel_rfl
theorem s61_fn : (fsOf (sMod 2 1 61))[0]?.map (·.takes) = some [2, 2] := by kernel_rfl
theorem s61_run (x y : Int) : runP (fsOf (sMod 2 1 61)) 0 [x, y] 100000 = some ⟨0, 4, [(ofTwoN ⟨29, 0, 2, 2, 1⟩ x y).1]⟩ := by kernel_rfl

/-! Quotient and rest make the number again. -/
def pCode (base : Nat) : ByteArray := oneB 14 ++ oneB 0 ++ oneB 14 ++ oneB 1 ++ oneB (base + 3) ++ oneB 14 ++ oneB 1 ++ oneB (base + 2) ++ (oneB 14 ++ oneB 0 ++ oneB 14 ++ oneB 1) ++ oneB (base + 4) ++ oneB base ++ oneB 6
def pMod (ty : UInt8) (base : Nat) : ByteArray := modB [sigB (tyB ty) ⟨#[ty]⟩] [funB 0 ⟨#[]⟩ (pCode base)]

/-- Two numbers are reckoned with. -/
theorem machStep_two {fs : List LFun} {f : LFun} {st : PSt} {fuel fn next steps : Nat} {locals : List Int} {rest : List PCall} {l : List Int} {a b v : Int} (hf : fs[fn]? = some f) (hs : f.steps[next]? = some st) (hsf : steps ≠ fuel) (hn : 18 ≤ st.kind.name) (ht : st.kind.takes = 2) (hv : ofTwoN st.kind a b = (v, 0)) :
    machStep fs fuel ⟨⟨fn, next, locals, l ++ [a, b]⟩, rest, steps⟩ = some (.inl ⟨⟨fn, next + 1, locals, l ++ [v]⟩, rest, steps + 1⟩) := by
  have p1 : popC ⟨fn, next + 1, locals, l ++ [a, b]⟩ = some (b, ⟨fn, next + 1, locals, l ++ [a]⟩) := by
    have e : l ++ [a, b] = (l ++ [a]) ++ [b] := by simp
    have h1 : (l ++ [a, b]).getLast? = some b := by rw [e, List.getLast?_concat]
    have h2 : (l ++ [a, b]).dropLast = l ++ [a] := by rw [e, List.dropLast_concat]
    simp only [popC, h1, h2]
  have p2 : popC ⟨fn, next + 1, locals, l ++ [a]⟩ = some (a, ⟨fn, next + 1, locals, l⟩) := by simp [popC]
  have hd : doC f.targets ⟨fn, next + 1, locals, l ++ [a, b]⟩ st = some (0, ⟨fn, next + 1, locals, l ++ [v]⟩) := by
    unfold doC
    simp only
    rw [if_neg (by omega), if_neg (by omega), if_neg (by omega), if_neg (by omega), if_neg (by omega)]
    unfold reckonC
    rw [if_neg (by omega), if_pos ht, p1]
    simp only [p2, hv]
    simp [pushC]
  unfold machStep
  simp only [hf, hs, if_neg hsf]
  rw [if_neg (by omega), if_neg (by omega), if_neg (by omega), hd]
  simp

theorem tdiv_abs {x y : Int} (hy : y ≠ 0) : (x.tdiv y).natAbs ≤ x.natAbs := by
  rw [Int.natAbs_tdiv]; exact Nat.div_le_self _ _
theorem tdiv_in {x y M : Int} (hM : 1 < M) (hx : -M ≤ x ∧ x ≤ M - 1) (hy : y ≠ 0) (ho : ¬ (y = -1 ∧ x = -M)) : -M ≤ x.tdiv y ∧ x.tdiv y ≤ M - 1 := by
  have h1 := tdiv_abs (x := x) hy
  by_cases hxm : x = -M
  · subst hxm
    by_cases h3 : (-M).tdiv y = M
    · exfalso
      have h6 : y = -1 := by
        have h7 : ((-M).tdiv y).natAbs = M.natAbs / y.natAbs := by rw [Int.natAbs_tdiv, Int.natAbs_neg]; rfl
        rw [h3] at h7
        have h8 : y.natAbs = 1 := by
          have hMp : 0 < M.natAbs := by omega
          rcases Nat.lt_or_ge y.natAbs 2 with h | h
          · omega
          · have := Nat.div_lt_self hMp h
            omega
        have h9 : y = 1 ∨ y = -1 := by omega
        rcases h9 with h | h
        · subst h; simp at h3; omega
        · exact h
      exact ho ⟨h6, rfl⟩
    · omega
  · omega

theorem kind_at {fs : List LFun} {i : Nat} {k : K5} (h : (fs[0]?.bind fun f => f.steps[i]?).map (·.kind) = some k) : ∃ f st, fs[0]? = some f ∧ f.steps[i]? = some st ∧ st.kind = k := by
  cases hf : fs[0]? with
  | none => rw [hf] at h; cases h
  | some f =>
    rw [hf] at h
    cases hs : f.steps[i]? with
    | none => simp [hs] at h
    | some st => simp [hs] at h; exact ⟨f, st, rfl, hs, h⟩

theorem machRun_two {fs : List LFun} {i : Nat} {k : K5} {fuel gas steps : Nat} {locals : List Int} {rest : List PCall} {l : List Int} {a b v : Int} (h : (fs[0]?.bind fun f => f.steps[i]?).map (·.kind) = some k) (hsf : steps ≠ fuel) (hn : 18 ≤ k.name) (ht : k.takes = 2) (hv : ofTwoN k a b = (v, 0)) :
    machRun fs fuel (gas + 1) ⟨⟨0, i, locals, l ++ [a, b]⟩, rest, steps⟩ = machRun fs fuel gas ⟨⟨0, i + 1, locals, l ++ [v]⟩, rest, steps + 1⟩ := by
  obtain ⟨f, st, hf, hs, rfl⟩ := kind_at h
  rw [machRun, machStep_two hf hs hsf hn ht hv]

theorem p30_good : goodB (pMod 1 30) = true := by kernel_rfl
theorem p30_fn : (fsOf (pMod 1 30))[0]?.map (·.takes) = some [1, 1] := by kernel_rfl
theorem p30_k2 : ((fsOf (pMod 1 30))[0]?.bind fun f => f.steps[2]?).map (·.kind) = some ⟨21, 0, 2, 1, 1⟩ := by kernel_rfl
theorem p30_k7 : ((fsOf (pMod 1 30))[0]?.bind fun f => f.steps[7]?).map (·.kind) = some ⟨22, 0, 2, 1, 1⟩ := by kernel_rfl
theorem p30_zero (x : Int) : runP (fsOf (pMod 1 30)) 0 [x, 0] 100 = some ⟨2, 3, []⟩ := by kernel_rfl
theorem p30_over : runP (fsOf (pMod 1 30)) 0 [-2147483648, -1] 100 = some ⟨3, 3, []⟩ := by kernel_rfl
theorem p30_r1 (x y : Int) : runP (fsOf (pMod 1 30)) 0 [x, y] 100 = machRun (fsOf (pMod 1 30)) 100 201 ⟨⟨0, 2, [x, y], [x, y]⟩, [], 2⟩ := by kernel_rfl
theorem p30_r2 (x y q : Int) : machRun (fsOf (pMod 1 30)) 100 200 ⟨⟨0, 3, [x, y], [q]⟩, [], 3⟩ = machRun (fsOf (pMod 1 30)) 100 196 ⟨⟨0, 7, [x, y], [(ofTwoN ⟨20, 0, 2, 1, 1⟩ q y).1, x, y]⟩, [], 7⟩ := by kernel_rfl
theorem p30_r3 (x y m r : Int) : machRun (fsOf (pMod 1 30)) 100 195 ⟨⟨0, 8, [x, y], [m, r]⟩, [], 8⟩ = some ⟨0, 10, [(ofTwoN ⟨18, 0, 2, 1, 1⟩ m r).1]⟩ := by kernel_rfl
theorem p30_run {x y : Int} (hx : -2147483648 ≤ x ∧ x ≤ 2147483647) (hyr : -2147483648 ≤ y ∧ y ≤ 2147483647) (hy : y ≠ 0) (ho : ¬ (y = -1 ∧ x = -2147483648)) : runP (fsOf (pMod 1 30)) 0 [x, y] 100 = some ⟨0, 10, [x]⟩ := by
  have hq := tdiv_in (M := 2147483648) (by decide) hx hy ho
  have hmd := Int.mul_tdiv_add_tmod x y
  have hrr : (x.tmod y).natAbs < y.natAbs := by rw [Int.natAbs_tmod]; exact Nat.mod_lt _ (by omega)
  have wr : ∀ z : Int, (-2147483648 ≤ z ∧ z ≤ 2147483647) → IntKind.i32.wrap z = z := fun z h => IntWalk.i32_in z h
  have hdiv : ofTwoN ⟨21, 0, 2, 1, 1⟩ x y = (x.tdiv y, 0) := by
    have e : ofTwoN ⟨21, 0, 2, 1, 1⟩ x y = divN .i32 (IntKind.i32.wrap x) (IntKind.i32.wrap y) := rfl
    rw [e, wr x hx, wr y hyr]
    unfold divN
    rw [if_neg hy, if_neg (by
      intro ⟨a, b, c⟩
      apply ho
      refine ⟨a, ?_⟩
      rw [IntKind.wrap_i32] at b
      omega), wr _ hq]
  have hrem : ofTwoN ⟨22, 0, 2, 1, 1⟩ x y = (x.tmod y, 0) := by
    have e : ofTwoN ⟨22, 0, 2, 1, 1⟩ x y = remN (IntKind.i32.wrap x) (IntKind.i32.wrap y) := rfl
    rw [e, wr x hx, wr y hyr]
    unfold remN
    rw [if_neg hy]
  obtain ⟨q, hqe⟩ : ∃ q, x.tdiv y = q := ⟨_, rfl⟩
  obtain ⟨r, hre⟩ : ∃ r, x.tmod y = r := ⟨_, rfl⟩
  rw [hqe] at hq hmd hdiv
  rw [hre] at hmd hrem hrr
  have s1 : machRun (fsOf (pMod 1 30)) 100 201 ⟨⟨0, 2, [x, y], [x, y]⟩, [], 2⟩ = machRun (fsOf (pMod 1 30)) 100 200 ⟨⟨0, 3, [x, y], [q]⟩, [], 3⟩ := machRun_two (gas := 200) (l := []) p30_k2 (by decide) (by decide) rfl hdiv
  have s2 : machRun (fsOf (pMod 1 30)) 100 196 ⟨⟨0, 7, [x, y], [(ofTwoN ⟨20, 0, 2, 1, 1⟩ q y).1, x, y]⟩, [], 7⟩ = machRun (fsOf (pMod 1 30)) 100 195 ⟨⟨0, 8, [x, y], [(ofTwoN ⟨20, 0, 2, 1, 1⟩ q y).1, r]⟩, [], 8⟩ := machRun_two (gas := 195) (l := [(ofTwoN ⟨20, 0, 2, 1, 1⟩ q y).1]) p30_k7 (by decide) (by decide) rfl hrem
  rw [p30_r1, s1, p30_r2, s2, p30_r3]
  have hm : (ofTwoN ⟨20, 0, 2, 1, 1⟩ q y).1 = wrap32 (y * q) := by
    have e : (ofTwoN ⟨20, 0, 2, 1, 1⟩ q y).1 = IntKind.i32.wrap (IntKind.i32.wrap q * IntKind.i32.wrap y) := rfl
    rw [e, wr q hq, wr y hyr, Int.mul_comm, IntWalk.i32_left]
  have hadd : (ofTwoN ⟨18, 0, 2, 1, 1⟩ (wrap32 (y * q)) r).1 = wrap32 (wrap32 (y * q) + r) := by
    have e : (ofTwoN ⟨18, 0, 2, 1, 1⟩ (wrap32 (y * q)) r).1 = IntKind.i32.wrap (IntKind.i32.wrap (wrap32 (y * q)) + IntKind.i32.wrap r) := rfl
    rw [e, wr (wrap32 (y * q)) (by unfold wrap32; omega), wr r (by omega), IntWalk.i32_left]
  rw [hm, hadd]
  have hfin : wrap32 (wrap32 (y * q) + r) = x := by
    generalize y * q = p at hmd
    unfold wrap32
    omega
  rw [hfin]

theorem p50_good : goodB (pMod 2 50) = true := by kernel_rfl
theorem p50_fn : (fsOf (pMod 2 50))[0]?.map (·.takes) = some [2, 2] := by kernel_rfl
theorem p50_k2 : ((fsOf (pMod 2 50))[0]?.bind fun f => f.steps[2]?).map (·.kind) = some ⟨21, 0, 2, 2, 2⟩ := by kernel_rfl
theorem p50_k7 : ((fsOf (pMod 2 50))[0]?.bind fun f => f.steps[7]?).map (·.kind) = some ⟨22, 0, 2, 2, 2⟩ := by kernel_rfl
theorem p50_zero (x : Int) : runP (fsOf (pMod 2 50)) 0 [x, 0] 100 = some ⟨2, 3, []⟩ := by kernel_rfl
theorem p50_over : runP (fsOf (pMod 2 50)) 0 [-9223372036854775808, -1] 100 = some ⟨3, 3, []⟩ := by kernel_rfl
theorem p50_r1 (x y : Int) : runP (fsOf (pMod 2 50)) 0 [x, y] 100 = machRun (fsOf (pMod 2 50)) 100 201 ⟨⟨0, 2, [x, y], [x, y]⟩, [], 2⟩ := by kernel_rfl
theorem p50_r2 (x y q : Int) : machRun (fsOf (pMod 2 50)) 100 200 ⟨⟨0, 3, [x, y], [q]⟩, [], 3⟩ = machRun (fsOf (pMod 2 50)) 100 196 ⟨⟨0, 7, [x, y], [(ofTwoN ⟨20, 0, 2, 2, 2⟩ q y).1, x, y]⟩, [], 7⟩ := by kernel_rfl
theorem p50_r3 (x y m r : Int) : machRun (fsOf (pMod 2 50)) 100 195 ⟨⟨0, 8, [x, y], [m, r]⟩, [], 8⟩ = some ⟨0, 10, [(ofTwoN ⟨18, 0, 2, 2, 2⟩ m r).1]⟩ := by kernel_rfl
theorem p50_run {x y : Int} (hx : -9223372036854775808 ≤ x ∧ x ≤ 9223372036854775807) (hyr : -9223372036854775808 ≤ y ∧ y ≤ 9223372036854775807) (hy : y ≠ 0) (ho : ¬ (y = -1 ∧ x = -9223372036854775808)) : runP (fsOf (pMod 2 50)) 0 [x, y] 100 = some ⟨0, 10, [x]⟩ := by
  have hq := tdiv_in (M := 9223372036854775808) (by decide) hx hy ho
  have hmd := Int.mul_tdiv_add_tmod x y
  have hrr : (x.tmod y).natAbs < y.natAbs := by rw [Int.natAbs_tmod]; exact Nat.mod_lt _ (by omega)
  have wr : ∀ z : Int, (-9223372036854775808 ≤ z ∧ z ≤ 9223372036854775807) → IntKind.i64.wrap z = z := fun z h => IntWalk.i64_in z h
  have hdiv : ofTwoN ⟨21, 0, 2, 2, 2⟩ x y = (x.tdiv y, 0) := by
    have e : ofTwoN ⟨21, 0, 2, 2, 2⟩ x y = divN .i64 x y := rfl
    rw [e]
    unfold divN
    rw [if_neg hy, if_neg (by
      intro ⟨a, b, c⟩
      apply ho
      refine ⟨a, ?_⟩
      rw [IntKind.wrap_i64] at b
      omega), wr _ hq]
  have hrem : ofTwoN ⟨22, 0, 2, 2, 2⟩ x y = (x.tmod y, 0) := by
    have e : ofTwoN ⟨22, 0, 2, 2, 2⟩ x y = remN x y := rfl
    rw [e]
    unfold remN
    rw [if_neg hy]
  obtain ⟨q, hqe⟩ : ∃ q, x.tdiv y = q := ⟨_, rfl⟩
  obtain ⟨r, hre⟩ : ∃ r, x.tmod y = r := ⟨_, rfl⟩
  rw [hqe] at hq hmd hdiv
  rw [hre] at hmd hrem hrr
  have s1 : machRun (fsOf (pMod 2 50)) 100 201 ⟨⟨0, 2, [x, y], [x, y]⟩, [], 2⟩ = machRun (fsOf (pMod 2 50)) 100 200 ⟨⟨0, 3, [x, y], [q]⟩, [], 3⟩ := machRun_two (gas := 200) (l := []) p50_k2 (by decide) (by decide) rfl hdiv
  have s2 : machRun (fsOf (pMod 2 50)) 100 196 ⟨⟨0, 7, [x, y], [(ofTwoN ⟨20, 0, 2, 2, 2⟩ q y).1, x, y]⟩, [], 7⟩ = machRun (fsOf (pMod 2 50)) 100 195 ⟨⟨0, 8, [x, y], [(ofTwoN ⟨20, 0, 2, 2, 2⟩ q y).1, r]⟩, [], 8⟩ := machRun_two (gas := 195) (l := [(ofTwoN ⟨20, 0, 2, 2, 2⟩ q y).1]) p50_k7 (by decide) (by decide) rfl hrem
  rw [p50_r1, s1, p50_r2, s2, p50_r3]
  have hm : (ofTwoN ⟨20, 0, 2, 2, 2⟩ q y).1 = wrap64 (y * q) := by
    have e : (ofTwoN ⟨20, 0, 2, 2, 2⟩ q y).1 = IntKind.i64.wrap (q * y) := rfl
    rw [e, Int.mul_comm, IntWalk.i64_left]
  have hadd : (ofTwoN ⟨18, 0, 2, 2, 2⟩ (wrap64 (y * q)) r).1 = wrap64 (wrap64 (y * q) + r) := by
    have e : (ofTwoN ⟨18, 0, 2, 2, 2⟩ (wrap64 (y * q)) r).1 = IntKind.i64.wrap (wrap64 (y * q) + r) := rfl
    rw [e, IntWalk.i64_left]
  rw [hm, hadd]
  have hfin : wrap64 (wrap64 (y * q) + r) = x := by
    generalize y * q = p at hmd
    unfold wrap64
    omega
  rw [hfin]
end Go.Proofs.YtjbdgbdcnjopkaaGreatDoor
