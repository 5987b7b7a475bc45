/- Chosen: the modules, and what they give. -/
import Derived.Test.YtjbdgbdcnjopkaaGreatDoorKeepE
namespace Go.Proofs.YtjbdgbdcnjopkaaGreatDoor
open Go.RowKit
set_option linter.unusedVariables false
set_option linter.unusedSimpArgs false

def chA : Nat → ByteArray
  | 0 => ⟨#[]⟩
  | k + 1 => chA k ++ oneB 2 ++ oneB 1
def chBy (n : Nat) : Nat → ByteArray
  | 0 => oneB 14 ++ oneB 0 ++ oneB 9 ++ oneB n
  | k + 1 => chBy n k ++ oneB k
def chC (s : ByteArray) : Nat → ByteArray
  | 0 => s
  | k + 1 => chC s k ++ oneB 6 ++ numB (k : Int) false ++ oneB 10
def chCode (n : Nat) : ByteArray := chC (chA (n + 1) ++ chBy n (n + 1)) (n + 1) ++ oneB 6
def chMod (n : Nat) : ByteArray := modB [sigB ⟨#[1]⟩ ⟨#[1]⟩, sigB ⟨#[]⟩ ⟨#[]⟩] [funB 0 ⟨#[]⟩ (chCode n)]
theorem chA_size (k : Nat) : (chA k).size = 2 * k := by
  induction k with
  | zero => rfl
  | succ k ih => simp [chA, ByteArray.size_append, ih]; omega
theorem chBy_size (n k : Nat) : (chBy n k).size = 4 + k := by
  induction k with
  | zero => simp [chBy, ByteArray.size_append]
  | succ k ih => simp [chBy, ByteArray.size_append, ih]; omega
theorem chC_size (s : ByteArray) (k : Nat) : (chC s k).size = s.size + 7 * k := by
  induction k with
  | zero => simp [chC]
  | succ k ih => simp [chC, ByteArray.size_append, ih, numB_size]; omega

/-- Does a run give that number? -/
def gvB (o : Option Out) (v : Int) : Bool := match o with
  | some ⟨0, _, [x]⟩ => x == v
  | _ => false
theorem gvB_ok {o : Option Out} {v : Int} (h : gvB o v = true) : ∃ s, o = some ⟨0, s, [v]⟩ := by
  unfold gvB at h
  split at h
  · rename_i s x
    have : x = v := by simpa using h
    exact ⟨s, by rw [this]⟩
  · cases h

theorem ch_good : (List.range 10).all (fun n => goodB (chMod n)) = true := by kernel_rfl
theorem ch_takes : (List.range 10).all (fun n => match (fsOf (chMod n))[0]? with | some f => f.takes == [1] | none => false) = true := by kernel_rfl
theorem ch_in : (List.range 10).all (fun n => (List.range n).all fun j => gvB (runP (fsOf (chMod n)) 0 [(j : Int)] 100000) (j : Int)) = true := by kernel_rfl
theorem ch_by : (List.range 10).all (fun n => match (fsOf (chMod n))[0]? with | some f => (match f.steps[n + 2]? with | some st => st.kind.name == 9 && st.targets.length == n + 1 | none => false) | none => false) = true := by kernel_rfl

/-- Two numbers that choose the same target lead the same way. -/
theorem doC_by {ts : List Tg} {fn next : Nat} {locals : List Int} {st : PSt} (h9 : st.kind.name = 9) (x : Int) : doC ts ⟨fn, next, locals, [x]⟩ st = okC (if st.targets.length = 0 then none else goC ts ⟨fn, next, locals, []⟩ (choiceC st.targets x)) := by
  unfold doC jumpC
  simp [h9, popC]
theorem machStep_by {fs : List LFun} {f : LFun} {st : PSt} {fuel fn next steps : Nat} {locals : List Int} {rest : List PCall} {a b : Int} (hf : fs[fn]? = some f) (hs : f.steps[next]? = some st) (h9 : st.kind.name = 9) (hch : choiceC st.targets a = choiceC st.targets b) :
    machStep fs fuel ⟨⟨fn, next, locals, [a]⟩, rest, steps⟩ = machStep fs fuel ⟨⟨fn, next, locals, [b]⟩, rest, steps⟩ := by
  unfold machStep
  simp only [hf, hs, h9, doC_by h9, hch]
  simp
theorem machRun_by {fs : List LFun} {f : LFun} {st : PSt} {fuel k fn next steps : Nat} {locals : List Int} {rest : List PCall} {a b : Int} (hf : fs[fn]? = some f) (hs : f.steps[next]? = some st) (h9 : st.kind.name = 9) (hch : choiceC st.targets a = choiceC st.targets b) :
    machRun fs fuel (k + 1) ⟨⟨fn, next, locals, [a]⟩, rest, steps⟩ = machRun fs fuel (k + 1) ⟨⟨fn, next, locals, [b]⟩, rest, steps⟩ := by
  unfold machRun
  rw [machStep_by hf hs h9 hch]

theorem ch_parts {n : Nat} (hn : n < 10) : ∃ f st, (fsOf (chMod n))[0]? = some f ∧ f.steps[n + 2]? = some st ∧ st.kind.name = 9 ∧ st.targets.length = n + 1 := by
  have h := List.all_eq_true.1 ch_by n (by simp; omega)
  cases hf : (fsOf (chMod n))[0]? with
  | none => simp [hf] at h
  | some f =>
    cases hs : f.steps[n + 2]? with
    | none => simp [hf, hs] at h
    | some st =>
      simp [hf, hs] at h
      exact ⟨f, st, rfl, hs, h.1, h.2⟩
theorem ch_choice {l : List Nat} {n : Nat} {c : Int} (hl : l.length = n + 1) (hc : c < 0 ∨ (n : Int) ≤ c) : choiceC l c = choiceC l (n : Int) := by
  unfold choiceC
  rw [hl]
  have h2 : ¬ ((n : Int) < 0 ∨ ((n + 1 : Nat) : Int) - 1 < (n : Int)) := by omega
  rw [if_neg h2, Int.toNat_natCast]
  split
  · rfl
  · have : c = (n : Int) := by omega
    rw [this, Int.toNat_natCast]

theorem ch_reach0 (c : Int) : runP (fsOf (chMod 0)) 0 [c] 100000 = machRun (fsOf (chMod 0)) 100000 200001 ⟨⟨0, 2, [c], [c]⟩, [], 2⟩ := by kernel_rfl
theorem ch_end0 (c : Int) : gvB (machRun (fsOf (chMod 0)) 100000 200001 ⟨⟨0, 2, [c], [0]⟩, [], 2⟩) 0 = true := by kernel_rfl

theorem ch_reach1 (c : Int) : runP (fsOf (chMod 1)) 0 [c] 100000 = machRun (fsOf (chMod 1)) 100000 200000 ⟨⟨0, 3, [c], [c]⟩, [], 3⟩ := by kernel_rfl
theorem ch_end1 (c : Int) : gvB (machRun (fsOf (chMod 1)) 100000 200000 ⟨⟨0, 3, [c], [1]⟩, [], 3⟩) 1 = true := by kernel_rfl

theorem ch_reach2 (c : Int) : runP (fsOf (chMod 2)) 0 [c] 100000 = machRun (fsOf (chMod 2)) 100000 199999 ⟨⟨0, 4, [c], [c]⟩, [], 4⟩ := by kernel_rfl
theorem ch_end2 (c : Int) : gvB (machRun (fsOf (chMod 2)) 100000 199999 ⟨⟨0, 4, [c], [2]⟩, [], 4⟩) 2 = true := by kernel_rfl

theorem ch_reach3 (c : Int) : runP (fsOf (chMod 3)) 0 [c] 100000 = machRun (fsOf (chMod 3)) 100000 199998 ⟨⟨0, 5, [c], [c]⟩, [], 5⟩ := by kernel_rfl
theorem ch_end3 (c : Int) : gvB (machRun (fsOf (chMod 3)) 100000 199998 ⟨⟨0, 5, [c], [3]⟩, [], 5⟩) 3 = true := by kernel_rfl

theorem ch_reach4 (c : Int) : runP (fsOf (chMod 4)) 0 [c] 100000 = machRun (fsOf (chMod 4)) 100000 199997 ⟨⟨0, 6, [c], [c]⟩, [], 6⟩ := by kernel_rfl
theorem ch_end4 (c : Int) : gvB (machRun (fsOf (chMod 4)) 100000 199997 ⟨⟨0, 6, [c], [4]⟩, [], 6⟩) 4 = true := by kernel_rfl

theorem ch_reach5 (c : Int) : runP (fsOf (chMod 5)) 0 [c] 100000 = machRun (fsOf (chMod 5)) 100000 199996 ⟨⟨0, 7, [c], [c]⟩, [], 7⟩ := by kernel_rfl
theorem ch_end5 (c : Int) : gvB (machRun (fsOf (chMod 5)) 100000 199996 ⟨⟨0, 7, [c], [5]⟩, [], 7⟩) 5 = true := by kernel_rfl

theorem ch_reach6 (c : Int) : runP (fsOf (chMod 6)) 0 [c] 100000 = machRun (fsOf (chMod 6)) 100000 199995 ⟨⟨0, 8, [c], [c]⟩, [], 8⟩ := by kernel_rfl
theorem ch_end6 (c : Int) : gvB (machRun (fsOf (chMod 6)) 100000 199995 ⟨⟨0, 8, [c], [6]⟩, [], 8⟩) 6 = true := by kernel_rfl

theorem ch_reach7 (c : Int) : runP (fsOf (chMod 7)) 0 [c] 100000 = machRun (fsOf (chMod 7)) 100000 199994 ⟨⟨0, 9, [c], [c]⟩, [], 9⟩ := by kernel_rfl
theorem ch_end7 (c : Int) : gvB (machRun (fsOf (chMod 7)) 100000 199994 ⟨⟨0, 9, [c], [7]⟩, [], 9⟩) 7 = true := by kernel_rfl

theorem ch_reach8 (c : Int) : runP (fsOf (chMod 8)) 0 [c] 100000 = machRun (fsOf (chMod 8)) 100000 199993 ⟨⟨0, 10, [c], [c]⟩, [], 10⟩ := by kernel_rfl
theorem ch_end8 (c : Int) : gvB (machRun (fsOf (chMod 8)) 100000 199993 ⟨⟨0, 10, [c], [8]⟩, [], 10⟩) 8 = true := by kernel_rfl

theorem ch_reach9 (c : Int) : runP (fsOf (chMod 9)) 0 [c] 100000 = machRun (fsOf (chMod 9)) 100000 199992 ⟨⟨0, 11, [c], [c]⟩, [], 11⟩ := by kernel_rfl
theorem ch_end9 (c : Int) : gvB (machRun (fsOf (chMod 9)) 100000 199992 ⟨⟨0, 11, [c], [9]⟩, [], 11⟩) 9 = true := by kernel_rfl

theorem ch_out0 (c : Int) (hc : ¬ (0 ≤ c ∧ c < 0)) : ∃ s, runP (fsOf (chMod 0)) 0 [c] 100000 = some ⟨0, s, [0]⟩ := by
  obtain ⟨f, st, hf, hs, h9, hl⟩ := ch_parts (n := 0) (by decide)
  have hch : choiceC st.targets c = choiceC st.targets 0 := ch_choice (n := 0) hl (c := c) (by omega)
  have e : machRun (fsOf (chMod 0)) 100000 200001 ⟨⟨0, 2, [c], [c]⟩, [], 2⟩ = machRun (fsOf (chMod 0)) 100000 200001 ⟨⟨0, 2, [c], [0]⟩, [], 2⟩ := machRun_by (k := 200000) hf hs h9 hch
  rw [ch_reach0 c, e]
  exact gvB_ok (ch_end0 c)

theorem ch_out1 (c : Int) (hc : ¬ (0 ≤ c ∧ c < 1)) : ∃ s, runP (fsOf (chMod 1)) 0 [c] 100000 = some ⟨0, s, [1]⟩ := by
  obtain ⟨f, st, hf, hs, h9, hl⟩ := ch_parts (n := 1) (by decide)
  have hch : choiceC st.targets c = choiceC st.targets 1 := ch_choice (n := 1) hl (c := c) (by omega)
  have e : machRun (fsOf (chMod 1)) 100000 200000 ⟨⟨0, 3, [c], [c]⟩, [], 3⟩ = machRun (fsOf (chMod 1)) 100000 200000 ⟨⟨0, 3, [c], [1]⟩, [], 3⟩ := machRun_by (k := 199999) hf hs h9 hch
  rw [ch_reach1 c, e]
  exact gvB_ok (ch_end1 c)

theorem ch_out2 (c : Int) (hc : ¬ (0 ≤ c ∧ c < 2)) : ∃ s, runP (fsOf (chMod 2)) 0 [c] 100000 = some ⟨0, s, [2]⟩ := by
  obtain ⟨f, st, hf, hs, h9, hl⟩ := ch_parts (n := 2) (by decide)
  have hch : choiceC st.targets c = choiceC st.targets 2 := ch_choice (n := 2) hl (c := c) (by omega)
  have e : machRun (fsOf (chMod 2)) 100000 199999 ⟨⟨0, 4, [c], [c]⟩, [], 4⟩ = machRun (fsOf (chMod 2)) 100000 199999 ⟨⟨0, 4, [c], [2]⟩, [], 4⟩ := machRun_by (k := 199998) hf hs h9 hch
  rw [ch_reach2 c, e]
  exact gvB_ok (ch_end2 c)

theorem ch_out3 (c : Int) (hc : ¬ (0 ≤ c ∧ c < 3)) : ∃ s, runP (fsOf (chMod 3)) 0 [c] 100000 = some ⟨0, s, [3]⟩ := by
  obtain ⟨f, st, hf, hs, h9, hl⟩ := ch_parts (n := 3) (by decide)
  have hch : choiceC st.targets c = choiceC st.targets 3 := ch_choice (n := 3) hl (c := c) (by omega)
  have e : machRun (fsOf (chMod 3)) 100000 199998 ⟨⟨0, 5, [c], [c]⟩, [], 5⟩ = machRun (fsOf (chMod 3)) 100000 199998 ⟨⟨0, 5, [c], [3]⟩, [], 5⟩ := machRun_by (k := 199997) hf hs h9 hch
  rw [ch_reach3 c, e]
  exact gvB_ok (ch_end3 c)

theorem ch_out4 (c : Int) (hc : ¬ (0 ≤ c ∧ c < 4)) : ∃ s, runP (fsOf (chMod 4)) 0 [c] 100000 = some ⟨0, s, [4]⟩ := by
  obtain ⟨f, st, hf, hs, h9, hl⟩ := ch_parts (n := 4) (by decide)
  have hch : choiceC st.targets c = choiceC st.targets 4 := ch_choice (n := 4) hl (c := c) (by omega)
  have e : machRun (fsOf (chMod 4)) 100000 199997 ⟨⟨0, 6, [c], [c]⟩, [], 6⟩ = machRun (fsOf (chMod 4)) 100000 199997 ⟨⟨0, 6, [c], [4]⟩, [], 6⟩ := machRun_by (k := 199996) hf hs h9 hch
  rw [ch_reach4 c, e]
  exact gvB_ok (ch_end4 c)

theorem ch_out5 (c : Int) (hc : ¬ (0 ≤ c ∧ c < 5)) : ∃ s, runP (fsOf (chMod 5)) 0 [c] 100000 = some ⟨0, s, [5]⟩ := by
  obtain ⟨f, st, hf, hs, h9, hl⟩ := ch_parts (n := 5) (by decide)
  have hch : choiceC st.targets c = choiceC st.targets 5 := ch_choice (n := 5) hl (c := c) (by omega)
  have e : machRun (fsOf (chMod 5)) 100000 199996 ⟨⟨0, 7, [c], [c]⟩, [], 7⟩ = machRun (fsOf (chMod 5)) 100000 199996 ⟨⟨0, 7, [c], [5]⟩, [], 7⟩ := machRun_by (k := 199995) hf hs h9 hch
  rw [ch_reach5 c, e]
  exact gvB_ok (ch_end5 c)

theorem ch_out6 (c : Int) (hc : ¬ (0 ≤ c ∧ c < 6)) : ∃ s, runP (fsOf (chMod 6)) 0 [c] 100000 = some ⟨0, s, [6]⟩ := by
  obtain ⟨f, st, hf, hs, h9, hl⟩ := ch_parts (n := 6) (by decide)
  have hch : choiceC st.targets c = choiceC st.targets 6 := ch_choice (n := 6) hl (c := c) (by omega)
  have e : machRun (fsOf (chMod 6)) 100000 199995 ⟨⟨0, 8, [c], [c]⟩, [], 8⟩ = machRun (fsOf (chMod 6)) 100000 199995 ⟨⟨0, 8, [c], [6]⟩, [], 8⟩ := machRun_by (k := 199994) hf hs h9 hch
  rw [ch_reach6 c, e]
  exact gvB_ok (ch_end6 c)

theorem ch_out7 (c : Int) (hc : ¬ (0 ≤ c ∧ c < 7)) : ∃ s, runP (fsOf (chMod 7)) 0 [c] 100000 = some ⟨0, s, [7]⟩ := by
  obtain ⟨f, st, hf, hs, h9, hl⟩ := ch_parts (n := 7) (by decide)
  have hch : choiceC st.targets c = choiceC st.targets 7 := ch_choice (n := 7) hl (c := c) (by omega)
  have e : machRun (fsOf (chMod 7)) 100000 199994 ⟨⟨0, 9, [c], [c]⟩, [], 9⟩ = machRun (fsOf (chMod 7)) 100000 199994 ⟨⟨0, 9, [c], [7]⟩, [], 9⟩ := machRun_by (k := 199993) hf hs h9 hch
  rw [ch_reach7 c, e]
  exact gvB_ok (ch_end7 c)

theorem ch_out8 (c : Int) (hc : ¬ (0 ≤ c ∧ c < 8)) : ∃ s, runP (fsOf (chMod 8)) 0 [c] 100000 = some ⟨0, s, [8]⟩ := by
  obtain ⟨f, st, hf, hs, h9, hl⟩ := ch_parts (n := 8) (by decide)
  have hch : choiceC st.targets c = choiceC st.targets 8 := ch_choice (n := 8) hl (c := c) (by omega)
  have e : machRun (fsOf (chMod 8)) 100000 199993 ⟨⟨0, 10, [c], [c]⟩, [], 10⟩ = machRun (fsOf (chMod 8)) 100000 199993 ⟨⟨0, 10, [c], [8]⟩, [], 10⟩ := machRun_by (k := 199992) hf hs h9 hch
  rw [ch_reach8 c, e]
  exact gvB_ok (ch_end8 c)

theorem ch_out9 (c : Int) (hc : ¬ (0 ≤ c ∧ c < 9)) : ∃ s, runP (fsOf (chMod 9)) 0 [c] 100000 = some ⟨0, s, [9]⟩ := by
  obtain ⟨f, st, hf, hs, h9, hl⟩ := ch_parts (n := 9) (by decide)
  have hch : choiceC st.targets c = choiceC st.targets 9 := ch_choice (n := 9) hl (c := c) (by omega)
  have e : machRun (fsOf (chMod 9)) 100000 199992 ⟨⟨0, 11, [c], [c]⟩, [], 11⟩ = machRun (fsOf (chMod 9)) 100000 199992 ⟨⟨0, 11, [c], [9]⟩, [], 11⟩ := machRun_by (k := 199991) hf hs h9 hch
  rw [ch_reach9 c, e]
  exact gvB_ok (ch_end9 c)

theorem ch_run {n : Nat} (hn : n < 10) (c : Int) : ∃ s, runP (fsOf (chMod n)) 0 [c] 100000 = some ⟨0, s, [if 0 ≤ c ∧ c < (n : Int) then c else (n : Int)]⟩ := by
  by_cases hc : 0 ≤ c ∧ c < (n : Int)
  · rw [if_pos hc]
    obtain ⟨j, rfl⟩ : ∃ j : Nat, c = (j : Int) := ⟨c.toNat, by omega⟩
    have h := List.all_eq_true.1 (List.all_eq_true.1 ch_in n (by simp; omega)) j (by simp; omega)
    exact gvB_ok h
  · rw [if_neg hc]
    rcases (show n = 0 ∨ n = 1 ∨ n = 2 ∨ n = 3 ∨ n = 4 ∨ n = 5 ∨ n = 6 ∨ n = 7 ∨ n = 8 ∨ n = 9 by omega) with rfl | rfl | rfl | rfl | rfl | rfl | rfl | rfl | rfl | rfl
    · exact ch_out0 c hc
    · exact ch_out1 c hc
    · exact ch_out2 c hc
    · exact ch_out3 c hc
    · exact ch_out4 c hc
    · exact ch_out5 c hc
    · exact ch_out6 c hc
    · exact ch_out7 c hc
    · exact ch_out8 c hc
    · exact ch_out9 c hc
end Go.Proofs.YtjbdgbdcnjopkaaGreatDoor
